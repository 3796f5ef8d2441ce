/- Stage 9: words of numbers, of registers. -/
import Derived.Test.YtigmekboikgoaaaWe3
namespace Go.Proofs.Ytigmekboikgoaaa
open Go.ChangeShapes Go.WideShapes Go.ChangeAt Go.RowKit
set_option linter.unusedVariables false
set_option linter.unusedSimpArgs false

def numB (v : Nat) : Nat := v / 2048 % 2 * 67108864 + v / 256 % 8 * 4096 + v % 256
def fourB (d n m a : Nat) : Nat := n % 16 * 65536 + a % 16 * 4096 + d % 16 * 256 + m % 16
set_option maxHeartbeats 20000000 in
set_option maxRecDepth 100000 in
theorem flag_c (s : Bool) (b : Int) (w : World) : Calls Try.prog 68 #[.bool s, .int .u32 b] w fun e w' => e = .returned (.int .u32 (bif s then b else 0)) ∧ w' = w := by
  cases s
  · go_enter Try.func68, Try.ntmps68
    go_wp2
    go_ret
    exact ⟨rfl, rfl⟩
  · go_enter Try.func68, Try.ntmps68
    go_wp2
    go_ret
    exact ⟨rfl, rfl⟩
set_option maxHeartbeats 20000000 in
set_option maxRecDepth 100000 in
theorem numberBits_g (v q1 q2 q3 q N : Nat) (hv : v < 9223372036854775808) (P1 : ∀ w, Calls Try.prog 74 #[.int .i64 ((v : Int) / 2048), .int .i64 26, .int .i64 1] w fun e w' => e = .returned (.int .u32 ((q1 : Nat) : Int)) ∧ w' = w) (P2 : ∀ w, Calls Try.prog 74 #[.int .i64 ((v : Int) / 256), .int .i64 12, .int .i64 3] w fun e w' => e = .returned (.int .u32 ((q2 : Nat) : Int)) ∧ w' = w) (P3 : ∀ w, Calls Try.prog 74 #[.int .i64 v, .int .i64 0, .int .i64 8] w fun e w' => e = .returned (.int .u32 ((q3 : Nat) : Int)) ∧ w' = w) (j1 : bits .or .u32 (q1 : Int) (q2 : Int) = (q : Int)) (j2 : bits .or .u32 (q : Int) (q3 : Int) = (N : Int)) (w : World) : Calls Try.prog 72 #[.int .i64 v] w fun e w' => e = .returned (.int .u32 (N : Nat)) ∧ w' = w := by
  have R1 : Hid _ := P1
  have R2 : Hid _ := P2
  have R3 : Hid _ := P3
  clear P1 P2 P3
  go_enter Try.func72, Try.ntmps72
  go_wp2_with (first
    | (go_at_call 74; first | (with_reducible refine (R1.out _).mono ?_; rintro e wf ⟨rfl, rfl⟩) | (with_reducible refine (R2.out _).mono ?_; rintro e wf ⟨rfl, rfl⟩) | (with_reducible refine (R3.out _).mono ?_; rintro e wf ⟨rfl, rfl⟩)))
  go_ret
  exact ⟨rfl, rfl⟩
theorem numberBits_c (v : Nat) (hv : v < 9223372036854775808) (w : World) : Calls Try.prog 72 #[.int .i64 v] w fun e w' => e = .returned (.int .u32 (numB v : Nat)) ∧ w' = w := by
  have a1 : v / 2048 % 2 < 2 := Nat.mod_lt _ (by decide)
  have a2 : v / 256 % 8 < 8 := Nat.mod_lt _ (by decide)
  have a3 : v % 256 < 256 := Nat.mod_lt _ (by decide)
  exact numberBits_g v (v / 2048 % 2 * 67108864) (v / 256 % 8 * 4096) (v % 256) (v / 2048 % 2 * 67108864 + v / 256 % 8 * 4096) (numB v) hv (fun w => put_26_1 (v / 2048) (by omega) w) (fun w => put_12_3 (v / 256) (by omega) w) (fun w => by
    have := put_0_8 v hv w
    rw [Nat.mul_one] at this
    exact this) (u32_join _ _ 15 (by omega) (by omega) (by omega) (by omega)) (u32_join _ _ 12 (by omega) (by omega) (by omega) (by omega)) w
set_option maxHeartbeats 20000000 in
set_option maxRecDepth 100000 in
theorem four_g (d n m a q1 q2 q3 q4 r1 r2 N : Nat) (P1 : ∀ w, Calls Try.prog 74 #[.int .i64 d, .int .i64 8, .int .i64 4] w fun e w' => e = .returned (.int .u32 ((q1 : Nat) : Int)) ∧ w' = w) (P2 : ∀ w, Calls Try.prog 74 #[.int .i64 n, .int .i64 16, .int .i64 4] w fun e w' => e = .returned (.int .u32 ((q2 : Nat) : Int)) ∧ w' = w) (P3 : ∀ w, Calls Try.prog 74 #[.int .i64 m, .int .i64 0, .int .i64 4] w fun e w' => e = .returned (.int .u32 ((q3 : Nat) : Int)) ∧ w' = w) (P4 : ∀ w, Calls Try.prog 74 #[.int .i64 a, .int .i64 12, .int .i64 4] w fun e w' => e = .returned (.int .u32 ((q4 : Nat) : Int)) ∧ w' = w) (j1 : bits .or .u32 (q1 : Int) (q2 : Int) = (r1 : Int)) (j2 : bits .or .u32 (r1 : Int) (q3 : Int) = (r2 : Int)) (j3 : bits .or .u32 (r2 : Int) (q4 : Int) = (N : Int)) (w : World) : Calls Try.prog 67 #[.int .i64 d, .int .i64 n, .int .i64 m, .int .i64 a] w fun e w' => e = .returned (.int .u32 (N : Nat)) ∧ w' = w := by
  have R1 : Hid _ := P1
  have R2 : Hid _ := P2
  have R3 : Hid _ := P3
  have R4 : Hid _ := P4
  clear P1 P2 P3 P4
  go_enter Try.func67, Try.ntmps67
  go_wp2_with (first
    | (go_at_call 74; first | (with_reducible refine (R1.out _).mono ?_; rintro e wf ⟨rfl, rfl⟩) | (with_reducible refine (R2.out _).mono ?_; rintro e wf ⟨rfl, rfl⟩) | (with_reducible refine (R3.out _).mono ?_; rintro e wf ⟨rfl, rfl⟩) | (with_reducible refine (R4.out _).mono ?_; rintro e wf ⟨rfl, rfl⟩)))
  go_ret
  exact ⟨rfl, rfl⟩
theorem or_lo_hi (x y i : Nat) (hx : x < 2 ^ i) (hy : y % 2 ^ i = 0) (hx1 : x < 4294967296) (hy1 : y < 4294967296) : bits .or .u32 (x : Int) (y : Int) = ((y + x : Nat) : Int) := by
  rw [u32_or_nat _ _ hx1 hy1, Nat.or_comm, ← u32_or_nat _ _ hy1 hx1]
  exact u32_join y x i hy hy1 hx hx1
theorem four_c (d n m a : Nat) (hd : d < 9223372036854775808) (hn : n < 9223372036854775808) (hm : m < 9223372036854775808) (ha : a < 9223372036854775808) (w : World) : Calls Try.prog 67 #[.int .i64 d, .int .i64 n, .int .i64 m, .int .i64 a] w fun e w' => e = .returned (.int .u32 (fourB d n m a : Nat)) ∧ w' = w := by
  have a1 : d % 16 < 16 := Nat.mod_lt _ (by decide)
  have a2 : n % 16 < 16 := Nat.mod_lt _ (by decide)
  have a3 : m % 16 < 16 := Nat.mod_lt _ (by decide)
  have a4 : a % 16 < 16 := Nat.mod_lt _ (by decide)
  refine four_g d n m a (d % 16 * 256) (n % 16 * 65536) (m % 16) (a % 16 * 4096) (n % 16 * 65536 + d % 16 * 256) (n % 16 * 65536 + d % 16 * 256 + m % 16) (fourB d n m a) (put_8_4 d hd) (put_16_4 n hn) (fun w => by
    have := put_0_4 m hm w
    rw [Nat.mul_one] at this
    exact this) (put_12_4 a ha) (or_lo_hi _ _ 16 (by omega) (by omega) (by omega) (by omega)) (u32_join _ _ 8 (by omega) (by omega) (by omega) (by omega)) ?_ w
  have := u32_between (n % 16 * 65536) (a % 16 * 4096) (d % 16 * 256 + m % 16) 12 16 (by omega) (by omega) (by omega) (by omega) (by omega) (by omega)
  rw [← Nat.add_assoc, ← Nat.add_assoc] at this
  exact this
end Go.Proofs.Ytigmekboikgoaaa
