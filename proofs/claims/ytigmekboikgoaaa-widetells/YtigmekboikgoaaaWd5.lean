/- Stage 9: the words of branches, walked. -/
import Derived.Test.YtigmekboikgoaaaWd4
namespace Go.Proofs.Ytigmekboikgoaaa
open Go.ChangeShapes Go.WideShapes Go.ChangeAt Go.RowKit
set_option linter.unusedVariables false
set_option linter.unusedSimpArgs false

theorem or_disj (x y : Nat) (hx : x < 4294967296) (hy : y < 4294967296) (h : x &&& y = 0) : x ||| y = x + y := by
  have hb : (BitVec.ofNat 64 x) &&& (BitVec.ofNat 64 y) = 0#64 := by
    apply BitVec.eq_of_toNat_eq
    rw [BitVec.toNat_and, BitVec.toNat_ofNat, BitVec.toNat_ofNat, Nat.mod_eq_of_lt (by omega), Nat.mod_eq_of_lt (by omega), h]
    rfl
  have e := congrArg BitVec.toNat (BitVec.add_eq_or_of_and_eq_zero _ _ hb)
  rw [BitVec.toNat_add, BitVec.toNat_or, BitVec.toNat_ofNat, BitVec.toNat_ofNat, Nat.mod_eq_of_lt (a := x) (by omega), Nat.mod_eq_of_lt (a := y) (by omega), Nat.mod_eq_of_lt (by omega)] at e
  exact e.symm
theorem u32_disj (x y : Nat) (hx : x < 4294967296) (hy : y < 4294967296) (h : x &&& y = 0) : bits .or .u32 (x : Int) (y : Int) = ((x + y : Nat) : Int) := by
  rw [u32_or_nat x y hx hy, or_disj x y hx hy h]
theorem row_f (F : Nat) (h : fd F 31 1 = 0 ∧ fd F 30 1 = 0 ∧ fd F 29 1 = 0 ∧ fd F 28 1 = 0 ∧ fd F 15 1 = 0 ∧ fd F 14 1 = 0 ∧ fd F 12 1 = 0) : 4026585088 &&& F = 0 ∧ 4026568704 &&& F = 0 ∧ 4026564608 &&& F = 0 := by
  obtain ⟨h31, h30, h29, h28, h15, h14, h12⟩ := h
  have e31 : F &&& 2147483648 = 0 := by rw [show (2147483648 : Nat) = 2 ^ 31 by decide, and_pow, h31, Nat.zero_mul]
  have e30 : F &&& 1073741824 = 0 := by rw [show (1073741824 : Nat) = 2 ^ 30 by decide, and_pow, h30, Nat.zero_mul]
  have e29 : F &&& 536870912 = 0 := by rw [show (536870912 : Nat) = 2 ^ 29 by decide, and_pow, h29, Nat.zero_mul]
  have e28 : F &&& 268435456 = 0 := by rw [show (268435456 : Nat) = 2 ^ 28 by decide, and_pow, h28, Nat.zero_mul]
  have e15 : F &&& 32768 = 0 := by rw [show (32768 : Nat) = 2 ^ 15 by decide, and_pow, h15, Nat.zero_mul]
  have e14 : F &&& 16384 = 0 := by rw [show (16384 : Nat) = 2 ^ 14 by decide, and_pow, h14, Nat.zero_mul]
  have e12 : F &&& 4096 = 0 := by rw [show (4096 : Nat) = 2 ^ 12 by decide, and_pow, h12, Nat.zero_mul]
  refine ⟨?_, ?_, ?_⟩
  · rw [Nat.and_comm, show (4026585088 : Nat) = 2147483648 ||| (1073741824 ||| (536870912 ||| (268435456 ||| (32768 ||| (16384 ||| 4096))))) by decide]
    simp only [Nat.and_or_distrib_left, e31, e30, e29, e28, e15, e14, e12, Nat.or_zero]
  · rw [Nat.and_comm, show (4026568704 : Nat) = 2147483648 ||| (1073741824 ||| (536870912 ||| (268435456 ||| (32768 ||| 4096)))) by decide]
    simp only [Nat.and_or_distrib_left, e31, e30, e29, e28, e15, e12, Nat.or_zero]
  · rw [Nat.and_comm, show (4026564608 : Nat) = 2147483648 ||| (1073741824 ||| (536870912 ||| (268435456 ||| 32768))) by decide]
    simp only [Nat.and_or_distrib_left, e31, e30, e29, e28, e15, Nat.or_zero]
/-- What lies in a far branch's word for the number v. -/
def farB (v : Nat) : Nat := fd v 24 1 * 67108864 + fd v 12 10 * 65536 + (lk (fd v 23 1) (fd v 24 1) * 8192 + lk (fd v 22 1) (fd v 24 1) * 2048) + fd v 1 11
theorem i64_bit1 (v k : Nat) (hv : v < 4294967296) : bits .and .i64 ((v / 2 ^ k : Nat) : Int) 1 = ((fd v k 1 : Nat) : Int) := by
  have : v / 2 ^ k ≤ v := Nat.div_le_self _ _
  rw [show (1 : Int) = ((1 : Nat) : Int) from rfl, (bits_nat .i64 33 (by decide) (fun n h1 h2 => by rw [IntKind.wrap_i64]; omega) _ 1 (by omega) (by decide)).1]
  exact congrArg _ (fd_land v k 1)
set_option maxHeartbeats 4000000 in
set_option maxRecDepth 100000 in
theorem farBits_c (v : Nat) (hv : v < 4294967296) (w : World) : Calls Try.prog 77 #[.int .i64 v] w fun e w' => e = .returned (.int .u32 (farB v : Nat)) ∧ w' = w := by
  have HF : Hid (farB v = fd v 24 1 * 67108864 + fd v 12 10 * 65536 + (lk (fd v 23 1) (fd v 24 1) * 8192 + lk (fd v 22 1) (fd v 24 1) * 2048) + fd v 1 11) := rfl
  generalize farB v = FX at *
  have b24 : bits .and .i64 ((v : Int) / 16777216) 1 = ((fd v 24 1 : Nat) : Int) := i64_bit1 v 24 hv
  have b23 : bits .and .i64 ((v : Int) / 8388608) 1 = ((fd v 23 1 : Nat) : Int) := i64_bit1 v 23 hv
  have b22 : bits .and .i64 ((v : Int) / 4194304) 1 = ((fd v 22 1 : Nat) : Int) := i64_bit1 v 22 hv
  have f24 : fd v 24 1 < 2 := fd_lt v 24 1
  have f23 : fd v 23 1 < 2 := fd_lt v 23 1
  have f22 : fd v 22 1 < 2 := fd_lt v 22 1
  have f12 : fd v 12 10 < 1024 := fd_lt v 12 10
  have f1 : fd v 1 11 < 2048 := fd_lt v 1 11
  have P12 : Hid (∀ w, Calls Try.prog 74 #[.int .i64 ((v : Int) / 4096), .int .i64 16, .int .i64 10] w fun e w' => e = .returned (.int .u32 ((fd v 12 10 * 65536 : Nat) : Int)) ∧ w' = w) := fun w => put_16_10 (v / 4096) (by omega) w
  have P1 : Hid (∀ w, Calls Try.prog 74 #[.int .i64 ((v : Int) / 2), .int .i64 0, .int .i64 11] w fun e w' => e = .returned (.int .u32 ((fd v 1 11 : Nat) : Int)) ∧ w' = w) := fun w => by
    have := put_0_11 (v / 2) (by omega) w
    rw [Nat.mul_one] at this
    exact this
  generalize fd v 24 1 = s at *
  generalize fd v 23 1 = u at *
  generalize fd v 22 1 = t at *
  generalize fd v 12 10 = g at *
  generalize fd v 1 11 = k at *
  have L1 : Hid (∀ w, Calls Try.prog 80 #[.int .i64 u, .int .i64 s] w fun e w' => e = .returned (.int .i64 (lk u s : Nat)) ∧ w' = w) := like_c _ _ f23 f24
  have L2 : Hid (∀ w, Calls Try.prog 80 #[.int .i64 t, .int .i64 s] w fun e w' => e = .returned (.int .i64 (lk t s : Nat)) ∧ w' = w) := like_c _ _ f22 f24
  have l1 : lk u s < 2 := Nat.mod_lt _ (by decide)
  have l2 : lk t s < 2 := Nat.mod_lt _ (by decide)
  generalize lk u s = a1 at *
  generalize lk t s = a2 at *
  have Ps : Hid (∀ w, Calls Try.prog 74 #[.int .i64 s, .int .i64 26, .int .i64 1] w fun e w' => e = .returned (.int .u32 ((s * 67108864 : Nat) : Int)) ∧ w' = w) := fun w => by
    have := put_26_1 (s) (by omega) w
    rw [show (s) % 2 * 67108864 = s * 67108864 by omega] at this
    exact this
  have Pa : Hid (∀ w, Calls Try.prog 74 #[.int .i64 a1, .int .i64 13, .int .i64 1] w fun e w' => e = .returned (.int .u32 ((a1 * 8192 : Nat) : Int)) ∧ w' = w) := fun w => by
    have := put_13_1 (a1) (by omega) w
    rw [show (a1) % 2 * 8192 = a1 * 8192 by omega] at this
    exact this
  have Pb : Hid (∀ w, Calls Try.prog 74 #[.int .i64 a2, .int .i64 11, .int .i64 1] w fun e w' => e = .returned (.int .u32 ((a2 * 2048 : Nat) : Int)) ∧ w' = w) := fun w => by
    have := put_11_1 (a2) (by omega) w
    rw [show (a2) % 2 * 2048 = a2 * 2048 by omega] at this
    exact this
  have j1 : bits .or .u32 ((s : Int) * 67108864) ((a1 : Int) * 8192) = ((s * 67108864 + a1 * 8192 : Nat) : Int) := u32_join (s * 67108864) (a1 * 8192) 14 (by omega) (by omega) (by omega) (by omega)
  obtain ⟨q1, e1⟩ : ∃ q1, s * 67108864 + a1 * 8192 = q1 := ⟨_, rfl⟩
  have j2 : bits .or .u32 (q1 : Int) ((a2 : Int) * 2048) = ((q1 + a2 * 2048 : Nat) : Int) := u32_join q1 (a2 * 2048) 12 (by omega) (by omega) (by omega) (by omega)
  obtain ⟨q2, e2⟩ : ∃ q2, q1 + a2 * 2048 = q2 := ⟨_, rfl⟩
  have hq2 : q2 = s * 67108864 + (a1 * 8192 + a2 * 2048) := by omega
  have j3 : bits .or .u32 (q2 : Int) ((g : Int) * 65536) = ((s * 67108864 + g * 65536 + (a1 * 8192 + a2 * 2048) : Nat) : Int) := by
    rw [hq2]
    exact u32_between (s * 67108864) (g * 65536) (a1 * 8192 + a2 * 2048) 16 26 (by omega) (by omega) (by omega) (by omega) (by decide) (by omega)
  obtain ⟨q3, e3⟩ : ∃ q3, s * 67108864 + g * 65536 + (a1 * 8192 + a2 * 2048) = q3 := ⟨_, rfl⟩
  have j4 : bits .or .u32 (q3 : Int) (k : Int) = ((q3 + k : Nat) : Int) := u32_join q3 k 11 (by omega) (by omega) (by omega) (by omega)
  have hq : FX = q3 + k := by rw [HF.out, ← e3]
  rw [e1] at j1
  rw [e2] at j2
  rw [e3] at j3
  rw [← hq] at j4
  clear HF e1 e2 e3 hq2 hq
  go_enter Try.func77, Try.ntmps77
  go_wp2_with (first
    | (go_at_call 80; (first | with_reducible refine (L1.out _).mono ?_ | with_reducible refine (L2.out _).mono ?_); rintro e wf ⟨rfl, rfl⟩)
    | (go_at_call 74; (first | with_reducible refine (Ps.out _).mono ?_ | with_reducible refine (Pa.out _).mono ?_ | with_reducible refine (Pb.out _).mono ?_ | with_reducible refine (P12.out _).mono ?_ | with_reducible refine (P1.out _).mono ?_); rintro e wf ⟨rfl, rfl⟩))
  go_ret
  exact ⟨rfl, rfl⟩
end Go.Proofs.Ytigmekboikgoaaa
