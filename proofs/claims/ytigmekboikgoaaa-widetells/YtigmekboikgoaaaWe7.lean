/- Stage 9: ones of a row. -/
import Derived.Test.YtigmekboikgoaaaWe3
namespace Go.Proofs.Ytigmekboikgoaaa
open Go.ChangeShapes Go.WideShapes Go.ChangeAt Go.RowKit
set_option linter.unusedVariables false
set_option linter.unusedSimpArgs false

theorem u64_and (a b : Nat) (ha : a < 18446744073709551616) (hb : b < 18446744073709551616) : bits .and .u64 (a : Int) (b : Int) = ((a &&& b : Nat) : Int) :=
  (bits_nat .u64 64 (by decide) (fun n h1 h2 => by rw [IntKind.wrap_u64]; omega) a b (by omega) (by omega)).1
def oN1 (x : Nat) : Nat := (x / 2 &&& 6148914691236517205) + (x &&& 6148914691236517205)
def oN2 (x : Nat) : Nat := (x / 4 &&& 3689348814741910323) + (x &&& 3689348814741910323)
def oN3 (x : Nat) : Nat := (x / 16 + x) &&& 1085102592571150095
def oN4 (x : Nat) : Nat := x + x / 256
def oN5 (x : Nat) : Nat := x + x / 65536
def oN6 (x : Nat) : Nat := x + x / 4294967296
def onesN (x : Nat) : Nat := oN6 (oN5 (oN4 (oN3 (oN2 (oN1 x))))) &&& 127
set_option maxHeartbeats 20000000 in
set_option maxRecDepth 100000 in
theorem ones64_g (x a1 a2 b1 b2 c d e f g r : Nat) (hx : x < 65536) (k1 : bits .and .u64 ((x : Int) / 2) 6148914691236517205 = (a1 : Int)) (k2 : bits .and .u64 (x : Int) 6148914691236517205 = (a2 : Int)) (h1 : a1 + a2 < 131072)
    (k3 : bits .and .u64 (((a1 : Int) + a2) / 4) 3689348814741910323 = (b1 : Int)) (k4 : bits .and .u64 ((a1 : Int) + a2) 3689348814741910323 = (b2 : Int)) (h2 : b1 + b2 < 262144)
    (k5 : bits .and .u64 (((b1 : Int) + b2) / 16 + ((b1 : Int) + b2)) 1085102592571150095 = (c : Int)) (h3 : c < 1048576) (k6 : bits .and .i64 ((c : Int) + (c : Int) / 256 + ((c : Int) + (c : Int) / 256) / 65536 + ((c : Int) + (c : Int) / 256 + ((c : Int) + (c : Int) / 256) / 65536) / 4294967296) 127 = (r : Int)) (w : World) : Calls Try.prog 96 #[.int .u64 x] w fun e w' => e = .returned (.int .i64 r) ∧ w' = w := by
  go_enter Try.func96, Try.ntmps96
  go_wp2
  go_ret
  exact ⟨rfl, rfl⟩
theorem ones64_c (x : Nat) (hx : x < 65536) (w : World) : Calls Try.prog 96 #[.int .u64 x] w fun e w' => e = .returned (.int .i64 (onesN x : Nat)) ∧ w' = w := by
  have e1 : x / 2 &&& 6148914691236517205 ≤ x / 2 := Nat.and_le_left
  have e2 : x &&& 6148914691236517205 ≤ x := Nat.and_le_left
  have hy : oN1 x = (x / 2 &&& 6148914691236517205) + (x &&& 6148914691236517205) := rfl
  have e3 : oN1 x / 4 &&& 3689348814741910323 ≤ oN1 x / 4 := Nat.and_le_left
  have e4 : oN1 x &&& 3689348814741910323 ≤ oN1 x := Nat.and_le_left
  have hz : oN2 (oN1 x) = (oN1 x / 4 &&& 3689348814741910323) + (oN1 x &&& 3689348814741910323) := rfl
  have e5 : oN3 (oN2 (oN1 x)) ≤ oN2 (oN1 x) / 16 + oN2 (oN1 x) := Nat.and_le_left
  have q1 : bits .and .u64 (((x / 2 : Nat) : Int)) 6148914691236517205 = ((x / 2 &&& 6148914691236517205 : Nat) : Int) := u64_and (x / 2) 6148914691236517205 (by omega) (by decide)
  have q2 : bits .and .u64 (x : Int) 6148914691236517205 = ((x &&& 6148914691236517205 : Nat) : Int) := u64_and x 6148914691236517205 (by omega) (by decide)
  have q3 : bits .and .u64 (((oN1 x / 4 : Nat) : Int)) 3689348814741910323 = ((oN1 x / 4 &&& 3689348814741910323 : Nat) : Int) := u64_and (oN1 x / 4) 3689348814741910323 (by omega) (by decide)
  have q4 : bits .and .u64 ((oN1 x : Nat) : Int) 3689348814741910323 = ((oN1 x &&& 3689348814741910323 : Nat) : Int) := u64_and (oN1 x) 3689348814741910323 (by omega) (by decide)
  have q5 : bits .and .u64 (((oN2 (oN1 x) / 16 + oN2 (oN1 x) : Nat) : Int)) 1085102592571150095 = ((oN3 (oN2 (oN1 x)) : Nat) : Int) := u64_and (oN2 (oN1 x) / 16 + oN2 (oN1 x)) 1085102592571150095 (by omega) (by decide)
  have q6 : ∀ y : Nat, y < 4294967296 → bits .and .i64 (y : Int) 127 = ((y &&& 127 : Nat) : Int) := fun y hy => (bits_nat .i64 33 (by decide) (fun n h1 h2 => by rw [IntKind.wrap_i64]; omega) y 127 (by omega) (by decide)).1
  have hc : oN6 (oN5 (oN4 (oN3 (oN2 (oN1 x))))) = oN3 (oN2 (oN1 x)) + oN3 (oN2 (oN1 x)) / 256 + (oN3 (oN2 (oN1 x)) + oN3 (oN2 (oN1 x)) / 256) / 65536 + (oN3 (oN2 (oN1 x)) + oN3 (oN2 (oN1 x)) / 256 + (oN3 (oN2 (oN1 x)) + oN3 (oN2 (oN1 x)) / 256) / 65536) / 4294967296 := rfl
  have q7 := q6 (oN6 (oN5 (oN4 (oN3 (oN2 (oN1 x)))))) (by rw [hc]; omega)
  have hr : onesN x = oN6 (oN5 (oN4 (oN3 (oN2 (oN1 x))))) &&& 127 := rfl
  rw [← hr, hc] at q7
  generalize onesN x = r at *
  generalize oN3 (oN2 (oN1 x)) = c at *
  generalize (oN1 x / 4 &&& 3689348814741910323) = b1 at *
  generalize (oN1 x &&& 3689348814741910323) = b2 at *
  rw [hz] at q5 e5
  rw [hy] at q3 q4 e3 e4
  generalize (x / 2 &&& 6148914691236517205) = a1 at *
  generalize (x &&& 6148914691236517205) = a2 at *
  have t1 : a1 + a2 < 131072 := by omega
  have t2 : b1 + b2 < 262144 := by omega
  have t3 : c < 1048576 := by omega
  rw [Int.natCast_ediv] at q1
  rw [Int.natCast_ediv, Int.natCast_add] at q3
  rw [Int.natCast_add] at q4
  rw [Int.natCast_add, Int.natCast_ediv, Int.natCast_add] at q5
  have q8 : ((c + c / 256 + (c + c / 256) / 65536 + (c + c / 256 + (c + c / 256) / 65536) / 4294967296 : Nat) : Int) = (c : Int) + (c : Int) / 256 + ((c : Int) + (c : Int) / 256) / 65536 + ((c : Int) + (c : Int) / 256 + ((c : Int) + (c : Int) / 256) / 65536) / 4294967296 := by omega
  rw [q8] at q7
  clear q8 e1 e2 e3 e4 e5 hz hy hc hr
  exact ones64_g x a1 a2 b1 b2 c 0 0 0 0 r hx q1 q2 t1 q3 q4 t2 q5 t3 q7 w
set_option maxHeartbeats 20000000 in
set_option maxRecDepth 100000 in
theorem ones_c (x : Nat) (hx : x < 65536) (w : World) : Calls Try.prog 84 #[.int .u64 x] w fun e w' => e = .returned (.int .i64 (onesN x : Nat)) ∧ w' = w := by
  have C : Hid (∀ w, Calls Try.prog 96 #[.int .u64 x] w fun e w' => e = .returned (.int .i64 (onesN x : Nat)) ∧ w' = w) := ones64_c x hx
  generalize onesN x = r at *
  go_enter Try.func84, Try.ntmps84
  go_wp2_with (go_at_call 96; refine (C.out _).mono ?_; rintro e wf ⟨rfl, rfl⟩)
  go_ret
  exact ⟨rfl, rfl⟩
theorem ones_0 : (List.range 4096).all (fun b => Nat.beq (onesN (0 + b)) (popN (0 + b) 16)) = true := by decide +kernel
theorem ones_1 : (List.range 4096).all (fun b => Nat.beq (onesN (4096 + b)) (popN (4096 + b) 16)) = true := by decide +kernel
theorem ones_2 : (List.range 4096).all (fun b => Nat.beq (onesN (8192 + b)) (popN (8192 + b) 16)) = true := by decide +kernel
theorem ones_3 : (List.range 4096).all (fun b => Nat.beq (onesN (12288 + b)) (popN (12288 + b) 16)) = true := by decide +kernel
theorem ones_4 : (List.range 4096).all (fun b => Nat.beq (onesN (16384 + b)) (popN (16384 + b) 16)) = true := by decide +kernel
theorem ones_5 : (List.range 4096).all (fun b => Nat.beq (onesN (20480 + b)) (popN (20480 + b) 16)) = true := by decide +kernel
theorem ones_6 : (List.range 4096).all (fun b => Nat.beq (onesN (24576 + b)) (popN (24576 + b) 16)) = true := by decide +kernel
theorem ones_7 : (List.range 4096).all (fun b => Nat.beq (onesN (28672 + b)) (popN (28672 + b) 16)) = true := by decide +kernel
theorem ones_8 : (List.range 4096).all (fun b => Nat.beq (onesN (32768 + b)) (popN (32768 + b) 16)) = true := by decide +kernel
theorem ones_9 : (List.range 4096).all (fun b => Nat.beq (onesN (36864 + b)) (popN (36864 + b) 16)) = true := by decide +kernel
theorem ones_10 : (List.range 4096).all (fun b => Nat.beq (onesN (40960 + b)) (popN (40960 + b) 16)) = true := by decide +kernel
theorem ones_11 : (List.range 4096).all (fun b => Nat.beq (onesN (45056 + b)) (popN (45056 + b) 16)) = true := by decide +kernel
theorem ones_12 : (List.range 4096).all (fun b => Nat.beq (onesN (49152 + b)) (popN (49152 + b) 16)) = true := by decide +kernel
theorem ones_13 : (List.range 4096).all (fun b => Nat.beq (onesN (53248 + b)) (popN (53248 + b) 16)) = true := by decide +kernel
theorem ones_14 : (List.range 4096).all (fun b => Nat.beq (onesN (57344 + b)) (popN (57344 + b) 16)) = true := by decide +kernel
theorem ones_15 : (List.range 4096).all (fun b => Nat.beq (onesN (61440 + b)) (popN (61440 + b) 16)) = true := by decide +kernel
theorem ones_pop (x : Nat) (hx : x < 65536) : onesN x = popN x 16 := by
  have key : ∀ k, (List.range 4096).all (fun b => Nat.beq (onesN (k * 4096 + b)) (popN (k * 4096 + b) 16)) = true → x / 4096 = k → onesN x = popN x 16 := fun k h hk => by
    have := List.all_eq_true.1 h (x % 4096) (List.mem_range.2 (Nat.mod_lt _ (by decide)))
    rw [show k * 4096 + x % 4096 = x by omega] at this
    exact Nat.eq_of_beq_eq_true this
  have h16 : x / 4096 < 16 := by omega
  generalize hq : x / 4096 = q at *
  rcases (show q = 0 ∨ q = 1 ∨ q = 2 ∨ q = 3 ∨ q = 4 ∨ q = 5 ∨ q = 6 ∨ q = 7 ∨ 8 ≤ q by omega) with e | e | e | e | e | e | e | e | e
  · exact key 0 ones_0 e
  · exact key 1 ones_1 e
  · exact key 2 ones_2 e
  · exact key 3 ones_3 e
  · exact key 4 ones_4 e
  · exact key 5 ones_5 e
  · exact key 6 ones_6 e
  · exact key 7 ones_7 e
  rcases (show q = 8 ∨ q = 9 ∨ q = 10 ∨ q = 11 ∨ q = 12 ∨ q = 13 ∨ q = 14 ∨ q = 15 by omega) with f | f | f | f | f | f | f | f
  · exact key 8 ones_8 f
  · exact key 9 ones_9 f
  · exact key 10 ones_10 f
  · exact key 11 ones_11 f
  · exact key 12 ones_12 f
  · exact key 13 ones_13 f
  · exact key 14 ones_14 f
  · exact key 15 ones_15 f
end Go.Proofs.Ytigmekboikgoaaa
