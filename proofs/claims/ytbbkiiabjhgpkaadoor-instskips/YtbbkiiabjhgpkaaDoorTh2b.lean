/- Stage 8: rows of narrow words, the program's, walked. -/
import Derived.Test.YtbbkiiabjhgpkaaDoorTh1
import Derived.Test.YtbbkiiabjhgpkaaDoorTh1k
namespace Go.Proofs.YtbbkiiabjhgpkaaDoor
open Go.ChangeShapes Go.WideShapes Go.ChangeAt Go.RowKit
set_option linter.unusedVariables false
set_option linter.unusedSimpArgs false

theorem nbeq (a b : Nat) : Nat.beq a b = decide (a = b) := by
  cases h : Nat.beq a b
  · have := Nat.ne_of_beq_eq_false h
    simp [this]
  · have := Nat.eq_of_beq_eq_true h
    simp [this]
theorem nble (a b : Nat) : Nat.ble a b = decide (a ≤ b) := by
  cases h : Nat.ble a b
  · have : ¬ a ≤ b := fun k => by rw [Nat.ble_eq_true_of_le k] at h; cases h
    simp [this]
  · have := Nat.le_of_ble_eq_true h
    simp [this]
theorem nblt (a b : Nat) : Nat.blt a b = decide (a < b) := nble (a + 1) b
def Says (w : World) (i : NV) (e : Ending) (w' : World) : Prop := e = .returned i.iv.val ∧ Below w.heap.size w w'
theorem i64_join (x y i : Nat) (hx : x % 2 ^ i = 0) (hx1 : x < 2 ^ 32) (hy : y < 2 ^ i) (hi : i ≤ 32) : bits .or .i64 (x : Int) (y : Int) = ((x + y : Nat) : Int) := by
  have h2 : 2 ^ i ≤ 2 ^ 32 := Nat.pow_le_pow_right (by decide) hi
  rw [(bits_nat .i64 33 (by decide) (fun n h1 h2 => by rw [IntKind.wrap_i64]; omega) x y (by omega) (by omega)).2]
  have hq : x = 2 ^ i * (x / 2 ^ i) := by
    have := Nat.div_add_mod x (2 ^ i)
    omega
  rw [hq, ← Nat.two_pow_add_eq_or_of_lt hy (x / 2 ^ i)]
theorem i64_bit (x n : Nat) (hx : x < 2 ^ 32) : bits .and .i64 ((x / 2 ^ n : Nat) : Int) 1 = ((fd x n 1 : Nat) : Int) := by
  have : x / 2 ^ n ≤ x := Nat.div_le_self _ _
  rw [show (1 : Int) = ((1 : Nat) : Int) from rfl, (bits_nat .i64 33 (by decide) (fun n h1 h2 => by rw [IntKind.wrap_i64]; omega) _ 1 (by omega) (by decide)).1]
  exact congrArg _ (fd_land x n 1)
end Go.Proofs.YtbbkiiabjhgpkaaDoor
