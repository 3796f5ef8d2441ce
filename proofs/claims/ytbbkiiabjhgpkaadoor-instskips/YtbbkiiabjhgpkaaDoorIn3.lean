/- Stage 7: stores, whether flags are taken, what many give. -/
import Derived.Test.YtbbkiiabjhgpkaaDoorIn2
namespace Go.Proofs.YtbbkiiabjhgpkaaDoor
open Go.RowKit
set_option linter.unusedVariables false
set_option linter.unusedSimpArgs false

set_option maxHeartbeats 2000000 in
theorem storesI_c (i : IV) (w : World) : Calls Tryd.prog 22 #[i.val] w fun e w' => e = .returned (.bool (storesI i.op)) ∧ w' = w.alloc (Obj.cells i.cellsA 31) := by
  obtain ⟨o, wide, s, cond, d, n, m, a, imm, useImm, sh, amt, list, back, down⟩ := i
  unfold IV.val IV.cellsA
  simp only []
  rcases (show o < 49 ∨ (49 ≤ o ∧ o ≤ 51) ∨ (52 ≤ o ∧ o ≠ 53) ∨ o = 53 by omega) with h | h | h | h
  · have t0 : decide (49 ≤ o) = false := by simp; omega
    have t1 : (o == 53) = false := by simp; omega
    have hr : storesI o = false := by simp [storesI, t1]; omega
    rw [hr]
    go_enter Tryd.func22, Tryd.ntmps22
    go_wp2
    go_ret
    exact ⟨rfl, rfl⟩
  · have t0 : decide (49 ≤ o) = true := by simp; omega
    have t2 : decide (o ≤ 51) = true := by simp; omega
    have hr : storesI o = true := by simp [storesI]; omega
    rw [hr]
    go_enter Tryd.func22, Tryd.ntmps22
    go_wp2
    go_ret
    exact ⟨rfl, rfl⟩
  · have t0 : decide (49 ≤ o) = true := by simp; omega
    have t2 : decide (o ≤ 51) = false := by simp; omega
    have t1 : (o == 53) = false := by simp; omega
    have hr : storesI o = false := by simp [storesI, t1]; omega
    rw [hr]
    go_enter Tryd.func22, Tryd.ntmps22
    go_wp2
    go_ret
    exact ⟨rfl, rfl⟩
  · subst h
    have hr : storesI 53 = true := by rfl
    rw [hr]
    go_enter Tryd.func22, Tryd.ntmps22
    go_wp2
    go_ret
    exact ⟨rfl, rfl⟩
def usesI (i : IV) : Bool := i.cond != 14 || i.op == 6 || i.op == 7 || i.sh == 5 || (shiftsS i.op && !i.useImm && i.s)
set_option maxHeartbeats 4000000 in
theorem usesI_c (i : IV) (w : World) : Calls Tryd.prog 16 #[i.val] w fun e w' => e = .returned (.bool (usesI i)) ∧ w' = w.alloc (Obj.cells i.cellsA 31) := by
  obtain ⟨o, wide, s, cond, d, n, m, a, imm, useImm, sh, amt, list, back, down⟩ := i
  have CS : Hid (∀ w1, Calls Tryd.prog 37 #[.int .i64 o] w1 fun e w' => e = .returned (.bool (shiftsS o)) ∧ w' = w1) := fun w1 => shifts_c o w1
  unfold IV.val IV.cellsA usesI
  simp only []
  by_cases h1 : cond = 14
  · subst h1
    by_cases h2 : o = 6
    · subst h2
      go_enter Tryd.func16, Tryd.ntmps16
      go_wp2
      go_ret
      exact ⟨by simp, rfl⟩
    have t2 : (o == 6) = false := by simpa using h2
    by_cases h3 : o = 7
    · subst h3
      go_enter Tryd.func16, Tryd.ntmps16
      go_wp2
      go_ret
      exact ⟨by simp, rfl⟩
    have t3 : (o == 7) = false := by simpa using h3
    by_cases h4 : sh = 5
    · subst h4
      go_enter Tryd.func16, Tryd.ntmps16
      go_wp2
      go_ret
      exact ⟨by simp, rfl⟩
    have t4 : (sh == 5) = false := by simpa using h4
    generalize shiftsS o = q at *
    cases q <;> cases useImm <;> cases s <;>
    · go_enter Tryd.func16, Tryd.ntmps16
      go_wp2_with (go_at_call 37; refine (CS.out _).mono ?_; rintro e w2 ⟨rfl, rfl⟩)
      go_ret
      exact ⟨by simp [t2, t3, t4], rfl⟩
  · have t1 : (cond != 14) = true := by simpa using h1
    go_enter Tryd.func16, Tryd.ntmps16
    go_wp2
    go_ret
    exact ⟨by simp [t1], rfl⟩
end Go.Proofs.YtbbkiiabjhgpkaaDoor
