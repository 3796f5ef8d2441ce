/- Stage 7: what is given, which flags are set. -/
import Derived.Test.YtbbkiiabjhgpkaaDoorIn3
import Derived.Deep.QuietTactic
import Derived.BigQuiet
namespace Go.Proofs.YtbbkiiabjhgpkaaDoor
open Go.RowKit
set_option linter.unusedVariables false
set_option linter.unusedSimpArgs false

/-- A world in which something was only added. -/
theorem low_one (w : World) (x : Obj) : Below w.heap.size w (w.alloc x) := (Below.refl _ _).alloc (Nat.le_refl _) _
theorem low_two (w : World) (x y : Obj) : Below w.heap.size w ((w.alloc x).alloc y) := ((Below.refl _ _).alloc (Nat.le_refl _) _).alloc (low_one w x).size _
def manyGivesS (i : IV) : Int := (if loadsI i.op then 16 else 0) + (if i.back then 2 else 0)
set_option maxHeartbeats 4000000 in
theorem manyGives_c (i : IV) (w : World) : Calls Tryd.prog 49 #[i.val] w fun e w' => e = .returned (.int .i64 (manyGivesS i)) ∧ Below w.heap.size w w' := by
  have CL : Hid (∀ w1, Calls Tryd.prog 21 #[i.val] w1 fun e w' => e = .returned (.bool (loadsI i.op)) ∧ w' = w1.alloc (Obj.cells i.cellsA 31)) := fun w1 => loadsI_c i w1
  obtain ⟨o, wide, s, cond, d, n, m, a, imm, useImm, sh, amt, list, back, down⟩ := i
  unfold IV.val IV.cellsA at *
  unfold manyGivesS
  simp only [] at *
  generalize loadsI o = q at *
  cases q <;> cases back <;>
  · go_enter Tryd.func49, Tryd.ntmps49
    go_wp2_with (go_at_call 21; refine (CL.out _).mono ?_; rintro e w2 ⟨rfl, rfl⟩)
    go_ret
    exact ⟨by first | rfl | decide, low_two _ _ _⟩
end Go.Proofs.YtbbkiiabjhgpkaaDoor
