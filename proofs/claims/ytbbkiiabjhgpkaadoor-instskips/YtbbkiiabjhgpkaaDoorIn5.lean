/- Stage 7: where an instruction has the registers that it gives to. -/
import Derived.Test.YtbbkiiabjhgpkaaDoorIn4
namespace Go.Proofs.YtbbkiiabjhgpkaaDoor
open Go.RowKit
set_option linter.unusedVariables false
set_option linter.unusedSimpArgs false

def givesS (i : IV) : Int := if classS i.op = 1 then (if comparesS i.op then 0 else 1) else if classS i.op = 2 then (if 24 ≤ i.op ∧ i.op ≤ 27 then 9 else 1) else if classS i.op = 3 then 1 else if classS i.op = 4 then (if loadsI i.op then 1 else 0) else if classS i.op = 5 then manyGivesS i else restGivesS i.op
theorem low_then {w w1 w2 : World} (h : Below w.heap.size w w1) (k : Below w1.heap.size w1 w2) : Below w.heap.size w w2 := h.trans (k.mono h.size)
set_option maxHeartbeats 8000000 in
theorem gives_c (i : IV) (w : World) : Calls Tryd.prog 34 #[i.val] w fun e w' => e = .returned (.int .i64 (givesS i)) ∧ Below w.heap.size w w' := by
  have CC : Hid (∀ w1, Calls Tryd.prog 8 #[.int .i64 i.op] w1 fun e w' => e = .returned (.int .i64 (classS i.op)) ∧ w' = w1) := fun w1 => class_c i.op w1
  have CP : Hid (∀ w1, Calls Tryd.prog 38 #[.int .i64 i.op] w1 fun e w' => e = .returned (.bool (comparesS i.op)) ∧ w' = w1) := fun w1 => compares_c i.op w1
  have CR : Hid (∀ w1, Calls Tryd.prog 50 #[.int .i64 i.op] w1 fun e w' => e = .returned (.int .i64 (restGivesS i.op)) ∧ w' = w1) := fun w1 => restGives_c i.op w1
  have CL : Hid (∀ w1, Calls Tryd.prog 21 #[i.val] w1 fun e w' => e = .returned (.bool (loadsI i.op)) ∧ w' = w1.alloc (Obj.cells i.cellsA 31)) := fun w1 => loadsI_c i w1
  have CM : Hid (∀ w1, Calls Tryd.prog 49 #[i.val] w1 fun e w' => e = .returned (.int .i64 (manyGivesS i)) ∧ Below w1.heap.size w1 w') := fun w1 => manyGives_c i w1
  unfold givesS
  generalize manyGivesS i = mg at *
  obtain ⟨o, wide, s, cond, d, n, m, a, imm, useImm, sh, amt, list, back, down⟩ := i
  unfold IV.val IV.cellsA at *
  simp only [] at *
  generalize hcl : classS o = cl at *
  generalize comparesS o = cp at *
  generalize loadsI o = ld at *
  generalize restGivesS o = rg at *
  clear hcl
  rcases (show cl = 1 ∨ cl = 2 ∨ cl = 3 ∨ cl = 4 ∨ cl = 5 ∨ (cl ≠ 1 ∧ cl ≠ 2 ∧ cl ≠ 3 ∧ cl ≠ 4 ∧ cl ≠ 5) by omega) with rfl | rfl | rfl | rfl | rfl | ⟨n1, n2, n3, n4, n5⟩
  · cases cp <;>
    · go_enter Tryd.func34, Tryd.ntmps34
      go_wp2_with (first
          | (go_at_call 8; refine (CC.out _).mono ?_; rintro e w2 ⟨rfl, rfl⟩)
          | (go_at_call 38; refine (CP.out _).mono ?_; rintro e w2 ⟨rfl, rfl⟩)
          | (go_at_call 21; refine (CL.out _).mono ?_; rintro e w2 ⟨rfl, rfl⟩)
          | (go_at_call 49; refine (CM.out _).mono ?_; rintro e w2 ⟨rfl, hb2⟩)
          | (go_at_call 50; refine (CR.out _).mono ?_; rintro e w2 ⟨rfl, rfl⟩))
      go_ret
      exact ⟨rfl, low_one _ _⟩
  · by_cases g1 : 24 ≤ o
    · by_cases g2 : o ≤ 27
      · rw [if_neg (by decide), if_pos rfl, if_pos ⟨g1, g2⟩]
        go_enter Tryd.func34, Tryd.ntmps34
        go_wp2_with (first
              | (go_at_call 8; refine (CC.out _).mono ?_; rintro e w2 ⟨rfl, rfl⟩)
              | (go_at_call 38; refine (CP.out _).mono ?_; rintro e w2 ⟨rfl, rfl⟩)
              | (go_at_call 21; refine (CL.out _).mono ?_; rintro e w2 ⟨rfl, rfl⟩)
              | (go_at_call 49; refine (CM.out _).mono ?_; rintro e w2 ⟨rfl, hb2⟩)
              | (go_at_call 50; refine (CR.out _).mono ?_; rintro e w2 ⟨rfl, rfl⟩))
        go_ret
        exact ⟨rfl, low_one _ _⟩
      · have f2 : decide (o ≤ 27) = false := by simpa using g2
        rw [if_neg (by decide), if_pos rfl, if_neg (by omega)]
        go_enter Tryd.func34, Tryd.ntmps34
        go_wp2_with (first
              | (go_at_call 8; refine (CC.out _).mono ?_; rintro e w2 ⟨rfl, rfl⟩)
              | (go_at_call 38; refine (CP.out _).mono ?_; rintro e w2 ⟨rfl, rfl⟩)
              | (go_at_call 21; refine (CL.out _).mono ?_; rintro e w2 ⟨rfl, rfl⟩)
              | (go_at_call 49; refine (CM.out _).mono ?_; rintro e w2 ⟨rfl, hb2⟩)
              | (go_at_call 50; refine (CR.out _).mono ?_; rintro e w2 ⟨rfl, rfl⟩))
        go_ret
        exact ⟨rfl, low_one _ _⟩
    · have f1 : decide (24 ≤ o) = false := by simpa using g1
      rw [if_neg (by decide), if_pos rfl, if_neg (by omega)]
      go_enter Tryd.func34, Tryd.ntmps34
      go_wp2_with (first
          | (go_at_call 8; refine (CC.out _).mono ?_; rintro e w2 ⟨rfl, rfl⟩)
          | (go_at_call 38; refine (CP.out _).mono ?_; rintro e w2 ⟨rfl, rfl⟩)
          | (go_at_call 21; refine (CL.out _).mono ?_; rintro e w2 ⟨rfl, rfl⟩)
          | (go_at_call 49; refine (CM.out _).mono ?_; rintro e w2 ⟨rfl, hb2⟩)
          | (go_at_call 50; refine (CR.out _).mono ?_; rintro e w2 ⟨rfl, rfl⟩))
      go_ret
      exact ⟨rfl, low_one _ _⟩
  · go_enter Tryd.func34, Tryd.ntmps34
    go_wp2_with (first
      | (go_at_call 8; refine (CC.out _).mono ?_; rintro e w2 ⟨rfl, rfl⟩)
      | (go_at_call 38; refine (CP.out _).mono ?_; rintro e w2 ⟨rfl, rfl⟩)
      | (go_at_call 21; refine (CL.out _).mono ?_; rintro e w2 ⟨rfl, rfl⟩)
      | (go_at_call 49; refine (CM.out _).mono ?_; rintro e w2 ⟨rfl, hb2⟩)
      | (go_at_call 50; refine (CR.out _).mono ?_; rintro e w2 ⟨rfl, rfl⟩))
    go_ret
    exact ⟨rfl, low_one _ _⟩
  · cases ld <;>
    · go_enter Tryd.func34, Tryd.ntmps34
      go_wp2_with (first
          | (go_at_call 8; refine (CC.out _).mono ?_; rintro e w2 ⟨rfl, rfl⟩)
          | (go_at_call 38; refine (CP.out _).mono ?_; rintro e w2 ⟨rfl, rfl⟩)
          | (go_at_call 21; refine (CL.out _).mono ?_; rintro e w2 ⟨rfl, rfl⟩)
          | (go_at_call 49; refine (CM.out _).mono ?_; rintro e w2 ⟨rfl, hb2⟩)
          | (go_at_call 50; refine (CR.out _).mono ?_; rintro e w2 ⟨rfl, rfl⟩))
      go_ret
      exact ⟨rfl, low_two _ _ _⟩
  · go_enter Tryd.func34, Tryd.ntmps34
    go_wp2_with (first
      | (go_at_call 8; refine (CC.out _).mono ?_; rintro e w2 ⟨rfl, rfl⟩)
      | (go_at_call 38; refine (CP.out _).mono ?_; rintro e w2 ⟨rfl, rfl⟩)
      | (go_at_call 21; refine (CL.out _).mono ?_; rintro e w2 ⟨rfl, rfl⟩)
      | (go_at_call 49; refine (CM.out _).mono ?_; rintro e w2 ⟨rfl, hb2⟩)
      | (go_at_call 50; refine (CR.out _).mono ?_; rintro e w2 ⟨rfl, rfl⟩))
    go_ret
    exact ⟨rfl, low_then (low_one _ _) hb2⟩
  · have f1 : (cl == 1) = false := by simpa using n1
    have f2 : (cl == 2) = false := by simpa using n2
    have f3 : (cl == 3) = false := by simpa using n3
    have f4 : (cl == 4) = false := by simpa using n4
    have f5 : (cl == 5) = false := by simpa using n5
    rw [if_neg n1, if_neg n2, if_neg n3, if_neg n4, if_neg n5]
    go_enter Tryd.func34, Tryd.ntmps34
    go_wp2_with (first
      | (go_at_call 8; refine (CC.out _).mono ?_; rintro e w2 ⟨rfl, rfl⟩)
      | (go_at_call 38; refine (CP.out _).mono ?_; rintro e w2 ⟨rfl, rfl⟩)
      | (go_at_call 21; refine (CL.out _).mono ?_; rintro e w2 ⟨rfl, rfl⟩)
      | (go_at_call 49; refine (CM.out _).mono ?_; rintro e w2 ⟨rfl, hb2⟩)
      | (go_at_call 50; refine (CR.out _).mono ?_; rintro e w2 ⟨rfl, rfl⟩))
    go_ret
    exact ⟨rfl, low_one _ _⟩
end Go.Proofs.YtbbkiiabjhgpkaaDoor
