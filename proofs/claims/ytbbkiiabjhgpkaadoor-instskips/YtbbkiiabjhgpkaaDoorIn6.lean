/- Stage 7: where an instruction has the registers that it takes. -/
import Derived.Test.YtbbkiiabjhgpkaaDoorIn5
import Derived.Test.YtbbkiiabjhgpkaaDoorUpt
import Derived.Deep.MidRow
import Derived.Laws.Rows
namespace Go.Proofs.YtbbkiiabjhgpkaaDoor
open Go.RowKit
set_option linter.unusedVariables false
set_option linter.unusedSimpArgs false

theorem dt_b (o : Int) : dataTakesS o = 0 ∨ dataTakesS o = 2 := by unfold dataTakesS; (repeat' split) <;> simp
theorem lt_b (o : Int) : longTakesS o = 0 ∨ longTakesS o = 8 ∨ longTakesS o = 9 := by unfold longTakesS; (repeat' split) <;> simp
def takesS (i : IV) : Int := if classS i.op = 1 then dataTakesS i.op + secondS i else if classS i.op = 2 then 6 + longTakesS i.op else if classS i.op = 3 then unaryTakesS i.op else if classS i.op = 4 then (2 + secondS i + if storesI i.op then 1 else 0) else if classS i.op = 5 then (if storesI i.op then 18 else 2) else restTakesS i.op
theorem low_three (w : World) (x y z : Obj) : Below w.heap.size w (((w.alloc x).alloc y).alloc z) := (low_two w x y).alloc (low_two w x y).size _
set_option maxHeartbeats 8000000 in
theorem takes_c (i : IV) (w : World) : Calls Tryd.prog 33 #[i.val] w fun e w' => e = .returned (.int .i64 (takesS i)) ∧ Below w.heap.size w w' := by
  have CC : Hid (∀ w1, Calls Tryd.prog 8 #[.int .i64 i.op] w1 fun e w' => e = .returned (.int .i64 (classS i.op)) ∧ w' = w1) := fun w1 => class_c i.op w1
  have CD : Hid (∀ w1, Calls Tryd.prog 44 #[.int .i64 i.op] w1 fun e w' => e = .returned (.int .i64 (dataTakesS i.op)) ∧ w' = w1) := fun w1 => dataTakes_c i.op w1
  have CO : Hid (∀ w1, Calls Tryd.prog 46 #[.int .i64 i.op] w1 fun e w' => e = .returned (.int .i64 (longTakesS i.op)) ∧ w' = w1) := fun w1 => longTakes_c i.op w1
  have CU : Hid (∀ w1, Calls Tryd.prog 47 #[.int .i64 i.op] w1 fun e w' => e = .returned (.int .i64 (unaryTakesS i.op)) ∧ w' = w1) := fun w1 => unaryTakes_c i.op w1
  have CR : Hid (∀ w1, Calls Tryd.prog 48 #[.int .i64 i.op] w1 fun e w' => e = .returned (.int .i64 (restTakesS i.op)) ∧ w' = w1) := fun w1 => restTakes_c i.op w1
  have CL : Hid (∀ w1, Calls Tryd.prog 22 #[i.val] w1 fun e w' => e = .returned (.bool (storesI i.op)) ∧ w' = w1.alloc (Obj.cells i.cellsA 31)) := fun w1 => storesI_c i w1
  have C2 : Hid (∀ w1, Calls Tryd.prog 45 #[i.val] w1 fun e w' => e = .returned (.int .i64 (secondS i)) ∧ w' = w1.alloc (Obj.cells i.cellsA 31)) := fun w1 => second_c i w1
  unfold takesS
  have hs2 : secondS i = 0 ∨ secondS i = 4 := by unfold secondS; split <;> simp
  generalize secondS i = sc at *
  obtain ⟨o, wide, s, cond, d, n, m, a, imm, useImm, sh, amt, list, back, down⟩ := i
  unfold IV.val IV.cellsA at *
  simp only [] at *
  have hd2 := dt_b o
  have hl2 := lt_b o
  generalize classS o = cl at *
  generalize dataTakesS o = dt at *
  generalize longTakesS o = lt at *
  generalize unaryTakesS o = ut at *
  generalize storesI o = st at *
  generalize restTakesS o = rt at *
  rcases (show cl = 1 ∨ cl = 2 ∨ cl = 3 ∨ cl = 4 ∨ cl = 5 ∨ (cl ≠ 1 ∧ cl ≠ 2 ∧ cl ≠ 3 ∧ cl ≠ 4 ∧ cl ≠ 5) by omega) with rfl | rfl | rfl | rfl | rfl | ⟨n1, n2, n3, n4, n5⟩
  · have hres : ∀ x y : Int, (x = 0 ∨ x = 2) → (y = 0 ∨ y = 4) → bits .or .i64 x y = x + y := by
      intro x y hx hy
      rcases hx with rfl | rfl <;> rcases hy with rfl | rfl <;> rfl
    have hor := hres dt sc hd2 hs2
    go_enter Tryd.func33, Tryd.ntmps33
    go_wp2_with (first
      | (go_at_call 8; refine (CC.out _).mono ?_; rintro e w2 ⟨rfl, rfl⟩)
      | (go_at_call 44; refine (CD.out _).mono ?_; rintro e w2 ⟨rfl, rfl⟩)
      | (go_at_call 46; refine (CO.out _).mono ?_; rintro e w2 ⟨rfl, rfl⟩)
      | (go_at_call 47; refine (CU.out _).mono ?_; rintro e w2 ⟨rfl, rfl⟩)
      | (go_at_call 45; refine (C2.out _).mono ?_; rintro e w2 ⟨rfl, rfl⟩)
      | (go_at_call 22; refine (CL.out _).mono ?_; rintro e w2 ⟨rfl, rfl⟩)
      | (go_at_call 48; refine (CR.out _).mono ?_; rintro e w2 ⟨rfl, rfl⟩))
    have HX : Hid (∀ j u, #[.int .i64 o, .bool wide, .bool s, .int .i64 cond, .int .i64 d, .int .i64 n, .int .i64 m, .int .i64 a, .int .u32 imm, .bool useImm, .int .i64 sh, .int .i64 amt, .int .i64 list, .bool back, .bool down][j]? = some u → (w.alloc (Obj.cells #[.int .i64 o, .bool wide, .bool s, .int .i64 cond, .int .i64 d, .int .i64 n, .int .i64 m, .int .i64 a, .int .u32 imm, .bool useImm, .int .i64 sh, .int .i64 amt, .int .i64 list, .bool back, .bool down] 31)).cell? ⟨w.heap.size, j, none⟩ = some u) := fun j u hu => by
      have hb : (w.alloc (Obj.cells #[.int .i64 o, .bool wide, .bool s, .int .i64 cond, .int .i64 d, .int .i64 n, .int .i64 m, .int .i64 a, .int .u32 imm, .bool useImm, .int .i64 sh, .int .i64 amt, .int .i64 list, .bool back, .bool down] 31)).heap[w.heap.size]? = some (Obj.cells #[.int .i64 o, .bool wide, .bool s, .int .i64 cond, .int .i64 d, .int .i64 n, .int .i64 m, .int .i64 a, .int .u32 imm, .bool useImm, .int .i64 sh, .int .i64 amt, .int .i64 list, .bool back, .bool down] 31) := heap_alloc_new w _
      rw [cell_of_row _ _ _ _ _ _ hb]
      exact hu
    have S : Below (w.alloc (Obj.cells #[.int .i64 o, .bool wide, .bool s, .int .i64 cond, .int .i64 d, .int .i64 n, .int .i64 m, .int .i64 a, .int .u32 imm, .bool useImm, .int .i64 sh, .int .i64 amt, .int .i64 list, .bool back, .bool down] 31)).heap.size (w.alloc (Obj.cells #[.int .i64 o, .bool wide, .bool s, .int .i64 cond, .int .i64 d, .int .i64 n, .int .i64 m, .int .i64 a, .int .u32 imm, .bool useImm, .int .i64 sh, .int .i64 amt, .int .i64 list, .bool back, .bool down] 31)) (w.alloc (Obj.cells #[.int .i64 o, .bool wide, .bool s, .int .i64 cond, .int .i64 d, .int .i64 n, .int .i64 m, .int .i64 a, .int .u32 imm, .bool useImm, .int .i64 sh, .int .i64 amt, .int .i64 list, .bool back, .bool down] 31)) := Below.refl _ _
    refine Upto.start (S := fun w' => Below (w.alloc (Obj.cells #[.int .i64 o, .bool wide, .bool s, .int .i64 cond, .int .i64 d, .int .i64 n, .int .i64 m, .int .i64 a, .int .u32 imm, .bool useImm, .int .i64 sh, .int .i64 amt, .int .i64 list, .bool back, .bool down] 31)).heap.size (w.alloc (Obj.cells #[.int .i64 o, .bool wide, .bool s, .int .i64 cond, .int .i64 d, .int .i64 n, .int .i64 m, .int .i64 a, .int .u32 imm, .bool useImm, .int .i64 sh, .int .i64 amt, .int .i64 list, .bool back, .bool down] 31)) w') 6 (by kernel_rfl) ?_
    replace S := S.drew
    refine Upto.take (i := 0) (oi := { dst := some 8, op := Op.fieldAddr 31 (Operand.tmp 1) 0, type := 0, pos := "inst.go:194", after := #[], guard := none }) (v := ?_) rfl (by kernel_rfl) (by kernel_rfl) (by kernel_rfl) (by kernel_rfl) (fun _ _ _ h => h) (Or.inl ⟨by rfl, ?_⟩) (by exact S) ?_
    rotate_left 1
    · intro w hSw
      clear hSw
      go_simp
      try with_reducible rfl
    simp only [Act.put, List.setIfInBounds_toArray, List.set_cons_zero, List.set_cons_succ]
    refine Upto.take (i := 1) (oi := { dst := some 9, op := Op.load 3 (Operand.tmp 8), type := 3, pos := "inst.go:194", after := #[{ on := 0, ground := Ground.data }], guard := none }) (v := _) rfl (by kernel_rfl) (by kernel_rfl) (by kernel_rfl) (by kernel_rfl) (fun _ _ _ h => h) (y_cell (by rfl) _ _ rfl _ 0 (by rfl) (.int .i64 o) (fun w' S' => Below.cellAt S' (HX.out 0 _ rfl)) _ Tryd.underlying3 rfl) (by exact S) ?_
    simp only [Act.put, List.setIfInBounds_toArray, List.set_cons_zero, List.set_cons_succ]
    refine Upto.take (i := 3) (oi := { dst := some 11, op := Op.load 31 (Operand.tmp 1), type := 31, pos := "inst.go:194", after := #[], guard := none }) (v := _) rfl (by kernel_rfl) (by kernel_rfl) (by kernel_rfl) (by kernel_rfl) (fun _ _ _ h => h) (yieldsIf_load_mid (by rfl) _ _ rfl _ 0 (by rfl) [.int .i64 o, .bool wide, .bool s, .int .i64 cond, .int .i64 d, .int .i64 n, .int .i64 m, .int .i64 a, .int .u32 imm, .bool useImm, .int .i64 sh, .int .i64 amt, .int .i64 list, .bool back, .bool down] _ (fun w' S' j u hu => by rw [Nat.zero_add]; exact Below.cellAt S' (HX.out j u (by simpa using hu))) Tryd.underlying31 rfl (by kernel_rfl)) (by exact S) ?_
    simp only [Act.put, List.setIfInBounds_toArray, List.set_cons_zero, List.set_cons_succ]
    refine Upto.ready (rs := [2]) (by kernel_rfl) (by simp) ?_
    refine Nexts.cons rfl (by decide) (fun K hK => ?_) Nexts.nil
    go_simp
    go_wp2_with (go_at_call 44; refine (CD.out _).mono ?_; rintro e w2 ⟨rfl, rfl⟩)
    refine hK.out _ _ (by exact S) ?_
    clear hK K
    refine Upto.ready (rs := [4]) (by kernel_rfl) (by simp) ?_
    refine Nexts.cons rfl (by decide) (fun K hK => ?_) Nexts.nil
    go_simp
    go_wp2_with (go_at_call 45; refine (C2.out _).mono ?_; rintro e w2 ⟨rfl, rfl⟩)
    replace S := S.alloc S.size (Obj.cells #[.int .i64 o, .bool wide, .bool s, .int .i64 cond, .int .i64 d, .int .i64 n, .int .i64 m, .int .i64 a, .int .u32 imm, .bool useImm, .int .i64 sh, .int .i64 amt, .int .i64 list, .bool back, .bool down] 31)
    refine hK.out _ _ (by exact S) ?_
    clear hK K
    refine Upto.take (i := 5) (oi := { dst := some 13, op := Op.binOp BinOp.or 3 (Operand.tmp 10) (Operand.tmp 12) 3, type := 3, pos := "inst.go:194", after := #[{ on := 2, ground := Ground.data }, { on := 4, ground := Ground.data }], guard := none }) (v := ?_) rfl (by kernel_rfl) (by kernel_rfl) (by kernel_rfl) (by kernel_rfl) (fun _ _ _ h => h) (Or.inl ⟨by rfl, ?_⟩) (by exact S) ?_
    rotate_left 1
    · intro w hSw
      clear hSw
      go_simp
      try simp only [hor]
      try with_reducible rfl
    simp only [Act.put, List.setIfInBounds_toArray, List.set_cons_zero, List.set_cons_succ]
    refine Upto.ready (rs := [6]) (by kernel_rfl) (by simp) ?_
    refine Nexts.last rfl (fun K hK => ?_)
    go_simp
    refine hK.out _ _ ?_
    clear hK K
    refine Upto.done (by kernel_rfl) ?_ _
    go_wp2_with fail
    go_ret
    exact ⟨rfl, low_then (low_one _ _) S⟩
  · rcases hl2 with rfl | rfl | rfl <;>
    · go_enter Tryd.func33, Tryd.ntmps33
      go_wp2_with (first
          | (go_at_call 8; refine (CC.out _).mono ?_; rintro e w2 ⟨rfl, rfl⟩)
          | (go_at_call 44; refine (CD.out _).mono ?_; rintro e w2 ⟨rfl, rfl⟩)
          | (go_at_call 46; refine (CO.out _).mono ?_; rintro e w2 ⟨rfl, rfl⟩)
          | (go_at_call 47; refine (CU.out _).mono ?_; rintro e w2 ⟨rfl, rfl⟩)
          | (go_at_call 45; refine (C2.out _).mono ?_; rintro e w2 ⟨rfl, rfl⟩)
          | (go_at_call 22; refine (CL.out _).mono ?_; rintro e w2 ⟨rfl, rfl⟩)
          | (go_at_call 48; refine (CR.out _).mono ?_; rintro e w2 ⟨rfl, rfl⟩))
      go_ret
      exact ⟨rfl, low_one _ _⟩
  · go_enter Tryd.func33, Tryd.ntmps33
    go_wp2_with (first
      | (go_at_call 8; refine (CC.out _).mono ?_; rintro e w2 ⟨rfl, rfl⟩)
      | (go_at_call 44; refine (CD.out _).mono ?_; rintro e w2 ⟨rfl, rfl⟩)
      | (go_at_call 46; refine (CO.out _).mono ?_; rintro e w2 ⟨rfl, rfl⟩)
      | (go_at_call 47; refine (CU.out _).mono ?_; rintro e w2 ⟨rfl, rfl⟩)
      | (go_at_call 45; refine (C2.out _).mono ?_; rintro e w2 ⟨rfl, rfl⟩)
      | (go_at_call 22; refine (CL.out _).mono ?_; rintro e w2 ⟨rfl, rfl⟩)
      | (go_at_call 48; refine (CR.out _).mono ?_; rintro e w2 ⟨rfl, rfl⟩))
    go_ret
    exact ⟨rfl, low_one _ _⟩
  · rcases hs2 with rfl | rfl <;> cases st <;>
    · go_enter Tryd.func33, Tryd.ntmps33
      go_wp2_with (first
          | (go_at_call 8; refine (CC.out _).mono ?_; rintro e w2 ⟨rfl, rfl⟩)
          | (go_at_call 44; refine (CD.out _).mono ?_; rintro e w2 ⟨rfl, rfl⟩)
          | (go_at_call 46; refine (CO.out _).mono ?_; rintro e w2 ⟨rfl, rfl⟩)
          | (go_at_call 47; refine (CU.out _).mono ?_; rintro e w2 ⟨rfl, rfl⟩)
          | (go_at_call 45; refine (C2.out _).mono ?_; rintro e w2 ⟨rfl, rfl⟩)
          | (go_at_call 22; refine (CL.out _).mono ?_; rintro e w2 ⟨rfl, rfl⟩)
          | (go_at_call 48; refine (CR.out _).mono ?_; rintro e w2 ⟨rfl, rfl⟩))
      go_ret
      exact ⟨rfl, low_three _ _ _ _⟩
  · cases st <;>
    · go_enter Tryd.func33, Tryd.ntmps33
      go_wp2_with (first
          | (go_at_call 8; refine (CC.out _).mono ?_; rintro e w2 ⟨rfl, rfl⟩)
          | (go_at_call 44; refine (CD.out _).mono ?_; rintro e w2 ⟨rfl, rfl⟩)
          | (go_at_call 46; refine (CO.out _).mono ?_; rintro e w2 ⟨rfl, rfl⟩)
          | (go_at_call 47; refine (CU.out _).mono ?_; rintro e w2 ⟨rfl, rfl⟩)
          | (go_at_call 45; refine (C2.out _).mono ?_; rintro e w2 ⟨rfl, rfl⟩)
          | (go_at_call 22; refine (CL.out _).mono ?_; rintro e w2 ⟨rfl, rfl⟩)
          | (go_at_call 48; refine (CR.out _).mono ?_; rintro e w2 ⟨rfl, rfl⟩))
      go_ret
      exact ⟨rfl, low_two _ _ _⟩
  · have f1 : (cl == 1) = false := by simpa using n1
    have f2 : (cl == 2) = false := by simpa using n2
    have f3 : (cl == 3) = false := by simpa using n3
    have f4 : (cl == 4) = false := by simpa using n4
    have f5 : (cl == 5) = false := by simpa using n5
    rw [if_neg n1, if_neg n2, if_neg n3, if_neg n4, if_neg n5]
    go_enter Tryd.func33, Tryd.ntmps33
    go_wp2_with (first
      | (go_at_call 8; refine (CC.out _).mono ?_; rintro e w2 ⟨rfl, rfl⟩)
      | (go_at_call 44; refine (CD.out _).mono ?_; rintro e w2 ⟨rfl, rfl⟩)
      | (go_at_call 46; refine (CO.out _).mono ?_; rintro e w2 ⟨rfl, rfl⟩)
      | (go_at_call 47; refine (CU.out _).mono ?_; rintro e w2 ⟨rfl, rfl⟩)
      | (go_at_call 45; refine (C2.out _).mono ?_; rintro e w2 ⟨rfl, rfl⟩)
      | (go_at_call 22; refine (CL.out _).mono ?_; rintro e w2 ⟨rfl, rfl⟩)
      | (go_at_call 48; refine (CR.out _).mono ?_; rintro e w2 ⟨rfl, rfl⟩))
    go_ret
    exact ⟨rfl, low_one _ _⟩
end Go.Proofs.YtbbkiiabjhgpkaaDoor
