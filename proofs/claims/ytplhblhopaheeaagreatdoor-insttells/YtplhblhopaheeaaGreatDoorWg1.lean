/- Stage 9: the document: what rows begin with. -/
import Derived.Test.YtplhblhopaheeaaGreatDoorYj
import Derived.Test.YtplhblhopaheeaaGreatDoorYa
namespace Go.Proofs.YtplhblhopaheeaaGreatDoor
open Go.ChangeShapes Go.WideShapes Go.ChangeAt Go.RowKit
set_option linter.unusedVariables false
set_option linter.unusedSimpArgs false
set_option maxHeartbeats 20000000
set_option maxRecDepth 100000

/-- What the document's rows tell, as DecodeWide takes it. -/
def fin (i : IV) (ok : Bool) (x : Nat) : IV := bif ok then (bif i.op == 65 then noneI 65 x else i) else noneI 64 x
def Two (w : World) (X : IV) (x : Nat) (e : Ending) (w' : World) : Prop := ∃ i ok, e = .returned (.tuple #[IV.val i, .bool ok]) ∧ fin i ok x = X ∧ Below w.heap.size w w'
def oddS (r : Int) : Bool := r == 13 || r == 15
def mayS (i : IV) (num : Bool) : Bool :=
  bif oddS i.n && !(i.n == 13 && (num && ((num && (i.op == 5 || i.op == 3)) || (i.op == 10 || i.op == 11)))) then false
  else !oddS i.d || (i.d == 13 && ((num && (i.op == 5 || i.op == 3)) && i.n == 13))
theorem plain_c_w (o : Int) (w : World) : Calls Tryz.prog 36 #[.int .i64 o] w fun e w' => e = .returned (IV.val ⟨o, false, false, 14, 0, 0, 0, 0, 0, false, 0, 0, 0, false, false⟩) ∧ Below w.heap.size w w' := by
  go_enter Tryz.func36, Tryz.ntmps36
  go_wp2
  refine bodyPost_ret (results_cell_row rfl _ _ w.heap.size _ _ _ _ rfl (heap_alloc_new w _) Tryz.underlying28 rfl (by kernel_rfl)) rfl ⟨rfl, (Below.refl _ _).alloc (Nat.le_refl _) _⟩
theorem rundef_c_w (h : Int) (w : World) : Calls Tryz.prog 30 #[.int .u32 h] w fun e w' => e = .returned (IV.val (⟨64, false, false, 14, 0, 0, 0, 0, h, false, 0, 0, 0, false, false⟩ : IV)) ∧ Below w.heap.size w w' := by
  go_enter Tryz.func30, Tryz.ntmps30
  have S := SH.start w
  go_wp2_with (first
   | ((with_reducible refine g_al 28 ?_); refine S.gal zI ?_; clear S; intro b w1 S)
   | (go_at_call 36; refine (plain_c_w _ _).mono ?_; rintro e wf ⟨rfl, hbf⟩; replace S := S.below hbf; clear hbf)
   | ((with_reducible refine g_st 28 ?_); refine S.gst (i := ?_) (c := ?_) rfl rfl ?_ ?_ ?_ ?_ ?_; rotate_left 2; (with_reducible first | exact gi0 | exact gi1 | exact gi2 | exact gi3 | exact gi4 | exact gi5); rfl; rfl; exact sI rfl; clear S; intro w1 S; (try simp only [Cel.cells, zL, List.set_cons_zero, List.set_cons_succ, startI, secondI, noneI] at S))
   | ((with_reducible refine g_st 26 ?_); refine S.gs1 (i := ?_) (c := ?_) (cs := ?_) (.int _ _) s_u32 rfl rfl rfl ?_ ?_ ?_ ?_; rotate_left 3; (with_reducible first | exact gi0 | exact gi1 | exact gi2 | exact gi3 | exact gi4 | exact gi5); exact of_decide_eq_true rfl; exact rfl; clear S; intro w1 S; (try simp only [Cel.cells, zL, List.set_cons_zero, List.set_cons_succ, startI, secondI, noneI] at S))
   | ((with_reducible refine g_ld 28 ?_); first | (refine g_skip rfl ?_) | (refine S.gla (i := ?_) (c := ?_) Tryz.underlying28 rfl rfl rfl ?_ ?_ ?_; rotate_left 2; (with_reducible first | exact gi0 | exact gi1 | exact gi2 | exact gi3 | exact gi4 | exact gi5); exact sI rfl)))
  (try simp only [Exit.inBlock, Exit.then])
  apply bodyPost_ret
  refine S.gR (i := ?_) (c := ?_) Tryz.underlying28 rfl rfl rfl ?_ ?_
  rotate_left 2
  (with_reducible first | exact gi0 | exact gi1 | exact gi2 | exact gi3 | exact gi4 | exact gi5)
  exact sI rfl
  rfl
  exact ⟨rfl, S.low⟩
theorem rbad_c_w (h : Int) (w : World) : Calls Tryz.prog 31 #[.int .u32 h] w fun e w' => e = .returned (IV.val (⟨65, false, false, 14, 0, 0, 0, 0, h, false, 0, 0, 0, false, false⟩ : IV)) ∧ Below w.heap.size w w' := by
  go_enter Tryz.func31, Tryz.ntmps31
  have S := SH.start w
  go_wp2_with (first
   | ((with_reducible refine g_al 28 ?_); refine S.gal zI ?_; clear S; intro b w1 S)
   | (go_at_call 36; refine (plain_c_w _ _).mono ?_; rintro e wf ⟨rfl, hbf⟩; replace S := S.below hbf; clear hbf)
   | ((with_reducible refine g_st 28 ?_); refine S.gst (i := ?_) (c := ?_) rfl rfl ?_ ?_ ?_ ?_ ?_; rotate_left 2; (with_reducible first | exact gi0 | exact gi1 | exact gi2 | exact gi3 | exact gi4 | exact gi5); rfl; rfl; exact sI rfl; clear S; intro w1 S; (try simp only [Cel.cells, zL, List.set_cons_zero, List.set_cons_succ, startI, secondI, noneI] at S))
   | ((with_reducible refine g_st 26 ?_); refine S.gs1 (i := ?_) (c := ?_) (cs := ?_) (.int _ _) s_u32 rfl rfl rfl ?_ ?_ ?_ ?_; rotate_left 3; (with_reducible first | exact gi0 | exact gi1 | exact gi2 | exact gi3 | exact gi4 | exact gi5); exact of_decide_eq_true rfl; exact rfl; clear S; intro w1 S; (try simp only [Cel.cells, zL, List.set_cons_zero, List.set_cons_succ, startI, secondI, noneI] at S))
   | ((with_reducible refine g_ld 28 ?_); first | (refine g_skip rfl ?_) | (refine S.gla (i := ?_) (c := ?_) Tryz.underlying28 rfl rfl rfl ?_ ?_ ?_; rotate_left 2; (with_reducible first | exact gi0 | exact gi1 | exact gi2 | exact gi3 | exact gi4 | exact gi5); exact sI rfl)))
  (try simp only [Exit.inBlock, Exit.then])
  apply bodyPost_ret
  refine S.gR (i := ?_) (c := ?_) Tryz.underlying28 rfl rfl rfl ?_ ?_
  rotate_left 2
  (with_reducible first | exact gi0 | exact gi1 | exact gi2 | exact gi3 | exact gi4 | exact gi5)
  exact sI rfl
  rfl
  exact ⟨rfl, S.low⟩
theorem rwide_c (o : Int) (w : World) : Calls Tryz.prog 119 #[.int .i64 o] w fun e w' => e = .returned (IV.val (startI o 0 0)) ∧ Below w.heap.size w w' := by
  go_enter Tryz.func119, Tryz.ntmps119
  have S := SH.start w
  go_wp2_with (first
   | ((with_reducible refine g_al 28 ?_); refine S.gal zI ?_; clear S; intro b w1 S)
   | (go_at_call 36; refine (plain_c_w _ _).mono ?_; rintro e wf ⟨rfl, hbf⟩; replace S := S.below hbf; clear hbf)
   | ((with_reducible refine g_st 28 ?_); refine S.gst (i := ?_) (c := ?_) rfl rfl ?_ ?_ ?_ ?_ ?_; rotate_left 2; (with_reducible first | exact gi0 | exact gi1 | exact gi2 | exact gi3 | exact gi4 | exact gi5); rfl; rfl; exact sI rfl; clear S; intro w1 S; (try simp only [Cel.cells, zL, List.set_cons_zero, List.set_cons_succ, startI, secondI, noneI] at S))
   | ((with_reducible refine g_st 4 ?_); refine S.gs1 (i := ?_) (c := ?_) (cs := ?_) (.bool _) s_bool rfl rfl rfl ?_ ?_ ?_ ?_; rotate_left 3; (with_reducible first | exact gi0 | exact gi1 | exact gi2 | exact gi3 | exact gi4 | exact gi5); exact of_decide_eq_true rfl; exact rfl; clear S; intro w1 S; (try simp only [Cel.cells, zL, List.set_cons_zero, List.set_cons_succ, startI, secondI, noneI] at S))
   | ((with_reducible refine g_ld 28 ?_); first | (refine g_skip rfl ?_) | (refine S.gla (i := ?_) (c := ?_) Tryz.underlying28 rfl rfl rfl ?_ ?_ ?_; rotate_left 2; (with_reducible first | exact gi0 | exact gi1 | exact gi2 | exact gi3 | exact gi4 | exact gi5); exact sI rfl)))
  (try simp only [Exit.inBlock, Exit.then])
  apply bodyPost_ret
  refine S.gR (i := ?_) (c := ?_) Tryz.underlying28 rfl rfl rfl ?_ ?_
  rotate_left 2
  (with_reducible first | exact gi0 | exact gi1 | exact gi2 | exact gi3 | exact gi4 | exact gi5)
  exact sI rfl
  rfl
  exact ⟨rfl, S.low⟩
theorem rodd_c (r : Int) (w : World) : Calls Tryz.prog 120 #[.int .i64 r] w fun e w' => e = .returned (.bool (oddS r)) ∧ w' = w := by
  unfold oddS
  cases h1 : (r == 13)
  · cases h2 : (r == 15)
    · go_enter Tryz.func120, Tryz.ntmps120
      go_wp2
      go_ret
      exact ⟨rfl, rfl⟩
    · go_enter Tryz.func120, Tryz.ntmps120
      go_wp2
      go_ret
      exact ⟨rfl, rfl⟩
  · go_enter Tryz.func120, Tryz.ntmps120
    go_wp2
    go_ret
    exact ⟨rfl, rfl⟩
theorem runp_c (w : World) : Calls Tryz.prog 118 #[] w fun e w' => e = .returned (.tuple #[(startI 65 0 0).val, .bool true]) ∧ Below w.heap.size w w' := by
  go_enter Tryz.func118, Tryz.ntmps118
  have S := SH.start w
  go_wp2_with (first
   | ((with_reducible refine g_al 28 ?_); refine S.gal zI ?_; clear S; intro b w1 S)
   | (go_at_call 119; refine (rwide_c _ _).mono ?_; rintro e wf ⟨rfl, hbf⟩; replace S := S.below hbf; clear hbf)
   | ((with_reducible refine g_st 28 ?_); refine S.gst (i := ?_) (c := ?_) rfl rfl ?_ ?_ ?_ ?_ ?_; rotate_left 2; (with_reducible first | exact gi0 | exact gi1 | exact gi2 | exact gi3 | exact gi4 | exact gi5); rfl; rfl; exact sI rfl; clear S; intro w1 S; (try simp only [Cel.cells, zL, List.set_cons_zero, List.set_cons_succ, startI, secondI, noneI] at S)))
  (try simp only [Exit.inBlock, Exit.then])
  apply bodyPost_ret
  refine S.gR2 (i := ?_) (c := ?_) Tryz.underlying28 rfl rfl rfl ?_ ?_
  rotate_left 2
  (with_reducible first | exact gi0 | exact gi1 | exact gi2 | exact gi3 | exact gi4 | exact gi5)
  exact sI rfl
  rfl
  exact ⟨rfl, S.low⟩
end Go.Proofs.YtplhblhopaheeaaGreatDoor
