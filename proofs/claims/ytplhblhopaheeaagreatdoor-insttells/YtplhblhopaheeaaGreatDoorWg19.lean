/- Stage 9: the document: no products. -/
import Derived.Test.YtplhblhopaheeaaGreatDoorWg1
import Derived.Test.YtplhblhopaheeaaGreatDoorYa
namespace Go.Proofs.YtplhblhopaheeaaGreatDoor
open Go.ChangeShapes Go.WideShapes Go.ChangeAt Go.RowKit
set_option linter.unusedVariables false
set_option linter.unusedSimpArgs false
set_option maxHeartbeats 20000000
set_option maxRecDepth 100000

theorem rmul_n0 (h k ga gd gn gm x r low : Nat) (X : IV) (kh : bits .and .u16 ((h : Int) / 16) 15 = (r : Int)) (kw : bits .and .u16 ((k : Int) / 16) 15 = 0) (ka : (k : Int) / 4096 = (ga : Int)) (kd : bits .and .u16 ((k : Int) / 256) 15 = (gd : Int)) (kn : bits .and .u16 (h : Int) 15 = (gn : Int)) (km : bits .and .u16 (k : Int) 15 = (gm : Int)) (br : r < 16) (ba : ga < 16) (bd : gd < 16) (bn : gn < 16) (bm : gm < 16) (hr : r ≠ 0 ∧ r ≠ 8 ∧ r ≠ 10 ∧ r ≠ 12 ∧ r ≠ 14)
    (H1 : ∀ i : IV, fin i false x = X) (w : World) : Calls Tryz.prog 76 #[.int .u16 h, .int .u16 k] w fun e w' => Two w X x e w' := by
  obtain ⟨r0, r8, r10, r12, r14⟩ := hr
  rcases (show r = 9 ∨ r = 11 ∨ (r ≠ 9 ∧ r ≠ 11) by omega) with rfl | rfl | hx
  focus
    replace kh : bits .and .u16 ((h : Int) / 16) 15 = 9 := kh
    clear r0 r8 r10 r12 r14
  rotate_left 1
  focus
    replace kh : bits .and .u16 ((h : Int) / 16) 15 = 11 := kh
    clear r0 r8 r10 r12 r14
  rotate_left 1
  focus
    have nr0 : ((r : Int) == 0) = false := by simp; omega
    have nr9 : ((r : Int) == 9) = false := by simp; omega
    have nr11 : ((r : Int) == 11) = false := by simp; omega
    have nr8 : ((r : Int) == 8) = false := by simp; omega
    have nr10 : ((r : Int) == 10) = false := by simp; omega
    have nr12 : ((r : Int) == 12) = false := by simp; omega
    have nr14 : ((r : Int) == 14) = false := by simp; omega
    clear hx
    clear r0 r8 r10 r12 r14
  rotate_left 1
  all_goals
    go_enter Tryz.func76, Tryz.ntmps76
    have S := SH.start w
    go_wp2_with (first
     | ((with_reducible refine g_al 28 ?_); refine S.gal zI ?_; clear S; intro b w1 S)
     | (go_at_call 119; refine (rwide_c _ _).mono ?_; rintro e wf ⟨rfl, hbf⟩; replace S := S.below hbf; clear hbf)
     | ((with_reducible refine g_st 28 ?_); refine S.gst (i := ?_) (c := ?_) rfl rfl ?_ ?_ ?_ ?_ ?_; rotate_left 2; (with_reducible first | exact gi0 | exact gi1 | exact gi2 | exact gi3 | exact gi4 | exact gi5); rfl; rfl; exact sI rfl; clear S; intro w1 S; (try simp only [Cel.cells, zL, List.set_cons_zero, List.set_cons_succ, startI, secondI, noneI, r4] at S))
     | ((with_reducible refine g_st 3 ?_); refine S.gs1 (i := ?_) (c := ?_) (cs := ?_) (.int _ _) s_int rfl rfl rfl ?_ ?_ ?_ ?_; rotate_left 3; (with_reducible first | exact gi0 | exact gi1 | exact gi2 | exact gi3 | exact gi4 | exact gi5); exact of_decide_eq_true rfl; exact rfl; clear S; intro w1 S; (try simp only [Cel.cells, zL, List.set_cons_zero, List.set_cons_succ, startI, secondI, noneI, r4] at S))
     | ((with_reducible refine g_ld 28 ?_); first | (refine g_skip rfl ?_) | (refine S.gla (i := ?_) (c := ?_) Tryz.underlying28 rfl rfl rfl ?_ ?_ ?_; rotate_left 2; (with_reducible first | exact gi0 | exact gi1 | exact gi2 | exact gi3 | exact gi4 | exact gi5); exact sI rfl)))
    (try simp only [Exit.inBlock, Exit.then])
    apply bodyPost_ret
    refine S.gR2 (i := ?_) (c := ?_) Tryz.underlying28 rfl rfl rfl ?_ ?_
    rotate_left 2
    (with_reducible first | exact gi0 | exact gi1 | exact gi2 | exact gi3 | exact gi4 | exact gi5)
    exact sI rfl
    rfl
    exact ⟨⟨0, true, false, 14, gd, gn, gm, 0, 0, false, 0, 0, 0, false, false⟩, false, rfl, H1 _, S.low⟩
theorem rmul_n1 (h k ga gd gn gm x r low : Nat) (X : IV) (kh : bits .and .u16 ((h : Int) / 16) 15 = (r : Int)) (kw : bits .and .u16 ((k : Int) / 16) 15 = 1) (ka : (k : Int) / 4096 = (ga : Int)) (kd : bits .and .u16 ((k : Int) / 256) 15 = (gd : Int)) (kn : bits .and .u16 (h : Int) 15 = (gn : Int)) (km : bits .and .u16 (k : Int) 15 = (gm : Int)) (br : r < 16) (ba : ga < 16) (bd : gd < 16) (bn : gn < 16) (bm : gm < 16) (hr : r ≠ 0)
    (H1 : ∀ i : IV, fin i false x = X) (w : World) : Calls Tryz.prog 76 #[.int .u16 h, .int .u16 k] w fun e w' => Two w X x e w' := by
  rcases (show r = 9 ∨ r = 11 ∨ (r ≠ 9 ∧ r ≠ 11) by omega) with rfl | rfl | hx
  focus
    replace kh : bits .and .u16 ((h : Int) / 16) 15 = 9 := kh
    clear hr
  rotate_left 1
  focus
    replace kh : bits .and .u16 ((h : Int) / 16) 15 = 11 := kh
    clear hr
  rotate_left 1
  focus
    have nr0 : ((r : Int) == 0) = false := by simp; omega
    have nr9 : ((r : Int) == 9) = false := by simp; omega
    have nr11 : ((r : Int) == 11) = false := by simp; omega
    clear hx
    clear hr
  rotate_left 1
  all_goals
    go_enter Tryz.func76, Tryz.ntmps76
    have S := SH.start w
    go_wp2_with (first
     | ((with_reducible refine g_al 28 ?_); refine S.gal zI ?_; clear S; intro b w1 S)
     | (go_at_call 119; refine (rwide_c _ _).mono ?_; rintro e wf ⟨rfl, hbf⟩; replace S := S.below hbf; clear hbf)
     | ((with_reducible refine g_st 28 ?_); refine S.gst (i := ?_) (c := ?_) rfl rfl ?_ ?_ ?_ ?_ ?_; rotate_left 2; (with_reducible first | exact gi0 | exact gi1 | exact gi2 | exact gi3 | exact gi4 | exact gi5); rfl; rfl; exact sI rfl; clear S; intro w1 S; (try simp only [Cel.cells, zL, List.set_cons_zero, List.set_cons_succ, startI, secondI, noneI, r4] at S))
     | ((with_reducible refine g_st 3 ?_); refine S.gs1 (i := ?_) (c := ?_) (cs := ?_) (.int _ _) s_int rfl rfl rfl ?_ ?_ ?_ ?_; rotate_left 3; (with_reducible first | exact gi0 | exact gi1 | exact gi2 | exact gi3 | exact gi4 | exact gi5); exact of_decide_eq_true rfl; exact rfl; clear S; intro w1 S; (try simp only [Cel.cells, zL, List.set_cons_zero, List.set_cons_succ, startI, secondI, noneI, r4] at S))
     | ((with_reducible refine g_ld 28 ?_); first | (refine g_skip rfl ?_) | (refine S.gla (i := ?_) (c := ?_) Tryz.underlying28 rfl rfl rfl ?_ ?_ ?_; rotate_left 2; (with_reducible first | exact gi0 | exact gi1 | exact gi2 | exact gi3 | exact gi4 | exact gi5); exact sI rfl)))
    (try simp only [Exit.inBlock, Exit.then])
    apply bodyPost_ret
    refine S.gR2 (i := ?_) (c := ?_) Tryz.underlying28 rfl rfl rfl ?_ ?_
    rotate_left 2
    (with_reducible first | exact gi0 | exact gi1 | exact gi2 | exact gi3 | exact gi4 | exact gi5)
    exact sI rfl
    rfl
    exact ⟨⟨0, true, false, 14, gd, gn, gm, 0, 0, false, 0, 0, 0, false, false⟩, false, rfl, H1 _, S.low⟩
theorem rmul_n15 (h k ga gd gn gm x r low : Nat) (X : IV) (kh : bits .and .u16 ((h : Int) / 16) 15 = (r : Int)) (kw : bits .and .u16 ((k : Int) / 16) 15 = 15) (ka : (k : Int) / 4096 = (ga : Int)) (kd : bits .and .u16 ((k : Int) / 256) 15 = (gd : Int)) (kn : bits .and .u16 (h : Int) 15 = (gn : Int)) (km : bits .and .u16 (k : Int) 15 = (gm : Int)) (br : r < 16) (ba : ga < 16) (bd : gd < 16) (bn : gn < 16) (bm : gm < 16) (hr : (r = 9 ∨ r = 11) → ga ≠ 15)
    (H1 : ∀ i : IV, fin i false x = X) (w : World) : Calls Tryz.prog 76 #[.int .u16 h, .int .u16 k] w fun e w' => Two w X x e w' := by
  rcases (show r = 0 ∨ r = 9 ∨ r = 11 ∨ (r ≠ 0 ∧ r ≠ 9 ∧ r ≠ 11) by omega) with rfl | rfl | rfl | hx
  focus
    replace kh : bits .and .u16 ((h : Int) / 16) 15 = 0 := kh
    clear hr
  rotate_left 1
  focus
    replace kh : bits .and .u16 ((h : Int) / 16) 15 = 9 := kh
    have g15 : ((ga : Int) == 15) = false := by have := hr (by decide); simp; omega
    clear hr
  rotate_left 1
  focus
    replace kh : bits .and .u16 ((h : Int) / 16) 15 = 11 := kh
    have g15 : ((ga : Int) == 15) = false := by have := hr (by decide); simp; omega
    clear hr
  rotate_left 1
  focus
    have nr0 : ((r : Int) == 0) = false := by simp; omega
    have nr9 : ((r : Int) == 9) = false := by simp; omega
    have nr11 : ((r : Int) == 11) = false := by simp; omega
    clear hx
    clear hr
  rotate_left 1
  all_goals
    go_enter Tryz.func76, Tryz.ntmps76
    have S := SH.start w
    go_wp2_with (first
     | ((with_reducible refine g_al 28 ?_); refine S.gal zI ?_; clear S; intro b w1 S)
     | (go_at_call 119; refine (rwide_c _ _).mono ?_; rintro e wf ⟨rfl, hbf⟩; replace S := S.below hbf; clear hbf)
     | ((with_reducible refine g_st 28 ?_); refine S.gst (i := ?_) (c := ?_) rfl rfl ?_ ?_ ?_ ?_ ?_; rotate_left 2; (with_reducible first | exact gi0 | exact gi1 | exact gi2 | exact gi3 | exact gi4 | exact gi5); rfl; rfl; exact sI rfl; clear S; intro w1 S; (try simp only [Cel.cells, zL, List.set_cons_zero, List.set_cons_succ, startI, secondI, noneI, r4] at S))
     | ((with_reducible refine g_st 3 ?_); refine S.gs1 (i := ?_) (c := ?_) (cs := ?_) (.int _ _) s_int rfl rfl rfl ?_ ?_ ?_ ?_; rotate_left 3; (with_reducible first | exact gi0 | exact gi1 | exact gi2 | exact gi3 | exact gi4 | exact gi5); exact of_decide_eq_true rfl; exact rfl; clear S; intro w1 S; (try simp only [Cel.cells, zL, List.set_cons_zero, List.set_cons_succ, startI, secondI, noneI, r4] at S))
     | ((with_reducible refine g_ld 28 ?_); first | (refine g_skip rfl ?_) | (refine S.gla (i := ?_) (c := ?_) Tryz.underlying28 rfl rfl rfl ?_ ?_ ?_; rotate_left 2; (with_reducible first | exact gi0 | exact gi1 | exact gi2 | exact gi3 | exact gi4 | exact gi5); exact sI rfl)))
    (try simp only [Exit.inBlock, Exit.then])
    apply bodyPost_ret
    refine S.gR2 (i := ?_) (c := ?_) Tryz.underlying28 rfl rfl rfl ?_ ?_
    rotate_left 2
    (with_reducible first | exact gi0 | exact gi1 | exact gi2 | exact gi3 | exact gi4 | exact gi5)
    exact sI rfl
    rfl
    exact ⟨⟨0, true, false, 14, gd, gn, gm, 0, 0, false, 0, 0, 0, false, false⟩, false, rfl, H1 _, S.low⟩
theorem rmul_nx (h k ga gd gn gm x r low : Nat) (X : IV) (kh : bits .and .u16 ((h : Int) / 16) 15 = (r : Int)) (kw : bits .and .u16 ((k : Int) / 16) 15 = (low : Int)) (l0 : low ≠ 0) (l1 : low ≠ 1) (l15 : low ≠ 15) (ka : (k : Int) / 4096 = (ga : Int)) (kd : bits .and .u16 ((k : Int) / 256) 15 = (gd : Int)) (kn : bits .and .u16 (h : Int) 15 = (gn : Int)) (km : bits .and .u16 (k : Int) 15 = (gm : Int)) (br : r < 16) (ba : ga < 16) (bd : gd < 16) (bn : gn < 16) (bm : gm < 16) 
    (H1 : ∀ i : IV, fin i false x = X) (w : World) : Calls Tryz.prog 76 #[.int .u16 h, .int .u16 k] w fun e w' => Two w X x e w' := by
  have nlow0 : ((low : Int) == 0) = false := by simp; omega
  have nlow1 : ((low : Int) == 1) = false := by simp; omega
  have nlow15 : ((low : Int) == 15) = false := by simp; omega
  clear l0 l1 l15
  rcases (show r = 0 ∨ r = 9 ∨ r = 11 ∨ (r ≠ 0 ∧ r ≠ 9 ∧ r ≠ 11) by omega) with rfl | rfl | rfl | hx
  focus
    replace kh : bits .and .u16 ((h : Int) / 16) 15 = 0 := kh
  rotate_left 1
  focus
    replace kh : bits .and .u16 ((h : Int) / 16) 15 = 9 := kh
  rotate_left 1
  focus
    replace kh : bits .and .u16 ((h : Int) / 16) 15 = 11 := kh
  rotate_left 1
  focus
    have nr0 : ((r : Int) == 0) = false := by simp; omega
    have nr9 : ((r : Int) == 9) = false := by simp; omega
    have nr11 : ((r : Int) == 11) = false := by simp; omega
    clear hx
  rotate_left 1
  all_goals
    go_enter Tryz.func76, Tryz.ntmps76
    have S := SH.start w
    go_wp2_with (first
     | ((with_reducible refine g_al 28 ?_); refine S.gal zI ?_; clear S; intro b w1 S)
     | (go_at_call 119; refine (rwide_c _ _).mono ?_; rintro e wf ⟨rfl, hbf⟩; replace S := S.below hbf; clear hbf)
     | ((with_reducible refine g_st 28 ?_); refine S.gst (i := ?_) (c := ?_) rfl rfl ?_ ?_ ?_ ?_ ?_; rotate_left 2; (with_reducible first | exact gi0 | exact gi1 | exact gi2 | exact gi3 | exact gi4 | exact gi5); rfl; rfl; exact sI rfl; clear S; intro w1 S; (try simp only [Cel.cells, zL, List.set_cons_zero, List.set_cons_succ, startI, secondI, noneI, r4] at S))
     | ((with_reducible refine g_st 3 ?_); refine S.gs1 (i := ?_) (c := ?_) (cs := ?_) (.int _ _) s_int rfl rfl rfl ?_ ?_ ?_ ?_; rotate_left 3; (with_reducible first | exact gi0 | exact gi1 | exact gi2 | exact gi3 | exact gi4 | exact gi5); exact of_decide_eq_true rfl; exact rfl; clear S; intro w1 S; (try simp only [Cel.cells, zL, List.set_cons_zero, List.set_cons_succ, startI, secondI, noneI, r4] at S))
     | ((with_reducible refine g_ld 28 ?_); first | (refine g_skip rfl ?_) | (refine S.gla (i := ?_) (c := ?_) Tryz.underlying28 rfl rfl rfl ?_ ?_ ?_; rotate_left 2; (with_reducible first | exact gi0 | exact gi1 | exact gi2 | exact gi3 | exact gi4 | exact gi5); exact sI rfl)))
    (try simp only [Exit.inBlock, Exit.then])
    apply bodyPost_ret
    refine S.gR2 (i := ?_) (c := ?_) Tryz.underlying28 rfl rfl rfl ?_ ?_
    rotate_left 2
    (with_reducible first | exact gi0 | exact gi1 | exact gi2 | exact gi3 | exact gi4 | exact gi5)
    exact sI rfl
    rfl
    exact ⟨⟨0, true, false, 14, gd, gn, gm, 0, 0, false, 0, 0, 0, false, false⟩, false, rfl, H1 _, S.low⟩
end Go.Proofs.YtplhblhopaheeaaGreatDoor
