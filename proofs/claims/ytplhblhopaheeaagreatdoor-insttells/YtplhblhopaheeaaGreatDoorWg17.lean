/- Stage 9: the document: products and quotients. -/
import Derived.Test.YtplhblhopaheeaaGreatDoorWg1
import Derived.Test.YtplhblhopaheeaaGreatDoorYa
namespace Go.Proofs.YtplhblhopaheeaaGreatDoor
open Go.ChangeShapes Go.WideShapes Go.ChangeAt Go.RowKit
set_option linter.unusedVariables false
set_option linter.unusedSimpArgs false
set_option maxHeartbeats 20000000
set_option maxRecDepth 100000

theorem rmul_mul (h k ga gd gn gm x : Nat) (X : IV) (kh : bits .and .u16 ((h : Int) / 16) 15 = 0) (kw : bits .and .u16 ((k : Int) / 16) 15 = 0) (ka : (k : Int) / 4096 = (ga : Int)) (kd : bits .and .u16 ((k : Int) / 256) 15 = (gd : Int)) (kn : bits .and .u16 (h : Int) 15 = (gn : Int)) (km : bits .and .u16 (k : Int) 15 = (gm : Int)) (ba : ga < 16) (bd : gd < 16) (bn : gn < 16) (bm : gm < 16) (hc : (ga = 15))
    (H1 : (oddS 0 || (oddS gd || (oddS gn || oddS gm))) = false → fin (r4 21 false gd gn gm 0) true x = X) (H2 : (oddS 0 || (oddS gd || (oddS gn || oddS gm))) = true → fin (startI 65 0 0) true x = X) 
    (w : World) : Calls Tryz.prog 76 #[.int .u16 h, .int .u16 k] w fun e w' => Two w X x e w' := by
  have QN : Hid _ := fun w => rodd_c gn w
  have QM : Hid _ := fun w => rodd_c gm w
  have QA : Hid _ := fun w => rodd_c 0 w
  have QD : Hid _ := fun w => rodd_c gd w
  subst hc
  replace ka : (k : Int) / 4096 = 15 := ka
  rw [show oddS 0 = false from rfl, Bool.false_or] at H1 H2
  have QZ : Hid (∀ w, Calls Tryz.prog 120 #[.int .i64 0] w fun e w' => e = .returned (.bool false) ∧ w' = w) := fun w => rodd_c 0 w
  clear QA
  have QA := QZ
  clear QZ
  generalize oddS (gd : Int) = od at *
  generalize oddS (gn : Int) = on at *
  generalize oddS (gm : Int) = om at *
  cases od
  focus
    cases on
    focus
      cases om
      focus
        have HX : Hid _ := H1 rfl
        clear H1 H2
      rotate_left 1
      focus
        have HX : Hid _ := H2 rfl
        clear H1 H2
      rotate_left 1
    rotate_left 2
    focus
      have HX : Hid _ := H2 rfl
      clear H1 H2
    rotate_left 1
  rotate_left 3
  focus
    have HX : Hid _ := H2 rfl
    clear H1 H2
  rotate_left 1
  all_goals
    go_enter Tryz.func76, Tryz.ntmps76
    have S := SH.start w
    go_wp2_with (first
     | ((with_reducible refine g_al 28 ?_); refine S.gal zI ?_; clear S; intro b w1 S)
     | (go_at_call 119; refine (rwide_c _ _).mono ?_; rintro e wf ⟨rfl, hbf⟩; replace S := S.below hbf; clear hbf)
     | ((with_reducible refine g_st 28 ?_); refine S.gst (i := ?_) (c := ?_) rfl rfl ?_ ?_ ?_ ?_ ?_; rotate_left 2; (with_reducible first | exact gi0 | exact gi1 | exact gi2 | exact gi3 | exact gi4 | exact gi5); rfl; rfl; exact sI rfl; clear S; intro w1 S; (try simp only [Cel.cells, zL, List.set_cons_zero, List.set_cons_succ, startI, secondI, noneI, r4] at S))
     | ((with_reducible refine g_st 3 ?_); refine S.gs1 (i := ?_) (c := ?_) (cs := ?_) (.int _ _) s_int rfl rfl rfl ?_ ?_ ?_ ?_; rotate_left 3; (with_reducible first | exact gi0 | exact gi1 | exact gi2 | exact gi3 | exact gi4 | exact gi5); exact of_decide_eq_true rfl; exact rfl; clear S; intro w1 S; (try simp only [Cel.cells, zL, List.set_cons_zero, List.set_cons_succ, startI, secondI, noneI, r4] at S))
     | ((with_reducible refine g_ld 3 ?_); first | (refine g_skip rfl ?_) | (refine S.gld (i := ?_) (c := ?_) (v := ?_) Tryz.underlying3 rfl rfl rfl ?_ ?_ ?_; rotate_left 3; (with_reducible first | exact gi0 | exact gi1 | exact gi2 | exact gi3 | exact gi4 | exact gi5); exact rfl))
     | (go_at_call 120; first | (with_reducible refine (QA.out _).mono ?_; rintro e wf ⟨rfl, rfl⟩) | (with_reducible refine (QD.out _).mono ?_; rintro e wf ⟨rfl, rfl⟩) | (with_reducible refine (QN.out _).mono ?_; rintro e wf ⟨rfl, rfl⟩) | (with_reducible refine (QM.out _).mono ?_; rintro e wf ⟨rfl, rfl⟩))
     | ((with_reducible refine g_ld 28 ?_); first | (refine g_skip rfl ?_) | (refine S.gla (i := ?_) (c := ?_) Tryz.underlying28 rfl rfl rfl ?_ ?_ ?_; rotate_left 2; (with_reducible first | exact gi0 | exact gi1 | exact gi2 | exact gi3 | exact gi4 | exact gi5); exact sI rfl))
     | (go_at_call 118; refine (runp_c _).mono ?_; rintro e wf ⟨rfl, hbf⟩; replace S := S.below hbf; clear hbf))
    (try simp only [Exit.inBlock, Exit.then])
    apply bodyPost_ret
    refine S.gR2 (i := ?_) (c := ?_) Tryz.underlying28 rfl rfl rfl ?_ ?_
    rotate_left 2
    (with_reducible first | exact gi0 | exact gi1 | exact gi2 | exact gi3 | exact gi4 | exact gi5)
    exact sI rfl
    rfl
    exact ⟨_, _, rfl, HX.out, S.low⟩
theorem rmul_mla (h k ga gd gn gm x : Nat) (X : IV) (kh : bits .and .u16 ((h : Int) / 16) 15 = 0) (kw : bits .and .u16 ((k : Int) / 16) 15 = 0) (ka : (k : Int) / 4096 = (ga : Int)) (kd : bits .and .u16 ((k : Int) / 256) 15 = (gd : Int)) (kn : bits .and .u16 (h : Int) 15 = (gn : Int)) (km : bits .and .u16 (k : Int) 15 = (gm : Int)) (ba : ga < 16) (bd : gd < 16) (bn : gn < 16) (bm : gm < 16) (hc : (ga ≠ 15))
    (H1 : (oddS ga || (oddS gd || (oddS gn || oddS gm))) = false → fin (r4 22 false gd gn gm ga) true x = X) (H2 : (oddS ga || (oddS gd || (oddS gn || oddS gm))) = true → fin (startI 65 0 0) true x = X) 
    (w : World) : Calls Tryz.prog 76 #[.int .u16 h, .int .u16 k] w fun e w' => Two w X x e w' := by
  have QN : Hid _ := fun w => rodd_c gn w
  have QM : Hid _ := fun w => rodd_c gm w
  have QA : Hid _ := fun w => rodd_c ga w
  have QD : Hid _ := fun w => rodd_c gd w
  have hc2 : ((ga : Int) == 15) = false := by simp; omega
  clear hc
  generalize oddS (ga : Int) = oa at *
  generalize oddS (gd : Int) = od at *
  generalize oddS (gn : Int) = on at *
  generalize oddS (gm : Int) = om at *
  cases oa
  focus
    cases od
    focus
      cases on
      focus
        cases om
        focus
          have HX : Hid _ := H1 rfl
          clear H1 H2
        rotate_left 1
        focus
          have HX : Hid _ := H2 rfl
          clear H1 H2
        rotate_left 1
      rotate_left 2
      focus
        have HX : Hid _ := H2 rfl
        clear H1 H2
      rotate_left 1
    rotate_left 3
    focus
      have HX : Hid _ := H2 rfl
      clear H1 H2
    rotate_left 1
  rotate_left 4
  focus
    have HX : Hid _ := H2 rfl
    clear H1 H2
  rotate_left 1
  all_goals
    go_enter Tryz.func76, Tryz.ntmps76
    have S := SH.start w
    go_wp2_with (first
     | ((with_reducible refine g_al 28 ?_); refine S.gal zI ?_; clear S; intro b w1 S)
     | (go_at_call 119; refine (rwide_c _ _).mono ?_; rintro e wf ⟨rfl, hbf⟩; replace S := S.below hbf; clear hbf)
     | ((with_reducible refine g_st 28 ?_); refine S.gst (i := ?_) (c := ?_) rfl rfl ?_ ?_ ?_ ?_ ?_; rotate_left 2; (with_reducible first | exact gi0 | exact gi1 | exact gi2 | exact gi3 | exact gi4 | exact gi5); rfl; rfl; exact sI rfl; clear S; intro w1 S; (try simp only [Cel.cells, zL, List.set_cons_zero, List.set_cons_succ, startI, secondI, noneI, r4] at S))
     | ((with_reducible refine g_st 3 ?_); refine S.gs1 (i := ?_) (c := ?_) (cs := ?_) (.int _ _) s_int rfl rfl rfl ?_ ?_ ?_ ?_; rotate_left 3; (with_reducible first | exact gi0 | exact gi1 | exact gi2 | exact gi3 | exact gi4 | exact gi5); exact of_decide_eq_true rfl; exact rfl; clear S; intro w1 S; (try simp only [Cel.cells, zL, List.set_cons_zero, List.set_cons_succ, startI, secondI, noneI, r4] at S))
     | ((with_reducible refine g_ld 3 ?_); first | (refine g_skip rfl ?_) | (refine S.gld (i := ?_) (c := ?_) (v := ?_) Tryz.underlying3 rfl rfl rfl ?_ ?_ ?_; rotate_left 3; (with_reducible first | exact gi0 | exact gi1 | exact gi2 | exact gi3 | exact gi4 | exact gi5); exact rfl))
     | (go_at_call 120; first | (with_reducible refine (QA.out _).mono ?_; rintro e wf ⟨rfl, rfl⟩) | (with_reducible refine (QD.out _).mono ?_; rintro e wf ⟨rfl, rfl⟩) | (with_reducible refine (QN.out _).mono ?_; rintro e wf ⟨rfl, rfl⟩) | (with_reducible refine (QM.out _).mono ?_; rintro e wf ⟨rfl, rfl⟩))
     | ((with_reducible refine g_ld 28 ?_); first | (refine g_skip rfl ?_) | (refine S.gla (i := ?_) (c := ?_) Tryz.underlying28 rfl rfl rfl ?_ ?_ ?_; rotate_left 2; (with_reducible first | exact gi0 | exact gi1 | exact gi2 | exact gi3 | exact gi4 | exact gi5); exact sI rfl))
     | (go_at_call 118; refine (runp_c _).mono ?_; rintro e wf ⟨rfl, hbf⟩; replace S := S.below hbf; clear hbf))
    (try simp only [Exit.inBlock, Exit.then])
    apply bodyPost_ret
    refine S.gR2 (i := ?_) (c := ?_) Tryz.underlying28 rfl rfl rfl ?_ ?_
    rotate_left 2
    (with_reducible first | exact gi0 | exact gi1 | exact gi2 | exact gi3 | exact gi4 | exact gi5)
    exact sI rfl
    rfl
    exact ⟨_, _, rfl, HX.out, S.low⟩
theorem rmul_mls (h k ga gd gn gm x : Nat) (X : IV) (kh : bits .and .u16 ((h : Int) / 16) 15 = 0) (kw : bits .and .u16 ((k : Int) / 16) 15 = 1) (ka : (k : Int) / 4096 = (ga : Int)) (kd : bits .and .u16 ((k : Int) / 256) 15 = (gd : Int)) (kn : bits .and .u16 (h : Int) 15 = (gn : Int)) (km : bits .and .u16 (k : Int) 15 = (gm : Int)) (ba : ga < 16) (bd : gd < 16) (bn : gn < 16) (bm : gm < 16) (hc : True)
    (H1 : (oddS ga || (oddS gd || (oddS gn || oddS gm))) = false → fin (r4 23 false gd gn gm ga) true x = X) (H2 : (oddS ga || (oddS gd || (oddS gn || oddS gm))) = true → fin (startI 65 0 0) true x = X) 
    (w : World) : Calls Tryz.prog 76 #[.int .u16 h, .int .u16 k] w fun e w' => Two w X x e w' := by
  have QN : Hid _ := fun w => rodd_c gn w
  have QM : Hid _ := fun w => rodd_c gm w
  have QA : Hid _ := fun w => rodd_c ga w
  have QD : Hid _ := fun w => rodd_c gd w
  clear hc
  generalize oddS (ga : Int) = oa at *
  generalize oddS (gd : Int) = od at *
  generalize oddS (gn : Int) = on at *
  generalize oddS (gm : Int) = om at *
  cases oa
  focus
    cases od
    focus
      cases on
      focus
        cases om
        focus
          have HX : Hid _ := H1 rfl
          clear H1 H2
        rotate_left 1
        focus
          have HX : Hid _ := H2 rfl
          clear H1 H2
        rotate_left 1
      rotate_left 2
      focus
        have HX : Hid _ := H2 rfl
        clear H1 H2
      rotate_left 1
    rotate_left 3
    focus
      have HX : Hid _ := H2 rfl
      clear H1 H2
    rotate_left 1
  rotate_left 4
  focus
    have HX : Hid _ := H2 rfl
    clear H1 H2
  rotate_left 1
  all_goals
    go_enter Tryz.func76, Tryz.ntmps76
    have S := SH.start w
    go_wp2_with (first
     | ((with_reducible refine g_al 28 ?_); refine S.gal zI ?_; clear S; intro b w1 S)
     | (go_at_call 119; refine (rwide_c _ _).mono ?_; rintro e wf ⟨rfl, hbf⟩; replace S := S.below hbf; clear hbf)
     | ((with_reducible refine g_st 28 ?_); refine S.gst (i := ?_) (c := ?_) rfl rfl ?_ ?_ ?_ ?_ ?_; rotate_left 2; (with_reducible first | exact gi0 | exact gi1 | exact gi2 | exact gi3 | exact gi4 | exact gi5); rfl; rfl; exact sI rfl; clear S; intro w1 S; (try simp only [Cel.cells, zL, List.set_cons_zero, List.set_cons_succ, startI, secondI, noneI, r4] at S))
     | ((with_reducible refine g_st 3 ?_); refine S.gs1 (i := ?_) (c := ?_) (cs := ?_) (.int _ _) s_int rfl rfl rfl ?_ ?_ ?_ ?_; rotate_left 3; (with_reducible first | exact gi0 | exact gi1 | exact gi2 | exact gi3 | exact gi4 | exact gi5); exact of_decide_eq_true rfl; exact rfl; clear S; intro w1 S; (try simp only [Cel.cells, zL, List.set_cons_zero, List.set_cons_succ, startI, secondI, noneI, r4] at S))
     | ((with_reducible refine g_ld 3 ?_); first | (refine g_skip rfl ?_) | (refine S.gld (i := ?_) (c := ?_) (v := ?_) Tryz.underlying3 rfl rfl rfl ?_ ?_ ?_; rotate_left 3; (with_reducible first | exact gi0 | exact gi1 | exact gi2 | exact gi3 | exact gi4 | exact gi5); exact rfl))
     | (go_at_call 120; first | (with_reducible refine (QA.out _).mono ?_; rintro e wf ⟨rfl, rfl⟩) | (with_reducible refine (QD.out _).mono ?_; rintro e wf ⟨rfl, rfl⟩) | (with_reducible refine (QN.out _).mono ?_; rintro e wf ⟨rfl, rfl⟩) | (with_reducible refine (QM.out _).mono ?_; rintro e wf ⟨rfl, rfl⟩))
     | ((with_reducible refine g_ld 28 ?_); first | (refine g_skip rfl ?_) | (refine S.gla (i := ?_) (c := ?_) Tryz.underlying28 rfl rfl rfl ?_ ?_ ?_; rotate_left 2; (with_reducible first | exact gi0 | exact gi1 | exact gi2 | exact gi3 | exact gi4 | exact gi5); exact sI rfl))
     | (go_at_call 118; refine (runp_c _).mono ?_; rintro e wf ⟨rfl, hbf⟩; replace S := S.below hbf; clear hbf))
    (try simp only [Exit.inBlock, Exit.then])
    apply bodyPost_ret
    refine S.gR2 (i := ?_) (c := ?_) Tryz.underlying28 rfl rfl rfl ?_ ?_
    rotate_left 2
    (with_reducible first | exact gi0 | exact gi1 | exact gi2 | exact gi3 | exact gi4 | exact gi5)
    exact sI rfl
    rfl
    exact ⟨_, _, rfl, HX.out, S.low⟩
theorem rmul_sdiv (h k ga gd gn gm x : Nat) (X : IV) (kh : bits .and .u16 ((h : Int) / 16) 15 = 9) (kw : bits .and .u16 ((k : Int) / 16) 15 = 15) (ka : (k : Int) / 4096 = (ga : Int)) (kd : bits .and .u16 ((k : Int) / 256) 15 = (gd : Int)) (kn : bits .and .u16 (h : Int) 15 = (gn : Int)) (km : bits .and .u16 (k : Int) 15 = (gm : Int)) (ba : ga < 16) (bd : gd < 16) (bn : gn < 16) (bm : gm < 16) (hc : (ga = 15))
    (H1 : (oddS 0 || (oddS gd || (oddS gn || oddS gm))) = false → fin (r4 29 false gd gn gm 0) true x = X) (H2 : (oddS 0 || (oddS gd || (oddS gn || oddS gm))) = true → fin (startI 65 0 0) true x = X) 
    (w : World) : Calls Tryz.prog 76 #[.int .u16 h, .int .u16 k] w fun e w' => Two w X x e w' := by
  have QN : Hid _ := fun w => rodd_c gn w
  have QM : Hid _ := fun w => rodd_c gm w
  have QA : Hid _ := fun w => rodd_c 0 w
  have QD : Hid _ := fun w => rodd_c gd w
  subst hc
  replace ka : (k : Int) / 4096 = 15 := ka
  rw [show oddS 0 = false from rfl, Bool.false_or] at H1 H2
  have QZ : Hid (∀ w, Calls Tryz.prog 120 #[.int .i64 0] w fun e w' => e = .returned (.bool false) ∧ w' = w) := fun w => rodd_c 0 w
  clear QA
  have QA := QZ
  clear QZ
  generalize oddS (gd : Int) = od at *
  generalize oddS (gn : Int) = on at *
  generalize oddS (gm : Int) = om at *
  cases od
  focus
    cases on
    focus
      cases om
      focus
        have HX : Hid _ := H1 rfl
        clear H1 H2
      rotate_left 1
      focus
        have HX : Hid _ := H2 rfl
        clear H1 H2
      rotate_left 1
    rotate_left 2
    focus
      have HX : Hid _ := H2 rfl
      clear H1 H2
    rotate_left 1
  rotate_left 3
  focus
    have HX : Hid _ := H2 rfl
    clear H1 H2
  rotate_left 1
  all_goals
    go_enter Tryz.func76, Tryz.ntmps76
    have S := SH.start w
    go_wp2_with (first
     | ((with_reducible refine g_al 28 ?_); refine S.gal zI ?_; clear S; intro b w1 S)
     | (go_at_call 119; refine (rwide_c _ _).mono ?_; rintro e wf ⟨rfl, hbf⟩; replace S := S.below hbf; clear hbf)
     | ((with_reducible refine g_st 28 ?_); refine S.gst (i := ?_) (c := ?_) rfl rfl ?_ ?_ ?_ ?_ ?_; rotate_left 2; (with_reducible first | exact gi0 | exact gi1 | exact gi2 | exact gi3 | exact gi4 | exact gi5); rfl; rfl; exact sI rfl; clear S; intro w1 S; (try simp only [Cel.cells, zL, List.set_cons_zero, List.set_cons_succ, startI, secondI, noneI, r4] at S))
     | ((with_reducible refine g_st 3 ?_); refine S.gs1 (i := ?_) (c := ?_) (cs := ?_) (.int _ _) s_int rfl rfl rfl ?_ ?_ ?_ ?_; rotate_left 3; (with_reducible first | exact gi0 | exact gi1 | exact gi2 | exact gi3 | exact gi4 | exact gi5); exact of_decide_eq_true rfl; exact rfl; clear S; intro w1 S; (try simp only [Cel.cells, zL, List.set_cons_zero, List.set_cons_succ, startI, secondI, noneI, r4] at S))
     | ((with_reducible refine g_ld 3 ?_); first | (refine g_skip rfl ?_) | (refine S.gld (i := ?_) (c := ?_) (v := ?_) Tryz.underlying3 rfl rfl rfl ?_ ?_ ?_; rotate_left 3; (with_reducible first | exact gi0 | exact gi1 | exact gi2 | exact gi3 | exact gi4 | exact gi5); exact rfl))
     | (go_at_call 120; first | (with_reducible refine (QA.out _).mono ?_; rintro e wf ⟨rfl, rfl⟩) | (with_reducible refine (QD.out _).mono ?_; rintro e wf ⟨rfl, rfl⟩) | (with_reducible refine (QN.out _).mono ?_; rintro e wf ⟨rfl, rfl⟩) | (with_reducible refine (QM.out _).mono ?_; rintro e wf ⟨rfl, rfl⟩))
     | ((with_reducible refine g_ld 28 ?_); first | (refine g_skip rfl ?_) | (refine S.gla (i := ?_) (c := ?_) Tryz.underlying28 rfl rfl rfl ?_ ?_ ?_; rotate_left 2; (with_reducible first | exact gi0 | exact gi1 | exact gi2 | exact gi3 | exact gi4 | exact gi5); exact sI rfl))
     | (go_at_call 118; refine (runp_c _).mono ?_; rintro e wf ⟨rfl, hbf⟩; replace S := S.below hbf; clear hbf))
    (try simp only [Exit.inBlock, Exit.then])
    apply bodyPost_ret
    refine S.gR2 (i := ?_) (c := ?_) Tryz.underlying28 rfl rfl rfl ?_ ?_
    rotate_left 2
    (with_reducible first | exact gi0 | exact gi1 | exact gi2 | exact gi3 | exact gi4 | exact gi5)
    exact sI rfl
    rfl
    exact ⟨_, _, rfl, HX.out, S.low⟩
theorem rmul_udiv (h k ga gd gn gm x : Nat) (X : IV) (kh : bits .and .u16 ((h : Int) / 16) 15 = 11) (kw : bits .and .u16 ((k : Int) / 16) 15 = 15) (ka : (k : Int) / 4096 = (ga : Int)) (kd : bits .and .u16 ((k : Int) / 256) 15 = (gd : Int)) (kn : bits .and .u16 (h : Int) 15 = (gn : Int)) (km : bits .and .u16 (k : Int) 15 = (gm : Int)) (ba : ga < 16) (bd : gd < 16) (bn : gn < 16) (bm : gm < 16) (hc : (ga = 15))
    (H1 : (oddS 0 || (oddS gd || (oddS gn || oddS gm))) = false → fin (r4 28 false gd gn gm 0) true x = X) (H2 : (oddS 0 || (oddS gd || (oddS gn || oddS gm))) = true → fin (startI 65 0 0) true x = X) 
    (w : World) : Calls Tryz.prog 76 #[.int .u16 h, .int .u16 k] w fun e w' => Two w X x e w' := by
  have QN : Hid _ := fun w => rodd_c gn w
  have QM : Hid _ := fun w => rodd_c gm w
  have QA : Hid _ := fun w => rodd_c 0 w
  have QD : Hid _ := fun w => rodd_c gd w
  subst hc
  replace ka : (k : Int) / 4096 = 15 := ka
  rw [show oddS 0 = false from rfl, Bool.false_or] at H1 H2
  have QZ : Hid (∀ w, Calls Tryz.prog 120 #[.int .i64 0] w fun e w' => e = .returned (.bool false) ∧ w' = w) := fun w => rodd_c 0 w
  clear QA
  have QA := QZ
  clear QZ
  generalize oddS (gd : Int) = od at *
  generalize oddS (gn : Int) = on at *
  generalize oddS (gm : Int) = om at *
  cases od
  focus
    cases on
    focus
      cases om
      focus
        have HX : Hid _ := H1 rfl
        clear H1 H2
      rotate_left 1
      focus
        have HX : Hid _ := H2 rfl
        clear H1 H2
      rotate_left 1
    rotate_left 2
    focus
      have HX : Hid _ := H2 rfl
      clear H1 H2
    rotate_left 1
  rotate_left 3
  focus
    have HX : Hid _ := H2 rfl
    clear H1 H2
  rotate_left 1
  all_goals
    go_enter Tryz.func76, Tryz.ntmps76
    have S := SH.start w
    go_wp2_with (first
     | ((with_reducible refine g_al 28 ?_); refine S.gal zI ?_; clear S; intro b w1 S)
     | (go_at_call 119; refine (rwide_c _ _).mono ?_; rintro e wf ⟨rfl, hbf⟩; replace S := S.below hbf; clear hbf)
     | ((with_reducible refine g_st 28 ?_); refine S.gst (i := ?_) (c := ?_) rfl rfl ?_ ?_ ?_ ?_ ?_; rotate_left 2; (with_reducible first | exact gi0 | exact gi1 | exact gi2 | exact gi3 | exact gi4 | exact gi5); rfl; rfl; exact sI rfl; clear S; intro w1 S; (try simp only [Cel.cells, zL, List.set_cons_zero, List.set_cons_succ, startI, secondI, noneI, r4] at S))
     | ((with_reducible refine g_st 3 ?_); refine S.gs1 (i := ?_) (c := ?_) (cs := ?_) (.int _ _) s_int rfl rfl rfl ?_ ?_ ?_ ?_; rotate_left 3; (with_reducible first | exact gi0 | exact gi1 | exact gi2 | exact gi3 | exact gi4 | exact gi5); exact of_decide_eq_true rfl; exact rfl; clear S; intro w1 S; (try simp only [Cel.cells, zL, List.set_cons_zero, List.set_cons_succ, startI, secondI, noneI, r4] at S))
     | ((with_reducible refine g_ld 3 ?_); first | (refine g_skip rfl ?_) | (refine S.gld (i := ?_) (c := ?_) (v := ?_) Tryz.underlying3 rfl rfl rfl ?_ ?_ ?_; rotate_left 3; (with_reducible first | exact gi0 | exact gi1 | exact gi2 | exact gi3 | exact gi4 | exact gi5); exact rfl))
     | (go_at_call 120; first | (with_reducible refine (QA.out _).mono ?_; rintro e wf ⟨rfl, rfl⟩) | (with_reducible refine (QD.out _).mono ?_; rintro e wf ⟨rfl, rfl⟩) | (with_reducible refine (QN.out _).mono ?_; rintro e wf ⟨rfl, rfl⟩) | (with_reducible refine (QM.out _).mono ?_; rintro e wf ⟨rfl, rfl⟩))
     | ((with_reducible refine g_ld 28 ?_); first | (refine g_skip rfl ?_) | (refine S.gla (i := ?_) (c := ?_) Tryz.underlying28 rfl rfl rfl ?_ ?_ ?_; rotate_left 2; (with_reducible first | exact gi0 | exact gi1 | exact gi2 | exact gi3 | exact gi4 | exact gi5); exact sI rfl))
     | (go_at_call 118; refine (runp_c _).mono ?_; rintro e wf ⟨rfl, hbf⟩; replace S := S.below hbf; clear hbf))
    (try simp only [Exit.inBlock, Exit.then])
    apply bodyPost_ret
    refine S.gR2 (i := ?_) (c := ?_) Tryz.underlying28 rfl rfl rfl ?_ ?_
    rotate_left 2
    (with_reducible first | exact gi0 | exact gi1 | exact gi2 | exact gi3 | exact gi4 | exact gi5)
    exact sI rfl
    rfl
    exact ⟨_, _, rfl, HX.out, S.low⟩
end Go.Proofs.YtplhblhopaheeaaGreatDoor
