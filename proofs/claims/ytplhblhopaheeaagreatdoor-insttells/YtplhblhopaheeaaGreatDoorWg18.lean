/- Stage 9: the document: long products. -/
import Derived.Test.YtplhblhopaheeaaGreatDoorWg1
import Derived.Test.YtplhblhopaheeaaGreatDoorYa
namespace Go.Proofs.YtplhblhopaheeaaGreatDoor
open Go.ChangeShapes Go.WideShapes Go.ChangeAt Go.RowKit
set_option linter.unusedVariables false
set_option linter.unusedSimpArgs false
set_option maxHeartbeats 20000000
set_option maxRecDepth 100000

theorem rmul_long8 (h k ga gd gn gm x : Nat) (X : IV) (kh : bits .and .u16 ((h : Int) / 16) 15 = 8) (kw : bits .and .u16 ((k : Int) / 16) 15 = 0) (ka : (k : Int) / 4096 = (ga : Int)) (kd : bits .and .u16 ((k : Int) / 256) 15 = (gd : Int)) (kn : bits .and .u16 (h : Int) 15 = (gn : Int)) (km : bits .and .u16 (k : Int) 15 = (gm : Int)) (ba : ga < 16) (bd : gd < 16) (bn : gn < 16) (bm : gm < 16) (hc : True) (kz : bits .and .u16 ((h : Int) / 32) 3 = 0)
    (H1 : (oddS gd || (oddS ga || (oddS gn || oddS gm))) = false → ga ≠ gd → fin (r4 25 false ga gn gm gd) true x = X) (H2 : (oddS gd || (oddS ga || (oddS gn || oddS gm))) = true → fin (startI 65 0 0) true x = X) (H3 : ga = gd → fin (startI 65 0 0) true x = X)
    (w : World) : Calls Tryz.prog 76 #[.int .u16 h, .int .u16 k] w fun e w' => Two w X x e w' := by
  have QN : Hid _ := fun w => rodd_c gn w
  have QM : Hid _ := fun w => rodd_c gm w
  have QA : Hid _ := fun w => rodd_c gd w
  have QD : Hid _ := fun w => rodd_c ga w
  clear hc
  generalize oddS (gd : Int) = oa at *
  generalize oddS (ga : Int) = od at *
  generalize oddS (gn : Int) = on at *
  generalize oddS (gm : Int) = om at *
  rcases (show ga = gd ∨ ga ≠ gd by omega) with hq | hq
  focus
    have q1 : ((ga : Int) == (gd : Int)) = true := by rw [hq]; exact beq_self_eq_true _
    have HX : Hid _ := H3 hq
    clear H1 H2 H3
  rotate_left 1
  focus
    have q1 : ((ga : Int) == (gd : Int)) = false := by simp; omega
    cases oa
    focus
      cases od
      focus
        cases on
        focus
          cases om
          focus
            have HX : Hid _ := H1 rfl hq
            clear H1 H2 H3
          rotate_left 1
          focus
            have HX : Hid _ := H2 rfl
            clear H1 H2 H3
          rotate_left 1
        rotate_left 2
        focus
          have HX : Hid _ := H2 rfl
          clear H1 H2 H3
        rotate_left 1
      rotate_left 3
      focus
        have HX : Hid _ := H2 rfl
        clear H1 H2 H3
      rotate_left 1
    rotate_left 4
    focus
      have HX : Hid _ := H2 rfl
      clear H1 H2 H3
    rotate_left 1
  rotate_left 5
  all_goals
    go_enter Tryz.func76, Tryz.ntmps76
    have S := SH.start w
    go_wp2_with (first
     | ((with_reducible refine g_al 28 ?_); refine S.gal zI ?_; clear S; intro b w1 S)
     | (go_at_call 119; refine (rwide_c _ _).mono ?_; rintro e wf ⟨rfl, hbf⟩; replace S := S.below hbf; clear hbf)
     | ((with_reducible refine g_st 28 ?_); refine S.gst (i := ?_) (c := ?_) rfl rfl ?_ ?_ ?_ ?_ ?_; rotate_left 2; (with_reducible first | exact gi0 | exact gi1 | exact gi2 | exact gi3 | exact gi4 | exact gi5); rfl; rfl; exact sI rfl; clear S; intro w1 S; (try simp only [Cel.cells, zL, List.set_cons_zero, List.set_cons_succ, startI, secondI, noneI, r4] at S))
     | ((with_reducible refine g_st 3 ?_); refine S.gs1 (i := ?_) (c := ?_) (cs := ?_) (.int _ _) s_int rfl rfl rfl ?_ ?_ ?_ ?_; rotate_left 3; (with_reducible first | exact gi0 | exact gi1 | exact gi2 | exact gi3 | exact gi4 | exact gi5); exact of_decide_eq_true rfl; exact rfl; clear S; intro w1 S; (try simp only [Cel.cells, zL, List.set_cons_zero, List.set_cons_succ, startI, secondI, noneI, r4] at S))
     | ((with_reducible refine wpl_isDst 125 ?_); refine S.gsl [.int .i64 25, .int .i64 24, .int .i64 27, .int .i64 26] 3 (by kernel_rfl) ?_; clear S; intro g w1 S)
     | ((with_reducible refine g_ld 3 ?_); first | (refine g_skip rfl ?_) | (refine S.gld (i := ?_) (c := ?_) (v := ?_) Tryz.underlying3 rfl rfl rfl ?_ ?_ ?_; rotate_left 3; (with_reducible first | exact gi0 | exact gi1 | exact gi2 | exact gi3 | exact gi4 | exact gi5); exact rfl))
     | (go_at_call 118; refine (runp_c _).mono ?_; rintro e wf ⟨rfl, hbf⟩; replace S := S.below hbf; clear hbf)
     | (go_at_call 120; first | (with_reducible refine (QA.out _).mono ?_; rintro e wf ⟨rfl, rfl⟩) | (with_reducible refine (QD.out _).mono ?_; rintro e wf ⟨rfl, rfl⟩) | (with_reducible refine (QN.out _).mono ?_; rintro e wf ⟨rfl, rfl⟩) | (with_reducible refine (QM.out _).mono ?_; rintro e wf ⟨rfl, rfl⟩))
     | ((with_reducible refine g_ld 28 ?_); first | (refine g_skip rfl ?_) | (refine S.gla (i := ?_) (c := ?_) Tryz.underlying28 rfl rfl rfl ?_ ?_ ?_; rotate_left 2; (with_reducible first | exact gi0 | exact gi1 | exact gi2 | exact gi3 | exact gi4 | exact gi5); exact sI rfl)))
    (try simp only [Exit.inBlock, Exit.then])
    apply bodyPost_ret
    refine S.gR2 (i := ?_) (c := ?_) Tryz.underlying28 rfl rfl rfl ?_ ?_
    rotate_left 2
    (with_reducible first | exact gi0 | exact gi1 | exact gi2 | exact gi3 | exact gi4 | exact gi5)
    exact sI rfl
    rfl
    exact ⟨_, _, rfl, HX.out, S.low⟩
theorem rmul_long10 (h k ga gd gn gm x : Nat) (X : IV) (kh : bits .and .u16 ((h : Int) / 16) 15 = 10) (kw : bits .and .u16 ((k : Int) / 16) 15 = 0) (ka : (k : Int) / 4096 = (ga : Int)) (kd : bits .and .u16 ((k : Int) / 256) 15 = (gd : Int)) (kn : bits .and .u16 (h : Int) 15 = (gn : Int)) (km : bits .and .u16 (k : Int) 15 = (gm : Int)) (ba : ga < 16) (bd : gd < 16) (bn : gn < 16) (bm : gm < 16) (hc : True) (kz : bits .and .u16 ((h : Int) / 32) 3 = 1)
    (H1 : (oddS gd || (oddS ga || (oddS gn || oddS gm))) = false → ga ≠ gd → fin (r4 24 false ga gn gm gd) true x = X) (H2 : (oddS gd || (oddS ga || (oddS gn || oddS gm))) = true → fin (startI 65 0 0) true x = X) (H3 : ga = gd → fin (startI 65 0 0) true x = X)
    (w : World) : Calls Tryz.prog 76 #[.int .u16 h, .int .u16 k] w fun e w' => Two w X x e w' := by
  have QN : Hid _ := fun w => rodd_c gn w
  have QM : Hid _ := fun w => rodd_c gm w
  have QA : Hid _ := fun w => rodd_c gd w
  have QD : Hid _ := fun w => rodd_c ga w
  clear hc
  generalize oddS (gd : Int) = oa at *
  generalize oddS (ga : Int) = od at *
  generalize oddS (gn : Int) = on at *
  generalize oddS (gm : Int) = om at *
  rcases (show ga = gd ∨ ga ≠ gd by omega) with hq | hq
  focus
    have q1 : ((ga : Int) == (gd : Int)) = true := by rw [hq]; exact beq_self_eq_true _
    have HX : Hid _ := H3 hq
    clear H1 H2 H3
  rotate_left 1
  focus
    have q1 : ((ga : Int) == (gd : Int)) = false := by simp; omega
    cases oa
    focus
      cases od
      focus
        cases on
        focus
          cases om
          focus
            have HX : Hid _ := H1 rfl hq
            clear H1 H2 H3
          rotate_left 1
          focus
            have HX : Hid _ := H2 rfl
            clear H1 H2 H3
          rotate_left 1
        rotate_left 2
        focus
          have HX : Hid _ := H2 rfl
          clear H1 H2 H3
        rotate_left 1
      rotate_left 3
      focus
        have HX : Hid _ := H2 rfl
        clear H1 H2 H3
      rotate_left 1
    rotate_left 4
    focus
      have HX : Hid _ := H2 rfl
      clear H1 H2 H3
    rotate_left 1
  rotate_left 5
  all_goals
    go_enter Tryz.func76, Tryz.ntmps76
    have S := SH.start w
    go_wp2_with (first
     | ((with_reducible refine g_al 28 ?_); refine S.gal zI ?_; clear S; intro b w1 S)
     | (go_at_call 119; refine (rwide_c _ _).mono ?_; rintro e wf ⟨rfl, hbf⟩; replace S := S.below hbf; clear hbf)
     | ((with_reducible refine g_st 28 ?_); refine S.gst (i := ?_) (c := ?_) rfl rfl ?_ ?_ ?_ ?_ ?_; rotate_left 2; (with_reducible first | exact gi0 | exact gi1 | exact gi2 | exact gi3 | exact gi4 | exact gi5); rfl; rfl; exact sI rfl; clear S; intro w1 S; (try simp only [Cel.cells, zL, List.set_cons_zero, List.set_cons_succ, startI, secondI, noneI, r4] at S))
     | ((with_reducible refine g_st 3 ?_); refine S.gs1 (i := ?_) (c := ?_) (cs := ?_) (.int _ _) s_int rfl rfl rfl ?_ ?_ ?_ ?_; rotate_left 3; (with_reducible first | exact gi0 | exact gi1 | exact gi2 | exact gi3 | exact gi4 | exact gi5); exact of_decide_eq_true rfl; exact rfl; clear S; intro w1 S; (try simp only [Cel.cells, zL, List.set_cons_zero, List.set_cons_succ, startI, secondI, noneI, r4] at S))
     | ((with_reducible refine wpl_isDst 125 ?_); refine S.gsl [.int .i64 25, .int .i64 24, .int .i64 27, .int .i64 26] 3 (by kernel_rfl) ?_; clear S; intro g w1 S)
     | ((with_reducible refine g_ld 3 ?_); first | (refine g_skip rfl ?_) | (refine S.gld (i := ?_) (c := ?_) (v := ?_) Tryz.underlying3 rfl rfl rfl ?_ ?_ ?_; rotate_left 3; (with_reducible first | exact gi0 | exact gi1 | exact gi2 | exact gi3 | exact gi4 | exact gi5); exact rfl))
     | (go_at_call 118; refine (runp_c _).mono ?_; rintro e wf ⟨rfl, hbf⟩; replace S := S.below hbf; clear hbf)
     | (go_at_call 120; first | (with_reducible refine (QA.out _).mono ?_; rintro e wf ⟨rfl, rfl⟩) | (with_reducible refine (QD.out _).mono ?_; rintro e wf ⟨rfl, rfl⟩) | (with_reducible refine (QN.out _).mono ?_; rintro e wf ⟨rfl, rfl⟩) | (with_reducible refine (QM.out _).mono ?_; rintro e wf ⟨rfl, rfl⟩))
     | ((with_reducible refine g_ld 28 ?_); first | (refine g_skip rfl ?_) | (refine S.gla (i := ?_) (c := ?_) Tryz.underlying28 rfl rfl rfl ?_ ?_ ?_; rotate_left 2; (with_reducible first | exact gi0 | exact gi1 | exact gi2 | exact gi3 | exact gi4 | exact gi5); exact sI rfl)))
    (try simp only [Exit.inBlock, Exit.then])
    apply bodyPost_ret
    refine S.gR2 (i := ?_) (c := ?_) Tryz.underlying28 rfl rfl rfl ?_ ?_
    rotate_left 2
    (with_reducible first | exact gi0 | exact gi1 | exact gi2 | exact gi3 | exact gi4 | exact gi5)
    exact sI rfl
    rfl
    exact ⟨_, _, rfl, HX.out, S.low⟩
theorem rmul_long12 (h k ga gd gn gm x : Nat) (X : IV) (kh : bits .and .u16 ((h : Int) / 16) 15 = 12) (kw : bits .and .u16 ((k : Int) / 16) 15 = 0) (ka : (k : Int) / 4096 = (ga : Int)) (kd : bits .and .u16 ((k : Int) / 256) 15 = (gd : Int)) (kn : bits .and .u16 (h : Int) 15 = (gn : Int)) (km : bits .and .u16 (k : Int) 15 = (gm : Int)) (ba : ga < 16) (bd : gd < 16) (bn : gn < 16) (bm : gm < 16) (hc : True) (kz : bits .and .u16 ((h : Int) / 32) 3 = 2)
    (H1 : (oddS gd || (oddS ga || (oddS gn || oddS gm))) = false → ga ≠ gd → fin (r4 27 false ga gn gm gd) true x = X) (H2 : (oddS gd || (oddS ga || (oddS gn || oddS gm))) = true → fin (startI 65 0 0) true x = X) (H3 : ga = gd → fin (startI 65 0 0) true x = X)
    (w : World) : Calls Tryz.prog 76 #[.int .u16 h, .int .u16 k] w fun e w' => Two w X x e w' := by
  have QN : Hid _ := fun w => rodd_c gn w
  have QM : Hid _ := fun w => rodd_c gm w
  have QA : Hid _ := fun w => rodd_c gd w
  have QD : Hid _ := fun w => rodd_c ga w
  clear hc
  generalize oddS (gd : Int) = oa at *
  generalize oddS (ga : Int) = od at *
  generalize oddS (gn : Int) = on at *
  generalize oddS (gm : Int) = om at *
  rcases (show ga = gd ∨ ga ≠ gd by omega) with hq | hq
  focus
    have q1 : ((ga : Int) == (gd : Int)) = true := by rw [hq]; exact beq_self_eq_true _
    have HX : Hid _ := H3 hq
    clear H1 H2 H3
  rotate_left 1
  focus
    have q1 : ((ga : Int) == (gd : Int)) = false := by simp; omega
    cases oa
    focus
      cases od
      focus
        cases on
        focus
          cases om
          focus
            have HX : Hid _ := H1 rfl hq
            clear H1 H2 H3
          rotate_left 1
          focus
            have HX : Hid _ := H2 rfl
            clear H1 H2 H3
          rotate_left 1
        rotate_left 2
        focus
          have HX : Hid _ := H2 rfl
          clear H1 H2 H3
        rotate_left 1
      rotate_left 3
      focus
        have HX : Hid _ := H2 rfl
        clear H1 H2 H3
      rotate_left 1
    rotate_left 4
    focus
      have HX : Hid _ := H2 rfl
      clear H1 H2 H3
    rotate_left 1
  rotate_left 5
  all_goals
    go_enter Tryz.func76, Tryz.ntmps76
    have S := SH.start w
    go_wp2_with (first
     | ((with_reducible refine g_al 28 ?_); refine S.gal zI ?_; clear S; intro b w1 S)
     | (go_at_call 119; refine (rwide_c _ _).mono ?_; rintro e wf ⟨rfl, hbf⟩; replace S := S.below hbf; clear hbf)
     | ((with_reducible refine g_st 28 ?_); refine S.gst (i := ?_) (c := ?_) rfl rfl ?_ ?_ ?_ ?_ ?_; rotate_left 2; (with_reducible first | exact gi0 | exact gi1 | exact gi2 | exact gi3 | exact gi4 | exact gi5); rfl; rfl; exact sI rfl; clear S; intro w1 S; (try simp only [Cel.cells, zL, List.set_cons_zero, List.set_cons_succ, startI, secondI, noneI, r4] at S))
     | ((with_reducible refine g_st 3 ?_); refine S.gs1 (i := ?_) (c := ?_) (cs := ?_) (.int _ _) s_int rfl rfl rfl ?_ ?_ ?_ ?_; rotate_left 3; (with_reducible first | exact gi0 | exact gi1 | exact gi2 | exact gi3 | exact gi4 | exact gi5); exact of_decide_eq_true rfl; exact rfl; clear S; intro w1 S; (try simp only [Cel.cells, zL, List.set_cons_zero, List.set_cons_succ, startI, secondI, noneI, r4] at S))
     | ((with_reducible refine wpl_isDst 125 ?_); refine S.gsl [.int .i64 25, .int .i64 24, .int .i64 27, .int .i64 26] 3 (by kernel_rfl) ?_; clear S; intro g w1 S)
     | ((with_reducible refine g_ld 3 ?_); first | (refine g_skip rfl ?_) | (refine S.gld (i := ?_) (c := ?_) (v := ?_) Tryz.underlying3 rfl rfl rfl ?_ ?_ ?_; rotate_left 3; (with_reducible first | exact gi0 | exact gi1 | exact gi2 | exact gi3 | exact gi4 | exact gi5); exact rfl))
     | (go_at_call 118; refine (runp_c _).mono ?_; rintro e wf ⟨rfl, hbf⟩; replace S := S.below hbf; clear hbf)
     | (go_at_call 120; first | (with_reducible refine (QA.out _).mono ?_; rintro e wf ⟨rfl, rfl⟩) | (with_reducible refine (QD.out _).mono ?_; rintro e wf ⟨rfl, rfl⟩) | (with_reducible refine (QN.out _).mono ?_; rintro e wf ⟨rfl, rfl⟩) | (with_reducible refine (QM.out _).mono ?_; rintro e wf ⟨rfl, rfl⟩))
     | ((with_reducible refine g_ld 28 ?_); first | (refine g_skip rfl ?_) | (refine S.gla (i := ?_) (c := ?_) Tryz.underlying28 rfl rfl rfl ?_ ?_ ?_; rotate_left 2; (with_reducible first | exact gi0 | exact gi1 | exact gi2 | exact gi3 | exact gi4 | exact gi5); exact sI rfl)))
    (try simp only [Exit.inBlock, Exit.then])
    apply bodyPost_ret
    refine S.gR2 (i := ?_) (c := ?_) Tryz.underlying28 rfl rfl rfl ?_ ?_
    rotate_left 2
    (with_reducible first | exact gi0 | exact gi1 | exact gi2 | exact gi3 | exact gi4 | exact gi5)
    exact sI rfl
    rfl
    exact ⟨_, _, rfl, HX.out, S.low⟩
theorem rmul_long14 (h k ga gd gn gm x : Nat) (X : IV) (kh : bits .and .u16 ((h : Int) / 16) 15 = 14) (kw : bits .and .u16 ((k : Int) / 16) 15 = 0) (ka : (k : Int) / 4096 = (ga : Int)) (kd : bits .and .u16 ((k : Int) / 256) 15 = (gd : Int)) (kn : bits .and .u16 (h : Int) 15 = (gn : Int)) (km : bits .and .u16 (k : Int) 15 = (gm : Int)) (ba : ga < 16) (bd : gd < 16) (bn : gn < 16) (bm : gm < 16) (hc : True) (kz : bits .and .u16 ((h : Int) / 32) 3 = 3)
    (H1 : (oddS gd || (oddS ga || (oddS gn || oddS gm))) = false → ga ≠ gd → fin (r4 26 false ga gn gm gd) true x = X) (H2 : (oddS gd || (oddS ga || (oddS gn || oddS gm))) = true → fin (startI 65 0 0) true x = X) (H3 : ga = gd → fin (startI 65 0 0) true x = X)
    (w : World) : Calls Tryz.prog 76 #[.int .u16 h, .int .u16 k] w fun e w' => Two w X x e w' := by
  have QN : Hid _ := fun w => rodd_c gn w
  have QM : Hid _ := fun w => rodd_c gm w
  have QA : Hid _ := fun w => rodd_c gd w
  have QD : Hid _ := fun w => rodd_c ga w
  clear hc
  generalize oddS (gd : Int) = oa at *
  generalize oddS (ga : Int) = od at *
  generalize oddS (gn : Int) = on at *
  generalize oddS (gm : Int) = om at *
  rcases (show ga = gd ∨ ga ≠ gd by omega) with hq | hq
  focus
    have q1 : ((ga : Int) == (gd : Int)) = true := by rw [hq]; exact beq_self_eq_true _
    have HX : Hid _ := H3 hq
    clear H1 H2 H3
  rotate_left 1
  focus
    have q1 : ((ga : Int) == (gd : Int)) = false := by simp; omega
    cases oa
    focus
      cases od
      focus
        cases on
        focus
          cases om
          focus
            have HX : Hid _ := H1 rfl hq
            clear H1 H2 H3
          rotate_left 1
          focus
            have HX : Hid _ := H2 rfl
            clear H1 H2 H3
          rotate_left 1
        rotate_left 2
        focus
          have HX : Hid _ := H2 rfl
          clear H1 H2 H3
        rotate_left 1
      rotate_left 3
      focus
        have HX : Hid _ := H2 rfl
        clear H1 H2 H3
      rotate_left 1
    rotate_left 4
    focus
      have HX : Hid _ := H2 rfl
      clear H1 H2 H3
    rotate_left 1
  rotate_left 5
  all_goals
    go_enter Tryz.func76, Tryz.ntmps76
    have S := SH.start w
    go_wp2_with (first
     | ((with_reducible refine g_al 28 ?_); refine S.gal zI ?_; clear S; intro b w1 S)
     | (go_at_call 119; refine (rwide_c _ _).mono ?_; rintro e wf ⟨rfl, hbf⟩; replace S := S.below hbf; clear hbf)
     | ((with_reducible refine g_st 28 ?_); refine S.gst (i := ?_) (c := ?_) rfl rfl ?_ ?_ ?_ ?_ ?_; rotate_left 2; (with_reducible first | exact gi0 | exact gi1 | exact gi2 | exact gi3 | exact gi4 | exact gi5); rfl; rfl; exact sI rfl; clear S; intro w1 S; (try simp only [Cel.cells, zL, List.set_cons_zero, List.set_cons_succ, startI, secondI, noneI, r4] at S))
     | ((with_reducible refine g_st 3 ?_); refine S.gs1 (i := ?_) (c := ?_) (cs := ?_) (.int _ _) s_int rfl rfl rfl ?_ ?_ ?_ ?_; rotate_left 3; (with_reducible first | exact gi0 | exact gi1 | exact gi2 | exact gi3 | exact gi4 | exact gi5); exact of_decide_eq_true rfl; exact rfl; clear S; intro w1 S; (try simp only [Cel.cells, zL, List.set_cons_zero, List.set_cons_succ, startI, secondI, noneI, r4] at S))
     | ((with_reducible refine wpl_isDst 125 ?_); refine S.gsl [.int .i64 25, .int .i64 24, .int .i64 27, .int .i64 26] 3 (by kernel_rfl) ?_; clear S; intro g w1 S)
     | ((with_reducible refine g_ld 3 ?_); first | (refine g_skip rfl ?_) | (refine S.gld (i := ?_) (c := ?_) (v := ?_) Tryz.underlying3 rfl rfl rfl ?_ ?_ ?_; rotate_left 3; (with_reducible first | exact gi0 | exact gi1 | exact gi2 | exact gi3 | exact gi4 | exact gi5); exact rfl))
     | (go_at_call 118; refine (runp_c _).mono ?_; rintro e wf ⟨rfl, hbf⟩; replace S := S.below hbf; clear hbf)
     | (go_at_call 120; first | (with_reducible refine (QA.out _).mono ?_; rintro e wf ⟨rfl, rfl⟩) | (with_reducible refine (QD.out _).mono ?_; rintro e wf ⟨rfl, rfl⟩) | (with_reducible refine (QN.out _).mono ?_; rintro e wf ⟨rfl, rfl⟩) | (with_reducible refine (QM.out _).mono ?_; rintro e wf ⟨rfl, rfl⟩))
     | ((with_reducible refine g_ld 28 ?_); first | (refine g_skip rfl ?_) | (refine S.gla (i := ?_) (c := ?_) Tryz.underlying28 rfl rfl rfl ?_ ?_ ?_; rotate_left 2; (with_reducible first | exact gi0 | exact gi1 | exact gi2 | exact gi3 | exact gi4 | exact gi5); exact sI rfl)))
    (try simp only [Exit.inBlock, Exit.then])
    apply bodyPost_ret
    refine S.gR2 (i := ?_) (c := ?_) Tryz.underlying28 rfl rfl rfl ?_ ?_
    rotate_left 2
    (with_reducible first | exact gi0 | exact gi1 | exact gi2 | exact gi3 | exact gi4 | exact gi5)
    exact sI rfl
    rfl
    exact ⟨_, _, rfl, HX.out, S.low⟩
end Go.Proofs.YtplhblhopaheeaaGreatDoor
