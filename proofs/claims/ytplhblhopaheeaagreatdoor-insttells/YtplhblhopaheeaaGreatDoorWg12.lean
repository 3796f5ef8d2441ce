/- Stage 9: the document: loads and stores. -/
import Derived.Test.YtplhblhopaheeaaGreatDoorWg1
import Derived.Test.YtplhblhopaheeaaGreatDoorYa
namespace Go.Proofs.YtplhblhopaheeaaGreatDoor
open Go.ChangeShapes Go.WideShapes Go.ChangeAt Go.RowKit
set_option linter.unusedVariables false
set_option linter.unusedSimpArgs false
set_option maxHeartbeats 20000000
set_option maxRecDepth 100000

theorem rmem_000 (h k gn gd g7 B g6 gm gj : Nat) (x : Nat) (X : IV) (kg : bits .and .u16 ((h : Int) / 256) 1 = 0) (kz : bits .and .u16 ((h : Int) / 32) 3 = 0) (kl : bits .and .u16 ((h : Int) / 16) 1 = 0) (kn : bits .and .u16 (h : Int) 15 = (gn : Int)) (kd : (k : Int) / 4096 = (gd : Int)) (k7 : bits .and .u16 ((h : Int) / 128) 1 = (g7 : Int)) (kB : bits .and .u16 (k : Int) 4095 = (B : Int)) (k6 : bits .and .u16 ((k : Int) / 64) 63 = (g6 : Int)) (km : bits .and .u16 (k : Int) 15 = (gm : Int)) (kj : bits .and .u16 ((k : Int) / 16) 3 = (gj : Int))
    (bn : gn < 16) (bd : gd < 16) (b7 : g7 < 2) (bB : B < 4096) (b6 : g6 < 64) (bm : gm < 16) (bj : gj < 4)
    (H0 : gn = 15 → g7 = 0 → B = 0 → 0 = 1 → fin (startI 65 0 0) true x = X)
    (H1 : ∀ v : Int, (gn = 15 ∧ g7 = 1 ∧ v = (B : Int) ∧ 0 = 1) ∨ (gn = 15 ∧ g7 = 0 ∧ B ≠ 0 ∧ v = -(B : Int) % 4294967296 ∧ 0 = 1) ∨ (gn ≠ 15 ∧ g7 = 1 ∧ v = (B : Int)) → fin (bif oddS gd then startI 65 0 0 else { startI 50 gd gn with imm := v, useImm := true }) true x = X)
    (H2 : gn ≠ 15 → g7 = 0 → g6 = 0 → fin (bif oddS gd || oddS gm then startI 65 0 0 else memI (startI 50 gd gn) gm gj) true x = X)
    (H3 : gn ≠ 15 → g7 = 0 → g6 ≠ 0 → fin (startI 50 gd gn) false x = X)
    (HN : gn = 15 → 0 = 0 → fin IV.zero false x = X) (w : World) : Calls Tryz.prog 77 #[.int .u16 h, .int .u16 k] w fun e w' => Two w X x e w' := by
  have QN : Hid _ := HN
  have QD : Hid _ := fun w => rodd_c gd w
  have QM : Hid _ := fun w => rodd_c gm w
  have QZ : Hid (∀ w, Calls Tryz.prog 120 #[.int .i64 0] w fun e w' => e = .returned (.bool false) ∧ w' = w) := fun w => rodd_c 0 w
  rcases (show gn = 15 ∨ gn ≠ 15 by omega) with e | hn
  focus
    subst e
    replace kn : bits .and .u16 (h : Int) 15 = 15 := kn
    have HX : Hid _ := HN rfl rfl
    clear H0 H1 H2 H3 HN
  rotate_left 1
  focus
    have hn2 : ((gn : Int) == 15) = false := by simp; omega
    rcases (show g7 = 0 ∨ g7 = 1 by omega) with rfl | rfl
    focus
      rw [show ((0 : Nat) : Int) = 0 from rfl] at k7
      rcases (show g6 = 0 ∨ g6 ≠ 0 by omega) with rfl | h6
      focus
        have HY := H2 hn rfl rfl
        clear H0 H1 H2 H3
        rw [show ((0 : Nat) : Int) = 0 from rfl] at k6
        generalize oddS gd = od at *
        generalize oddS gm = om at *
        cases od
        focus
          cases om
          focus
            have HX : Hid _ := HY
            clear HY
          rotate_left 1
          focus
            have HX : Hid _ := HY
            clear HY
          rotate_left 1
        rotate_left 2
        focus
          have HX : Hid _ := HY
          clear HY
        rotate_left 1
      rotate_left 3
      focus
        have h62 : ((g6 : Int) == 0) = false := by simp; omega
        have HX : Hid _ := H3 hn rfl h6
        clear H0 H1 H2 H3 h6
      rotate_left 1
    rotate_left 4
    focus
      rw [show ((1 : Nat) : Int) = 1 from rfl] at k7
      have HY := H1 (B : Int) (.inr (.inr ⟨hn, rfl, rfl⟩))
      clear H0 H1 H2 H3
      generalize oddS gd = od at *
      cases od
      focus
        have HX : Hid _ := HY
        clear HY
        clear hn
      rotate_left 1
      focus
        have HX : Hid _ := HY
        clear HY
        clear hn
      rotate_left 1
    rotate_left 2
  rotate_left 6
  all_goals
    go_enter Tryz.func77, Tryz.ntmps77
    have S := SH.start w
    go_wp2_with (first
     | ((with_reducible refine g_al 28 ?_); refine S.gal zI ?_; clear S; intro b w1 S)
     | ((with_reducible refine g_st 28 ?_); refine S.gst (i := ?_) (c := ?_) rfl rfl ?_ ?_ ?_ ?_ ?_; rotate_left 2; (with_reducible first | exact gi0 | exact gi1 | exact gi2 | exact gi3 | exact gi4 | exact gi5); rfl; rfl; exact sI rfl; clear S; intro w1 S; (try simp only [Cel.cells, zL, List.set_cons_zero, List.set_cons_succ, startI, secondI, noneI, memI] at S))
     | ((with_reducible refine wpl_isDst 50 ?_); refine S.gsl [.int .i64 50, .int .i64 51, .int .i64 49] 3 (by kernel_rfl) ?_; clear S; intro g w1 S)
     | ((with_reducible refine g_ld 3 ?_); first | (refine g_skip rfl ?_) | (refine S.gld (i := ?_) (c := ?_) (v := ?_) Tryz.underlying3 rfl rfl rfl ?_ ?_ ?_; rotate_left 3; (with_reducible first | exact gi0 | exact gi1 | exact gi2 | exact gi3 | exact gi4 | exact gi5); exact rfl))
     | (go_at_call 119; refine (rwide_c _ _).mono ?_; rintro e wf ⟨rfl, hbf⟩; replace S := S.below hbf; clear hbf)
     | ((with_reducible refine g_st 3 ?_); refine S.gs1 (i := ?_) (c := ?_) (cs := ?_) (.int _ _) s_int rfl rfl rfl ?_ ?_ ?_ ?_; rotate_left 3; (with_reducible first | exact gi0 | exact gi1 | exact gi2 | exact gi3 | exact gi4 | exact gi5); exact of_decide_eq_true rfl; exact rfl; clear S; intro w1 S; (try simp only [Cel.cells, zL, List.set_cons_zero, List.set_cons_succ, startI, secondI, noneI, memI] at S))
     | (go_at_call 120; first | (with_reducible refine (QD.out _).mono ?_; rintro e wf ⟨rfl, rfl⟩) | (with_reducible refine (QM.out _).mono ?_; rintro e wf ⟨rfl, rfl⟩))
     | ((with_reducible refine g_ld 28 ?_); first | (refine g_skip rfl ?_) | (refine S.gla (i := ?_) (c := ?_) Tryz.underlying28 rfl rfl rfl ?_ ?_ ?_; rotate_left 2; (with_reducible first | exact gi0 | exact gi1 | exact gi2 | exact gi3 | exact gi4 | exact gi5); exact sI rfl))
     | (go_at_call 118; refine (runp_c _).mono ?_; rintro e wf ⟨rfl, hbf⟩; replace S := S.below hbf; clear hbf)
     | ((with_reducible refine g_st 26 ?_); refine S.gs1 (i := ?_) (c := ?_) (cs := ?_) (.int _ _) s_u32 rfl rfl rfl ?_ ?_ ?_ ?_; rotate_left 3; (with_reducible first | exact gi0 | exact gi1 | exact gi2 | exact gi3 | exact gi4 | exact gi5); exact of_decide_eq_true rfl; exact rfl; clear S; intro w1 S; (try simp only [Cel.cells, zL, List.set_cons_zero, List.set_cons_succ, startI, secondI, noneI, memI] at S))
     | ((with_reducible refine g_st 4 ?_); refine S.gs1 (i := ?_) (c := ?_) (cs := ?_) (.bool _) s_bool rfl rfl rfl ?_ ?_ ?_ ?_; rotate_left 3; (with_reducible first | exact gi0 | exact gi1 | exact gi2 | exact gi3 | exact gi4 | exact gi5); exact of_decide_eq_true rfl; exact rfl; clear S; intro w1 S; (try simp only [Cel.cells, zL, List.set_cons_zero, List.set_cons_succ, startI, secondI, noneI, memI] at S))
     | (go_at_call 120; first | (with_reducible refine (QD.out _).mono ?_; rintro e wf ⟨rfl, rfl⟩) | (with_reducible refine (QZ.out _).mono ?_; rintro e wf ⟨rfl, rfl⟩)))
    (try simp only [Exit.inBlock, Exit.then])
    apply bodyPost_ret
    refine S.gR2 (i := ?_) (c := ?_) Tryz.underlying28 rfl rfl rfl ?_ ?_
    rotate_left 2
    (with_reducible first | exact gi0 | exact gi1 | exact gi2 | exact gi3 | exact gi4 | exact gi5)
    exact sI rfl
    rfl
    exact ⟨_, _, rfl, HX.out, S.low⟩
theorem rmem_001 (h k gn gd g7 B g6 gm gj : Nat) (x : Nat) (X : IV) (kg : bits .and .u16 ((h : Int) / 256) 1 = 0) (kz : bits .and .u16 ((h : Int) / 32) 3 = 0) (kl : bits .and .u16 ((h : Int) / 16) 1 = 1) (kn : bits .and .u16 (h : Int) 15 = (gn : Int)) (kd : (k : Int) / 4096 = (gd : Int)) (k7 : bits .and .u16 ((h : Int) / 128) 1 = (g7 : Int)) (kB : bits .and .u16 (k : Int) 4095 = (B : Int)) (k6 : bits .and .u16 ((k : Int) / 64) 63 = (g6 : Int)) (km : bits .and .u16 (k : Int) 15 = (gm : Int)) (kj : bits .and .u16 ((k : Int) / 16) 3 = (gj : Int))
    (bn : gn < 16) (bd : gd < 16) (b7 : g7 < 2) (bB : B < 4096) (b6 : g6 < 64) (bm : gm < 16) (bj : gj < 4)
    (H0 : gn = 15 → g7 = 0 → B = 0 → 1 = 1 → fin (startI 65 0 0) true x = X)
    (H1 : ∀ v : Int, (gn = 15 ∧ g7 = 1 ∧ v = (B : Int) ∧ 1 = 1) ∨ (gn = 15 ∧ g7 = 0 ∧ B ≠ 0 ∧ v = -(B : Int) % 4294967296 ∧ 1 = 1) ∨ (gn ≠ 15 ∧ g7 = 1 ∧ v = (B : Int)) → fin (bif oddS gd then startI 65 0 0 else { startI 45 gd gn with imm := v, useImm := true }) true x = X)
    (H2 : gn ≠ 15 → g7 = 0 → g6 = 0 → fin (bif oddS gd || oddS gm then startI 65 0 0 else memI (startI 45 gd gn) gm gj) true x = X)
    (H3 : gn ≠ 15 → g7 = 0 → g6 ≠ 0 → fin (startI 45 gd gn) false x = X)
    (HN : gn = 15 → 1 = 0 → fin IV.zero false x = X) (w : World) : Calls Tryz.prog 77 #[.int .u16 h, .int .u16 k] w fun e w' => Two w X x e w' := by
  have QN : Hid _ := HN
  have QD : Hid _ := fun w => rodd_c gd w
  have QM : Hid _ := fun w => rodd_c gm w
  have QZ : Hid (∀ w, Calls Tryz.prog 120 #[.int .i64 0] w fun e w' => e = .returned (.bool false) ∧ w' = w) := fun w => rodd_c 0 w
  rcases (show gn = 15 ∨ gn ≠ 15 by omega) with e | hn
  focus
    subst e
    replace kn : bits .and .u16 (h : Int) 15 = 15 := kn
    rcases (show g7 = 0 ∨ g7 = 1 by omega) with rfl | rfl
    focus
      rw [show ((0 : Nat) : Int) = 0 from rfl] at k7
      rcases (show B = 0 ∨ B ≠ 0 by omega) with rfl | hB
      focus
        rw [show ((0 : Nat) : Int) = 0 from rfl] at kB
        have HX : Hid _ := H0 rfl rfl rfl rfl
        clear H0 H1 H2 H3
      rotate_left 1
      focus
        have hB2 : ((B : Int) == 0) = false := by simp; omega
        have HY := H1 (-(B : Int) % 4294967296) (.inr (.inl ⟨rfl, rfl, hB, rfl, rfl⟩))
        clear H0 H1 H2 H3
        generalize oddS gd = od at *
        cases od
        focus
          have HX : Hid _ := HY
          clear HY
          clear hB
        rotate_left 1
        focus
          have HX : Hid _ := HY
          clear HY
          clear hB
        rotate_left 1
      rotate_left 2
    rotate_left 3
    focus
      rw [show ((1 : Nat) : Int) = 1 from rfl] at k7
      have HY := H1 (B : Int) (.inl ⟨rfl, rfl, rfl, rfl⟩)
      clear H0 H1 H2 H3
      generalize oddS gd = od at *
      cases od
      focus
        have HX : Hid _ := HY
        clear HY
      rotate_left 1
      focus
        have HX : Hid _ := HY
        clear HY
      rotate_left 1
    rotate_left 2
  rotate_left 5
  focus
    have hn2 : ((gn : Int) == 15) = false := by simp; omega
    rcases (show g7 = 0 ∨ g7 = 1 by omega) with rfl | rfl
    focus
      rw [show ((0 : Nat) : Int) = 0 from rfl] at k7
      rcases (show g6 = 0 ∨ g6 ≠ 0 by omega) with rfl | h6
      focus
        have HY := H2 hn rfl rfl
        clear H0 H1 H2 H3
        rw [show ((0 : Nat) : Int) = 0 from rfl] at k6
        generalize oddS gd = od at *
        generalize oddS gm = om at *
        cases od
        focus
          cases om
          focus
            have HX : Hid _ := HY
            clear HY
          rotate_left 1
          focus
            have HX : Hid _ := HY
            clear HY
          rotate_left 1
        rotate_left 2
        focus
          have HX : Hid _ := HY
          clear HY
        rotate_left 1
      rotate_left 3
      focus
        have h62 : ((g6 : Int) == 0) = false := by simp; omega
        have HX : Hid _ := H3 hn rfl h6
        clear H0 H1 H2 H3 h6
      rotate_left 1
    rotate_left 4
    focus
      rw [show ((1 : Nat) : Int) = 1 from rfl] at k7
      have HY := H1 (B : Int) (.inr (.inr ⟨hn, rfl, rfl⟩))
      clear H0 H1 H2 H3
      generalize oddS gd = od at *
      cases od
      focus
        have HX : Hid _ := HY
        clear HY
        clear hn
      rotate_left 1
      focus
        have HX : Hid _ := HY
        clear HY
        clear hn
      rotate_left 1
    rotate_left 2
  rotate_left 6
  all_goals
    go_enter Tryz.func77, Tryz.ntmps77
    have S := SH.start w
    go_wp2_with (first
     | ((with_reducible refine g_al 28 ?_); refine S.gal zI ?_; clear S; intro b w1 S)
     | ((with_reducible refine wpl_isDst 50 ?_); refine S.gsl [.int .i64 50, .int .i64 51, .int .i64 49] 3 (by kernel_rfl) ?_; clear S; intro g w1 S)
     | ((with_reducible refine g_ld 3 ?_); first | (refine g_skip rfl ?_) | (refine S.gld (i := ?_) (c := ?_) (v := ?_) Tryz.underlying3 rfl rfl rfl ?_ ?_ ?_; rotate_left 3; (with_reducible first | exact gi0 | exact gi1 | exact gi2 | exact gi3 | exact gi4 | exact gi5); exact rfl))
     | (go_at_call 119; refine (rwide_c _ _).mono ?_; rintro e wf ⟨rfl, hbf⟩; replace S := S.below hbf; clear hbf)
     | ((with_reducible refine g_st 28 ?_); refine S.gst (i := ?_) (c := ?_) rfl rfl ?_ ?_ ?_ ?_ ?_; rotate_left 2; (with_reducible first | exact gi0 | exact gi1 | exact gi2 | exact gi3 | exact gi4 | exact gi5); rfl; rfl; exact sI rfl; clear S; intro w1 S; (try simp only [Cel.cells, zL, List.set_cons_zero, List.set_cons_succ, startI, secondI, noneI, memI] at S))
     | ((with_reducible refine wpl_isDst 57 ?_); refine S.gsl [.int .i64 45, .int .i64 46, .int .i64 44] 3 (by kernel_rfl) ?_; clear S; intro g w1 S)
     | ((with_reducible refine g_st 3 ?_); refine S.gs1 (i := ?_) (c := ?_) (cs := ?_) (.int _ _) s_int rfl rfl rfl ?_ ?_ ?_ ?_; rotate_left 3; (with_reducible first | exact gi0 | exact gi1 | exact gi2 | exact gi3 | exact gi4 | exact gi5); exact of_decide_eq_true rfl; exact rfl; clear S; intro w1 S; (try simp only [Cel.cells, zL, List.set_cons_zero, List.set_cons_succ, startI, secondI, noneI, memI] at S))
     | ((with_reducible refine g_st 26 ?_); refine S.gs1 (i := ?_) (c := ?_) (cs := ?_) (.int _ _) s_u32 rfl rfl rfl ?_ ?_ ?_ ?_; rotate_left 3; (with_reducible first | exact gi0 | exact gi1 | exact gi2 | exact gi3 | exact gi4 | exact gi5); exact of_decide_eq_true rfl; exact rfl; clear S; intro w1 S; (try simp only [Cel.cells, zL, List.set_cons_zero, List.set_cons_succ, startI, secondI, noneI, memI] at S))
     | ((with_reducible refine g_st 4 ?_); refine S.gs1 (i := ?_) (c := ?_) (cs := ?_) (.bool _) s_bool rfl rfl rfl ?_ ?_ ?_ ?_; rotate_left 3; (with_reducible first | exact gi0 | exact gi1 | exact gi2 | exact gi3 | exact gi4 | exact gi5); exact of_decide_eq_true rfl; exact rfl; clear S; intro w1 S; (try simp only [Cel.cells, zL, List.set_cons_zero, List.set_cons_succ, startI, secondI, noneI, memI] at S))
     | ((with_reducible refine g_ld 26 ?_); first | (refine g_skip rfl ?_) | (refine S.gld (i := ?_) (c := ?_) (v := ?_) Tryz.underlying26 rfl rfl rfl ?_ ?_ ?_; rotate_left 3; (with_reducible first | exact gi0 | exact gi1 | exact gi2 | exact gi3 | exact gi4 | exact gi5); exact rfl))
     | (go_at_call 118; refine (runp_c _).mono ?_; rintro e wf ⟨rfl, hbf⟩; replace S := S.below hbf; clear hbf)
     | (go_at_call 120; first | (with_reducible refine (QD.out _).mono ?_; rintro e wf ⟨rfl, rfl⟩) | (with_reducible refine (QZ.out _).mono ?_; rintro e wf ⟨rfl, rfl⟩))
     | ((with_reducible refine g_ld 28 ?_); first | (refine g_skip rfl ?_) | (refine S.gla (i := ?_) (c := ?_) Tryz.underlying28 rfl rfl rfl ?_ ?_ ?_; rotate_left 2; (with_reducible first | exact gi0 | exact gi1 | exact gi2 | exact gi3 | exact gi4 | exact gi5); exact sI rfl))
     | (go_at_call 120; first | (with_reducible refine (QD.out _).mono ?_; rintro e wf ⟨rfl, rfl⟩) | (with_reducible refine (QM.out _).mono ?_; rintro e wf ⟨rfl, rfl⟩)))
    (try simp only [Exit.inBlock, Exit.then])
    apply bodyPost_ret
    refine S.gR2 (i := ?_) (c := ?_) Tryz.underlying28 rfl rfl rfl ?_ ?_
    rotate_left 2
    (with_reducible first | exact gi0 | exact gi1 | exact gi2 | exact gi3 | exact gi4 | exact gi5)
    exact sI rfl
    rfl
    exact ⟨_, _, rfl, HX.out, S.low⟩
theorem rmem_010 (h k gn gd g7 B g6 gm gj : Nat) (x : Nat) (X : IV) (kg : bits .and .u16 ((h : Int) / 256) 1 = 0) (kz : bits .and .u16 ((h : Int) / 32) 3 = 1) (kl : bits .and .u16 ((h : Int) / 16) 1 = 0) (kn : bits .and .u16 (h : Int) 15 = (gn : Int)) (kd : (k : Int) / 4096 = (gd : Int)) (k7 : bits .and .u16 ((h : Int) / 128) 1 = (g7 : Int)) (kB : bits .and .u16 (k : Int) 4095 = (B : Int)) (k6 : bits .and .u16 ((k : Int) / 64) 63 = (g6 : Int)) (km : bits .and .u16 (k : Int) 15 = (gm : Int)) (kj : bits .and .u16 ((k : Int) / 16) 3 = (gj : Int))
    (bn : gn < 16) (bd : gd < 16) (b7 : g7 < 2) (bB : B < 4096) (b6 : g6 < 64) (bm : gm < 16) (bj : gj < 4)
    (H0 : gn = 15 → g7 = 0 → B = 0 → 0 = 1 → fin (startI 65 0 0) true x = X)
    (H1 : ∀ v : Int, (gn = 15 ∧ g7 = 1 ∧ v = (B : Int) ∧ 0 = 1) ∨ (gn = 15 ∧ g7 = 0 ∧ B ≠ 0 ∧ v = -(B : Int) % 4294967296 ∧ 0 = 1) ∨ (gn ≠ 15 ∧ g7 = 1 ∧ v = (B : Int)) → fin (bif oddS gd then startI 65 0 0 else { startI 51 gd gn with imm := v, useImm := true }) true x = X)
    (H2 : gn ≠ 15 → g7 = 0 → g6 = 0 → fin (bif oddS gd || oddS gm then startI 65 0 0 else memI (startI 51 gd gn) gm gj) true x = X)
    (H3 : gn ≠ 15 → g7 = 0 → g6 ≠ 0 → fin (startI 51 gd gn) false x = X)
    (HN : gn = 15 → 0 = 0 → fin IV.zero false x = X) (w : World) : Calls Tryz.prog 77 #[.int .u16 h, .int .u16 k] w fun e w' => Two w X x e w' := by
  have QN : Hid _ := HN
  have QD : Hid _ := fun w => rodd_c gd w
  have QM : Hid _ := fun w => rodd_c gm w
  have QZ : Hid (∀ w, Calls Tryz.prog 120 #[.int .i64 0] w fun e w' => e = .returned (.bool false) ∧ w' = w) := fun w => rodd_c 0 w
  rcases (show gn = 15 ∨ gn ≠ 15 by omega) with e | hn
  focus
    subst e
    replace kn : bits .and .u16 (h : Int) 15 = 15 := kn
    have HX : Hid _ := HN rfl rfl
    clear H0 H1 H2 H3 HN
  rotate_left 1
  focus
    have hn2 : ((gn : Int) == 15) = false := by simp; omega
    rcases (show g7 = 0 ∨ g7 = 1 by omega) with rfl | rfl
    focus
      rw [show ((0 : Nat) : Int) = 0 from rfl] at k7
      rcases (show g6 = 0 ∨ g6 ≠ 0 by omega) with rfl | h6
      focus
        have HY := H2 hn rfl rfl
        clear H0 H1 H2 H3
        rw [show ((0 : Nat) : Int) = 0 from rfl] at k6
        generalize oddS gd = od at *
        generalize oddS gm = om at *
        cases od
        focus
          cases om
          focus
            have HX : Hid _ := HY
            clear HY
          rotate_left 1
          focus
            have HX : Hid _ := HY
            clear HY
          rotate_left 1
        rotate_left 2
        focus
          have HX : Hid _ := HY
          clear HY
        rotate_left 1
      rotate_left 3
      focus
        have h62 : ((g6 : Int) == 0) = false := by simp; omega
        have HX : Hid _ := H3 hn rfl h6
        clear H0 H1 H2 H3 h6
      rotate_left 1
    rotate_left 4
    focus
      rw [show ((1 : Nat) : Int) = 1 from rfl] at k7
      have HY := H1 (B : Int) (.inr (.inr ⟨hn, rfl, rfl⟩))
      clear H0 H1 H2 H3
      generalize oddS gd = od at *
      cases od
      focus
        have HX : Hid _ := HY
        clear HY
        clear hn
      rotate_left 1
      focus
        have HX : Hid _ := HY
        clear HY
        clear hn
      rotate_left 1
    rotate_left 2
  rotate_left 6
  all_goals
    go_enter Tryz.func77, Tryz.ntmps77
    have S := SH.start w
    go_wp2_with (first
     | ((with_reducible refine g_al 28 ?_); refine S.gal zI ?_; clear S; intro b w1 S)
     | ((with_reducible refine g_st 28 ?_); refine S.gst (i := ?_) (c := ?_) rfl rfl ?_ ?_ ?_ ?_ ?_; rotate_left 2; (with_reducible first | exact gi0 | exact gi1 | exact gi2 | exact gi3 | exact gi4 | exact gi5); rfl; rfl; exact sI rfl; clear S; intro w1 S; (try simp only [Cel.cells, zL, List.set_cons_zero, List.set_cons_succ, startI, secondI, noneI, memI] at S))
     | ((with_reducible refine wpl_isDst 50 ?_); refine S.gsl [.int .i64 50, .int .i64 51, .int .i64 49] 3 (by kernel_rfl) ?_; clear S; intro g w1 S)
     | ((with_reducible refine g_ld 3 ?_); first | (refine g_skip rfl ?_) | (refine S.gld (i := ?_) (c := ?_) (v := ?_) Tryz.underlying3 rfl rfl rfl ?_ ?_ ?_; rotate_left 3; (with_reducible first | exact gi0 | exact gi1 | exact gi2 | exact gi3 | exact gi4 | exact gi5); exact rfl))
     | (go_at_call 119; refine (rwide_c _ _).mono ?_; rintro e wf ⟨rfl, hbf⟩; replace S := S.below hbf; clear hbf)
     | ((with_reducible refine g_st 3 ?_); refine S.gs1 (i := ?_) (c := ?_) (cs := ?_) (.int _ _) s_int rfl rfl rfl ?_ ?_ ?_ ?_; rotate_left 3; (with_reducible first | exact gi0 | exact gi1 | exact gi2 | exact gi3 | exact gi4 | exact gi5); exact of_decide_eq_true rfl; exact rfl; clear S; intro w1 S; (try simp only [Cel.cells, zL, List.set_cons_zero, List.set_cons_succ, startI, secondI, noneI, memI] at S))
     | (go_at_call 120; first | (with_reducible refine (QD.out _).mono ?_; rintro e wf ⟨rfl, rfl⟩) | (with_reducible refine (QM.out _).mono ?_; rintro e wf ⟨rfl, rfl⟩))
     | ((with_reducible refine g_ld 28 ?_); first | (refine g_skip rfl ?_) | (refine S.gla (i := ?_) (c := ?_) Tryz.underlying28 rfl rfl rfl ?_ ?_ ?_; rotate_left 2; (with_reducible first | exact gi0 | exact gi1 | exact gi2 | exact gi3 | exact gi4 | exact gi5); exact sI rfl))
     | (go_at_call 118; refine (runp_c _).mono ?_; rintro e wf ⟨rfl, hbf⟩; replace S := S.below hbf; clear hbf)
     | ((with_reducible refine g_st 26 ?_); refine S.gs1 (i := ?_) (c := ?_) (cs := ?_) (.int _ _) s_u32 rfl rfl rfl ?_ ?_ ?_ ?_; rotate_left 3; (with_reducible first | exact gi0 | exact gi1 | exact gi2 | exact gi3 | exact gi4 | exact gi5); exact of_decide_eq_true rfl; exact rfl; clear S; intro w1 S; (try simp only [Cel.cells, zL, List.set_cons_zero, List.set_cons_succ, startI, secondI, noneI, memI] at S))
     | ((with_reducible refine g_st 4 ?_); refine S.gs1 (i := ?_) (c := ?_) (cs := ?_) (.bool _) s_bool rfl rfl rfl ?_ ?_ ?_ ?_; rotate_left 3; (with_reducible first | exact gi0 | exact gi1 | exact gi2 | exact gi3 | exact gi4 | exact gi5); exact of_decide_eq_true rfl; exact rfl; clear S; intro w1 S; (try simp only [Cel.cells, zL, List.set_cons_zero, List.set_cons_succ, startI, secondI, noneI, memI] at S))
     | (go_at_call 120; first | (with_reducible refine (QD.out _).mono ?_; rintro e wf ⟨rfl, rfl⟩) | (with_reducible refine (QZ.out _).mono ?_; rintro e wf ⟨rfl, rfl⟩)))
    (try simp only [Exit.inBlock, Exit.then])
    apply bodyPost_ret
    refine S.gR2 (i := ?_) (c := ?_) Tryz.underlying28 rfl rfl rfl ?_ ?_
    rotate_left 2
    (with_reducible first | exact gi0 | exact gi1 | exact gi2 | exact gi3 | exact gi4 | exact gi5)
    exact sI rfl
    rfl
    exact ⟨_, _, rfl, HX.out, S.low⟩
theorem rmem_011 (h k gn gd g7 B g6 gm gj : Nat) (x : Nat) (X : IV) (kg : bits .and .u16 ((h : Int) / 256) 1 = 0) (kz : bits .and .u16 ((h : Int) / 32) 3 = 1) (kl : bits .and .u16 ((h : Int) / 16) 1 = 1) (kn : bits .and .u16 (h : Int) 15 = (gn : Int)) (kd : (k : Int) / 4096 = (gd : Int)) (k7 : bits .and .u16 ((h : Int) / 128) 1 = (g7 : Int)) (kB : bits .and .u16 (k : Int) 4095 = (B : Int)) (k6 : bits .and .u16 ((k : Int) / 64) 63 = (g6 : Int)) (km : bits .and .u16 (k : Int) 15 = (gm : Int)) (kj : bits .and .u16 ((k : Int) / 16) 3 = (gj : Int))
    (bn : gn < 16) (bd : gd < 16) (b7 : g7 < 2) (bB : B < 4096) (b6 : g6 < 64) (bm : gm < 16) (bj : gj < 4)
    (H0 : gn = 15 → g7 = 0 → B = 0 → 1 = 1 → fin (startI 65 0 0) true x = X)
    (H1 : ∀ v : Int, (gn = 15 ∧ g7 = 1 ∧ v = (B : Int) ∧ 1 = 1) ∨ (gn = 15 ∧ g7 = 0 ∧ B ≠ 0 ∧ v = -(B : Int) % 4294967296 ∧ 1 = 1) ∨ (gn ≠ 15 ∧ g7 = 1 ∧ v = (B : Int)) → fin (bif oddS gd then startI 65 0 0 else { startI 46 gd gn with imm := v, useImm := true }) true x = X)
    (H2 : gn ≠ 15 → g7 = 0 → g6 = 0 → fin (bif oddS gd || oddS gm then startI 65 0 0 else memI (startI 46 gd gn) gm gj) true x = X)
    (H3 : gn ≠ 15 → g7 = 0 → g6 ≠ 0 → fin (startI 46 gd gn) false x = X)
    (HN : gn = 15 → 1 = 0 → fin IV.zero false x = X) (w : World) : Calls Tryz.prog 77 #[.int .u16 h, .int .u16 k] w fun e w' => Two w X x e w' := by
  have QN : Hid _ := HN
  have QD : Hid _ := fun w => rodd_c gd w
  have QM : Hid _ := fun w => rodd_c gm w
  have QZ : Hid (∀ w, Calls Tryz.prog 120 #[.int .i64 0] w fun e w' => e = .returned (.bool false) ∧ w' = w) := fun w => rodd_c 0 w
  rcases (show gn = 15 ∨ gn ≠ 15 by omega) with e | hn
  focus
    subst e
    replace kn : bits .and .u16 (h : Int) 15 = 15 := kn
    rcases (show g7 = 0 ∨ g7 = 1 by omega) with rfl | rfl
    focus
      rw [show ((0 : Nat) : Int) = 0 from rfl] at k7
      rcases (show B = 0 ∨ B ≠ 0 by omega) with rfl | hB
      focus
        rw [show ((0 : Nat) : Int) = 0 from rfl] at kB
        have HX : Hid _ := H0 rfl rfl rfl rfl
        clear H0 H1 H2 H3
      rotate_left 1
      focus
        have hB2 : ((B : Int) == 0) = false := by simp; omega
        have HY := H1 (-(B : Int) % 4294967296) (.inr (.inl ⟨rfl, rfl, hB, rfl, rfl⟩))
        clear H0 H1 H2 H3
        generalize oddS gd = od at *
        cases od
        focus
          have HX : Hid _ := HY
          clear HY
          clear hB
        rotate_left 1
        focus
          have HX : Hid _ := HY
          clear HY
          clear hB
        rotate_left 1
      rotate_left 2
    rotate_left 3
    focus
      rw [show ((1 : Nat) : Int) = 1 from rfl] at k7
      have HY := H1 (B : Int) (.inl ⟨rfl, rfl, rfl, rfl⟩)
      clear H0 H1 H2 H3
      generalize oddS gd = od at *
      cases od
      focus
        have HX : Hid _ := HY
        clear HY
      rotate_left 1
      focus
        have HX : Hid _ := HY
        clear HY
      rotate_left 1
    rotate_left 2
  rotate_left 5
  focus
    have hn2 : ((gn : Int) == 15) = false := by simp; omega
    rcases (show g7 = 0 ∨ g7 = 1 by omega) with rfl | rfl
    focus
      rw [show ((0 : Nat) : Int) = 0 from rfl] at k7
      rcases (show g6 = 0 ∨ g6 ≠ 0 by omega) with rfl | h6
      focus
        have HY := H2 hn rfl rfl
        clear H0 H1 H2 H3
        rw [show ((0 : Nat) : Int) = 0 from rfl] at k6
        generalize oddS gd = od at *
        generalize oddS gm = om at *
        cases od
        focus
          cases om
          focus
            have HX : Hid _ := HY
            clear HY
          rotate_left 1
          focus
            have HX : Hid _ := HY
            clear HY
          rotate_left 1
        rotate_left 2
        focus
          have HX : Hid _ := HY
          clear HY
        rotate_left 1
      rotate_left 3
      focus
        have h62 : ((g6 : Int) == 0) = false := by simp; omega
        have HX : Hid _ := H3 hn rfl h6
        clear H0 H1 H2 H3 h6
      rotate_left 1
    rotate_left 4
    focus
      rw [show ((1 : Nat) : Int) = 1 from rfl] at k7
      have HY := H1 (B : Int) (.inr (.inr ⟨hn, rfl, rfl⟩))
      clear H0 H1 H2 H3
      generalize oddS gd = od at *
      cases od
      focus
        have HX : Hid _ := HY
        clear HY
        clear hn
      rotate_left 1
      focus
        have HX : Hid _ := HY
        clear HY
        clear hn
      rotate_left 1
    rotate_left 2
  rotate_left 6
  all_goals
    go_enter Tryz.func77, Tryz.ntmps77
    have S := SH.start w
    go_wp2_with (first
     | ((with_reducible refine g_al 28 ?_); refine S.gal zI ?_; clear S; intro b w1 S)
     | ((with_reducible refine wpl_isDst 50 ?_); refine S.gsl [.int .i64 50, .int .i64 51, .int .i64 49] 3 (by kernel_rfl) ?_; clear S; intro g w1 S)
     | ((with_reducible refine g_ld 3 ?_); first | (refine g_skip rfl ?_) | (refine S.gld (i := ?_) (c := ?_) (v := ?_) Tryz.underlying3 rfl rfl rfl ?_ ?_ ?_; rotate_left 3; (with_reducible first | exact gi0 | exact gi1 | exact gi2 | exact gi3 | exact gi4 | exact gi5); exact rfl))
     | (go_at_call 119; refine (rwide_c _ _).mono ?_; rintro e wf ⟨rfl, hbf⟩; replace S := S.below hbf; clear hbf)
     | ((with_reducible refine g_st 28 ?_); refine S.gst (i := ?_) (c := ?_) rfl rfl ?_ ?_ ?_ ?_ ?_; rotate_left 2; (with_reducible first | exact gi0 | exact gi1 | exact gi2 | exact gi3 | exact gi4 | exact gi5); rfl; rfl; exact sI rfl; clear S; intro w1 S; (try simp only [Cel.cells, zL, List.set_cons_zero, List.set_cons_succ, startI, secondI, noneI, memI] at S))
     | ((with_reducible refine wpl_isDst 57 ?_); refine S.gsl [.int .i64 45, .int .i64 46, .int .i64 44] 3 (by kernel_rfl) ?_; clear S; intro g w1 S)
     | ((with_reducible refine g_st 3 ?_); refine S.gs1 (i := ?_) (c := ?_) (cs := ?_) (.int _ _) s_int rfl rfl rfl ?_ ?_ ?_ ?_; rotate_left 3; (with_reducible first | exact gi0 | exact gi1 | exact gi2 | exact gi3 | exact gi4 | exact gi5); exact of_decide_eq_true rfl; exact rfl; clear S; intro w1 S; (try simp only [Cel.cells, zL, List.set_cons_zero, List.set_cons_succ, startI, secondI, noneI, memI] at S))
     | ((with_reducible refine g_st 26 ?_); refine S.gs1 (i := ?_) (c := ?_) (cs := ?_) (.int _ _) s_u32 rfl rfl rfl ?_ ?_ ?_ ?_; rotate_left 3; (with_reducible first | exact gi0 | exact gi1 | exact gi2 | exact gi3 | exact gi4 | exact gi5); exact of_decide_eq_true rfl; exact rfl; clear S; intro w1 S; (try simp only [Cel.cells, zL, List.set_cons_zero, List.set_cons_succ, startI, secondI, noneI, memI] at S))
     | ((with_reducible refine g_st 4 ?_); refine S.gs1 (i := ?_) (c := ?_) (cs := ?_) (.bool _) s_bool rfl rfl rfl ?_ ?_ ?_ ?_; rotate_left 3; (with_reducible first | exact gi0 | exact gi1 | exact gi2 | exact gi3 | exact gi4 | exact gi5); exact of_decide_eq_true rfl; exact rfl; clear S; intro w1 S; (try simp only [Cel.cells, zL, List.set_cons_zero, List.set_cons_succ, startI, secondI, noneI, memI] at S))
     | ((with_reducible refine g_ld 26 ?_); first | (refine g_skip rfl ?_) | (refine S.gld (i := ?_) (c := ?_) (v := ?_) Tryz.underlying26 rfl rfl rfl ?_ ?_ ?_; rotate_left 3; (with_reducible first | exact gi0 | exact gi1 | exact gi2 | exact gi3 | exact gi4 | exact gi5); exact rfl))
     | (go_at_call 118; refine (runp_c _).mono ?_; rintro e wf ⟨rfl, hbf⟩; replace S := S.below hbf; clear hbf)
     | (go_at_call 120; first | (with_reducible refine (QD.out _).mono ?_; rintro e wf ⟨rfl, rfl⟩) | (with_reducible refine (QZ.out _).mono ?_; rintro e wf ⟨rfl, rfl⟩))
     | ((with_reducible refine g_ld 28 ?_); first | (refine g_skip rfl ?_) | (refine S.gla (i := ?_) (c := ?_) Tryz.underlying28 rfl rfl rfl ?_ ?_ ?_; rotate_left 2; (with_reducible first | exact gi0 | exact gi1 | exact gi2 | exact gi3 | exact gi4 | exact gi5); exact sI rfl))
     | (go_at_call 120; first | (with_reducible refine (QD.out _).mono ?_; rintro e wf ⟨rfl, rfl⟩) | (with_reducible refine (QM.out _).mono ?_; rintro e wf ⟨rfl, rfl⟩)))
    (try simp only [Exit.inBlock, Exit.then])
    apply bodyPost_ret
    refine S.gR2 (i := ?_) (c := ?_) Tryz.underlying28 rfl rfl rfl ?_ ?_
    rotate_left 2
    (with_reducible first | exact gi0 | exact gi1 | exact gi2 | exact gi3 | exact gi4 | exact gi5)
    exact sI rfl
    rfl
    exact ⟨_, _, rfl, HX.out, S.low⟩
end Go.Proofs.YtplhblhopaheeaaGreatDoor
