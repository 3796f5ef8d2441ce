/- Stage 9: the document: long products. -/
import Derived.Test.YtigmekboikgoaaaWg1
namespace Go.Proofs.Ytigmekboikgoaaa
open Go.ChangeShapes Go.WideShapes Go.ChangeAt Go.RowKit
set_option linter.unusedVariables false
set_option linter.unusedSimpArgs false

set_option maxHeartbeats 20000000 in
set_option maxRecDepth 100000 in
theorem rmul_long8 (h k ga gd gn gm x : Nat) (X : IV) (kh : bits .and .u16 ((h : Int) / 16) 15 = 8) (kw : bits .and .u16 ((k : Int) / 16) 15 = 0) (ka : (k : Int) / 4096 = (ga : Int)) (kd : bits .and .u16 ((k : Int) / 256) 15 = (gd : Int)) (kn : bits .and .u16 (h : Int) 15 = (gn : Int)) (km : bits .and .u16 (k : Int) 15 = (gm : Int)) (ba : ga < 16) (bd : gd < 16) (bn : gn < 16) (bm : gm < 16) (hc : True) (kz : bits .and .u16 ((h : Int) / 32) 3 = 0)
    (H1 : (oddS gd || (oddS ga || (oddS gn || oddS gm))) = false → ga ≠ gd → fin (r4 25 false ga gn gm gd) true x = X) (H2 : (oddS gd || (oddS ga || (oddS gn || oddS gm))) = true → fin (startI 65 0 0) true x = X) (H3 : ga = gd → fin (startI 65 0 0) true x = X)
    (w : World) : Calls Try.prog 31 #[.int .u16 h, .int .u16 k] w fun e w' => Two w X x e w' := by
  have QN : Hid _ := fun w => rodd_c gn w
  have QM : Hid _ := fun w => rodd_c gm w
  have QA : Hid _ := fun w => rodd_c gd w
  have QD : Hid _ := fun w => rodd_c ga w
  clear hc
  generalize oddS (gd : Int) = oa at *
  generalize oddS (ga : Int) = od at *
  generalize oddS (gn : Int) = on at *
  generalize oddS (gm : Int) = om at *
  rcases (show ga = gd ∨ ga ≠ gd by omega) with hq | hq
  focus
    have q1 : ((ga : Int) == (gd : Int)) = true := by rw [hq]; exact beq_self_eq_true _
    have HX : Hid _ := H3 hq
    clear H1 H2 H3
  rotate_left 1
  focus
    have q1 : ((ga : Int) == (gd : Int)) = false := by simp; omega
    cases oa
    focus
      cases od
      focus
        cases on
        focus
          cases om
          focus
            have HX : Hid _ := H1 rfl hq
            clear H1 H2 H3
          rotate_left 1
          focus
            have HX : Hid _ := H2 rfl
            clear H1 H2 H3
          rotate_left 1
        rotate_left 2
        focus
          have HX : Hid _ := H2 rfl
          clear H1 H2 H3
        rotate_left 1
      rotate_left 3
      focus
        have HX : Hid _ := H2 rfl
        clear H1 H2 H3
      rotate_left 1
    rotate_left 4
    focus
      have HX : Hid _ := H2 rfl
      clear H1 H2 H3
    rotate_left 1
  rotate_left 5
  all_goals
    go_enter Try.func31, Try.ntmps31
    have S := SH.start w
    go_wp2_with (first
      | ((with_reducible refine wpl_isDst 4 ?_); (first | refine S.alloc rfl 30 rfl (Cel.any zeroL) zeroA ?_ | refine SH.alloc (L := []) S rfl 30 rfl (Cel.any zeroL) zeroA ?_); clear S; intro b4 w4 S)
      | (go_at_call 62; refine (rwide_c _ _).mono ?_; rintro e wf ⟨rfl, hbf⟩; replace S := S.below hbf; clear hbf)
      | ((with_reducible refine wpl_isDst 10 ?_); (first | refine S.alloc rfl 30 rfl (Cel.any zeroL) zeroA ?_ | refine SH.alloc (L := []) S rfl 30 rfl (Cel.any zeroL) zeroA ?_); clear S; intro b10 w10 S)
      | ((with_reducible refine wpl_isStoreAt 10 ?_); (first | refine S.storeA rfl 30 _ _ rfl b10 _ rfl rfl 0 _ rfl rfl rfl (szA _ rfl) ?_ | refine S.storeA rfl 30 _ _ rfl b10 _ rfl rfl 1 _ rfl rfl rfl (szA _ rfl) ?_ | refine S.storeA rfl 30 _ _ rfl b10 _ rfl rfl 2 _ rfl rfl rfl (szA _ rfl) ?_); clear S; intro w2 S; (simp only [Cel.cells, IV.cellsL, zeroL, List.set_cons_zero, List.set_cons_succ, startI, secondI, noneI, startI, r4] at S))
      | ((with_reducible refine wpl_isStoreAt 29 ?_); (first | refine S.store1 rfl 3 _ _ rfl b10 5 (.int _ _) rfl rfl 0 _ rfl rfl (of_decide_eq_true rfl) (Cel.any _) rfl (by kernel_rfl) ?_ | refine S.store1 rfl 3 _ _ rfl b10 5 (.int _ _) rfl rfl 1 _ rfl rfl (of_decide_eq_true rfl) (Cel.any _) rfl (by kernel_rfl) ?_ | refine S.store1 rfl 3 _ _ rfl b10 5 (.int _ _) rfl rfl 2 _ rfl rfl (of_decide_eq_true rfl) (Cel.any _) rfl (by kernel_rfl) ?_); clear S; intro w2 S; (simp only [Cel.cells, IV.cellsL, zeroL, List.set_cons_zero, List.set_cons_succ, startI, secondI, noneI, startI, r4] at S))
      | ((with_reducible refine wpl_isStoreAt 30 ?_); (first | refine S.store1 rfl 3 _ _ rfl b10 6 (.int _ _) rfl rfl 0 _ rfl rfl (of_decide_eq_true rfl) (Cel.any _) rfl (by kernel_rfl) ?_ | refine S.store1 rfl 3 _ _ rfl b10 6 (.int _ _) rfl rfl 1 _ rfl rfl (of_decide_eq_true rfl) (Cel.any _) rfl (by kernel_rfl) ?_ | refine S.store1 rfl 3 _ _ rfl b10 6 (.int _ _) rfl rfl 2 _ rfl rfl (of_decide_eq_true rfl) (Cel.any _) rfl (by kernel_rfl) ?_); clear S; intro w2 S; (simp only [Cel.cells, IV.cellsL, zeroL, List.set_cons_zero, List.set_cons_succ, startI, secondI, noneI, startI, r4] at S))
      | ((with_reducible refine wpl_isStoreAt 31 ?_); (first | refine S.store1 rfl 3 _ _ rfl b10 4 (.int _ _) rfl rfl 0 _ rfl rfl (of_decide_eq_true rfl) (Cel.any _) rfl (by kernel_rfl) ?_ | refine S.store1 rfl 3 _ _ rfl b10 4 (.int _ _) rfl rfl 1 _ rfl rfl (of_decide_eq_true rfl) (Cel.any _) rfl (by kernel_rfl) ?_ | refine S.store1 rfl 3 _ _ rfl b10 4 (.int _ _) rfl rfl 2 _ rfl rfl (of_decide_eq_true rfl) (Cel.any _) rfl (by kernel_rfl) ?_); clear S; intro w2 S; (simp only [Cel.cells, IV.cellsL, zeroL, List.set_cons_zero, List.set_cons_succ, startI, secondI, noneI, startI, r4] at S))
      | ((with_reducible refine wpl_isDst 125 ?_); (first | refine S.sliceA rfl 66 4 _ rfl [.int .i64 25, .int .i64 24, .int .i64 27, .int .i64 26] 3 (by kernel_rfl) ?_ | refine SH.sliceA (L := []) S rfl 66 4 _ rfl [.int .i64 25, .int .i64 24, .int .i64 27, .int .i64 26] 3 (by kernel_rfl) ?_); clear S; intro g125 w125 S)
      | ((with_reducible refine wpl_isDst 130 ?_); (first | refine S.ld 3 _ rfl _ _ rfl 0 _ rfl _ rfl _ Try.underlying3 rfl rfl ?_ | refine S.ld 3 _ rfl _ _ rfl 1 _ rfl _ rfl _ Try.underlying3 rfl rfl ?_ | refine S.ld 3 _ rfl _ _ rfl 2 _ rfl _ rfl _ Try.underlying3 rfl rfl ?_))
      | ((with_reducible refine wpl_isStoreAt 131 ?_); (first | refine S.store1 rfl 3 _ _ rfl b10 0 (.int _ _) rfl rfl 0 _ rfl rfl (of_decide_eq_true rfl) (Cel.any _) rfl (by kernel_rfl) ?_ | refine S.store1 rfl 3 _ _ rfl b10 0 (.int _ _) rfl rfl 1 _ rfl rfl (of_decide_eq_true rfl) (Cel.any _) rfl (by kernel_rfl) ?_ | refine S.store1 rfl 3 _ _ rfl b10 0 (.int _ _) rfl rfl 2 _ rfl rfl (of_decide_eq_true rfl) (Cel.any _) rfl (by kernel_rfl) ?_); clear S; intro w2 S; (simp only [Cel.cells, IV.cellsL, zeroL, List.set_cons_zero, List.set_cons_succ, startI, secondI, noneI, startI, r4] at S))
      | ((with_reducible refine wpl_isStoreAt 134 ?_); (first | refine S.store1 rfl 3 _ _ rfl b10 4 (.int _ _) rfl rfl 0 _ rfl rfl (of_decide_eq_true rfl) (Cel.any _) rfl (by kernel_rfl) ?_ | refine S.store1 rfl 3 _ _ rfl b10 4 (.int _ _) rfl rfl 1 _ rfl rfl (of_decide_eq_true rfl) (Cel.any _) rfl (by kernel_rfl) ?_ | refine S.store1 rfl 3 _ _ rfl b10 4 (.int _ _) rfl rfl 2 _ rfl rfl (of_decide_eq_true rfl) (Cel.any _) rfl (by kernel_rfl) ?_); clear S; intro w2 S; (simp only [Cel.cells, IV.cellsL, zeroL, List.set_cons_zero, List.set_cons_succ, startI, secondI, noneI, startI, r4] at S))
      | ((with_reducible refine wpl_isDst 136 ?_); (first | refine S.ld 3 _ rfl b10 4 rfl 0 _ rfl _ rfl _ Try.underlying3 rfl rfl ?_ | refine S.ld 3 _ rfl b10 4 rfl 1 _ rfl _ rfl _ Try.underlying3 rfl rfl ?_ | refine S.ld 3 _ rfl b10 4 rfl 2 _ rfl _ rfl _ Try.underlying3 rfl rfl ?_))
      | (go_at_call 61; refine (runp_c _).mono ?_; rintro e wf ⟨rfl, hbf⟩; replace S := S.below hbf; clear hbf)
      | ((with_reducible refine wpl_isStoreAt 4 ?_); (first | refine S.storeA rfl 30 _ _ rfl b4 _ rfl rfl 0 _ rfl rfl rfl (szA _ rfl) ?_ | refine S.storeA rfl 30 _ _ rfl b4 _ rfl rfl 1 _ rfl rfl rfl (szA _ rfl) ?_ | refine S.storeA rfl 30 _ _ rfl b4 _ rfl rfl 2 _ rfl rfl rfl (szA _ rfl) ?_); clear S; intro w2 S; (simp only [Cel.cells, IV.cellsL, zeroL, List.set_cons_zero, List.set_cons_succ, startI, secondI, noneI, startI, r4] at S))
      | ((with_reducible refine wpl_isStoreAt 143 ?_); (first | refine S.store1 rfl 3 _ _ rfl b10 7 (.int _ _) rfl rfl 0 _ rfl rfl (of_decide_eq_true rfl) (Cel.any _) rfl (by kernel_rfl) ?_ | refine S.store1 rfl 3 _ _ rfl b10 7 (.int _ _) rfl rfl 1 _ rfl rfl (of_decide_eq_true rfl) (Cel.any _) rfl (by kernel_rfl) ?_ | refine S.store1 rfl 3 _ _ rfl b10 7 (.int _ _) rfl rfl 2 _ rfl rfl (of_decide_eq_true rfl) (Cel.any _) rfl (by kernel_rfl) ?_); clear S; intro w2 S; (simp only [Cel.cells, IV.cellsL, zeroL, List.set_cons_zero, List.set_cons_succ, startI, secondI, noneI, startI, r4] at S))
      | ((with_reducible refine wpl_isDst 145 ?_); (first | refine S.ld 3 _ rfl b10 7 rfl 0 _ rfl _ rfl _ Try.underlying3 rfl rfl ?_ | refine S.ld 3 _ rfl b10 7 rfl 1 _ rfl _ rfl _ Try.underlying3 rfl rfl ?_ | refine S.ld 3 _ rfl b10 7 rfl 2 _ rfl _ rfl _ Try.underlying3 rfl rfl ?_))
      | (go_at_call 63; first | (with_reducible refine (QA.out _).mono ?_; rintro e wf ⟨rfl, rfl⟩) | (with_reducible refine (QD.out _).mono ?_; rintro e wf ⟨rfl, rfl⟩) | (with_reducible refine (QN.out _).mono ?_; rintro e wf ⟨rfl, rfl⟩) | (with_reducible refine (QM.out _).mono ?_; rintro e wf ⟨rfl, rfl⟩))
      | ((with_reducible refine wpl_isDst 149 ?_); first | (refine wpl_skip rfl ?_) | (first | refine S.ld 3 _ rfl b10 4 rfl 0 _ rfl _ rfl _ Try.underlying3 rfl rfl ?_ | refine S.ld 3 _ rfl b10 4 rfl 1 _ rfl _ rfl _ Try.underlying3 rfl rfl ?_ | refine S.ld 3 _ rfl b10 4 rfl 2 _ rfl _ rfl _ Try.underlying3 rfl rfl ?_))
      | ((with_reducible refine wpl_isDst 163 ?_); (first | refine S.ldAll 30 _ rfl b10 rfl 0 _ rfl _ Try.underlying30 rfl (szA _ rfl) rfl ?_ | refine S.ldAll 30 _ rfl b10 rfl 1 _ rfl _ Try.underlying30 rfl (szA _ rfl) rfl ?_ | refine S.ldAll 30 _ rfl b10 rfl 2 _ rfl _ Try.underlying30 rfl (szA _ rfl) rfl ?_)))
    (try simp only [Exit.inBlock, Exit.then])
    (first | refine bodyPost_ret (S.results2 rfl _ _ rfl 0 _ rfl _ Try.underlying30 rfl (szA _ rfl)) rfl ?_ | refine bodyPost_ret (S.results2 rfl _ _ rfl 1 _ rfl _ Try.underlying30 rfl (szA _ rfl)) rfl ?_ | refine bodyPost_ret (S.results2 rfl _ _ rfl 2 _ rfl _ Try.underlying30 rfl (szA _ rfl)) rfl ?_)
    exact ⟨_, _, rfl, HX.out, S.low⟩
set_option maxHeartbeats 20000000 in
set_option maxRecDepth 100000 in
theorem rmul_long10 (h k ga gd gn gm x : Nat) (X : IV) (kh : bits .and .u16 ((h : Int) / 16) 15 = 10) (kw : bits .and .u16 ((k : Int) / 16) 15 = 0) (ka : (k : Int) / 4096 = (ga : Int)) (kd : bits .and .u16 ((k : Int) / 256) 15 = (gd : Int)) (kn : bits .and .u16 (h : Int) 15 = (gn : Int)) (km : bits .and .u16 (k : Int) 15 = (gm : Int)) (ba : ga < 16) (bd : gd < 16) (bn : gn < 16) (bm : gm < 16) (hc : True) (kz : bits .and .u16 ((h : Int) / 32) 3 = 1)
    (H1 : (oddS gd || (oddS ga || (oddS gn || oddS gm))) = false → ga ≠ gd → fin (r4 24 false ga gn gm gd) true x = X) (H2 : (oddS gd || (oddS ga || (oddS gn || oddS gm))) = true → fin (startI 65 0 0) true x = X) (H3 : ga = gd → fin (startI 65 0 0) true x = X)
    (w : World) : Calls Try.prog 31 #[.int .u16 h, .int .u16 k] w fun e w' => Two w X x e w' := by
  have QN : Hid _ := fun w => rodd_c gn w
  have QM : Hid _ := fun w => rodd_c gm w
  have QA : Hid _ := fun w => rodd_c gd w
  have QD : Hid _ := fun w => rodd_c ga w
  clear hc
  generalize oddS (gd : Int) = oa at *
  generalize oddS (ga : Int) = od at *
  generalize oddS (gn : Int) = on at *
  generalize oddS (gm : Int) = om at *
  rcases (show ga = gd ∨ ga ≠ gd by omega) with hq | hq
  focus
    have q1 : ((ga : Int) == (gd : Int)) = true := by rw [hq]; exact beq_self_eq_true _
    have HX : Hid _ := H3 hq
    clear H1 H2 H3
  rotate_left 1
  focus
    have q1 : ((ga : Int) == (gd : Int)) = false := by simp; omega
    cases oa
    focus
      cases od
      focus
        cases on
        focus
          cases om
          focus
            have HX : Hid _ := H1 rfl hq
            clear H1 H2 H3
          rotate_left 1
          focus
            have HX : Hid _ := H2 rfl
            clear H1 H2 H3
          rotate_left 1
        rotate_left 2
        focus
          have HX : Hid _ := H2 rfl
          clear H1 H2 H3
        rotate_left 1
      rotate_left 3
      focus
        have HX : Hid _ := H2 rfl
        clear H1 H2 H3
      rotate_left 1
    rotate_left 4
    focus
      have HX : Hid _ := H2 rfl
      clear H1 H2 H3
    rotate_left 1
  rotate_left 5
  all_goals
    go_enter Try.func31, Try.ntmps31
    have S := SH.start w
    go_wp2_with (first
      | ((with_reducible refine wpl_isDst 4 ?_); (first | refine S.alloc rfl 30 rfl (Cel.any zeroL) zeroA ?_ | refine SH.alloc (L := []) S rfl 30 rfl (Cel.any zeroL) zeroA ?_); clear S; intro b4 w4 S)
      | (go_at_call 62; refine (rwide_c _ _).mono ?_; rintro e wf ⟨rfl, hbf⟩; replace S := S.below hbf; clear hbf)
      | ((with_reducible refine wpl_isDst 10 ?_); (first | refine S.alloc rfl 30 rfl (Cel.any zeroL) zeroA ?_ | refine SH.alloc (L := []) S rfl 30 rfl (Cel.any zeroL) zeroA ?_); clear S; intro b10 w10 S)
      | ((with_reducible refine wpl_isStoreAt 10 ?_); (first | refine S.storeA rfl 30 _ _ rfl b10 _ rfl rfl 0 _ rfl rfl rfl (szA _ rfl) ?_ | refine S.storeA rfl 30 _ _ rfl b10 _ rfl rfl 1 _ rfl rfl rfl (szA _ rfl) ?_ | refine S.storeA rfl 30 _ _ rfl b10 _ rfl rfl 2 _ rfl rfl rfl (szA _ rfl) ?_); clear S; intro w2 S; (simp only [Cel.cells, IV.cellsL, zeroL, List.set_cons_zero, List.set_cons_succ, startI, secondI, noneI, startI, r4] at S))
      | ((with_reducible refine wpl_isStoreAt 29 ?_); (first | refine S.store1 rfl 3 _ _ rfl b10 5 (.int _ _) rfl rfl 0 _ rfl rfl (of_decide_eq_true rfl) (Cel.any _) rfl (by kernel_rfl) ?_ | refine S.store1 rfl 3 _ _ rfl b10 5 (.int _ _) rfl rfl 1 _ rfl rfl (of_decide_eq_true rfl) (Cel.any _) rfl (by kernel_rfl) ?_ | refine S.store1 rfl 3 _ _ rfl b10 5 (.int _ _) rfl rfl 2 _ rfl rfl (of_decide_eq_true rfl) (Cel.any _) rfl (by kernel_rfl) ?_); clear S; intro w2 S; (simp only [Cel.cells, IV.cellsL, zeroL, List.set_cons_zero, List.set_cons_succ, startI, secondI, noneI, startI, r4] at S))
      | ((with_reducible refine wpl_isStoreAt 30 ?_); (first | refine S.store1 rfl 3 _ _ rfl b10 6 (.int _ _) rfl rfl 0 _ rfl rfl (of_decide_eq_true rfl) (Cel.any _) rfl (by kernel_rfl) ?_ | refine S.store1 rfl 3 _ _ rfl b10 6 (.int _ _) rfl rfl 1 _ rfl rfl (of_decide_eq_true rfl) (Cel.any _) rfl (by kernel_rfl) ?_ | refine S.store1 rfl 3 _ _ rfl b10 6 (.int _ _) rfl rfl 2 _ rfl rfl (of_decide_eq_true rfl) (Cel.any _) rfl (by kernel_rfl) ?_); clear S; intro w2 S; (simp only [Cel.cells, IV.cellsL, zeroL, List.set_cons_zero, List.set_cons_succ, startI, secondI, noneI, startI, r4] at S))
      | ((with_reducible refine wpl_isStoreAt 31 ?_); (first | refine S.store1 rfl 3 _ _ rfl b10 4 (.int _ _) rfl rfl 0 _ rfl rfl (of_decide_eq_true rfl) (Cel.any _) rfl (by kernel_rfl) ?_ | refine S.store1 rfl 3 _ _ rfl b10 4 (.int _ _) rfl rfl 1 _ rfl rfl (of_decide_eq_true rfl) (Cel.any _) rfl (by kernel_rfl) ?_ | refine S.store1 rfl 3 _ _ rfl b10 4 (.int _ _) rfl rfl 2 _ rfl rfl (of_decide_eq_true rfl) (Cel.any _) rfl (by kernel_rfl) ?_); clear S; intro w2 S; (simp only [Cel.cells, IV.cellsL, zeroL, List.set_cons_zero, List.set_cons_succ, startI, secondI, noneI, startI, r4] at S))
      | ((with_reducible refine wpl_isDst 125 ?_); (first | refine S.sliceA rfl 66 4 _ rfl [.int .i64 25, .int .i64 24, .int .i64 27, .int .i64 26] 3 (by kernel_rfl) ?_ | refine SH.sliceA (L := []) S rfl 66 4 _ rfl [.int .i64 25, .int .i64 24, .int .i64 27, .int .i64 26] 3 (by kernel_rfl) ?_); clear S; intro g125 w125 S)
      | ((with_reducible refine wpl_isDst 130 ?_); (first | refine S.ld 3 _ rfl _ _ rfl 0 _ rfl _ rfl _ Try.underlying3 rfl rfl ?_ | refine S.ld 3 _ rfl _ _ rfl 1 _ rfl _ rfl _ Try.underlying3 rfl rfl ?_ | refine S.ld 3 _ rfl _ _ rfl 2 _ rfl _ rfl _ Try.underlying3 rfl rfl ?_))
      | ((with_reducible refine wpl_isStoreAt 131 ?_); (first | refine S.store1 rfl 3 _ _ rfl b10 0 (.int _ _) rfl rfl 0 _ rfl rfl (of_decide_eq_true rfl) (Cel.any _) rfl (by kernel_rfl) ?_ | refine S.store1 rfl 3 _ _ rfl b10 0 (.int _ _) rfl rfl 1 _ rfl rfl (of_decide_eq_true rfl) (Cel.any _) rfl (by kernel_rfl) ?_ | refine S.store1 rfl 3 _ _ rfl b10 0 (.int _ _) rfl rfl 2 _ rfl rfl (of_decide_eq_true rfl) (Cel.any _) rfl (by kernel_rfl) ?_); clear S; intro w2 S; (simp only [Cel.cells, IV.cellsL, zeroL, List.set_cons_zero, List.set_cons_succ, startI, secondI, noneI, startI, r4] at S))
      | ((with_reducible refine wpl_isStoreAt 134 ?_); (first | refine S.store1 rfl 3 _ _ rfl b10 4 (.int _ _) rfl rfl 0 _ rfl rfl (of_decide_eq_true rfl) (Cel.any _) rfl (by kernel_rfl) ?_ | refine S.store1 rfl 3 _ _ rfl b10 4 (.int _ _) rfl rfl 1 _ rfl rfl (of_decide_eq_true rfl) (Cel.any _) rfl (by kernel_rfl) ?_ | refine S.store1 rfl 3 _ _ rfl b10 4 (.int _ _) rfl rfl 2 _ rfl rfl (of_decide_eq_true rfl) (Cel.any _) rfl (by kernel_rfl) ?_); clear S; intro w2 S; (simp only [Cel.cells, IV.cellsL, zeroL, List.set_cons_zero, List.set_cons_succ, startI, secondI, noneI, startI, r4] at S))
      | ((with_reducible refine wpl_isDst 136 ?_); (first | refine S.ld 3 _ rfl b10 4 rfl 0 _ rfl _ rfl _ Try.underlying3 rfl rfl ?_ | refine S.ld 3 _ rfl b10 4 rfl 1 _ rfl _ rfl _ Try.underlying3 rfl rfl ?_ | refine S.ld 3 _ rfl b10 4 rfl 2 _ rfl _ rfl _ Try.underlying3 rfl rfl ?_))
      | (go_at_call 61; refine (runp_c _).mono ?_; rintro e wf ⟨rfl, hbf⟩; replace S := S.below hbf; clear hbf)
      | ((with_reducible refine wpl_isStoreAt 4 ?_); (first | refine S.storeA rfl 30 _ _ rfl b4 _ rfl rfl 0 _ rfl rfl rfl (szA _ rfl) ?_ | refine S.storeA rfl 30 _ _ rfl b4 _ rfl rfl 1 _ rfl rfl rfl (szA _ rfl) ?_ | refine S.storeA rfl 30 _ _ rfl b4 _ rfl rfl 2 _ rfl rfl rfl (szA _ rfl) ?_); clear S; intro w2 S; (simp only [Cel.cells, IV.cellsL, zeroL, List.set_cons_zero, List.set_cons_succ, startI, secondI, noneI, startI, r4] at S))
      | ((with_reducible refine wpl_isStoreAt 143 ?_); (first | refine S.store1 rfl 3 _ _ rfl b10 7 (.int _ _) rfl rfl 0 _ rfl rfl (of_decide_eq_true rfl) (Cel.any _) rfl (by kernel_rfl) ?_ | refine S.store1 rfl 3 _ _ rfl b10 7 (.int _ _) rfl rfl 1 _ rfl rfl (of_decide_eq_true rfl) (Cel.any _) rfl (by kernel_rfl) ?_ | refine S.store1 rfl 3 _ _ rfl b10 7 (.int _ _) rfl rfl 2 _ rfl rfl (of_decide_eq_true rfl) (Cel.any _) rfl (by kernel_rfl) ?_); clear S; intro w2 S; (simp only [Cel.cells, IV.cellsL, zeroL, List.set_cons_zero, List.set_cons_succ, startI, secondI, noneI, startI, r4] at S))
      | ((with_reducible refine wpl_isDst 145 ?_); (first | refine S.ld 3 _ rfl b10 7 rfl 0 _ rfl _ rfl _ Try.underlying3 rfl rfl ?_ | refine S.ld 3 _ rfl b10 7 rfl 1 _ rfl _ rfl _ Try.underlying3 rfl rfl ?_ | refine S.ld 3 _ rfl b10 7 rfl 2 _ rfl _ rfl _ Try.underlying3 rfl rfl ?_))
      | (go_at_call 63; first | (with_reducible refine (QA.out _).mono ?_; rintro e wf ⟨rfl, rfl⟩) | (with_reducible refine (QD.out _).mono ?_; rintro e wf ⟨rfl, rfl⟩) | (with_reducible refine (QN.out _).mono ?_; rintro e wf ⟨rfl, rfl⟩) | (with_reducible refine (QM.out _).mono ?_; rintro e wf ⟨rfl, rfl⟩))
      | ((with_reducible refine wpl_isDst 149 ?_); first | (refine wpl_skip rfl ?_) | (first | refine S.ld 3 _ rfl b10 4 rfl 0 _ rfl _ rfl _ Try.underlying3 rfl rfl ?_ | refine S.ld 3 _ rfl b10 4 rfl 1 _ rfl _ rfl _ Try.underlying3 rfl rfl ?_ | refine S.ld 3 _ rfl b10 4 rfl 2 _ rfl _ rfl _ Try.underlying3 rfl rfl ?_))
      | ((with_reducible refine wpl_isDst 163 ?_); (first | refine S.ldAll 30 _ rfl b10 rfl 0 _ rfl _ Try.underlying30 rfl (szA _ rfl) rfl ?_ | refine S.ldAll 30 _ rfl b10 rfl 1 _ rfl _ Try.underlying30 rfl (szA _ rfl) rfl ?_ | refine S.ldAll 30 _ rfl b10 rfl 2 _ rfl _ Try.underlying30 rfl (szA _ rfl) rfl ?_)))
    (try simp only [Exit.inBlock, Exit.then])
    (first | refine bodyPost_ret (S.results2 rfl _ _ rfl 0 _ rfl _ Try.underlying30 rfl (szA _ rfl)) rfl ?_ | refine bodyPost_ret (S.results2 rfl _ _ rfl 1 _ rfl _ Try.underlying30 rfl (szA _ rfl)) rfl ?_ | refine bodyPost_ret (S.results2 rfl _ _ rfl 2 _ rfl _ Try.underlying30 rfl (szA _ rfl)) rfl ?_)
    exact ⟨_, _, rfl, HX.out, S.low⟩
set_option maxHeartbeats 20000000 in
set_option maxRecDepth 100000 in
theorem rmul_long12 (h k ga gd gn gm x : Nat) (X : IV) (kh : bits .and .u16 ((h : Int) / 16) 15 = 12) (kw : bits .and .u16 ((k : Int) / 16) 15 = 0) (ka : (k : Int) / 4096 = (ga : Int)) (kd : bits .and .u16 ((k : Int) / 256) 15 = (gd : Int)) (kn : bits .and .u16 (h : Int) 15 = (gn : Int)) (km : bits .and .u16 (k : Int) 15 = (gm : Int)) (ba : ga < 16) (bd : gd < 16) (bn : gn < 16) (bm : gm < 16) (hc : True) (kz : bits .and .u16 ((h : Int) / 32) 3 = 2)
    (H1 : (oddS gd || (oddS ga || (oddS gn || oddS gm))) = false → ga ≠ gd → fin (r4 27 false ga gn gm gd) true x = X) (H2 : (oddS gd || (oddS ga || (oddS gn || oddS gm))) = true → fin (startI 65 0 0) true x = X) (H3 : ga = gd → fin (startI 65 0 0) true x = X)
    (w : World) : Calls Try.prog 31 #[.int .u16 h, .int .u16 k] w fun e w' => Two w X x e w' := by
  have QN : Hid _ := fun w => rodd_c gn w
  have QM : Hid _ := fun w => rodd_c gm w
  have QA : Hid _ := fun w => rodd_c gd w
  have QD : Hid _ := fun w => rodd_c ga w
  clear hc
  generalize oddS (gd : Int) = oa at *
  generalize oddS (ga : Int) = od at *
  generalize oddS (gn : Int) = on at *
  generalize oddS (gm : Int) = om at *
  rcases (show ga = gd ∨ ga ≠ gd by omega) with hq | hq
  focus
    have q1 : ((ga : Int) == (gd : Int)) = true := by rw [hq]; exact beq_self_eq_true _
    have HX : Hid _ := H3 hq
    clear H1 H2 H3
  rotate_left 1
  focus
    have q1 : ((ga : Int) == (gd : Int)) = false := by simp; omega
    cases oa
    focus
      cases od
      focus
        cases on
        focus
          cases om
          focus
            have HX : Hid _ := H1 rfl hq
            clear H1 H2 H3
          rotate_left 1
          focus
            have HX : Hid _ := H2 rfl
            clear H1 H2 H3
          rotate_left 1
        rotate_left 2
        focus
          have HX : Hid _ := H2 rfl
          clear H1 H2 H3
        rotate_left 1
      rotate_left 3
      focus
        have HX : Hid _ := H2 rfl
        clear H1 H2 H3
      rotate_left 1
    rotate_left 4
    focus
      have HX : Hid _ := H2 rfl
      clear H1 H2 H3
    rotate_left 1
  rotate_left 5
  all_goals
    go_enter Try.func31, Try.ntmps31
    have S := SH.start w
    go_wp2_with (first
      | ((with_reducible refine wpl_isDst 4 ?_); (first | refine S.alloc rfl 30 rfl (Cel.any zeroL) zeroA ?_ | refine SH.alloc (L := []) S rfl 30 rfl (Cel.any zeroL) zeroA ?_); clear S; intro b4 w4 S)
      | (go_at_call 62; refine (rwide_c _ _).mono ?_; rintro e wf ⟨rfl, hbf⟩; replace S := S.below hbf; clear hbf)
      | ((with_reducible refine wpl_isDst 10 ?_); (first | refine S.alloc rfl 30 rfl (Cel.any zeroL) zeroA ?_ | refine SH.alloc (L := []) S rfl 30 rfl (Cel.any zeroL) zeroA ?_); clear S; intro b10 w10 S)
      | ((with_reducible refine wpl_isStoreAt 10 ?_); (first | refine S.storeA rfl 30 _ _ rfl b10 _ rfl rfl 0 _ rfl rfl rfl (szA _ rfl) ?_ | refine S.storeA rfl 30 _ _ rfl b10 _ rfl rfl 1 _ rfl rfl rfl (szA _ rfl) ?_ | refine S.storeA rfl 30 _ _ rfl b10 _ rfl rfl 2 _ rfl rfl rfl (szA _ rfl) ?_); clear S; intro w2 S; (simp only [Cel.cells, IV.cellsL, zeroL, List.set_cons_zero, List.set_cons_succ, startI, secondI, noneI, startI, r4] at S))
      | ((with_reducible refine wpl_isStoreAt 29 ?_); (first | refine S.store1 rfl 3 _ _ rfl b10 5 (.int _ _) rfl rfl 0 _ rfl rfl (of_decide_eq_true rfl) (Cel.any _) rfl (by kernel_rfl) ?_ | refine S.store1 rfl 3 _ _ rfl b10 5 (.int _ _) rfl rfl 1 _ rfl rfl (of_decide_eq_true rfl) (Cel.any _) rfl (by kernel_rfl) ?_ | refine S.store1 rfl 3 _ _ rfl b10 5 (.int _ _) rfl rfl 2 _ rfl rfl (of_decide_eq_true rfl) (Cel.any _) rfl (by kernel_rfl) ?_); clear S; intro w2 S; (simp only [Cel.cells, IV.cellsL, zeroL, List.set_cons_zero, List.set_cons_succ, startI, secondI, noneI, startI, r4] at S))
      | ((with_reducible refine wpl_isStoreAt 30 ?_); (first | refine S.store1 rfl 3 _ _ rfl b10 6 (.int _ _) rfl rfl 0 _ rfl rfl (of_decide_eq_true rfl) (Cel.any _) rfl (by kernel_rfl) ?_ | refine S.store1 rfl 3 _ _ rfl b10 6 (.int _ _) rfl rfl 1 _ rfl rfl (of_decide_eq_true rfl) (Cel.any _) rfl (by kernel_rfl) ?_ | refine S.store1 rfl 3 _ _ rfl b10 6 (.int _ _) rfl rfl 2 _ rfl rfl (of_decide_eq_true rfl) (Cel.any _) rfl (by kernel_rfl) ?_); clear S; intro w2 S; (simp only [Cel.cells, IV.cellsL, zeroL, List.set_cons_zero, List.set_cons_succ, startI, secondI, noneI, startI, r4] at S))
      | ((with_reducible refine wpl_isStoreAt 31 ?_); (first | refine S.store1 rfl 3 _ _ rfl b10 4 (.int _ _) rfl rfl 0 _ rfl rfl (of_decide_eq_true rfl) (Cel.any _) rfl (by kernel_rfl) ?_ | refine S.store1 rfl 3 _ _ rfl b10 4 (.int _ _) rfl rfl 1 _ rfl rfl (of_decide_eq_true rfl) (Cel.any _) rfl (by kernel_rfl) ?_ | refine S.store1 rfl 3 _ _ rfl b10 4 (.int _ _) rfl rfl 2 _ rfl rfl (of_decide_eq_true rfl) (Cel.any _) rfl (by kernel_rfl) ?_); clear S; intro w2 S; (simp only [Cel.cells, IV.cellsL, zeroL, List.set_cons_zero, List.set_cons_succ, startI, secondI, noneI, startI, r4] at S))
      | ((with_reducible refine wpl_isDst 125 ?_); (first | refine S.sliceA rfl 66 4 _ rfl [.int .i64 25, .int .i64 24, .int .i64 27, .int .i64 26] 3 (by kernel_rfl) ?_ | refine SH.sliceA (L := []) S rfl 66 4 _ rfl [.int .i64 25, .int .i64 24, .int .i64 27, .int .i64 26] 3 (by kernel_rfl) ?_); clear S; intro g125 w125 S)
      | ((with_reducible refine wpl_isDst 130 ?_); (first | refine S.ld 3 _ rfl _ _ rfl 0 _ rfl _ rfl _ Try.underlying3 rfl rfl ?_ | refine S.ld 3 _ rfl _ _ rfl 1 _ rfl _ rfl _ Try.underlying3 rfl rfl ?_ | refine S.ld 3 _ rfl _ _ rfl 2 _ rfl _ rfl _ Try.underlying3 rfl rfl ?_))
      | ((with_reducible refine wpl_isStoreAt 131 ?_); (first | refine S.store1 rfl 3 _ _ rfl b10 0 (.int _ _) rfl rfl 0 _ rfl rfl (of_decide_eq_true rfl) (Cel.any _) rfl (by kernel_rfl) ?_ | refine S.store1 rfl 3 _ _ rfl b10 0 (.int _ _) rfl rfl 1 _ rfl rfl (of_decide_eq_true rfl) (Cel.any _) rfl (by kernel_rfl) ?_ | refine S.store1 rfl 3 _ _ rfl b10 0 (.int _ _) rfl rfl 2 _ rfl rfl (of_decide_eq_true rfl) (Cel.any _) rfl (by kernel_rfl) ?_); clear S; intro w2 S; (simp only [Cel.cells, IV.cellsL, zeroL, List.set_cons_zero, List.set_cons_succ, startI, secondI, noneI, startI, r4] at S))
      | ((with_reducible refine wpl_isStoreAt 134 ?_); (first | refine S.store1 rfl 3 _ _ rfl b10 4 (.int _ _) rfl rfl 0 _ rfl rfl (of_decide_eq_true rfl) (Cel.any _) rfl (by kernel_rfl) ?_ | refine S.store1 rfl 3 _ _ rfl b10 4 (.int _ _) rfl rfl 1 _ rfl rfl (of_decide_eq_true rfl) (Cel.any _) rfl (by kernel_rfl) ?_ | refine S.store1 rfl 3 _ _ rfl b10 4 (.int _ _) rfl rfl 2 _ rfl rfl (of_decide_eq_true rfl) (Cel.any _) rfl (by kernel_rfl) ?_); clear S; intro w2 S; (simp only [Cel.cells, IV.cellsL, zeroL, List.set_cons_zero, List.set_cons_succ, startI, secondI, noneI, startI, r4] at S))
      | ((with_reducible refine wpl_isDst 136 ?_); (first | refine S.ld 3 _ rfl b10 4 rfl 0 _ rfl _ rfl _ Try.underlying3 rfl rfl ?_ | refine S.ld 3 _ rfl b10 4 rfl 1 _ rfl _ rfl _ Try.underlying3 rfl rfl ?_ | refine S.ld 3 _ rfl b10 4 rfl 2 _ rfl _ rfl _ Try.underlying3 rfl rfl ?_))
      | (go_at_call 61; refine (runp_c _).mono ?_; rintro e wf ⟨rfl, hbf⟩; replace S := S.below hbf; clear hbf)
      | ((with_reducible refine wpl_isStoreAt 4 ?_); (first | refine S.storeA rfl 30 _ _ rfl b4 _ rfl rfl 0 _ rfl rfl rfl (szA _ rfl) ?_ | refine S.storeA rfl 30 _ _ rfl b4 _ rfl rfl 1 _ rfl rfl rfl (szA _ rfl) ?_ | refine S.storeA rfl 30 _ _ rfl b4 _ rfl rfl 2 _ rfl rfl rfl (szA _ rfl) ?_); clear S; intro w2 S; (simp only [Cel.cells, IV.cellsL, zeroL, List.set_cons_zero, List.set_cons_succ, startI, secondI, noneI, startI, r4] at S))
      | ((with_reducible refine wpl_isStoreAt 143 ?_); (first | refine S.store1 rfl 3 _ _ rfl b10 7 (.int _ _) rfl rfl 0 _ rfl rfl (of_decide_eq_true rfl) (Cel.any _) rfl (by kernel_rfl) ?_ | refine S.store1 rfl 3 _ _ rfl b10 7 (.int _ _) rfl rfl 1 _ rfl rfl (of_decide_eq_true rfl) (Cel.any _) rfl (by kernel_rfl) ?_ | refine S.store1 rfl 3 _ _ rfl b10 7 (.int _ _) rfl rfl 2 _ rfl rfl (of_decide_eq_true rfl) (Cel.any _) rfl (by kernel_rfl) ?_); clear S; intro w2 S; (simp only [Cel.cells, IV.cellsL, zeroL, List.set_cons_zero, List.set_cons_succ, startI, secondI, noneI, startI, r4] at S))
      | ((with_reducible refine wpl_isDst 145 ?_); (first | refine S.ld 3 _ rfl b10 7 rfl 0 _ rfl _ rfl _ Try.underlying3 rfl rfl ?_ | refine S.ld 3 _ rfl b10 7 rfl 1 _ rfl _ rfl _ Try.underlying3 rfl rfl ?_ | refine S.ld 3 _ rfl b10 7 rfl 2 _ rfl _ rfl _ Try.underlying3 rfl rfl ?_))
      | (go_at_call 63; first | (with_reducible refine (QA.out _).mono ?_; rintro e wf ⟨rfl, rfl⟩) | (with_reducible refine (QD.out _).mono ?_; rintro e wf ⟨rfl, rfl⟩) | (with_reducible refine (QN.out _).mono ?_; rintro e wf ⟨rfl, rfl⟩) | (with_reducible refine (QM.out _).mono ?_; rintro e wf ⟨rfl, rfl⟩))
      | ((with_reducible refine wpl_isDst 149 ?_); first | (refine wpl_skip rfl ?_) | (first | refine S.ld 3 _ rfl b10 4 rfl 0 _ rfl _ rfl _ Try.underlying3 rfl rfl ?_ | refine S.ld 3 _ rfl b10 4 rfl 1 _ rfl _ rfl _ Try.underlying3 rfl rfl ?_ | refine S.ld 3 _ rfl b10 4 rfl 2 _ rfl _ rfl _ Try.underlying3 rfl rfl ?_))
      | ((with_reducible refine wpl_isDst 163 ?_); (first | refine S.ldAll 30 _ rfl b10 rfl 0 _ rfl _ Try.underlying30 rfl (szA _ rfl) rfl ?_ | refine S.ldAll 30 _ rfl b10 rfl 1 _ rfl _ Try.underlying30 rfl (szA _ rfl) rfl ?_ | refine S.ldAll 30 _ rfl b10 rfl 2 _ rfl _ Try.underlying30 rfl (szA _ rfl) rfl ?_)))
    (try simp only [Exit.inBlock, Exit.then])
    (first | refine bodyPost_ret (S.results2 rfl _ _ rfl 0 _ rfl _ Try.underlying30 rfl (szA _ rfl)) rfl ?_ | refine bodyPost_ret (S.results2 rfl _ _ rfl 1 _ rfl _ Try.underlying30 rfl (szA _ rfl)) rfl ?_ | refine bodyPost_ret (S.results2 rfl _ _ rfl 2 _ rfl _ Try.underlying30 rfl (szA _ rfl)) rfl ?_)
    exact ⟨_, _, rfl, HX.out, S.low⟩
set_option maxHeartbeats 20000000 in
set_option maxRecDepth 100000 in
theorem rmul_long14 (h k ga gd gn gm x : Nat) (X : IV) (kh : bits .and .u16 ((h : Int) / 16) 15 = 14) (kw : bits .and .u16 ((k : Int) / 16) 15 = 0) (ka : (k : Int) / 4096 = (ga : Int)) (kd : bits .and .u16 ((k : Int) / 256) 15 = (gd : Int)) (kn : bits .and .u16 (h : Int) 15 = (gn : Int)) (km : bits .and .u16 (k : Int) 15 = (gm : Int)) (ba : ga < 16) (bd : gd < 16) (bn : gn < 16) (bm : gm < 16) (hc : True) (kz : bits .and .u16 ((h : Int) / 32) 3 = 3)
    (H1 : (oddS gd || (oddS ga || (oddS gn || oddS gm))) = false → ga ≠ gd → fin (r4 26 false ga gn gm gd) true x = X) (H2 : (oddS gd || (oddS ga || (oddS gn || oddS gm))) = true → fin (startI 65 0 0) true x = X) (H3 : ga = gd → fin (startI 65 0 0) true x = X)
    (w : World) : Calls Try.prog 31 #[.int .u16 h, .int .u16 k] w fun e w' => Two w X x e w' := by
  have QN : Hid _ := fun w => rodd_c gn w
  have QM : Hid _ := fun w => rodd_c gm w
  have QA : Hid _ := fun w => rodd_c gd w
  have QD : Hid _ := fun w => rodd_c ga w
  clear hc
  generalize oddS (gd : Int) = oa at *
  generalize oddS (ga : Int) = od at *
  generalize oddS (gn : Int) = on at *
  generalize oddS (gm : Int) = om at *
  rcases (show ga = gd ∨ ga ≠ gd by omega) with hq | hq
  focus
    have q1 : ((ga : Int) == (gd : Int)) = true := by rw [hq]; exact beq_self_eq_true _
    have HX : Hid _ := H3 hq
    clear H1 H2 H3
  rotate_left 1
  focus
    have q1 : ((ga : Int) == (gd : Int)) = false := by simp; omega
    cases oa
    focus
      cases od
      focus
        cases on
        focus
          cases om
          focus
            have HX : Hid _ := H1 rfl hq
            clear H1 H2 H3
          rotate_left 1
          focus
            have HX : Hid _ := H2 rfl
            clear H1 H2 H3
          rotate_left 1
        rotate_left 2
        focus
          have HX : Hid _ := H2 rfl
          clear H1 H2 H3
        rotate_left 1
      rotate_left 3
      focus
        have HX : Hid _ := H2 rfl
        clear H1 H2 H3
      rotate_left 1
    rotate_left 4
    focus
      have HX : Hid _ := H2 rfl
      clear H1 H2 H3
    rotate_left 1
  rotate_left 5
  all_goals
    go_enter Try.func31, Try.ntmps31
    have S := SH.start w
    go_wp2_with (first
      | ((with_reducible refine wpl_isDst 4 ?_); (first | refine S.alloc rfl 30 rfl (Cel.any zeroL) zeroA ?_ | refine SH.alloc (L := []) S rfl 30 rfl (Cel.any zeroL) zeroA ?_); clear S; intro b4 w4 S)
      | (go_at_call 62; refine (rwide_c _ _).mono ?_; rintro e wf ⟨rfl, hbf⟩; replace S := S.below hbf; clear hbf)
      | ((with_reducible refine wpl_isDst 10 ?_); (first | refine S.alloc rfl 30 rfl (Cel.any zeroL) zeroA ?_ | refine SH.alloc (L := []) S rfl 30 rfl (Cel.any zeroL) zeroA ?_); clear S; intro b10 w10 S)
      | ((with_reducible refine wpl_isStoreAt 10 ?_); (first | refine S.storeA rfl 30 _ _ rfl b10 _ rfl rfl 0 _ rfl rfl rfl (szA _ rfl) ?_ | refine S.storeA rfl 30 _ _ rfl b10 _ rfl rfl 1 _ rfl rfl rfl (szA _ rfl) ?_ | refine S.storeA rfl 30 _ _ rfl b10 _ rfl rfl 2 _ rfl rfl rfl (szA _ rfl) ?_); clear S; intro w2 S; (simp only [Cel.cells, IV.cellsL, zeroL, List.set_cons_zero, List.set_cons_succ, startI, secondI, noneI, startI, r4] at S))
      | ((with_reducible refine wpl_isStoreAt 29 ?_); (first | refine S.store1 rfl 3 _ _ rfl b10 5 (.int _ _) rfl rfl 0 _ rfl rfl (of_decide_eq_true rfl) (Cel.any _) rfl (by kernel_rfl) ?_ | refine S.store1 rfl 3 _ _ rfl b10 5 (.int _ _) rfl rfl 1 _ rfl rfl (of_decide_eq_true rfl) (Cel.any _) rfl (by kernel_rfl) ?_ | refine S.store1 rfl 3 _ _ rfl b10 5 (.int _ _) rfl rfl 2 _ rfl rfl (of_decide_eq_true rfl) (Cel.any _) rfl (by kernel_rfl) ?_); clear S; intro w2 S; (simp only [Cel.cells, IV.cellsL, zeroL, List.set_cons_zero, List.set_cons_succ, startI, secondI, noneI, startI, r4] at S))
      | ((with_reducible refine wpl_isStoreAt 30 ?_); (first | refine S.store1 rfl 3 _ _ rfl b10 6 (.int _ _) rfl rfl 0 _ rfl rfl (of_decide_eq_true rfl) (Cel.any _) rfl (by kernel_rfl) ?_ | refine S.store1 rfl 3 _ _ rfl b10 6 (.int _ _) rfl rfl 1 _ rfl rfl (of_decide_eq_true rfl) (Cel.any _) rfl (by kernel_rfl) ?_ | refine S.store1 rfl 3 _ _ rfl b10 6 (.int _ _) rfl rfl 2 _ rfl rfl (of_decide_eq_true rfl) (Cel.any _) rfl (by kernel_rfl) ?_); clear S; intro w2 S; (simp only [Cel.cells, IV.cellsL, zeroL, List.set_cons_zero, List.set_cons_succ, startI, secondI, noneI, startI, r4] at S))
      | ((with_reducible refine wpl_isStoreAt 31 ?_); (first | refine S.store1 rfl 3 _ _ rfl b10 4 (.int _ _) rfl rfl 0 _ rfl rfl (of_decide_eq_true rfl) (Cel.any _) rfl (by kernel_rfl) ?_ | refine S.store1 rfl 3 _ _ rfl b10 4 (.int _ _) rfl rfl 1 _ rfl rfl (of_decide_eq_true rfl) (Cel.any _) rfl (by kernel_rfl) ?_ | refine S.store1 rfl 3 _ _ rfl b10 4 (.int _ _) rfl rfl 2 _ rfl rfl (of_decide_eq_true rfl) (Cel.any _) rfl (by kernel_rfl) ?_); clear S; intro w2 S; (simp only [Cel.cells, IV.cellsL, zeroL, List.set_cons_zero, List.set_cons_succ, startI, secondI, noneI, startI, r4] at S))
      | ((with_reducible refine wpl_isDst 125 ?_); (first | refine S.sliceA rfl 66 4 _ rfl [.int .i64 25, .int .i64 24, .int .i64 27, .int .i64 26] 3 (by kernel_rfl) ?_ | refine SH.sliceA (L := []) S rfl 66 4 _ rfl [.int .i64 25, .int .i64 24, .int .i64 27, .int .i64 26] 3 (by kernel_rfl) ?_); clear S; intro g125 w125 S)
      | ((with_reducible refine wpl_isDst 130 ?_); (first | refine S.ld 3 _ rfl _ _ rfl 0 _ rfl _ rfl _ Try.underlying3 rfl rfl ?_ | refine S.ld 3 _ rfl _ _ rfl 1 _ rfl _ rfl _ Try.underlying3 rfl rfl ?_ | refine S.ld 3 _ rfl _ _ rfl 2 _ rfl _ rfl _ Try.underlying3 rfl rfl ?_))
      | ((with_reducible refine wpl_isStoreAt 131 ?_); (first | refine S.store1 rfl 3 _ _ rfl b10 0 (.int _ _) rfl rfl 0 _ rfl rfl (of_decide_eq_true rfl) (Cel.any _) rfl (by kernel_rfl) ?_ | refine S.store1 rfl 3 _ _ rfl b10 0 (.int _ _) rfl rfl 1 _ rfl rfl (of_decide_eq_true rfl) (Cel.any _) rfl (by kernel_rfl) ?_ | refine S.store1 rfl 3 _ _ rfl b10 0 (.int _ _) rfl rfl 2 _ rfl rfl (of_decide_eq_true rfl) (Cel.any _) rfl (by kernel_rfl) ?_); clear S; intro w2 S; (simp only [Cel.cells, IV.cellsL, zeroL, List.set_cons_zero, List.set_cons_succ, startI, secondI, noneI, startI, r4] at S))
      | ((with_reducible refine wpl_isStoreAt 134 ?_); (first | refine S.store1 rfl 3 _ _ rfl b10 4 (.int _ _) rfl rfl 0 _ rfl rfl (of_decide_eq_true rfl) (Cel.any _) rfl (by kernel_rfl) ?_ | refine S.store1 rfl 3 _ _ rfl b10 4 (.int _ _) rfl rfl 1 _ rfl rfl (of_decide_eq_true rfl) (Cel.any _) rfl (by kernel_rfl) ?_ | refine S.store1 rfl 3 _ _ rfl b10 4 (.int _ _) rfl rfl 2 _ rfl rfl (of_decide_eq_true rfl) (Cel.any _) rfl (by kernel_rfl) ?_); clear S; intro w2 S; (simp only [Cel.cells, IV.cellsL, zeroL, List.set_cons_zero, List.set_cons_succ, startI, secondI, noneI, startI, r4] at S))
      | ((with_reducible refine wpl_isDst 136 ?_); (first | refine S.ld 3 _ rfl b10 4 rfl 0 _ rfl _ rfl _ Try.underlying3 rfl rfl ?_ | refine S.ld 3 _ rfl b10 4 rfl 1 _ rfl _ rfl _ Try.underlying3 rfl rfl ?_ | refine S.ld 3 _ rfl b10 4 rfl 2 _ rfl _ rfl _ Try.underlying3 rfl rfl ?_))
      | (go_at_call 61; refine (runp_c _).mono ?_; rintro e wf ⟨rfl, hbf⟩; replace S := S.below hbf; clear hbf)
      | ((with_reducible refine wpl_isStoreAt 4 ?_); (first | refine S.storeA rfl 30 _ _ rfl b4 _ rfl rfl 0 _ rfl rfl rfl (szA _ rfl) ?_ | refine S.storeA rfl 30 _ _ rfl b4 _ rfl rfl 1 _ rfl rfl rfl (szA _ rfl) ?_ | refine S.storeA rfl 30 _ _ rfl b4 _ rfl rfl 2 _ rfl rfl rfl (szA _ rfl) ?_); clear S; intro w2 S; (simp only [Cel.cells, IV.cellsL, zeroL, List.set_cons_zero, List.set_cons_succ, startI, secondI, noneI, startI, r4] at S))
      | ((with_reducible refine wpl_isStoreAt 143 ?_); (first | refine S.store1 rfl 3 _ _ rfl b10 7 (.int _ _) rfl rfl 0 _ rfl rfl (of_decide_eq_true rfl) (Cel.any _) rfl (by kernel_rfl) ?_ | refine S.store1 rfl 3 _ _ rfl b10 7 (.int _ _) rfl rfl 1 _ rfl rfl (of_decide_eq_true rfl) (Cel.any _) rfl (by kernel_rfl) ?_ | refine S.store1 rfl 3 _ _ rfl b10 7 (.int _ _) rfl rfl 2 _ rfl rfl (of_decide_eq_true rfl) (Cel.any _) rfl (by kernel_rfl) ?_); clear S; intro w2 S; (simp only [Cel.cells, IV.cellsL, zeroL, List.set_cons_zero, List.set_cons_succ, startI, secondI, noneI, startI, r4] at S))
      | ((with_reducible refine wpl_isDst 145 ?_); (first | refine S.ld 3 _ rfl b10 7 rfl 0 _ rfl _ rfl _ Try.underlying3 rfl rfl ?_ | refine S.ld 3 _ rfl b10 7 rfl 1 _ rfl _ rfl _ Try.underlying3 rfl rfl ?_ | refine S.ld 3 _ rfl b10 7 rfl 2 _ rfl _ rfl _ Try.underlying3 rfl rfl ?_))
      | (go_at_call 63; first | (with_reducible refine (QA.out _).mono ?_; rintro e wf ⟨rfl, rfl⟩) | (with_reducible refine (QD.out _).mono ?_; rintro e wf ⟨rfl, rfl⟩) | (with_reducible refine (QN.out _).mono ?_; rintro e wf ⟨rfl, rfl⟩) | (with_reducible refine (QM.out _).mono ?_; rintro e wf ⟨rfl, rfl⟩))
      | ((with_reducible refine wpl_isDst 149 ?_); first | (refine wpl_skip rfl ?_) | (first | refine S.ld 3 _ rfl b10 4 rfl 0 _ rfl _ rfl _ Try.underlying3 rfl rfl ?_ | refine S.ld 3 _ rfl b10 4 rfl 1 _ rfl _ rfl _ Try.underlying3 rfl rfl ?_ | refine S.ld 3 _ rfl b10 4 rfl 2 _ rfl _ rfl _ Try.underlying3 rfl rfl ?_))
      | ((with_reducible refine wpl_isDst 163 ?_); (first | refine S.ldAll 30 _ rfl b10 rfl 0 _ rfl _ Try.underlying30 rfl (szA _ rfl) rfl ?_ | refine S.ldAll 30 _ rfl b10 rfl 1 _ rfl _ Try.underlying30 rfl (szA _ rfl) rfl ?_ | refine S.ldAll 30 _ rfl b10 rfl 2 _ rfl _ Try.underlying30 rfl (szA _ rfl) rfl ?_)))
    (try simp only [Exit.inBlock, Exit.then])
    (first | refine bodyPost_ret (S.results2 rfl _ _ rfl 0 _ rfl _ Try.underlying30 rfl (szA _ rfl)) rfl ?_ | refine bodyPost_ret (S.results2 rfl _ _ rfl 1 _ rfl _ Try.underlying30 rfl (szA _ rfl)) rfl ?_ | refine bodyPost_ret (S.results2 rfl _ _ rfl 2 _ rfl _ Try.underlying30 rfl (szA _ rfl)) rfl ?_)
    exact ⟨_, _, rfl, HX.out, S.low⟩
end Go.Proofs.Ytigmekboikgoaaa
