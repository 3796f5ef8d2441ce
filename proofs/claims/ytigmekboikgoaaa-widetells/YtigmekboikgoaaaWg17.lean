/- Stage 9: the document: products and quotients. -/
import Derived.Test.YtigmekboikgoaaaWg1
namespace Go.Proofs.Ytigmekboikgoaaa
open Go.ChangeShapes Go.WideShapes Go.ChangeAt Go.RowKit
set_option linter.unusedVariables false
set_option linter.unusedSimpArgs false

set_option maxHeartbeats 20000000 in
set_option maxRecDepth 100000 in
theorem rmul_mul (h k ga gd gn gm x : Nat) (X : IV) (kh : bits .and .u16 ((h : Int) / 16) 15 = 0) (kw : bits .and .u16 ((k : Int) / 16) 15 = 0) (ka : (k : Int) / 4096 = (ga : Int)) (kd : bits .and .u16 ((k : Int) / 256) 15 = (gd : Int)) (kn : bits .and .u16 (h : Int) 15 = (gn : Int)) (km : bits .and .u16 (k : Int) 15 = (gm : Int)) (ba : ga < 16) (bd : gd < 16) (bn : gn < 16) (bm : gm < 16) (hc : (ga = 15))
    (H1 : (oddS 0 || (oddS gd || (oddS gn || oddS gm))) = false → fin (r4 21 false gd gn gm 0) true x = X) (H2 : (oddS 0 || (oddS gd || (oddS gn || oddS gm))) = true → fin (startI 65 0 0) true x = X) 
    (w : World) : Calls Try.prog 31 #[.int .u16 h, .int .u16 k] w fun e w' => Two w X x e w' := by
  have QN : Hid _ := fun w => rodd_c gn w
  have QM : Hid _ := fun w => rodd_c gm w
  have QA : Hid _ := fun w => rodd_c 0 w
  have QD : Hid _ := fun w => rodd_c gd w
  subst hc
  replace ka : (k : Int) / 4096 = 15 := ka
  rw [show oddS 0 = false from rfl, Bool.false_or] at H1 H2
  have QZ : Hid (∀ w, Calls Try.prog 63 #[.int .i64 0] w fun e w' => e = .returned (.bool false) ∧ w' = w) := fun w => rodd_c 0 w
  clear QA
  have QA := QZ
  clear QZ
  generalize oddS (gd : Int) = od at *
  generalize oddS (gn : Int) = on at *
  generalize oddS (gm : Int) = om at *
  cases od
  focus
    cases on
    focus
      cases om
      focus
        have HX : Hid _ := H1 rfl
        clear H1 H2
      rotate_left 1
      focus
        have HX : Hid _ := H2 rfl
        clear H1 H2
      rotate_left 1
    rotate_left 2
    focus
      have HX : Hid _ := H2 rfl
      clear H1 H2
    rotate_left 1
  rotate_left 3
  focus
    have HX : Hid _ := H2 rfl
    clear H1 H2
  rotate_left 1
  all_goals
    go_enter Try.func31, Try.ntmps31
    have S := SH.start w
    go_wp2_with (first
      | ((with_reducible refine wpl_isDst 4 ?_); (first | refine S.alloc rfl 30 rfl (Cel.any zeroL) zeroA ?_ | refine SH.alloc (L := []) S rfl 30 rfl (Cel.any zeroL) zeroA ?_); clear S; intro b4 w4 S)
      | (go_at_call 62; refine (rwide_c _ _).mono ?_; rintro e wf ⟨rfl, hbf⟩; replace S := S.below hbf; clear hbf)
      | ((with_reducible refine wpl_isDst 10 ?_); (first | refine S.alloc rfl 30 rfl (Cel.any zeroL) zeroA ?_ | refine SH.alloc (L := []) S rfl 30 rfl (Cel.any zeroL) zeroA ?_); clear S; intro b10 w10 S)
      | ((with_reducible refine wpl_isStoreAt 10 ?_); (first | refine S.storeA rfl 30 _ _ rfl b10 _ rfl rfl 0 _ rfl rfl rfl (szA _ rfl) ?_ | refine S.storeA rfl 30 _ _ rfl b10 _ rfl rfl 1 _ rfl rfl rfl (szA _ rfl) ?_ | refine S.storeA rfl 30 _ _ rfl b10 _ rfl rfl 2 _ rfl rfl rfl (szA _ rfl) ?_); clear S; intro w2 S; (simp only [Cel.cells, IV.cellsL, zeroL, List.set_cons_zero, List.set_cons_succ, startI, secondI, noneI, startI, r4] at S))
      | ((with_reducible refine wpl_isStoreAt 29 ?_); (first | refine S.store1 rfl 3 _ _ rfl b10 5 (.int _ _) rfl rfl 0 _ rfl rfl (of_decide_eq_true rfl) (Cel.any _) rfl (by kernel_rfl) ?_ | refine S.store1 rfl 3 _ _ rfl b10 5 (.int _ _) rfl rfl 1 _ rfl rfl (of_decide_eq_true rfl) (Cel.any _) rfl (by kernel_rfl) ?_ | refine S.store1 rfl 3 _ _ rfl b10 5 (.int _ _) rfl rfl 2 _ rfl rfl (of_decide_eq_true rfl) (Cel.any _) rfl (by kernel_rfl) ?_); clear S; intro w2 S; (simp only [Cel.cells, IV.cellsL, zeroL, List.set_cons_zero, List.set_cons_succ, startI, secondI, noneI, startI, r4] at S))
      | ((with_reducible refine wpl_isStoreAt 30 ?_); (first | refine S.store1 rfl 3 _ _ rfl b10 6 (.int _ _) rfl rfl 0 _ rfl rfl (of_decide_eq_true rfl) (Cel.any _) rfl (by kernel_rfl) ?_ | refine S.store1 rfl 3 _ _ rfl b10 6 (.int _ _) rfl rfl 1 _ rfl rfl (of_decide_eq_true rfl) (Cel.any _) rfl (by kernel_rfl) ?_ | refine S.store1 rfl 3 _ _ rfl b10 6 (.int _ _) rfl rfl 2 _ rfl rfl (of_decide_eq_true rfl) (Cel.any _) rfl (by kernel_rfl) ?_); clear S; intro w2 S; (simp only [Cel.cells, IV.cellsL, zeroL, List.set_cons_zero, List.set_cons_succ, startI, secondI, noneI, startI, r4] at S))
      | ((with_reducible refine wpl_isStoreAt 31 ?_); (first | refine S.store1 rfl 3 _ _ rfl b10 4 (.int _ _) rfl rfl 0 _ rfl rfl (of_decide_eq_true rfl) (Cel.any _) rfl (by kernel_rfl) ?_ | refine S.store1 rfl 3 _ _ rfl b10 4 (.int _ _) rfl rfl 1 _ rfl rfl (of_decide_eq_true rfl) (Cel.any _) rfl (by kernel_rfl) ?_ | refine S.store1 rfl 3 _ _ rfl b10 4 (.int _ _) rfl rfl 2 _ rfl rfl (of_decide_eq_true rfl) (Cel.any _) rfl (by kernel_rfl) ?_); clear S; intro w2 S; (simp only [Cel.cells, IV.cellsL, zeroL, List.set_cons_zero, List.set_cons_succ, startI, secondI, noneI, startI, r4] at S))
      | ((with_reducible refine wpl_isStoreAt 49 ?_); (first | refine S.store1 rfl 3 _ _ rfl b10 0 (.int _ _) rfl rfl 0 _ rfl rfl (of_decide_eq_true rfl) (Cel.any _) rfl (by kernel_rfl) ?_ | refine S.store1 rfl 3 _ _ rfl b10 0 (.int _ _) rfl rfl 1 _ rfl rfl (of_decide_eq_true rfl) (Cel.any _) rfl (by kernel_rfl) ?_ | refine S.store1 rfl 3 _ _ rfl b10 0 (.int _ _) rfl rfl 2 _ rfl rfl (of_decide_eq_true rfl) (Cel.any _) rfl (by kernel_rfl) ?_); clear S; intro w2 S; (simp only [Cel.cells, IV.cellsL, zeroL, List.set_cons_zero, List.set_cons_succ, startI, secondI, noneI, startI, r4] at S))
      | ((with_reducible refine wpl_isStoreAt 143 ?_); (first | refine S.store1 rfl 3 _ _ rfl b10 7 (.int _ _) rfl rfl 0 _ rfl rfl (of_decide_eq_true rfl) (Cel.any _) rfl (by kernel_rfl) ?_ | refine S.store1 rfl 3 _ _ rfl b10 7 (.int _ _) rfl rfl 1 _ rfl rfl (of_decide_eq_true rfl) (Cel.any _) rfl (by kernel_rfl) ?_ | refine S.store1 rfl 3 _ _ rfl b10 7 (.int _ _) rfl rfl 2 _ rfl rfl (of_decide_eq_true rfl) (Cel.any _) rfl (by kernel_rfl) ?_); clear S; intro w2 S; (simp only [Cel.cells, IV.cellsL, zeroL, List.set_cons_zero, List.set_cons_succ, startI, secondI, noneI, startI, r4] at S))
      | ((with_reducible refine wpl_isDst 145 ?_); (first | refine S.ld 3 _ rfl b10 7 rfl 0 _ rfl _ rfl _ Try.underlying3 rfl rfl ?_ | refine S.ld 3 _ rfl b10 7 rfl 1 _ rfl _ rfl _ Try.underlying3 rfl rfl ?_ | refine S.ld 3 _ rfl b10 7 rfl 2 _ rfl _ rfl _ Try.underlying3 rfl rfl ?_))
      | (go_at_call 63; first | (with_reducible refine (QA.out _).mono ?_; rintro e wf ⟨rfl, rfl⟩) | (with_reducible refine (QD.out _).mono ?_; rintro e wf ⟨rfl, rfl⟩) | (with_reducible refine (QN.out _).mono ?_; rintro e wf ⟨rfl, rfl⟩) | (with_reducible refine (QM.out _).mono ?_; rintro e wf ⟨rfl, rfl⟩))
      | ((with_reducible refine wpl_isDst 149 ?_); first | (refine wpl_skip rfl ?_) | (first | refine S.ld 3 _ rfl b10 4 rfl 0 _ rfl _ rfl _ Try.underlying3 rfl rfl ?_ | refine S.ld 3 _ rfl b10 4 rfl 1 _ rfl _ rfl _ Try.underlying3 rfl rfl ?_ | refine S.ld 3 _ rfl b10 4 rfl 2 _ rfl _ rfl _ Try.underlying3 rfl rfl ?_))
      | ((with_reducible refine wpl_isDst 163 ?_); (first | refine S.ldAll 30 _ rfl b10 rfl 0 _ rfl _ Try.underlying30 rfl (szA _ rfl) rfl ?_ | refine S.ldAll 30 _ rfl b10 rfl 1 _ rfl _ Try.underlying30 rfl (szA _ rfl) rfl ?_ | refine S.ldAll 30 _ rfl b10 rfl 2 _ rfl _ Try.underlying30 rfl (szA _ rfl) rfl ?_))
      | ((with_reducible refine wpl_isStoreAt 4 ?_); (first | refine S.storeA rfl 30 _ _ rfl b4 _ rfl rfl 0 _ rfl rfl rfl (szA _ rfl) ?_ | refine S.storeA rfl 30 _ _ rfl b4 _ rfl rfl 1 _ rfl rfl rfl (szA _ rfl) ?_ | refine S.storeA rfl 30 _ _ rfl b4 _ rfl rfl 2 _ rfl rfl rfl (szA _ rfl) ?_); clear S; intro w2 S; (simp only [Cel.cells, IV.cellsL, zeroL, List.set_cons_zero, List.set_cons_succ, startI, secondI, noneI, startI, r4] at S))
      | (go_at_call 61; refine (runp_c _).mono ?_; rintro e wf ⟨rfl, hbf⟩; replace S := S.below hbf; clear hbf))
    (try simp only [Exit.inBlock, Exit.then])
    (first | refine bodyPost_ret (S.results2 rfl _ _ rfl 0 _ rfl _ Try.underlying30 rfl (szA _ rfl)) rfl ?_ | refine bodyPost_ret (S.results2 rfl _ _ rfl 1 _ rfl _ Try.underlying30 rfl (szA _ rfl)) rfl ?_ | refine bodyPost_ret (S.results2 rfl _ _ rfl 2 _ rfl _ Try.underlying30 rfl (szA _ rfl)) rfl ?_)
    exact ⟨_, _, rfl, HX.out, S.low⟩
set_option maxHeartbeats 20000000 in
set_option maxRecDepth 100000 in
theorem rmul_mla (h k ga gd gn gm x : Nat) (X : IV) (kh : bits .and .u16 ((h : Int) / 16) 15 = 0) (kw : bits .and .u16 ((k : Int) / 16) 15 = 0) (ka : (k : Int) / 4096 = (ga : Int)) (kd : bits .and .u16 ((k : Int) / 256) 15 = (gd : Int)) (kn : bits .and .u16 (h : Int) 15 = (gn : Int)) (km : bits .and .u16 (k : Int) 15 = (gm : Int)) (ba : ga < 16) (bd : gd < 16) (bn : gn < 16) (bm : gm < 16) (hc : (ga ≠ 15))
    (H1 : (oddS ga || (oddS gd || (oddS gn || oddS gm))) = false → fin (r4 22 false gd gn gm ga) true x = X) (H2 : (oddS ga || (oddS gd || (oddS gn || oddS gm))) = true → fin (startI 65 0 0) true x = X) 
    (w : World) : Calls Try.prog 31 #[.int .u16 h, .int .u16 k] w fun e w' => Two w X x e w' := by
  have QN : Hid _ := fun w => rodd_c gn w
  have QM : Hid _ := fun w => rodd_c gm w
  have QA : Hid _ := fun w => rodd_c ga w
  have QD : Hid _ := fun w => rodd_c gd w
  have hc2 : ((ga : Int) == 15) = false := by simp; omega
  clear hc
  generalize oddS (ga : Int) = oa at *
  generalize oddS (gd : Int) = od at *
  generalize oddS (gn : Int) = on at *
  generalize oddS (gm : Int) = om at *
  cases oa
  focus
    cases od
    focus
      cases on
      focus
        cases om
        focus
          have HX : Hid _ := H1 rfl
          clear H1 H2
        rotate_left 1
        focus
          have HX : Hid _ := H2 rfl
          clear H1 H2
        rotate_left 1
      rotate_left 2
      focus
        have HX : Hid _ := H2 rfl
        clear H1 H2
      rotate_left 1
    rotate_left 3
    focus
      have HX : Hid _ := H2 rfl
      clear H1 H2
    rotate_left 1
  rotate_left 4
  focus
    have HX : Hid _ := H2 rfl
    clear H1 H2
  rotate_left 1
  all_goals
    go_enter Try.func31, Try.ntmps31
    have S := SH.start w
    go_wp2_with (first
      | ((with_reducible refine wpl_isDst 4 ?_); (first | refine S.alloc rfl 30 rfl (Cel.any zeroL) zeroA ?_ | refine SH.alloc (L := []) S rfl 30 rfl (Cel.any zeroL) zeroA ?_); clear S; intro b4 w4 S)
      | (go_at_call 62; refine (rwide_c _ _).mono ?_; rintro e wf ⟨rfl, hbf⟩; replace S := S.below hbf; clear hbf)
      | ((with_reducible refine wpl_isDst 10 ?_); (first | refine S.alloc rfl 30 rfl (Cel.any zeroL) zeroA ?_ | refine SH.alloc (L := []) S rfl 30 rfl (Cel.any zeroL) zeroA ?_); clear S; intro b10 w10 S)
      | ((with_reducible refine wpl_isStoreAt 10 ?_); (first | refine S.storeA rfl 30 _ _ rfl b10 _ rfl rfl 0 _ rfl rfl rfl (szA _ rfl) ?_ | refine S.storeA rfl 30 _ _ rfl b10 _ rfl rfl 1 _ rfl rfl rfl (szA _ rfl) ?_ | refine S.storeA rfl 30 _ _ rfl b10 _ rfl rfl 2 _ rfl rfl rfl (szA _ rfl) ?_); clear S; intro w2 S; (simp only [Cel.cells, IV.cellsL, zeroL, List.set_cons_zero, List.set_cons_succ, startI, secondI, noneI, startI, r4] at S))
      | ((with_reducible refine wpl_isStoreAt 29 ?_); (first | refine S.store1 rfl 3 _ _ rfl b10 5 (.int _ _) rfl rfl 0 _ rfl rfl (of_decide_eq_true rfl) (Cel.any _) rfl (by kernel_rfl) ?_ | refine S.store1 rfl 3 _ _ rfl b10 5 (.int _ _) rfl rfl 1 _ rfl rfl (of_decide_eq_true rfl) (Cel.any _) rfl (by kernel_rfl) ?_ | refine S.store1 rfl 3 _ _ rfl b10 5 (.int _ _) rfl rfl 2 _ rfl rfl (of_decide_eq_true rfl) (Cel.any _) rfl (by kernel_rfl) ?_); clear S; intro w2 S; (simp only [Cel.cells, IV.cellsL, zeroL, List.set_cons_zero, List.set_cons_succ, startI, secondI, noneI, startI, r4] at S))
      | ((with_reducible refine wpl_isStoreAt 30 ?_); (first | refine S.store1 rfl 3 _ _ rfl b10 6 (.int _ _) rfl rfl 0 _ rfl rfl (of_decide_eq_true rfl) (Cel.any _) rfl (by kernel_rfl) ?_ | refine S.store1 rfl 3 _ _ rfl b10 6 (.int _ _) rfl rfl 1 _ rfl rfl (of_decide_eq_true rfl) (Cel.any _) rfl (by kernel_rfl) ?_ | refine S.store1 rfl 3 _ _ rfl b10 6 (.int _ _) rfl rfl 2 _ rfl rfl (of_decide_eq_true rfl) (Cel.any _) rfl (by kernel_rfl) ?_); clear S; intro w2 S; (simp only [Cel.cells, IV.cellsL, zeroL, List.set_cons_zero, List.set_cons_succ, startI, secondI, noneI, startI, r4] at S))
      | ((with_reducible refine wpl_isStoreAt 31 ?_); (first | refine S.store1 rfl 3 _ _ rfl b10 4 (.int _ _) rfl rfl 0 _ rfl rfl (of_decide_eq_true rfl) (Cel.any _) rfl (by kernel_rfl) ?_ | refine S.store1 rfl 3 _ _ rfl b10 4 (.int _ _) rfl rfl 1 _ rfl rfl (of_decide_eq_true rfl) (Cel.any _) rfl (by kernel_rfl) ?_ | refine S.store1 rfl 3 _ _ rfl b10 4 (.int _ _) rfl rfl 2 _ rfl rfl (of_decide_eq_true rfl) (Cel.any _) rfl (by kernel_rfl) ?_); clear S; intro w2 S; (simp only [Cel.cells, IV.cellsL, zeroL, List.set_cons_zero, List.set_cons_succ, startI, secondI, noneI, startI, r4] at S))
      | ((with_reducible refine wpl_isStoreAt 59 ?_); (first | refine S.store1 rfl 3 _ _ rfl b10 0 (.int _ _) rfl rfl 0 _ rfl rfl (of_decide_eq_true rfl) (Cel.any _) rfl (by kernel_rfl) ?_ | refine S.store1 rfl 3 _ _ rfl b10 0 (.int _ _) rfl rfl 1 _ rfl rfl (of_decide_eq_true rfl) (Cel.any _) rfl (by kernel_rfl) ?_ | refine S.store1 rfl 3 _ _ rfl b10 0 (.int _ _) rfl rfl 2 _ rfl rfl (of_decide_eq_true rfl) (Cel.any _) rfl (by kernel_rfl) ?_); clear S; intro w2 S; (simp only [Cel.cells, IV.cellsL, zeroL, List.set_cons_zero, List.set_cons_succ, startI, secondI, noneI, startI, r4] at S))
      | ((with_reducible refine wpl_isStoreAt 143 ?_); (first | refine S.store1 rfl 3 _ _ rfl b10 7 (.int _ _) rfl rfl 0 _ rfl rfl (of_decide_eq_true rfl) (Cel.any _) rfl (by kernel_rfl) ?_ | refine S.store1 rfl 3 _ _ rfl b10 7 (.int _ _) rfl rfl 1 _ rfl rfl (of_decide_eq_true rfl) (Cel.any _) rfl (by kernel_rfl) ?_ | refine S.store1 rfl 3 _ _ rfl b10 7 (.int _ _) rfl rfl 2 _ rfl rfl (of_decide_eq_true rfl) (Cel.any _) rfl (by kernel_rfl) ?_); clear S; intro w2 S; (simp only [Cel.cells, IV.cellsL, zeroL, List.set_cons_zero, List.set_cons_succ, startI, secondI, noneI, startI, r4] at S))
      | ((with_reducible refine wpl_isDst 145 ?_); (first | refine S.ld 3 _ rfl b10 7 rfl 0 _ rfl _ rfl _ Try.underlying3 rfl rfl ?_ | refine S.ld 3 _ rfl b10 7 rfl 1 _ rfl _ rfl _ Try.underlying3 rfl rfl ?_ | refine S.ld 3 _ rfl b10 7 rfl 2 _ rfl _ rfl _ Try.underlying3 rfl rfl ?_))
      | (go_at_call 63; first | (with_reducible refine (QA.out _).mono ?_; rintro e wf ⟨rfl, rfl⟩) | (with_reducible refine (QD.out _).mono ?_; rintro e wf ⟨rfl, rfl⟩) | (with_reducible refine (QN.out _).mono ?_; rintro e wf ⟨rfl, rfl⟩) | (with_reducible refine (QM.out _).mono ?_; rintro e wf ⟨rfl, rfl⟩))
      | ((with_reducible refine wpl_isDst 149 ?_); first | (refine wpl_skip rfl ?_) | (first | refine S.ld 3 _ rfl b10 4 rfl 0 _ rfl _ rfl _ Try.underlying3 rfl rfl ?_ | refine S.ld 3 _ rfl b10 4 rfl 1 _ rfl _ rfl _ Try.underlying3 rfl rfl ?_ | refine S.ld 3 _ rfl b10 4 rfl 2 _ rfl _ rfl _ Try.underlying3 rfl rfl ?_))
      | ((with_reducible refine wpl_isDst 163 ?_); (first | refine S.ldAll 30 _ rfl b10 rfl 0 _ rfl _ Try.underlying30 rfl (szA _ rfl) rfl ?_ | refine S.ldAll 30 _ rfl b10 rfl 1 _ rfl _ Try.underlying30 rfl (szA _ rfl) rfl ?_ | refine S.ldAll 30 _ rfl b10 rfl 2 _ rfl _ Try.underlying30 rfl (szA _ rfl) rfl ?_))
      | ((with_reducible refine wpl_isStoreAt 4 ?_); (first | refine S.storeA rfl 30 _ _ rfl b4 _ rfl rfl 0 _ rfl rfl rfl (szA _ rfl) ?_ | refine S.storeA rfl 30 _ _ rfl b4 _ rfl rfl 1 _ rfl rfl rfl (szA _ rfl) ?_ | refine S.storeA rfl 30 _ _ rfl b4 _ rfl rfl 2 _ rfl rfl rfl (szA _ rfl) ?_); clear S; intro w2 S; (simp only [Cel.cells, IV.cellsL, zeroL, List.set_cons_zero, List.set_cons_succ, startI, secondI, noneI, startI, r4] at S))
      | (go_at_call 61; refine (runp_c _).mono ?_; rintro e wf ⟨rfl, hbf⟩; replace S := S.below hbf; clear hbf))
    (try simp only [Exit.inBlock, Exit.then])
    (first | refine bodyPost_ret (S.results2 rfl _ _ rfl 0 _ rfl _ Try.underlying30 rfl (szA _ rfl)) rfl ?_ | refine bodyPost_ret (S.results2 rfl _ _ rfl 1 _ rfl _ Try.underlying30 rfl (szA _ rfl)) rfl ?_ | refine bodyPost_ret (S.results2 rfl _ _ rfl 2 _ rfl _ Try.underlying30 rfl (szA _ rfl)) rfl ?_)
    exact ⟨_, _, rfl, HX.out, S.low⟩
set_option maxHeartbeats 20000000 in
set_option maxRecDepth 100000 in
theorem rmul_mls (h k ga gd gn gm x : Nat) (X : IV) (kh : bits .and .u16 ((h : Int) / 16) 15 = 0) (kw : bits .and .u16 ((k : Int) / 16) 15 = 1) (ka : (k : Int) / 4096 = (ga : Int)) (kd : bits .and .u16 ((k : Int) / 256) 15 = (gd : Int)) (kn : bits .and .u16 (h : Int) 15 = (gn : Int)) (km : bits .and .u16 (k : Int) 15 = (gm : Int)) (ba : ga < 16) (bd : gd < 16) (bn : gn < 16) (bm : gm < 16) (hc : True)
    (H1 : (oddS ga || (oddS gd || (oddS gn || oddS gm))) = false → fin (r4 23 false gd gn gm ga) true x = X) (H2 : (oddS ga || (oddS gd || (oddS gn || oddS gm))) = true → fin (startI 65 0 0) true x = X) 
    (w : World) : Calls Try.prog 31 #[.int .u16 h, .int .u16 k] w fun e w' => Two w X x e w' := by
  have QN : Hid _ := fun w => rodd_c gn w
  have QM : Hid _ := fun w => rodd_c gm w
  have QA : Hid _ := fun w => rodd_c ga w
  have QD : Hid _ := fun w => rodd_c gd w
  clear hc
  generalize oddS (ga : Int) = oa at *
  generalize oddS (gd : Int) = od at *
  generalize oddS (gn : Int) = on at *
  generalize oddS (gm : Int) = om at *
  cases oa
  focus
    cases od
    focus
      cases on
      focus
        cases om
        focus
          have HX : Hid _ := H1 rfl
          clear H1 H2
        rotate_left 1
        focus
          have HX : Hid _ := H2 rfl
          clear H1 H2
        rotate_left 1
      rotate_left 2
      focus
        have HX : Hid _ := H2 rfl
        clear H1 H2
      rotate_left 1
    rotate_left 3
    focus
      have HX : Hid _ := H2 rfl
      clear H1 H2
    rotate_left 1
  rotate_left 4
  focus
    have HX : Hid _ := H2 rfl
    clear H1 H2
  rotate_left 1
  all_goals
    go_enter Try.func31, Try.ntmps31
    have S := SH.start w
    go_wp2_with (first
      | ((with_reducible refine wpl_isDst 4 ?_); (first | refine S.alloc rfl 30 rfl (Cel.any zeroL) zeroA ?_ | refine SH.alloc (L := []) S rfl 30 rfl (Cel.any zeroL) zeroA ?_); clear S; intro b4 w4 S)
      | (go_at_call 62; refine (rwide_c _ _).mono ?_; rintro e wf ⟨rfl, hbf⟩; replace S := S.below hbf; clear hbf)
      | ((with_reducible refine wpl_isDst 10 ?_); (first | refine S.alloc rfl 30 rfl (Cel.any zeroL) zeroA ?_ | refine SH.alloc (L := []) S rfl 30 rfl (Cel.any zeroL) zeroA ?_); clear S; intro b10 w10 S)
      | ((with_reducible refine wpl_isStoreAt 10 ?_); (first | refine S.storeA rfl 30 _ _ rfl b10 _ rfl rfl 0 _ rfl rfl rfl (szA _ rfl) ?_ | refine S.storeA rfl 30 _ _ rfl b10 _ rfl rfl 1 _ rfl rfl rfl (szA _ rfl) ?_ | refine S.storeA rfl 30 _ _ rfl b10 _ rfl rfl 2 _ rfl rfl rfl (szA _ rfl) ?_); clear S; intro w2 S; (simp only [Cel.cells, IV.cellsL, zeroL, List.set_cons_zero, List.set_cons_succ, startI, secondI, noneI, startI, r4] at S))
      | ((with_reducible refine wpl_isStoreAt 29 ?_); (first | refine S.store1 rfl 3 _ _ rfl b10 5 (.int _ _) rfl rfl 0 _ rfl rfl (of_decide_eq_true rfl) (Cel.any _) rfl (by kernel_rfl) ?_ | refine S.store1 rfl 3 _ _ rfl b10 5 (.int _ _) rfl rfl 1 _ rfl rfl (of_decide_eq_true rfl) (Cel.any _) rfl (by kernel_rfl) ?_ | refine S.store1 rfl 3 _ _ rfl b10 5 (.int _ _) rfl rfl 2 _ rfl rfl (of_decide_eq_true rfl) (Cel.any _) rfl (by kernel_rfl) ?_); clear S; intro w2 S; (simp only [Cel.cells, IV.cellsL, zeroL, List.set_cons_zero, List.set_cons_succ, startI, secondI, noneI, startI, r4] at S))
      | ((with_reducible refine wpl_isStoreAt 30 ?_); (first | refine S.store1 rfl 3 _ _ rfl b10 6 (.int _ _) rfl rfl 0 _ rfl rfl (of_decide_eq_true rfl) (Cel.any _) rfl (by kernel_rfl) ?_ | refine S.store1 rfl 3 _ _ rfl b10 6 (.int _ _) rfl rfl 1 _ rfl rfl (of_decide_eq_true rfl) (Cel.any _) rfl (by kernel_rfl) ?_ | refine S.store1 rfl 3 _ _ rfl b10 6 (.int _ _) rfl rfl 2 _ rfl rfl (of_decide_eq_true rfl) (Cel.any _) rfl (by kernel_rfl) ?_); clear S; intro w2 S; (simp only [Cel.cells, IV.cellsL, zeroL, List.set_cons_zero, List.set_cons_succ, startI, secondI, noneI, startI, r4] at S))
      | ((with_reducible refine wpl_isStoreAt 31 ?_); (first | refine S.store1 rfl 3 _ _ rfl b10 4 (.int _ _) rfl rfl 0 _ rfl rfl (of_decide_eq_true rfl) (Cel.any _) rfl (by kernel_rfl) ?_ | refine S.store1 rfl 3 _ _ rfl b10 4 (.int _ _) rfl rfl 1 _ rfl rfl (of_decide_eq_true rfl) (Cel.any _) rfl (by kernel_rfl) ?_ | refine S.store1 rfl 3 _ _ rfl b10 4 (.int _ _) rfl rfl 2 _ rfl rfl (of_decide_eq_true rfl) (Cel.any _) rfl (by kernel_rfl) ?_); clear S; intro w2 S; (simp only [Cel.cells, IV.cellsL, zeroL, List.set_cons_zero, List.set_cons_succ, startI, secondI, noneI, startI, r4] at S))
      | ((with_reducible refine wpl_isStoreAt 69 ?_); (first | refine S.store1 rfl 3 _ _ rfl b10 0 (.int _ _) rfl rfl 0 _ rfl rfl (of_decide_eq_true rfl) (Cel.any _) rfl (by kernel_rfl) ?_ | refine S.store1 rfl 3 _ _ rfl b10 0 (.int _ _) rfl rfl 1 _ rfl rfl (of_decide_eq_true rfl) (Cel.any _) rfl (by kernel_rfl) ?_ | refine S.store1 rfl 3 _ _ rfl b10 0 (.int _ _) rfl rfl 2 _ rfl rfl (of_decide_eq_true rfl) (Cel.any _) rfl (by kernel_rfl) ?_); clear S; intro w2 S; (simp only [Cel.cells, IV.cellsL, zeroL, List.set_cons_zero, List.set_cons_succ, startI, secondI, noneI, startI, r4] at S))
      | ((with_reducible refine wpl_isStoreAt 143 ?_); (first | refine S.store1 rfl 3 _ _ rfl b10 7 (.int _ _) rfl rfl 0 _ rfl rfl (of_decide_eq_true rfl) (Cel.any _) rfl (by kernel_rfl) ?_ | refine S.store1 rfl 3 _ _ rfl b10 7 (.int _ _) rfl rfl 1 _ rfl rfl (of_decide_eq_true rfl) (Cel.any _) rfl (by kernel_rfl) ?_ | refine S.store1 rfl 3 _ _ rfl b10 7 (.int _ _) rfl rfl 2 _ rfl rfl (of_decide_eq_true rfl) (Cel.any _) rfl (by kernel_rfl) ?_); clear S; intro w2 S; (simp only [Cel.cells, IV.cellsL, zeroL, List.set_cons_zero, List.set_cons_succ, startI, secondI, noneI, startI, r4] at S))
      | ((with_reducible refine wpl_isDst 145 ?_); (first | refine S.ld 3 _ rfl b10 7 rfl 0 _ rfl _ rfl _ Try.underlying3 rfl rfl ?_ | refine S.ld 3 _ rfl b10 7 rfl 1 _ rfl _ rfl _ Try.underlying3 rfl rfl ?_ | refine S.ld 3 _ rfl b10 7 rfl 2 _ rfl _ rfl _ Try.underlying3 rfl rfl ?_))
      | (go_at_call 63; first | (with_reducible refine (QA.out _).mono ?_; rintro e wf ⟨rfl, rfl⟩) | (with_reducible refine (QD.out _).mono ?_; rintro e wf ⟨rfl, rfl⟩) | (with_reducible refine (QN.out _).mono ?_; rintro e wf ⟨rfl, rfl⟩) | (with_reducible refine (QM.out _).mono ?_; rintro e wf ⟨rfl, rfl⟩))
      | ((with_reducible refine wpl_isDst 149 ?_); first | (refine wpl_skip rfl ?_) | (first | refine S.ld 3 _ rfl b10 4 rfl 0 _ rfl _ rfl _ Try.underlying3 rfl rfl ?_ | refine S.ld 3 _ rfl b10 4 rfl 1 _ rfl _ rfl _ Try.underlying3 rfl rfl ?_ | refine S.ld 3 _ rfl b10 4 rfl 2 _ rfl _ rfl _ Try.underlying3 rfl rfl ?_))
      | ((with_reducible refine wpl_isDst 163 ?_); (first | refine S.ldAll 30 _ rfl b10 rfl 0 _ rfl _ Try.underlying30 rfl (szA _ rfl) rfl ?_ | refine S.ldAll 30 _ rfl b10 rfl 1 _ rfl _ Try.underlying30 rfl (szA _ rfl) rfl ?_ | refine S.ldAll 30 _ rfl b10 rfl 2 _ rfl _ Try.underlying30 rfl (szA _ rfl) rfl ?_))
      | ((with_reducible refine wpl_isStoreAt 4 ?_); (first | refine S.storeA rfl 30 _ _ rfl b4 _ rfl rfl 0 _ rfl rfl rfl (szA _ rfl) ?_ | refine S.storeA rfl 30 _ _ rfl b4 _ rfl rfl 1 _ rfl rfl rfl (szA _ rfl) ?_ | refine S.storeA rfl 30 _ _ rfl b4 _ rfl rfl 2 _ rfl rfl rfl (szA _ rfl) ?_); clear S; intro w2 S; (simp only [Cel.cells, IV.cellsL, zeroL, List.set_cons_zero, List.set_cons_succ, startI, secondI, noneI, startI, r4] at S))
      | (go_at_call 61; refine (runp_c _).mono ?_; rintro e wf ⟨rfl, hbf⟩; replace S := S.below hbf; clear hbf))
    (try simp only [Exit.inBlock, Exit.then])
    (first | refine bodyPost_ret (S.results2 rfl _ _ rfl 0 _ rfl _ Try.underlying30 rfl (szA _ rfl)) rfl ?_ | refine bodyPost_ret (S.results2 rfl _ _ rfl 1 _ rfl _ Try.underlying30 rfl (szA _ rfl)) rfl ?_ | refine bodyPost_ret (S.results2 rfl _ _ rfl 2 _ rfl _ Try.underlying30 rfl (szA _ rfl)) rfl ?_)
    exact ⟨_, _, rfl, HX.out, S.low⟩
set_option maxHeartbeats 20000000 in
set_option maxRecDepth 100000 in
theorem rmul_sdiv (h k ga gd gn gm x : Nat) (X : IV) (kh : bits .and .u16 ((h : Int) / 16) 15 = 9) (kw : bits .and .u16 ((k : Int) / 16) 15 = 15) (ka : (k : Int) / 4096 = (ga : Int)) (kd : bits .and .u16 ((k : Int) / 256) 15 = (gd : Int)) (kn : bits .and .u16 (h : Int) 15 = (gn : Int)) (km : bits .and .u16 (k : Int) 15 = (gm : Int)) (ba : ga < 16) (bd : gd < 16) (bn : gn < 16) (bm : gm < 16) (hc : (ga = 15))
    (H1 : (oddS 0 || (oddS gd || (oddS gn || oddS gm))) = false → fin (r4 29 false gd gn gm 0) true x = X) (H2 : (oddS 0 || (oddS gd || (oddS gn || oddS gm))) = true → fin (startI 65 0 0) true x = X) 
    (w : World) : Calls Try.prog 31 #[.int .u16 h, .int .u16 k] w fun e w' => Two w X x e w' := by
  have QN : Hid _ := fun w => rodd_c gn w
  have QM : Hid _ := fun w => rodd_c gm w
  have QA : Hid _ := fun w => rodd_c 0 w
  have QD : Hid _ := fun w => rodd_c gd w
  subst hc
  replace ka : (k : Int) / 4096 = 15 := ka
  rw [show oddS 0 = false from rfl, Bool.false_or] at H1 H2
  have QZ : Hid (∀ w, Calls Try.prog 63 #[.int .i64 0] w fun e w' => e = .returned (.bool false) ∧ w' = w) := fun w => rodd_c 0 w
  clear QA
  have QA := QZ
  clear QZ
  generalize oddS (gd : Int) = od at *
  generalize oddS (gn : Int) = on at *
  generalize oddS (gm : Int) = om at *
  cases od
  focus
    cases on
    focus
      cases om
      focus
        have HX : Hid _ := H1 rfl
        clear H1 H2
      rotate_left 1
      focus
        have HX : Hid _ := H2 rfl
        clear H1 H2
      rotate_left 1
    rotate_left 2
    focus
      have HX : Hid _ := H2 rfl
      clear H1 H2
    rotate_left 1
  rotate_left 3
  focus
    have HX : Hid _ := H2 rfl
    clear H1 H2
  rotate_left 1
  all_goals
    go_enter Try.func31, Try.ntmps31
    have S := SH.start w
    go_wp2_with (first
      | ((with_reducible refine wpl_isDst 4 ?_); (first | refine S.alloc rfl 30 rfl (Cel.any zeroL) zeroA ?_ | refine SH.alloc (L := []) S rfl 30 rfl (Cel.any zeroL) zeroA ?_); clear S; intro b4 w4 S)
      | (go_at_call 62; refine (rwide_c _ _).mono ?_; rintro e wf ⟨rfl, hbf⟩; replace S := S.below hbf; clear hbf)
      | ((with_reducible refine wpl_isDst 10 ?_); (first | refine S.alloc rfl 30 rfl (Cel.any zeroL) zeroA ?_ | refine SH.alloc (L := []) S rfl 30 rfl (Cel.any zeroL) zeroA ?_); clear S; intro b10 w10 S)
      | ((with_reducible refine wpl_isStoreAt 10 ?_); (first | refine S.storeA rfl 30 _ _ rfl b10 _ rfl rfl 0 _ rfl rfl rfl (szA _ rfl) ?_ | refine S.storeA rfl 30 _ _ rfl b10 _ rfl rfl 1 _ rfl rfl rfl (szA _ rfl) ?_ | refine S.storeA rfl 30 _ _ rfl b10 _ rfl rfl 2 _ rfl rfl rfl (szA _ rfl) ?_); clear S; intro w2 S; (simp only [Cel.cells, IV.cellsL, zeroL, List.set_cons_zero, List.set_cons_succ, startI, secondI, noneI, startI, r4] at S))
      | ((with_reducible refine wpl_isStoreAt 29 ?_); (first | refine S.store1 rfl 3 _ _ rfl b10 5 (.int _ _) rfl rfl 0 _ rfl rfl (of_decide_eq_true rfl) (Cel.any _) rfl (by kernel_rfl) ?_ | refine S.store1 rfl 3 _ _ rfl b10 5 (.int _ _) rfl rfl 1 _ rfl rfl (of_decide_eq_true rfl) (Cel.any _) rfl (by kernel_rfl) ?_ | refine S.store1 rfl 3 _ _ rfl b10 5 (.int _ _) rfl rfl 2 _ rfl rfl (of_decide_eq_true rfl) (Cel.any _) rfl (by kernel_rfl) ?_); clear S; intro w2 S; (simp only [Cel.cells, IV.cellsL, zeroL, List.set_cons_zero, List.set_cons_succ, startI, secondI, noneI, startI, r4] at S))
      | ((with_reducible refine wpl_isStoreAt 30 ?_); (first | refine S.store1 rfl 3 _ _ rfl b10 6 (.int _ _) rfl rfl 0 _ rfl rfl (of_decide_eq_true rfl) (Cel.any _) rfl (by kernel_rfl) ?_ | refine S.store1 rfl 3 _ _ rfl b10 6 (.int _ _) rfl rfl 1 _ rfl rfl (of_decide_eq_true rfl) (Cel.any _) rfl (by kernel_rfl) ?_ | refine S.store1 rfl 3 _ _ rfl b10 6 (.int _ _) rfl rfl 2 _ rfl rfl (of_decide_eq_true rfl) (Cel.any _) rfl (by kernel_rfl) ?_); clear S; intro w2 S; (simp only [Cel.cells, IV.cellsL, zeroL, List.set_cons_zero, List.set_cons_succ, startI, secondI, noneI, startI, r4] at S))
      | ((with_reducible refine wpl_isStoreAt 31 ?_); (first | refine S.store1 rfl 3 _ _ rfl b10 4 (.int _ _) rfl rfl 0 _ rfl rfl (of_decide_eq_true rfl) (Cel.any _) rfl (by kernel_rfl) ?_ | refine S.store1 rfl 3 _ _ rfl b10 4 (.int _ _) rfl rfl 1 _ rfl rfl (of_decide_eq_true rfl) (Cel.any _) rfl (by kernel_rfl) ?_ | refine S.store1 rfl 3 _ _ rfl b10 4 (.int _ _) rfl rfl 2 _ rfl rfl (of_decide_eq_true rfl) (Cel.any _) rfl (by kernel_rfl) ?_); clear S; intro w2 S; (simp only [Cel.cells, IV.cellsL, zeroL, List.set_cons_zero, List.set_cons_succ, startI, secondI, noneI, startI, r4] at S))
      | ((with_reducible refine wpl_isStoreAt 83 ?_); (first | refine S.store1 rfl 3 _ _ rfl b10 0 (.int _ _) rfl rfl 0 _ rfl rfl (of_decide_eq_true rfl) (Cel.any _) rfl (by kernel_rfl) ?_ | refine S.store1 rfl 3 _ _ rfl b10 0 (.int _ _) rfl rfl 1 _ rfl rfl (of_decide_eq_true rfl) (Cel.any _) rfl (by kernel_rfl) ?_ | refine S.store1 rfl 3 _ _ rfl b10 0 (.int _ _) rfl rfl 2 _ rfl rfl (of_decide_eq_true rfl) (Cel.any _) rfl (by kernel_rfl) ?_); clear S; intro w2 S; (simp only [Cel.cells, IV.cellsL, zeroL, List.set_cons_zero, List.set_cons_succ, startI, secondI, noneI, startI, r4] at S))
      | ((with_reducible refine wpl_isStoreAt 143 ?_); (first | refine S.store1 rfl 3 _ _ rfl b10 7 (.int _ _) rfl rfl 0 _ rfl rfl (of_decide_eq_true rfl) (Cel.any _) rfl (by kernel_rfl) ?_ | refine S.store1 rfl 3 _ _ rfl b10 7 (.int _ _) rfl rfl 1 _ rfl rfl (of_decide_eq_true rfl) (Cel.any _) rfl (by kernel_rfl) ?_ | refine S.store1 rfl 3 _ _ rfl b10 7 (.int _ _) rfl rfl 2 _ rfl rfl (of_decide_eq_true rfl) (Cel.any _) rfl (by kernel_rfl) ?_); clear S; intro w2 S; (simp only [Cel.cells, IV.cellsL, zeroL, List.set_cons_zero, List.set_cons_succ, startI, secondI, noneI, startI, r4] at S))
      | ((with_reducible refine wpl_isDst 145 ?_); (first | refine S.ld 3 _ rfl b10 7 rfl 0 _ rfl _ rfl _ Try.underlying3 rfl rfl ?_ | refine S.ld 3 _ rfl b10 7 rfl 1 _ rfl _ rfl _ Try.underlying3 rfl rfl ?_ | refine S.ld 3 _ rfl b10 7 rfl 2 _ rfl _ rfl _ Try.underlying3 rfl rfl ?_))
      | (go_at_call 63; first | (with_reducible refine (QA.out _).mono ?_; rintro e wf ⟨rfl, rfl⟩) | (with_reducible refine (QD.out _).mono ?_; rintro e wf ⟨rfl, rfl⟩) | (with_reducible refine (QN.out _).mono ?_; rintro e wf ⟨rfl, rfl⟩) | (with_reducible refine (QM.out _).mono ?_; rintro e wf ⟨rfl, rfl⟩))
      | ((with_reducible refine wpl_isDst 149 ?_); first | (refine wpl_skip rfl ?_) | (first | refine S.ld 3 _ rfl b10 4 rfl 0 _ rfl _ rfl _ Try.underlying3 rfl rfl ?_ | refine S.ld 3 _ rfl b10 4 rfl 1 _ rfl _ rfl _ Try.underlying3 rfl rfl ?_ | refine S.ld 3 _ rfl b10 4 rfl 2 _ rfl _ rfl _ Try.underlying3 rfl rfl ?_))
      | ((with_reducible refine wpl_isDst 163 ?_); (first | refine S.ldAll 30 _ rfl b10 rfl 0 _ rfl _ Try.underlying30 rfl (szA _ rfl) rfl ?_ | refine S.ldAll 30 _ rfl b10 rfl 1 _ rfl _ Try.underlying30 rfl (szA _ rfl) rfl ?_ | refine S.ldAll 30 _ rfl b10 rfl 2 _ rfl _ Try.underlying30 rfl (szA _ rfl) rfl ?_))
      | ((with_reducible refine wpl_isStoreAt 4 ?_); (first | refine S.storeA rfl 30 _ _ rfl b4 _ rfl rfl 0 _ rfl rfl rfl (szA _ rfl) ?_ | refine S.storeA rfl 30 _ _ rfl b4 _ rfl rfl 1 _ rfl rfl rfl (szA _ rfl) ?_ | refine S.storeA rfl 30 _ _ rfl b4 _ rfl rfl 2 _ rfl rfl rfl (szA _ rfl) ?_); clear S; intro w2 S; (simp only [Cel.cells, IV.cellsL, zeroL, List.set_cons_zero, List.set_cons_succ, startI, secondI, noneI, startI, r4] at S))
      | (go_at_call 61; refine (runp_c _).mono ?_; rintro e wf ⟨rfl, hbf⟩; replace S := S.below hbf; clear hbf))
    (try simp only [Exit.inBlock, Exit.then])
    (first | refine bodyPost_ret (S.results2 rfl _ _ rfl 0 _ rfl _ Try.underlying30 rfl (szA _ rfl)) rfl ?_ | refine bodyPost_ret (S.results2 rfl _ _ rfl 1 _ rfl _ Try.underlying30 rfl (szA _ rfl)) rfl ?_ | refine bodyPost_ret (S.results2 rfl _ _ rfl 2 _ rfl _ Try.underlying30 rfl (szA _ rfl)) rfl ?_)
    exact ⟨_, _, rfl, HX.out, S.low⟩
set_option maxHeartbeats 20000000 in
set_option maxRecDepth 100000 in
theorem rmul_udiv (h k ga gd gn gm x : Nat) (X : IV) (kh : bits .and .u16 ((h : Int) / 16) 15 = 11) (kw : bits .and .u16 ((k : Int) / 16) 15 = 15) (ka : (k : Int) / 4096 = (ga : Int)) (kd : bits .and .u16 ((k : Int) / 256) 15 = (gd : Int)) (kn : bits .and .u16 (h : Int) 15 = (gn : Int)) (km : bits .and .u16 (k : Int) 15 = (gm : Int)) (ba : ga < 16) (bd : gd < 16) (bn : gn < 16) (bm : gm < 16) (hc : (ga = 15))
    (H1 : (oddS 0 || (oddS gd || (oddS gn || oddS gm))) = false → fin (r4 28 false gd gn gm 0) true x = X) (H2 : (oddS 0 || (oddS gd || (oddS gn || oddS gm))) = true → fin (startI 65 0 0) true x = X) 
    (w : World) : Calls Try.prog 31 #[.int .u16 h, .int .u16 k] w fun e w' => Two w X x e w' := by
  have QN : Hid _ := fun w => rodd_c gn w
  have QM : Hid _ := fun w => rodd_c gm w
  have QA : Hid _ := fun w => rodd_c 0 w
  have QD : Hid _ := fun w => rodd_c gd w
  subst hc
  replace ka : (k : Int) / 4096 = 15 := ka
  rw [show oddS 0 = false from rfl, Bool.false_or] at H1 H2
  have QZ : Hid (∀ w, Calls Try.prog 63 #[.int .i64 0] w fun e w' => e = .returned (.bool false) ∧ w' = w) := fun w => rodd_c 0 w
  clear QA
  have QA := QZ
  clear QZ
  generalize oddS (gd : Int) = od at *
  generalize oddS (gn : Int) = on at *
  generalize oddS (gm : Int) = om at *
  cases od
  focus
    cases on
    focus
      cases om
      focus
        have HX : Hid _ := H1 rfl
        clear H1 H2
      rotate_left 1
      focus
        have HX : Hid _ := H2 rfl
        clear H1 H2
      rotate_left 1
    rotate_left 2
    focus
      have HX : Hid _ := H2 rfl
      clear H1 H2
    rotate_left 1
  rotate_left 3
  focus
    have HX : Hid _ := H2 rfl
    clear H1 H2
  rotate_left 1
  all_goals
    go_enter Try.func31, Try.ntmps31
    have S := SH.start w
    go_wp2_with (first
      | ((with_reducible refine wpl_isDst 4 ?_); (first | refine S.alloc rfl 30 rfl (Cel.any zeroL) zeroA ?_ | refine SH.alloc (L := []) S rfl 30 rfl (Cel.any zeroL) zeroA ?_); clear S; intro b4 w4 S)
      | (go_at_call 62; refine (rwide_c _ _).mono ?_; rintro e wf ⟨rfl, hbf⟩; replace S := S.below hbf; clear hbf)
      | ((with_reducible refine wpl_isDst 10 ?_); (first | refine S.alloc rfl 30 rfl (Cel.any zeroL) zeroA ?_ | refine SH.alloc (L := []) S rfl 30 rfl (Cel.any zeroL) zeroA ?_); clear S; intro b10 w10 S)
      | ((with_reducible refine wpl_isStoreAt 10 ?_); (first | refine S.storeA rfl 30 _ _ rfl b10 _ rfl rfl 0 _ rfl rfl rfl (szA _ rfl) ?_ | refine S.storeA rfl 30 _ _ rfl b10 _ rfl rfl 1 _ rfl rfl rfl (szA _ rfl) ?_ | refine S.storeA rfl 30 _ _ rfl b10 _ rfl rfl 2 _ rfl rfl rfl (szA _ rfl) ?_); clear S; intro w2 S; (simp only [Cel.cells, IV.cellsL, zeroL, List.set_cons_zero, List.set_cons_succ, startI, secondI, noneI, startI, r4] at S))
      | ((with_reducible refine wpl_isStoreAt 29 ?_); (first | refine S.store1 rfl 3 _ _ rfl b10 5 (.int _ _) rfl rfl 0 _ rfl rfl (of_decide_eq_true rfl) (Cel.any _) rfl (by kernel_rfl) ?_ | refine S.store1 rfl 3 _ _ rfl b10 5 (.int _ _) rfl rfl 1 _ rfl rfl (of_decide_eq_true rfl) (Cel.any _) rfl (by kernel_rfl) ?_ | refine S.store1 rfl 3 _ _ rfl b10 5 (.int _ _) rfl rfl 2 _ rfl rfl (of_decide_eq_true rfl) (Cel.any _) rfl (by kernel_rfl) ?_); clear S; intro w2 S; (simp only [Cel.cells, IV.cellsL, zeroL, List.set_cons_zero, List.set_cons_succ, startI, secondI, noneI, startI, r4] at S))
      | ((with_reducible refine wpl_isStoreAt 30 ?_); (first | refine S.store1 rfl 3 _ _ rfl b10 6 (.int _ _) rfl rfl 0 _ rfl rfl (of_decide_eq_true rfl) (Cel.any _) rfl (by kernel_rfl) ?_ | refine S.store1 rfl 3 _ _ rfl b10 6 (.int _ _) rfl rfl 1 _ rfl rfl (of_decide_eq_true rfl) (Cel.any _) rfl (by kernel_rfl) ?_ | refine S.store1 rfl 3 _ _ rfl b10 6 (.int _ _) rfl rfl 2 _ rfl rfl (of_decide_eq_true rfl) (Cel.any _) rfl (by kernel_rfl) ?_); clear S; intro w2 S; (simp only [Cel.cells, IV.cellsL, zeroL, List.set_cons_zero, List.set_cons_succ, startI, secondI, noneI, startI, r4] at S))
      | ((with_reducible refine wpl_isStoreAt 31 ?_); (first | refine S.store1 rfl 3 _ _ rfl b10 4 (.int _ _) rfl rfl 0 _ rfl rfl (of_decide_eq_true rfl) (Cel.any _) rfl (by kernel_rfl) ?_ | refine S.store1 rfl 3 _ _ rfl b10 4 (.int _ _) rfl rfl 1 _ rfl rfl (of_decide_eq_true rfl) (Cel.any _) rfl (by kernel_rfl) ?_ | refine S.store1 rfl 3 _ _ rfl b10 4 (.int _ _) rfl rfl 2 _ rfl rfl (of_decide_eq_true rfl) (Cel.any _) rfl (by kernel_rfl) ?_); clear S; intro w2 S; (simp only [Cel.cells, IV.cellsL, zeroL, List.set_cons_zero, List.set_cons_succ, startI, secondI, noneI, startI, r4] at S))
      | ((with_reducible refine wpl_isStoreAt 97 ?_); (first | refine S.store1 rfl 3 _ _ rfl b10 0 (.int _ _) rfl rfl 0 _ rfl rfl (of_decide_eq_true rfl) (Cel.any _) rfl (by kernel_rfl) ?_ | refine S.store1 rfl 3 _ _ rfl b10 0 (.int _ _) rfl rfl 1 _ rfl rfl (of_decide_eq_true rfl) (Cel.any _) rfl (by kernel_rfl) ?_ | refine S.store1 rfl 3 _ _ rfl b10 0 (.int _ _) rfl rfl 2 _ rfl rfl (of_decide_eq_true rfl) (Cel.any _) rfl (by kernel_rfl) ?_); clear S; intro w2 S; (simp only [Cel.cells, IV.cellsL, zeroL, List.set_cons_zero, List.set_cons_succ, startI, secondI, noneI, startI, r4] at S))
      | ((with_reducible refine wpl_isStoreAt 143 ?_); (first | refine S.store1 rfl 3 _ _ rfl b10 7 (.int _ _) rfl rfl 0 _ rfl rfl (of_decide_eq_true rfl) (Cel.any _) rfl (by kernel_rfl) ?_ | refine S.store1 rfl 3 _ _ rfl b10 7 (.int _ _) rfl rfl 1 _ rfl rfl (of_decide_eq_true rfl) (Cel.any _) rfl (by kernel_rfl) ?_ | refine S.store1 rfl 3 _ _ rfl b10 7 (.int _ _) rfl rfl 2 _ rfl rfl (of_decide_eq_true rfl) (Cel.any _) rfl (by kernel_rfl) ?_); clear S; intro w2 S; (simp only [Cel.cells, IV.cellsL, zeroL, List.set_cons_zero, List.set_cons_succ, startI, secondI, noneI, startI, r4] at S))
      | ((with_reducible refine wpl_isDst 145 ?_); (first | refine S.ld 3 _ rfl b10 7 rfl 0 _ rfl _ rfl _ Try.underlying3 rfl rfl ?_ | refine S.ld 3 _ rfl b10 7 rfl 1 _ rfl _ rfl _ Try.underlying3 rfl rfl ?_ | refine S.ld 3 _ rfl b10 7 rfl 2 _ rfl _ rfl _ Try.underlying3 rfl rfl ?_))
      | (go_at_call 63; first | (with_reducible refine (QA.out _).mono ?_; rintro e wf ⟨rfl, rfl⟩) | (with_reducible refine (QD.out _).mono ?_; rintro e wf ⟨rfl, rfl⟩) | (with_reducible refine (QN.out _).mono ?_; rintro e wf ⟨rfl, rfl⟩) | (with_reducible refine (QM.out _).mono ?_; rintro e wf ⟨rfl, rfl⟩))
      | ((with_reducible refine wpl_isDst 149 ?_); first | (refine wpl_skip rfl ?_) | (first | refine S.ld 3 _ rfl b10 4 rfl 0 _ rfl _ rfl _ Try.underlying3 rfl rfl ?_ | refine S.ld 3 _ rfl b10 4 rfl 1 _ rfl _ rfl _ Try.underlying3 rfl rfl ?_ | refine S.ld 3 _ rfl b10 4 rfl 2 _ rfl _ rfl _ Try.underlying3 rfl rfl ?_))
      | ((with_reducible refine wpl_isDst 163 ?_); (first | refine S.ldAll 30 _ rfl b10 rfl 0 _ rfl _ Try.underlying30 rfl (szA _ rfl) rfl ?_ | refine S.ldAll 30 _ rfl b10 rfl 1 _ rfl _ Try.underlying30 rfl (szA _ rfl) rfl ?_ | refine S.ldAll 30 _ rfl b10 rfl 2 _ rfl _ Try.underlying30 rfl (szA _ rfl) rfl ?_))
      | ((with_reducible refine wpl_isStoreAt 4 ?_); (first | refine S.storeA rfl 30 _ _ rfl b4 _ rfl rfl 0 _ rfl rfl rfl (szA _ rfl) ?_ | refine S.storeA rfl 30 _ _ rfl b4 _ rfl rfl 1 _ rfl rfl rfl (szA _ rfl) ?_ | refine S.storeA rfl 30 _ _ rfl b4 _ rfl rfl 2 _ rfl rfl rfl (szA _ rfl) ?_); clear S; intro w2 S; (simp only [Cel.cells, IV.cellsL, zeroL, List.set_cons_zero, List.set_cons_succ, startI, secondI, noneI, startI, r4] at S))
      | (go_at_call 61; refine (runp_c _).mono ?_; rintro e wf ⟨rfl, hbf⟩; replace S := S.below hbf; clear hbf))
    (try simp only [Exit.inBlock, Exit.then])
    (first | refine bodyPost_ret (S.results2 rfl _ _ rfl 0 _ rfl _ Try.underlying30 rfl (szA _ rfl)) rfl ?_ | refine bodyPost_ret (S.results2 rfl _ _ rfl 1 _ rfl _ Try.underlying30 rfl (szA _ rfl)) rfl ?_ | refine bodyPost_ret (S.results2 rfl _ _ rfl 2 _ rfl _ Try.underlying30 rfl (szA _ rfl)) rfl ?_)
    exact ⟨_, _, rfl, HX.out, S.low⟩
end Go.Proofs.Ytigmekboikgoaaa
