/- Stage 9: the document: no products. -/
import Derived.Test.YtigmekboikgoaaaWg1
namespace Go.Proofs.Ytigmekboikgoaaa
open Go.ChangeShapes Go.WideShapes Go.ChangeAt Go.RowKit
set_option linter.unusedVariables false
set_option linter.unusedSimpArgs false

set_option maxHeartbeats 20000000 in
set_option maxRecDepth 100000 in
theorem rmul_n0 (h k ga gd gn gm x r low : Nat) (X : IV) (kh : bits .and .u16 ((h : Int) / 16) 15 = (r : Int)) (kw : bits .and .u16 ((k : Int) / 16) 15 = 0) (ka : (k : Int) / 4096 = (ga : Int)) (kd : bits .and .u16 ((k : Int) / 256) 15 = (gd : Int)) (kn : bits .and .u16 (h : Int) 15 = (gn : Int)) (km : bits .and .u16 (k : Int) 15 = (gm : Int)) (br : r < 16) (ba : ga < 16) (bd : gd < 16) (bn : gn < 16) (bm : gm < 16) (hr : r ≠ 0 ∧ r ≠ 8 ∧ r ≠ 10 ∧ r ≠ 12 ∧ r ≠ 14)
    (H1 : ∀ i : IV, fin i false x = X) (w : World) : Calls Try.prog 31 #[.int .u16 h, .int .u16 k] w fun e w' => Two w X x e w' := by
  obtain ⟨r0, r8, r10, r12, r14⟩ := hr
  rcases (show r = 9 ∨ r = 11 ∨ (r ≠ 9 ∧ r ≠ 11) by omega) with rfl | rfl | hx
  focus
    replace kh : bits .and .u16 ((h : Int) / 16) 15 = 9 := kh
    clear r0 r8 r10 r12 r14
  rotate_left 1
  focus
    replace kh : bits .and .u16 ((h : Int) / 16) 15 = 11 := kh
    clear r0 r8 r10 r12 r14
  rotate_left 1
  focus
    have nr0 : ((r : Int) == 0) = false := by simp; omega
    have nr9 : ((r : Int) == 9) = false := by simp; omega
    have nr11 : ((r : Int) == 11) = false := by simp; omega
    have nr8 : ((r : Int) == 8) = false := by simp; omega
    have nr10 : ((r : Int) == 10) = false := by simp; omega
    have nr12 : ((r : Int) == 12) = false := by simp; omega
    have nr14 : ((r : Int) == 14) = false := by simp; omega
    clear hx
    clear r0 r8 r10 r12 r14
  rotate_left 1
  all_goals
    go_enter Try.func31, Try.ntmps31
    have S := SH.start w
    go_wp2_with (first
      | ((with_reducible refine wpl_isDst 4 ?_); (first | refine S.alloc rfl 30 rfl (Cel.any zeroL) zeroA ?_ | refine SH.alloc (L := []) S rfl 30 rfl (Cel.any zeroL) zeroA ?_); clear S; intro b4 w4 S)
      | (go_at_call 62; refine (rwide_c _ _).mono ?_; rintro e wf ⟨rfl, hbf⟩; replace S := S.below hbf; clear hbf)
      | ((with_reducible refine wpl_isDst 10 ?_); (first | refine S.alloc rfl 30 rfl (Cel.any zeroL) zeroA ?_ | refine SH.alloc (L := []) S rfl 30 rfl (Cel.any zeroL) zeroA ?_); clear S; intro b10 w10 S)
      | ((with_reducible refine wpl_isStoreAt 10 ?_); (first | refine S.storeA rfl 30 _ _ rfl b10 _ rfl rfl 0 _ rfl rfl rfl (szA _ rfl) ?_ | refine S.storeA rfl 30 _ _ rfl b10 _ rfl rfl 1 _ rfl rfl rfl (szA _ rfl) ?_ | refine S.storeA rfl 30 _ _ rfl b10 _ rfl rfl 2 _ rfl rfl rfl (szA _ rfl) ?_); clear S; intro w2 S; (simp only [Cel.cells, IV.cellsL, zeroL, List.set_cons_zero, List.set_cons_succ, startI, secondI, noneI, startI, r4] at S))
      | ((with_reducible refine wpl_isStoreAt 29 ?_); (first | refine S.store1 rfl 3 _ _ rfl b10 5 (.int _ _) rfl rfl 0 _ rfl rfl (of_decide_eq_true rfl) (Cel.any _) rfl (by kernel_rfl) ?_ | refine S.store1 rfl 3 _ _ rfl b10 5 (.int _ _) rfl rfl 1 _ rfl rfl (of_decide_eq_true rfl) (Cel.any _) rfl (by kernel_rfl) ?_ | refine S.store1 rfl 3 _ _ rfl b10 5 (.int _ _) rfl rfl 2 _ rfl rfl (of_decide_eq_true rfl) (Cel.any _) rfl (by kernel_rfl) ?_); clear S; intro w2 S; (simp only [Cel.cells, IV.cellsL, zeroL, List.set_cons_zero, List.set_cons_succ, startI, secondI, noneI, startI, r4] at S))
      | ((with_reducible refine wpl_isStoreAt 30 ?_); (first | refine S.store1 rfl 3 _ _ rfl b10 6 (.int _ _) rfl rfl 0 _ rfl rfl (of_decide_eq_true rfl) (Cel.any _) rfl (by kernel_rfl) ?_ | refine S.store1 rfl 3 _ _ rfl b10 6 (.int _ _) rfl rfl 1 _ rfl rfl (of_decide_eq_true rfl) (Cel.any _) rfl (by kernel_rfl) ?_ | refine S.store1 rfl 3 _ _ rfl b10 6 (.int _ _) rfl rfl 2 _ rfl rfl (of_decide_eq_true rfl) (Cel.any _) rfl (by kernel_rfl) ?_); clear S; intro w2 S; (simp only [Cel.cells, IV.cellsL, zeroL, List.set_cons_zero, List.set_cons_succ, startI, secondI, noneI, startI, r4] at S))
      | ((with_reducible refine wpl_isStoreAt 31 ?_); (first | refine S.store1 rfl 3 _ _ rfl b10 4 (.int _ _) rfl rfl 0 _ rfl rfl (of_decide_eq_true rfl) (Cel.any _) rfl (by kernel_rfl) ?_ | refine S.store1 rfl 3 _ _ rfl b10 4 (.int _ _) rfl rfl 1 _ rfl rfl (of_decide_eq_true rfl) (Cel.any _) rfl (by kernel_rfl) ?_ | refine S.store1 rfl 3 _ _ rfl b10 4 (.int _ _) rfl rfl 2 _ rfl rfl (of_decide_eq_true rfl) (Cel.any _) rfl (by kernel_rfl) ?_); clear S; intro w2 S; (simp only [Cel.cells, IV.cellsL, zeroL, List.set_cons_zero, List.set_cons_succ, startI, secondI, noneI, startI, r4] at S))
      | ((with_reducible refine wpl_isDst 35 ?_); (first | refine S.ldAll 30 _ rfl b10 rfl 0 _ rfl _ Try.underlying30 rfl (szA _ rfl) rfl ?_ | refine S.ldAll 30 _ rfl b10 rfl 1 _ rfl _ Try.underlying30 rfl (szA _ rfl) rfl ?_ | refine S.ldAll 30 _ rfl b10 rfl 2 _ rfl _ Try.underlying30 rfl (szA _ rfl) rfl ?_))
      | ((with_reducible refine wpl_isStoreAt 4 ?_); (first | refine S.storeA rfl 30 _ _ rfl b4 _ rfl rfl 0 _ rfl rfl rfl (szA _ rfl) ?_ | refine S.storeA rfl 30 _ _ rfl b4 _ rfl rfl 1 _ rfl rfl rfl (szA _ rfl) ?_ | refine S.storeA rfl 30 _ _ rfl b4 _ rfl rfl 2 _ rfl rfl rfl (szA _ rfl) ?_); clear S; intro w2 S; (simp only [Cel.cells, IV.cellsL, zeroL, List.set_cons_zero, List.set_cons_succ, startI, secondI, noneI, startI, r4] at S)))
    (try simp only [Exit.inBlock, Exit.then])
    (first | refine bodyPost_ret (S.results2 rfl _ _ rfl 0 _ rfl _ Try.underlying30 rfl (szA _ rfl)) rfl ?_ | refine bodyPost_ret (S.results2 rfl _ _ rfl 1 _ rfl _ Try.underlying30 rfl (szA _ rfl)) rfl ?_ | refine bodyPost_ret (S.results2 rfl _ _ rfl 2 _ rfl _ Try.underlying30 rfl (szA _ rfl)) rfl ?_)
    exact ⟨⟨0, true, false, 14, gd, gn, gm, 0, 0, false, 0, 0, 0, false, false⟩, false, rfl, H1 _, S.low⟩
set_option maxHeartbeats 20000000 in
set_option maxRecDepth 100000 in
theorem rmul_n1 (h k ga gd gn gm x r low : Nat) (X : IV) (kh : bits .and .u16 ((h : Int) / 16) 15 = (r : Int)) (kw : bits .and .u16 ((k : Int) / 16) 15 = 1) (ka : (k : Int) / 4096 = (ga : Int)) (kd : bits .and .u16 ((k : Int) / 256) 15 = (gd : Int)) (kn : bits .and .u16 (h : Int) 15 = (gn : Int)) (km : bits .and .u16 (k : Int) 15 = (gm : Int)) (br : r < 16) (ba : ga < 16) (bd : gd < 16) (bn : gn < 16) (bm : gm < 16) (hr : r ≠ 0)
    (H1 : ∀ i : IV, fin i false x = X) (w : World) : Calls Try.prog 31 #[.int .u16 h, .int .u16 k] w fun e w' => Two w X x e w' := by
  rcases (show r = 9 ∨ r = 11 ∨ (r ≠ 9 ∧ r ≠ 11) by omega) with rfl | rfl | hx
  focus
    replace kh : bits .and .u16 ((h : Int) / 16) 15 = 9 := kh
    clear hr
  rotate_left 1
  focus
    replace kh : bits .and .u16 ((h : Int) / 16) 15 = 11 := kh
    clear hr
  rotate_left 1
  focus
    have nr0 : ((r : Int) == 0) = false := by simp; omega
    have nr9 : ((r : Int) == 9) = false := by simp; omega
    have nr11 : ((r : Int) == 11) = false := by simp; omega
    clear hx
    clear hr
  rotate_left 1
  all_goals
    go_enter Try.func31, Try.ntmps31
    have S := SH.start w
    go_wp2_with (first
      | ((with_reducible refine wpl_isDst 4 ?_); (first | refine S.alloc rfl 30 rfl (Cel.any zeroL) zeroA ?_ | refine SH.alloc (L := []) S rfl 30 rfl (Cel.any zeroL) zeroA ?_); clear S; intro b4 w4 S)
      | (go_at_call 62; refine (rwide_c _ _).mono ?_; rintro e wf ⟨rfl, hbf⟩; replace S := S.below hbf; clear hbf)
      | ((with_reducible refine wpl_isDst 10 ?_); (first | refine S.alloc rfl 30 rfl (Cel.any zeroL) zeroA ?_ | refine SH.alloc (L := []) S rfl 30 rfl (Cel.any zeroL) zeroA ?_); clear S; intro b10 w10 S)
      | ((with_reducible refine wpl_isStoreAt 10 ?_); (first | refine S.storeA rfl 30 _ _ rfl b10 _ rfl rfl 0 _ rfl rfl rfl (szA _ rfl) ?_ | refine S.storeA rfl 30 _ _ rfl b10 _ rfl rfl 1 _ rfl rfl rfl (szA _ rfl) ?_ | refine S.storeA rfl 30 _ _ rfl b10 _ rfl rfl 2 _ rfl rfl rfl (szA _ rfl) ?_); clear S; intro w2 S; (simp only [Cel.cells, IV.cellsL, zeroL, List.set_cons_zero, List.set_cons_succ, startI, secondI, noneI, startI, r4] at S))
      | ((with_reducible refine wpl_isStoreAt 29 ?_); (first | refine S.store1 rfl 3 _ _ rfl b10 5 (.int _ _) rfl rfl 0 _ rfl rfl (of_decide_eq_true rfl) (Cel.any _) rfl (by kernel_rfl) ?_ | refine S.store1 rfl 3 _ _ rfl b10 5 (.int _ _) rfl rfl 1 _ rfl rfl (of_decide_eq_true rfl) (Cel.any _) rfl (by kernel_rfl) ?_ | refine S.store1 rfl 3 _ _ rfl b10 5 (.int _ _) rfl rfl 2 _ rfl rfl (of_decide_eq_true rfl) (Cel.any _) rfl (by kernel_rfl) ?_); clear S; intro w2 S; (simp only [Cel.cells, IV.cellsL, zeroL, List.set_cons_zero, List.set_cons_succ, startI, secondI, noneI, startI, r4] at S))
      | ((with_reducible refine wpl_isStoreAt 30 ?_); (first | refine S.store1 rfl 3 _ _ rfl b10 6 (.int _ _) rfl rfl 0 _ rfl rfl (of_decide_eq_true rfl) (Cel.any _) rfl (by kernel_rfl) ?_ | refine S.store1 rfl 3 _ _ rfl b10 6 (.int _ _) rfl rfl 1 _ rfl rfl (of_decide_eq_true rfl) (Cel.any _) rfl (by kernel_rfl) ?_ | refine S.store1 rfl 3 _ _ rfl b10 6 (.int _ _) rfl rfl 2 _ rfl rfl (of_decide_eq_true rfl) (Cel.any _) rfl (by kernel_rfl) ?_); clear S; intro w2 S; (simp only [Cel.cells, IV.cellsL, zeroL, List.set_cons_zero, List.set_cons_succ, startI, secondI, noneI, startI, r4] at S))
      | ((with_reducible refine wpl_isStoreAt 31 ?_); (first | refine S.store1 rfl 3 _ _ rfl b10 4 (.int _ _) rfl rfl 0 _ rfl rfl (of_decide_eq_true rfl) (Cel.any _) rfl (by kernel_rfl) ?_ | refine S.store1 rfl 3 _ _ rfl b10 4 (.int _ _) rfl rfl 1 _ rfl rfl (of_decide_eq_true rfl) (Cel.any _) rfl (by kernel_rfl) ?_ | refine S.store1 rfl 3 _ _ rfl b10 4 (.int _ _) rfl rfl 2 _ rfl rfl (of_decide_eq_true rfl) (Cel.any _) rfl (by kernel_rfl) ?_); clear S; intro w2 S; (simp only [Cel.cells, IV.cellsL, zeroL, List.set_cons_zero, List.set_cons_succ, startI, secondI, noneI, startI, r4] at S))
      | ((with_reducible refine wpl_isDst 35 ?_); (first | refine S.ldAll 30 _ rfl b10 rfl 0 _ rfl _ Try.underlying30 rfl (szA _ rfl) rfl ?_ | refine S.ldAll 30 _ rfl b10 rfl 1 _ rfl _ Try.underlying30 rfl (szA _ rfl) rfl ?_ | refine S.ldAll 30 _ rfl b10 rfl 2 _ rfl _ Try.underlying30 rfl (szA _ rfl) rfl ?_))
      | ((with_reducible refine wpl_isStoreAt 4 ?_); (first | refine S.storeA rfl 30 _ _ rfl b4 _ rfl rfl 0 _ rfl rfl rfl (szA _ rfl) ?_ | refine S.storeA rfl 30 _ _ rfl b4 _ rfl rfl 1 _ rfl rfl rfl (szA _ rfl) ?_ | refine S.storeA rfl 30 _ _ rfl b4 _ rfl rfl 2 _ rfl rfl rfl (szA _ rfl) ?_); clear S; intro w2 S; (simp only [Cel.cells, IV.cellsL, zeroL, List.set_cons_zero, List.set_cons_succ, startI, secondI, noneI, startI, r4] at S)))
    (try simp only [Exit.inBlock, Exit.then])
    (first | refine bodyPost_ret (S.results2 rfl _ _ rfl 0 _ rfl _ Try.underlying30 rfl (szA _ rfl)) rfl ?_ | refine bodyPost_ret (S.results2 rfl _ _ rfl 1 _ rfl _ Try.underlying30 rfl (szA _ rfl)) rfl ?_ | refine bodyPost_ret (S.results2 rfl _ _ rfl 2 _ rfl _ Try.underlying30 rfl (szA _ rfl)) rfl ?_)
    exact ⟨⟨0, true, false, 14, gd, gn, gm, 0, 0, false, 0, 0, 0, false, false⟩, false, rfl, H1 _, S.low⟩
set_option maxHeartbeats 20000000 in
set_option maxRecDepth 100000 in
theorem rmul_n15 (h k ga gd gn gm x r low : Nat) (X : IV) (kh : bits .and .u16 ((h : Int) / 16) 15 = (r : Int)) (kw : bits .and .u16 ((k : Int) / 16) 15 = 15) (ka : (k : Int) / 4096 = (ga : Int)) (kd : bits .and .u16 ((k : Int) / 256) 15 = (gd : Int)) (kn : bits .and .u16 (h : Int) 15 = (gn : Int)) (km : bits .and .u16 (k : Int) 15 = (gm : Int)) (br : r < 16) (ba : ga < 16) (bd : gd < 16) (bn : gn < 16) (bm : gm < 16) (hr : (r = 9 ∨ r = 11) → ga ≠ 15)
    (H1 : ∀ i : IV, fin i false x = X) (w : World) : Calls Try.prog 31 #[.int .u16 h, .int .u16 k] w fun e w' => Two w X x e w' := by
  rcases (show r = 0 ∨ r = 9 ∨ r = 11 ∨ (r ≠ 0 ∧ r ≠ 9 ∧ r ≠ 11) by omega) with rfl | rfl | rfl | hx
  focus
    replace kh : bits .and .u16 ((h : Int) / 16) 15 = 0 := kh
    clear hr
  rotate_left 1
  focus
    replace kh : bits .and .u16 ((h : Int) / 16) 15 = 9 := kh
    have g15 : ((ga : Int) == 15) = false := by have := hr (by decide); simp; omega
    clear hr
  rotate_left 1
  focus
    replace kh : bits .and .u16 ((h : Int) / 16) 15 = 11 := kh
    have g15 : ((ga : Int) == 15) = false := by have := hr (by decide); simp; omega
    clear hr
  rotate_left 1
  focus
    have nr0 : ((r : Int) == 0) = false := by simp; omega
    have nr9 : ((r : Int) == 9) = false := by simp; omega
    have nr11 : ((r : Int) == 11) = false := by simp; omega
    clear hx
    clear hr
  rotate_left 1
  all_goals
    go_enter Try.func31, Try.ntmps31
    have S := SH.start w
    go_wp2_with (first
      | ((with_reducible refine wpl_isDst 4 ?_); (first | refine S.alloc rfl 30 rfl (Cel.any zeroL) zeroA ?_ | refine SH.alloc (L := []) S rfl 30 rfl (Cel.any zeroL) zeroA ?_); clear S; intro b4 w4 S)
      | (go_at_call 62; refine (rwide_c _ _).mono ?_; rintro e wf ⟨rfl, hbf⟩; replace S := S.below hbf; clear hbf)
      | ((with_reducible refine wpl_isDst 10 ?_); (first | refine S.alloc rfl 30 rfl (Cel.any zeroL) zeroA ?_ | refine SH.alloc (L := []) S rfl 30 rfl (Cel.any zeroL) zeroA ?_); clear S; intro b10 w10 S)
      | ((with_reducible refine wpl_isStoreAt 10 ?_); (first | refine S.storeA rfl 30 _ _ rfl b10 _ rfl rfl 0 _ rfl rfl rfl (szA _ rfl) ?_ | refine S.storeA rfl 30 _ _ rfl b10 _ rfl rfl 1 _ rfl rfl rfl (szA _ rfl) ?_ | refine S.storeA rfl 30 _ _ rfl b10 _ rfl rfl 2 _ rfl rfl rfl (szA _ rfl) ?_); clear S; intro w2 S; (simp only [Cel.cells, IV.cellsL, zeroL, List.set_cons_zero, List.set_cons_succ, startI, secondI, noneI, startI, r4] at S))
      | ((with_reducible refine wpl_isStoreAt 29 ?_); (first | refine S.store1 rfl 3 _ _ rfl b10 5 (.int _ _) rfl rfl 0 _ rfl rfl (of_decide_eq_true rfl) (Cel.any _) rfl (by kernel_rfl) ?_ | refine S.store1 rfl 3 _ _ rfl b10 5 (.int _ _) rfl rfl 1 _ rfl rfl (of_decide_eq_true rfl) (Cel.any _) rfl (by kernel_rfl) ?_ | refine S.store1 rfl 3 _ _ rfl b10 5 (.int _ _) rfl rfl 2 _ rfl rfl (of_decide_eq_true rfl) (Cel.any _) rfl (by kernel_rfl) ?_); clear S; intro w2 S; (simp only [Cel.cells, IV.cellsL, zeroL, List.set_cons_zero, List.set_cons_succ, startI, secondI, noneI, startI, r4] at S))
      | ((with_reducible refine wpl_isStoreAt 30 ?_); (first | refine S.store1 rfl 3 _ _ rfl b10 6 (.int _ _) rfl rfl 0 _ rfl rfl (of_decide_eq_true rfl) (Cel.any _) rfl (by kernel_rfl) ?_ | refine S.store1 rfl 3 _ _ rfl b10 6 (.int _ _) rfl rfl 1 _ rfl rfl (of_decide_eq_true rfl) (Cel.any _) rfl (by kernel_rfl) ?_ | refine S.store1 rfl 3 _ _ rfl b10 6 (.int _ _) rfl rfl 2 _ rfl rfl (of_decide_eq_true rfl) (Cel.any _) rfl (by kernel_rfl) ?_); clear S; intro w2 S; (simp only [Cel.cells, IV.cellsL, zeroL, List.set_cons_zero, List.set_cons_succ, startI, secondI, noneI, startI, r4] at S))
      | ((with_reducible refine wpl_isStoreAt 31 ?_); (first | refine S.store1 rfl 3 _ _ rfl b10 4 (.int _ _) rfl rfl 0 _ rfl rfl (of_decide_eq_true rfl) (Cel.any _) rfl (by kernel_rfl) ?_ | refine S.store1 rfl 3 _ _ rfl b10 4 (.int _ _) rfl rfl 1 _ rfl rfl (of_decide_eq_true rfl) (Cel.any _) rfl (by kernel_rfl) ?_ | refine S.store1 rfl 3 _ _ rfl b10 4 (.int _ _) rfl rfl 2 _ rfl rfl (of_decide_eq_true rfl) (Cel.any _) rfl (by kernel_rfl) ?_); clear S; intro w2 S; (simp only [Cel.cells, IV.cellsL, zeroL, List.set_cons_zero, List.set_cons_succ, startI, secondI, noneI, startI, r4] at S))
      | ((with_reducible refine wpl_isDst 35 ?_); (first | refine S.ldAll 30 _ rfl b10 rfl 0 _ rfl _ Try.underlying30 rfl (szA _ rfl) rfl ?_ | refine S.ldAll 30 _ rfl b10 rfl 1 _ rfl _ Try.underlying30 rfl (szA _ rfl) rfl ?_ | refine S.ldAll 30 _ rfl b10 rfl 2 _ rfl _ Try.underlying30 rfl (szA _ rfl) rfl ?_))
      | ((with_reducible refine wpl_isStoreAt 4 ?_); (first | refine S.storeA rfl 30 _ _ rfl b4 _ rfl rfl 0 _ rfl rfl rfl (szA _ rfl) ?_ | refine S.storeA rfl 30 _ _ rfl b4 _ rfl rfl 1 _ rfl rfl rfl (szA _ rfl) ?_ | refine S.storeA rfl 30 _ _ rfl b4 _ rfl rfl 2 _ rfl rfl rfl (szA _ rfl) ?_); clear S; intro w2 S; (simp only [Cel.cells, IV.cellsL, zeroL, List.set_cons_zero, List.set_cons_succ, startI, secondI, noneI, startI, r4] at S)))
    (try simp only [Exit.inBlock, Exit.then])
    (first | refine bodyPost_ret (S.results2 rfl _ _ rfl 0 _ rfl _ Try.underlying30 rfl (szA _ rfl)) rfl ?_ | refine bodyPost_ret (S.results2 rfl _ _ rfl 1 _ rfl _ Try.underlying30 rfl (szA _ rfl)) rfl ?_ | refine bodyPost_ret (S.results2 rfl _ _ rfl 2 _ rfl _ Try.underlying30 rfl (szA _ rfl)) rfl ?_)
    exact ⟨⟨0, true, false, 14, gd, gn, gm, 0, 0, false, 0, 0, 0, false, false⟩, false, rfl, H1 _, S.low⟩
set_option maxHeartbeats 20000000 in
set_option maxRecDepth 100000 in
theorem rmul_nx (h k ga gd gn gm x r low : Nat) (X : IV) (kh : bits .and .u16 ((h : Int) / 16) 15 = (r : Int)) (kw : bits .and .u16 ((k : Int) / 16) 15 = (low : Int)) (l0 : low ≠ 0) (l1 : low ≠ 1) (l15 : low ≠ 15) (ka : (k : Int) / 4096 = (ga : Int)) (kd : bits .and .u16 ((k : Int) / 256) 15 = (gd : Int)) (kn : bits .and .u16 (h : Int) 15 = (gn : Int)) (km : bits .and .u16 (k : Int) 15 = (gm : Int)) (br : r < 16) (ba : ga < 16) (bd : gd < 16) (bn : gn < 16) (bm : gm < 16) 
    (H1 : ∀ i : IV, fin i false x = X) (w : World) : Calls Try.prog 31 #[.int .u16 h, .int .u16 k] w fun e w' => Two w X x e w' := by
  have nlow0 : ((low : Int) == 0) = false := by simp; omega
  have nlow1 : ((low : Int) == 1) = false := by simp; omega
  have nlow15 : ((low : Int) == 15) = false := by simp; omega
  clear l0 l1 l15
  rcases (show r = 0 ∨ r = 9 ∨ r = 11 ∨ (r ≠ 0 ∧ r ≠ 9 ∧ r ≠ 11) by omega) with rfl | rfl | rfl | hx
  focus
    replace kh : bits .and .u16 ((h : Int) / 16) 15 = 0 := kh
  rotate_left 1
  focus
    replace kh : bits .and .u16 ((h : Int) / 16) 15 = 9 := kh
  rotate_left 1
  focus
    replace kh : bits .and .u16 ((h : Int) / 16) 15 = 11 := kh
  rotate_left 1
  focus
    have nr0 : ((r : Int) == 0) = false := by simp; omega
    have nr9 : ((r : Int) == 9) = false := by simp; omega
    have nr11 : ((r : Int) == 11) = false := by simp; omega
    clear hx
  rotate_left 1
  all_goals
    go_enter Try.func31, Try.ntmps31
    have S := SH.start w
    go_wp2_with (first
      | ((with_reducible refine wpl_isDst 4 ?_); (first | refine S.alloc rfl 30 rfl (Cel.any zeroL) zeroA ?_ | refine SH.alloc (L := []) S rfl 30 rfl (Cel.any zeroL) zeroA ?_); clear S; intro b4 w4 S)
      | (go_at_call 62; refine (rwide_c _ _).mono ?_; rintro e wf ⟨rfl, hbf⟩; replace S := S.below hbf; clear hbf)
      | ((with_reducible refine wpl_isDst 10 ?_); (first | refine S.alloc rfl 30 rfl (Cel.any zeroL) zeroA ?_ | refine SH.alloc (L := []) S rfl 30 rfl (Cel.any zeroL) zeroA ?_); clear S; intro b10 w10 S)
      | ((with_reducible refine wpl_isStoreAt 10 ?_); (first | refine S.storeA rfl 30 _ _ rfl b10 _ rfl rfl 0 _ rfl rfl rfl (szA _ rfl) ?_ | refine S.storeA rfl 30 _ _ rfl b10 _ rfl rfl 1 _ rfl rfl rfl (szA _ rfl) ?_ | refine S.storeA rfl 30 _ _ rfl b10 _ rfl rfl 2 _ rfl rfl rfl (szA _ rfl) ?_); clear S; intro w2 S; (simp only [Cel.cells, IV.cellsL, zeroL, List.set_cons_zero, List.set_cons_succ, startI, secondI, noneI, startI, r4] at S))
      | ((with_reducible refine wpl_isStoreAt 29 ?_); (first | refine S.store1 rfl 3 _ _ rfl b10 5 (.int _ _) rfl rfl 0 _ rfl rfl (of_decide_eq_true rfl) (Cel.any _) rfl (by kernel_rfl) ?_ | refine S.store1 rfl 3 _ _ rfl b10 5 (.int _ _) rfl rfl 1 _ rfl rfl (of_decide_eq_true rfl) (Cel.any _) rfl (by kernel_rfl) ?_ | refine S.store1 rfl 3 _ _ rfl b10 5 (.int _ _) rfl rfl 2 _ rfl rfl (of_decide_eq_true rfl) (Cel.any _) rfl (by kernel_rfl) ?_); clear S; intro w2 S; (simp only [Cel.cells, IV.cellsL, zeroL, List.set_cons_zero, List.set_cons_succ, startI, secondI, noneI, startI, r4] at S))
      | ((with_reducible refine wpl_isStoreAt 30 ?_); (first | refine S.store1 rfl 3 _ _ rfl b10 6 (.int _ _) rfl rfl 0 _ rfl rfl (of_decide_eq_true rfl) (Cel.any _) rfl (by kernel_rfl) ?_ | refine S.store1 rfl 3 _ _ rfl b10 6 (.int _ _) rfl rfl 1 _ rfl rfl (of_decide_eq_true rfl) (Cel.any _) rfl (by kernel_rfl) ?_ | refine S.store1 rfl 3 _ _ rfl b10 6 (.int _ _) rfl rfl 2 _ rfl rfl (of_decide_eq_true rfl) (Cel.any _) rfl (by kernel_rfl) ?_); clear S; intro w2 S; (simp only [Cel.cells, IV.cellsL, zeroL, List.set_cons_zero, List.set_cons_succ, startI, secondI, noneI, startI, r4] at S))
      | ((with_reducible refine wpl_isStoreAt 31 ?_); (first | refine S.store1 rfl 3 _ _ rfl b10 4 (.int _ _) rfl rfl 0 _ rfl rfl (of_decide_eq_true rfl) (Cel.any _) rfl (by kernel_rfl) ?_ | refine S.store1 rfl 3 _ _ rfl b10 4 (.int _ _) rfl rfl 1 _ rfl rfl (of_decide_eq_true rfl) (Cel.any _) rfl (by kernel_rfl) ?_ | refine S.store1 rfl 3 _ _ rfl b10 4 (.int _ _) rfl rfl 2 _ rfl rfl (of_decide_eq_true rfl) (Cel.any _) rfl (by kernel_rfl) ?_); clear S; intro w2 S; (simp only [Cel.cells, IV.cellsL, zeroL, List.set_cons_zero, List.set_cons_succ, startI, secondI, noneI, startI, r4] at S))
      | ((with_reducible refine wpl_isDst 35 ?_); (first | refine S.ldAll 30 _ rfl b10 rfl 0 _ rfl _ Try.underlying30 rfl (szA _ rfl) rfl ?_ | refine S.ldAll 30 _ rfl b10 rfl 1 _ rfl _ Try.underlying30 rfl (szA _ rfl) rfl ?_ | refine S.ldAll 30 _ rfl b10 rfl 2 _ rfl _ Try.underlying30 rfl (szA _ rfl) rfl ?_))
      | ((with_reducible refine wpl_isStoreAt 4 ?_); (first | refine S.storeA rfl 30 _ _ rfl b4 _ rfl rfl 0 _ rfl rfl rfl (szA _ rfl) ?_ | refine S.storeA rfl 30 _ _ rfl b4 _ rfl rfl 1 _ rfl rfl rfl (szA _ rfl) ?_ | refine S.storeA rfl 30 _ _ rfl b4 _ rfl rfl 2 _ rfl rfl rfl (szA _ rfl) ?_); clear S; intro w2 S; (simp only [Cel.cells, IV.cellsL, zeroL, List.set_cons_zero, List.set_cons_succ, startI, secondI, noneI, startI, r4] at S)))
    (try simp only [Exit.inBlock, Exit.then])
    (first | refine bodyPost_ret (S.results2 rfl _ _ rfl 0 _ rfl _ Try.underlying30 rfl (szA _ rfl)) rfl ?_ | refine bodyPost_ret (S.results2 rfl _ _ rfl 1 _ rfl _ Try.underlying30 rfl (szA _ rfl)) rfl ?_ | refine bodyPost_ret (S.results2 rfl _ _ rfl 2 _ rfl _ Try.underlying30 rfl (szA _ rfl)) rfl ?_)
    exact ⟨⟨0, true, false, 14, gd, gn, gm, 0, 0, false, 0, 0, 0, false, false⟩, false, rfl, H1 _, S.low⟩
end Go.Proofs.Ytigmekboikgoaaa
