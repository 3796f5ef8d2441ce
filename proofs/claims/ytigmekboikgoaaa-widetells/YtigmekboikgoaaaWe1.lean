/- Stage 9: data, walked. -/
import Derived.Test.YtigmekboikgoaaaWe0
namespace Go.Proofs.Ytigmekboikgoaaa
open Go.ChangeShapes Go.WideShapes Go.ChangeAt Go.RowKit
set_option linter.unusedVariables false
set_option linter.unusedSimpArgs false

set_option maxHeartbeats 4000000 in
set_option maxRecDepth 100000 in
theorem data_c (x : Nat) (hx : x < 4294967296) (w : World) : Calls Try.prog 49 #[.int .u32 x] w fun e w' => Says w (dataX x) e w' := by
  unfold Says
  have hJ : dataX x = dataJ (dataOpS (fd x 21 4 : Nat)) (fd x 8 4 : Nat) (fd x 16 4 : Nat) (fd x 20 1 != 0) := rfl
  generalize dataX x = J at *
  have k20 : bits .and .u32 (x : Int) 1048576 = ((fd x 20 1 * 1048576 : Nat) : Int) := u32_mid x 20 1 1048576 hx rfl (by decide)
  have f20 : fd x 20 1 < 2 := fd_lt x 20 1
  generalize fd x 20 1 = g20 at *
  have F21_4 : Hid (∀ w, Calls Try.prog 46 #[.int .u32 x, .int .i64 21, .int .i64 4] w fun e w' => e = .returned (.int .i64 (fd x 21 4 : Nat)) ∧ Below w.heap.size w w') := field_21_4 x hx
  have f21_4 : fd x 21 4 < 16 := fd_lt x 21 4
  generalize fd x 21 4 = g21_4 at *
  have F8_4 : Hid (∀ w, Calls Try.prog 46 #[.int .u32 x, .int .i64 8, .int .i64 4] w fun e w' => e = .returned (.int .i64 (fd x 8 4 : Nat)) ∧ Below w.heap.size w w') := field_8_4 x hx
  have f8_4 : fd x 8 4 < 16 := fd_lt x 8 4
  generalize fd x 8 4 = g8_4 at *
  have F16_4 : Hid (∀ w, Calls Try.prog 46 #[.int .u32 x, .int .i64 16, .int .i64 4] w fun e w' => e = .returned (.int .i64 (fd x 16 4 : Nat)) ∧ Below w.heap.size w w') := field_16_4 x hx
  have f16_4 : fd x 16 4 < 16 := fd_lt x 16 4
  generalize fd x 16 4 = g16_4 at *
  have CP : Hid (∀ w, Calls Try.prog 85 #[.int .i64 g21_4] w fun e w' => e = .returned (.int .i64 (dataOpS g21_4)) ∧ w' = w) := dataOp_c _
  generalize dataOpS g21_4 = p at *
  have CD : Hid (∀ w, Calls Try.prog 86 #[.int .i64 p] w fun e w' => e = .returned (.int .i64 (lessD p)) ∧ w' = w) := withoutD_c _
  have CN : Hid (∀ w, Calls Try.prog 87 #[.int .i64 p] w fun e w' => e = .returned (.int .i64 (lessN p)) ∧ w' = w) := withoutN_c _
  have CM : Hid (∀ w, Calls Try.prog 87 #[.int .i64 (lessD p)] w fun e w' => e = .returned (.int .i64 (lessN (lessD p))) ∧ w' = w) := withoutN_c _
  unfold dataJ at hJ
  generalize (lessN (lessD p)) = rm at *
  generalize lessN p = rn at *
  generalize lessD p = q at *
  rcases (show g20 = 0 ∨ g20 = 1 by omega) with rfl | rfl
  focus
    rw [show ((0 * 1048576 : Nat) : Int) = 0 from rfl] at k20
    rw [show ((0 : Nat) != 0) = false from rfl] at hJ
    cases h1 : (q == p)
    focus
      have h1n : (q != p) = true := by rw [bne, h1]; rfl
      cases h3 : (rn == p)
      focus
        have h3n : (rn != p) = true := by rw [bne, h3]; rfl
        cases h4 : ((g16_4 : Int) == 15)
        focus
          simp only [cond_true, cond_false, Bool.and_true, Bool.and_false, Bool.true_and, Bool.false_and, bne, Bool.not_true, Bool.not_false, beq_self_eq_true, *] at hJ
          subst hJ
        rotate_left 1
        focus
          simp only [cond_true, cond_false, Bool.and_true, Bool.and_false, Bool.true_and, Bool.false_and, bne, Bool.not_true, Bool.not_false, beq_self_eq_true, *] at hJ
          subst hJ
        rotate_left 1
      rotate_left 2
      focus
        have e3 : rn = p := by simpa using h3
        subst e3
        simp only [cond_true, cond_false, Bool.and_true, Bool.and_false, Bool.true_and, Bool.false_and, bne, Bool.not_true, Bool.not_false, beq_self_eq_true, *] at hJ
        subst hJ
      rotate_left 1
    rotate_left 3
    focus
      have e1 : q = p := by simpa using h1
      subst e1
      cases h3 : (rn == q)
      focus
        have h3n : (rn != q) = true := by rw [bne, h3]; rfl
        cases h4 : ((g16_4 : Int) == 15)
        focus
          simp only [cond_true, cond_false, Bool.and_true, Bool.and_false, Bool.true_and, Bool.false_and, bne, Bool.not_true, Bool.not_false, beq_self_eq_true, *] at hJ
          subst hJ
        rotate_left 1
        focus
          simp only [cond_true, cond_false, Bool.and_true, Bool.and_false, Bool.true_and, Bool.false_and, bne, Bool.not_true, Bool.not_false, beq_self_eq_true, *] at hJ
          subst hJ
        rotate_left 1
      rotate_left 2
      focus
        have e3 : rn = q := by simpa using h3
        subst e3
        simp only [cond_true, cond_false, Bool.and_true, Bool.and_false, Bool.true_and, Bool.false_and, bne, Bool.not_true, Bool.not_false, beq_self_eq_true, *] at hJ
        subst hJ
      rotate_left 1
    rotate_left 3
  rotate_left 6
  focus
    rw [show ((1 * 1048576 : Nat) : Int) = 1048576 from rfl] at k20
    rw [show ((1 : Nat) != 0) = true from rfl] at hJ
    cases h1 : (q == p)
    focus
      have h1n : (q != p) = true := by rw [bne, h1]; rfl
      cases h2 : ((g8_4 : Int) == 15)
      focus
        cases h3 : (rn == p)
        focus
          have h3n : (rn != p) = true := by rw [bne, h3]; rfl
          cases h4 : ((g16_4 : Int) == 15)
          focus
            simp only [cond_true, cond_false, Bool.and_true, Bool.and_false, Bool.true_and, Bool.false_and, bne, Bool.not_true, Bool.not_false, beq_self_eq_true, *] at hJ
            subst hJ
          rotate_left 1
          focus
            simp only [cond_true, cond_false, Bool.and_true, Bool.and_false, Bool.true_and, Bool.false_and, bne, Bool.not_true, Bool.not_false, beq_self_eq_true, *] at hJ
            subst hJ
          rotate_left 1
        rotate_left 2
        focus
          have e3 : rn = p := by simpa using h3
          subst e3
          simp only [cond_true, cond_false, Bool.and_true, Bool.and_false, Bool.true_and, Bool.false_and, bne, Bool.not_true, Bool.not_false, beq_self_eq_true, *] at hJ
          subst hJ
        rotate_left 1
      rotate_left 3
      focus
        cases h3 : (rm == q)
        focus
          have h3n : (rm != q) = true := by rw [bne, h3]; rfl
          cases h4 : ((g16_4 : Int) == 15)
          focus
            simp only [cond_true, cond_false, Bool.and_true, Bool.and_false, Bool.true_and, Bool.false_and, bne, Bool.not_true, Bool.not_false, beq_self_eq_true, *] at hJ
            subst hJ
          rotate_left 1
          focus
            simp only [cond_true, cond_false, Bool.and_true, Bool.and_false, Bool.true_and, Bool.false_and, bne, Bool.not_true, Bool.not_false, beq_self_eq_true, *] at hJ
            subst hJ
          rotate_left 1
        rotate_left 2
        focus
          have e3 : rm = q := by simpa using h3
          subst e3
          simp only [cond_true, cond_false, Bool.and_true, Bool.and_false, Bool.true_and, Bool.false_and, bne, Bool.not_true, Bool.not_false, beq_self_eq_true, *] at hJ
          subst hJ
        rotate_left 1
      rotate_left 3
    rotate_left 6
    focus
      have e1 : q = p := by simpa using h1
      subst e1
      cases h3 : (rn == q)
      focus
        have h3n : (rn != q) = true := by rw [bne, h3]; rfl
        cases h4 : ((g16_4 : Int) == 15)
        focus
          simp only [cond_true, cond_false, Bool.and_true, Bool.and_false, Bool.true_and, Bool.false_and, bne, Bool.not_true, Bool.not_false, beq_self_eq_true, *] at hJ
          subst hJ
        rotate_left 1
        focus
          simp only [cond_true, cond_false, Bool.and_true, Bool.and_false, Bool.true_and, Bool.false_and, bne, Bool.not_true, Bool.not_false, beq_self_eq_true, *] at hJ
          subst hJ
        rotate_left 1
      rotate_left 2
      focus
        have e3 : rn = q := by simpa using h3
        subst e3
        simp only [cond_true, cond_false, Bool.and_true, Bool.and_false, Bool.true_and, Bool.false_and, bne, Bool.not_true, Bool.not_false, beq_self_eq_true, *] at hJ
        subst hJ
      rotate_left 1
    rotate_left 3
  rotate_left 9
  all_goals
    go_enter Try.func49, Try.ntmps49
    have S := SH.start w
    go_wp2_with (first
      | ((with_reducible refine wpl_isDst 2 ?_); (first | refine S.alloc rfl 30 rfl (Cel.any zeroL) zeroA ?_ | refine SH.alloc (L := []) S rfl 30 rfl (Cel.any zeroL) zeroA ?_); clear S; intro b2 w2 S)
      | (go_at_call 46; first | (with_reducible refine (F21_4.out _).mono ?_; rintro e wf ⟨rfl, hbf⟩; replace S := S.below hbf; clear hbf) | (with_reducible refine (F8_4.out _).mono ?_; rintro e wf ⟨rfl, hbf⟩; replace S := S.below hbf; clear hbf) | (with_reducible refine (F16_4.out _).mono ?_; rintro e wf ⟨rfl, hbf⟩; replace S := S.below hbf; clear hbf))
      | (go_at_call 85; refine (CP.out _).mono ?_; rintro e wf ⟨rfl, rfl⟩)
      | (go_at_call 45; refine (start_c _ _ _ _).mono ?_; rintro e wf ⟨rfl, hbf⟩; replace S := S.below hbf; clear hbf)
      | ((with_reducible refine wpl_isDst 3 ?_); (first | refine S.alloc rfl 30 rfl (Cel.any zeroL) zeroA ?_ | refine SH.alloc (L := []) S rfl 30 rfl (Cel.any zeroL) zeroA ?_); clear S; intro b3 w3 S)
      | ((with_reducible refine wpl_isStoreAt 3 ?_); (first | refine S.storeA rfl 30 _ _ rfl b3 _ rfl rfl 0 _ rfl rfl rfl (szA _ rfl) ?_ | refine S.storeA rfl 30 _ _ rfl b3 _ rfl rfl 1 _ rfl rfl rfl (szA _ rfl) ?_); clear S; intro w2 S; (simp only [Cel.cells, IV.cellsL, zeroL, List.set_cons_zero, List.set_cons_succ, startI, secondI, noneI] at S))
      | ((with_reducible refine wpl_isStoreAt 17 ?_); (first | refine S.store1 rfl 4 _ _ rfl b3 2 _ rfl rfl 0 _ rfl rfl (of_decide_eq_true rfl) (Cel.any _) rfl (by kernel_rfl) ?_ | refine S.store1 rfl 4 _ _ rfl b3 2 _ rfl rfl 1 _ rfl rfl (of_decide_eq_true rfl) (Cel.any _) rfl (by kernel_rfl) ?_); clear S; intro w2 S; (simp only [Cel.cells, IV.cellsL, zeroL, List.set_cons_zero, List.set_cons_succ, startI, secondI, noneI] at S))
      | ((with_reducible refine wpl_isDst 19 ?_); (first | refine S.ld 3 _ rfl b3 0 rfl 0 _ rfl _ rfl _ Try.underlying3 rfl rfl ?_ | refine S.ld 3 _ rfl b3 0 rfl 1 _ rfl _ rfl _ Try.underlying3 rfl rfl ?_))
      | (go_at_call 86; refine (CD.out _).mono ?_; rintro e wf ⟨rfl, rfl⟩)
      | ((with_reducible refine wpl_isDst 23 ?_); (first | refine S.ld 3 _ rfl b3 0 rfl 0 _ rfl _ rfl _ Try.underlying3 rfl rfl ?_ | refine S.ld 3 _ rfl b3 0 rfl 1 _ rfl _ rfl _ Try.underlying3 rfl rfl ?_))
      | ((with_reducible refine wpl_isDst 27 ?_); first | (refine wpl_skip rfl ?_) | (first | refine S.ld 4 _ rfl b3 2 rfl 0 _ rfl _ rfl _ Try.underlying4 rfl rfl ?_ | refine S.ld 4 _ rfl b3 2 rfl 1 _ rfl _ rfl _ Try.underlying4 rfl rfl ?_))
      | ((with_reducible refine wpl_isDst 31 ?_); first | (refine wpl_skip rfl ?_) | (first | refine S.ld 3 _ rfl b3 4 rfl 0 _ rfl _ rfl _ Try.underlying3 rfl rfl ?_ | refine S.ld 3 _ rfl b3 4 rfl 1 _ rfl _ rfl _ Try.underlying3 rfl rfl ?_))
      | ((with_reducible refine wpl_isStoreAt 35 ?_); (first | refine S.store1 rfl 3 _ _ rfl b3 0 _ rfl rfl 0 _ rfl rfl (of_decide_eq_true rfl) (Cel.any _) rfl (by kernel_rfl) ?_ | refine S.store1 rfl 3 _ _ rfl b3 0 _ rfl rfl 1 _ rfl rfl (of_decide_eq_true rfl) (Cel.any _) rfl (by kernel_rfl) ?_); clear S; intro w2 S; (simp only [Cel.cells, IV.cellsL, zeroL, List.set_cons_zero, List.set_cons_succ, startI, secondI, noneI] at S))
      | ((with_reducible refine wpl_isStoreAt 36 ?_); (first | refine S.store1 rfl 3 _ _ rfl b3 4 _ rfl rfl 0 _ rfl rfl (of_decide_eq_true rfl) (Cel.any _) rfl (by kernel_rfl) ?_ | refine S.store1 rfl 3 _ _ rfl b3 4 _ rfl rfl 1 _ rfl rfl (of_decide_eq_true rfl) (Cel.any _) rfl (by kernel_rfl) ?_); clear S; intro w2 S; (simp only [Cel.cells, IV.cellsL, zeroL, List.set_cons_zero, List.set_cons_succ, startI, secondI, noneI] at S))
      | ((with_reducible refine wpl_isDst 38 ?_); (first | refine S.ld 3 _ rfl b3 0 rfl 0 _ rfl _ rfl _ Try.underlying3 rfl rfl ?_ | refine S.ld 3 _ rfl b3 0 rfl 1 _ rfl _ rfl _ Try.underlying3 rfl rfl ?_))
      | (go_at_call 87; first | (with_reducible refine (CN.out _).mono ?_; rintro e wf ⟨rfl, rfl⟩) | (with_reducible refine (CM.out _).mono ?_; rintro e wf ⟨rfl, rfl⟩))
      | ((with_reducible refine wpl_isDst 42 ?_); (first | refine S.ld 3 _ rfl b3 0 rfl 0 _ rfl _ rfl _ Try.underlying3 rfl rfl ?_ | refine S.ld 3 _ rfl b3 0 rfl 1 _ rfl _ rfl _ Try.underlying3 rfl rfl ?_))
      | ((with_reducible refine wpl_isDst 46 ?_); first | (refine wpl_skip rfl ?_) | (first | refine S.ld 3 _ rfl b3 5 rfl 0 _ rfl _ rfl _ Try.underlying3 rfl rfl ?_ | refine S.ld 3 _ rfl b3 5 rfl 1 _ rfl _ rfl _ Try.underlying3 rfl rfl ?_))
      | ((with_reducible refine wpl_isStoreAt 50 ?_); (first | refine S.store1 rfl 3 _ _ rfl b3 0 _ rfl rfl 0 _ rfl rfl (of_decide_eq_true rfl) (Cel.any _) rfl (by kernel_rfl) ?_ | refine S.store1 rfl 3 _ _ rfl b3 0 _ rfl rfl 1 _ rfl rfl (of_decide_eq_true rfl) (Cel.any _) rfl (by kernel_rfl) ?_); clear S; intro w2 S; (simp only [Cel.cells, IV.cellsL, zeroL, List.set_cons_zero, List.set_cons_succ, startI, secondI, noneI] at S))
      | ((with_reducible refine wpl_isStoreAt 51 ?_); (first | refine S.store1 rfl 3 _ _ rfl b3 5 _ rfl rfl 0 _ rfl rfl (of_decide_eq_true rfl) (Cel.any _) rfl (by kernel_rfl) ?_ | refine S.store1 rfl 3 _ _ rfl b3 5 _ rfl rfl 1 _ rfl rfl (of_decide_eq_true rfl) (Cel.any _) rfl (by kernel_rfl) ?_); clear S; intro w2 S; (simp only [Cel.cells, IV.cellsL, zeroL, List.set_cons_zero, List.set_cons_succ, startI, secondI, noneI] at S))
      | ((with_reducible refine wpl_isDst 52 ?_); (first | refine S.ldAll 30 _ rfl b3 rfl 0 _ rfl _ Try.underlying30 rfl (szA _ rfl) rfl ?_ | refine S.ldAll 30 _ rfl b3 rfl 1 _ rfl _ Try.underlying30 rfl (szA _ rfl) rfl ?_))
      | ((with_reducible refine wpl_isStoreAt 2 ?_); (first | refine S.storeA rfl 30 _ _ rfl b2 _ rfl rfl 0 _ rfl rfl rfl (szA _ rfl) ?_ | refine S.storeA rfl 30 _ _ rfl b2 _ rfl rfl 1 _ rfl rfl rfl (szA _ rfl) ?_); clear S; intro w2 S; (simp only [Cel.cells, IV.cellsL, zeroL, List.set_cons_zero, List.set_cons_succ, startI, secondI, noneI] at S)))
    (try simp only [Exit.inBlock, Exit.then])
    (first | refine bodyPost_ret (S.results rfl _ _ rfl 0 _ rfl _ Try.underlying30 rfl (szA _ rfl)) rfl ?_ | refine bodyPost_ret (S.results rfl _ _ rfl 1 _ rfl _ Try.underlying30 rfl (szA _ rfl)) rfl ?_)
    exact ⟨rfl, S.low⟩
end Go.Proofs.Ytigmekboikgoaaa
