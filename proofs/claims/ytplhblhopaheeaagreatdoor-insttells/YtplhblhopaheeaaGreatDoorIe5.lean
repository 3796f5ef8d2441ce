/- Stage 9: the document's Sets -/
import Derived.Test.YtplhblhopaheeaaGreatDoorIe2
import Derived.Test.YtplhblhopaheeaaGreatDoorYa
namespace Go.Proofs.YtplhblhopaheeaaGreatDoor
open Go.ChangeShapes Go.WideShapes Go.ChangeAt Go.RowKit
set_option linter.unusedVariables false
set_option linter.unusedSimpArgs false
set_option maxHeartbeats 20000000
set_option maxRecDepth 100000

theorem rsets_f (i : IV) (h43 : i.op = 43 → i.s = false) (hs0 : i.s = false) (w : World) : Calls Tryz.prog 43 #[i.val] w fun e w' => e = .returned (.int .i64 (setsI i)) ∧ Below w.heap.size w w' := by
  have CC : Hid (∀ w1, Calls Tryz.prog 51 #[.int .i64 i.op] w1 fun e w' => e = .returned (.int .i64 (classS i.op)) ∧ w' = w1) := fun w1 => rclassZ_c i.op w1
  have CF : Hid (∀ w1, Calls Tryz.prog 53 #[.int .i64 i.op] w1 fun e w' => e = .returned (.bool (comparesS i.op)) ∧ w' = w1) := fun w1 => rfour_c i.op w1
  obtain ⟨o, ho⟩ : ∃ o, i.op = o := ⟨_, rfl⟩
  have HOP : Hid ((Cel.iv i).cells[0]? = some (.int .i64 o)) := by
    show some (Value.int .i64 i.op) = _
    rw [ho]
  obtain ⟨al, hal⟩ : ∃ u, i.a = u := ⟨_, rfl⟩
  have HA : Hid ((Cel.iv i).cells[7]? = some (.int .i64 al)) := by
    show some (Value.int .i64 i.a) = _
    rw [hal]
  obtain ⟨sh, hsh⟩ : ∃ u, i.sh = u := ⟨_, rfl⟩
  have HSH : Hid ((Cel.iv i).cells[10]? = some (.int .i64 sh)) := by
    show some (Value.int .i64 i.sh) = _
    rw [hsh]
  obtain ⟨sb, hsb⟩ : ∃ u, i.s = u := ⟨_, rfl⟩
  have HS : Hid ((Cel.iv i).cells[2]? = some (.bool sb)) := by
    show some (Value.bool i.s) = _
    rw [hsb]
  obtain ⟨ub, hub⟩ : ∃ u, i.useImm = u := ⟨_, rfl⟩
  have HU : Hid ((Cel.iv i).cells[9]? = some (.bool ub)) := by
    show some (Value.bool i.useImm) = _
    rw [hub]
  rw [ho] at CC CF
  obtain rfl : sb = false := by rw [← hsb, hs0]
  cases hq1 : comparesS o
  focus
    rw [hq1] at CF
    have hv : setsI i = 0 := by
      unfold setsI
      simp only [ho, hsb, hq1]
      rfl
    rw [hv]
    clear hv h43
    generalize classS o = cl at *
  rotate_left 1
  focus
    have hr : 8 ≤ o ∧ o ≤ 11 := by
      unfold comparesS at hq1
      (repeat' split at hq1) <;> first | omega | (exact absurd hq1 (by decide))
    clear hq1
    rcases (show (8 ≤ o ∧ o ≤ 9) ∨ o = 10 ∨ o = 11 by omega) with hr | hr | hr
    focus
      have e3 : (o == 3) = false := by simp; omega
      have e4 : (o == 4) = false := by simp; omega
      have e5 : (o == 5) = false := by simp; omega
      have e6 : (o == 6) = false := by simp; omega
      have e7 : (o == 7) = false := by simp; omega
      have e10 : (o == 10) = false := by simp; omega
      have e11 : (o == 11) = false := by simp; omega
      have e17 : (o == 17) = false := by simp; omega
      have e18 : (o == 18) = false := by simp; omega
      have e19 : (o == 19) = false := by simp; omega
      have e20 : (o == 20) = false := by simp; omega
      have e21 : (o == 21) = false := by simp; omega
      have e43 : (o == 43) = false := by simp; omega
      have hq1 : comparesS o = true := by unfold comparesS; (repeat' split) <;> first | rfl | omega
      have hq2 : sumsS o = false := by unfold sumsS; (repeat' split) <;> first | rfl | omega
      have hq3 : shiftsS o = false := by unfold shiftsS; (repeat' split) <;> first | rfl | omega
      have hq4 : classS o = 1 := by unfold classS; (repeat' split) <;> omega
      rw [hq1] at CF
      rw [hq4] at CC
      cases ub
      focus
        cases e1 : (sh == 0)
        focus
          have n1 : (sh != 0) = true := by simp only [bne, e1, Bool.not_false]
          have hv : setsI i = 14 := by
            unfold setsI carriesS
            simp only [ho, hsb, hub, hal, hsh, hq1, hq2, hq3, hq4]
            first | rfl | (simp [*]; done)
          rw [hv]
          clear hv ho hsb hub hal hsh hq1 hq2 hq3 hq4 h43
        rotate_left 1
        focus
          have n1 : (sh != 0) = false := by simp only [bne, e1, Bool.not_true]
          have hv : setsI i = 12 := by
            unfold setsI carriesS
            simp only [ho, hsb, hub, hal, hsh, hq1, hq2, hq3, hq4]
            first | rfl | (simp [*]; done)
          rw [hv]
          clear hv ho hsb hub hal hsh hq1 hq2 hq3 hq4 h43
        rotate_left 1
      rotate_left 2
      focus
        cases e1 : (al == 1)
        focus
          have hv : setsI i = 12 := by
            unfold setsI carriesS
            simp only [ho, hsb, hub, hal, hsh, hq1, hq2, hq3, hq4]
            first | rfl | (simp [*]; done)
          rw [hv]
          clear hv ho hsb hub hal hsh hq1 hq2 hq3 hq4 h43
        rotate_left 1
        focus
          have hv : setsI i = 14 := by
            unfold setsI carriesS
            simp only [ho, hsb, hub, hal, hsh, hq1, hq2, hq3, hq4]
            first | rfl | (simp [*]; done)
          rw [hv]
          clear hv ho hsb hub hal hsh hq1 hq2 hq3 hq4 h43
        rotate_left 1
      rotate_left 2
    rotate_left 4
    focus
      subst hr
      have hq1 : comparesS 10 = true := by rfl
      have hq2 : sumsS 10 = true := by rfl
      have hq3 : shiftsS 10 = false := by rfl
      have hq4 : classS 10 = 1 := by rfl
      rw [hq1] at CF
      rw [hq4] at CC
      have hv : setsI i = 15 := by
        unfold setsI carriesS
        simp only [ho, hsb, hub, hal, hsh, hq1, hq2, hq3, hq4]
        first | rfl | (simp [*]; done)
      rw [hv]
      clear hv ho hsb hub hal hsh hq1 hq2 hq3 hq4 h43
    rotate_left 1
    focus
      subst hr
      have hq1 : comparesS 11 = true := by rfl
      have hq2 : sumsS 11 = true := by rfl
      have hq3 : shiftsS 11 = false := by rfl
      have hq4 : classS 11 = 1 := by rfl
      rw [hq1] at CF
      rw [hq4] at CC
      have hv : setsI i = 15 := by
        unfold setsI carriesS
        simp only [ho, hsb, hub, hal, hsh, hq1, hq2, hq3, hq4]
        first | rfl | (simp [*]; done)
      rw [hv]
      clear hv ho hsb hub hal hsh hq1 hq2 hq3 hq4 h43
    rotate_left 1
  rotate_left 6
  all_goals
    go_enter Tryz.func43, Tryz.ntmps43
    have S := SH.start w
    go_wp2_with (first
     | ((with_reducible refine wpl_isDst 1 ?_); refine SH.box (L := []) S rfl 28 _ rfl (Cel.iv i) rfl ?_; clear S; intro b1 w1 S)
     | ((with_reducible refine g_ld 4 ?_); first | (refine wpl_skip rfl ?_) | (refine S.ld 4 _ rfl b1 2 rfl 0 _ rfl (.bool _) HS.out _ Tryz.underlying4 rfl rfl ?_) | (refine S.ld 4 _ rfl b1 9 rfl 0 _ rfl (.bool _) HU.out _ Tryz.underlying4 rfl rfl ?_))
     | ((with_reducible refine g_ld 3 ?_); first | (refine wpl_skip rfl ?_) | (refine S.ld 3 _ rfl b1 0 rfl 0 _ rfl (.int .i64 _) HOP.out _ Tryz.underlying3 rfl rfl ?_) | (refine S.ld 3 _ rfl b1 7 rfl 0 _ rfl (.int .i64 _) HA.out _ Tryz.underlying3 rfl rfl ?_) | (refine S.ld 3 _ rfl b1 10 rfl 0 _ rfl (.int .i64 _) HSH.out _ Tryz.underlying3 rfl rfl ?_))
     | (go_at_call 53; refine (CF.out _).mono ?_; rintro e wf ⟨rfl, rfl⟩)
     | (go_at_call 51; refine (CC.out _).mono ?_; rintro e wf ⟨rfl, rfl⟩))
    go_ret
    exact ⟨rfl, S.low⟩
theorem rsets_ta (i : IV) (h43 : i.op = 43 → i.s = false) (hs1 : i.s = true) (hrr : i.op ≤ 9) (w : World) : Calls Tryz.prog 43 #[i.val] w fun e w' => e = .returned (.int .i64 (setsI i)) ∧ Below w.heap.size w w' := by
  have CC : Hid (∀ w1, Calls Tryz.prog 51 #[.int .i64 i.op] w1 fun e w' => e = .returned (.int .i64 (classS i.op)) ∧ w' = w1) := fun w1 => rclassZ_c i.op w1
  have CF : Hid (∀ w1, Calls Tryz.prog 53 #[.int .i64 i.op] w1 fun e w' => e = .returned (.bool (comparesS i.op)) ∧ w' = w1) := fun w1 => rfour_c i.op w1
  obtain ⟨o, ho⟩ : ∃ o, i.op = o := ⟨_, rfl⟩
  have HOP : Hid ((Cel.iv i).cells[0]? = some (.int .i64 o)) := by
    show some (Value.int .i64 i.op) = _
    rw [ho]
  obtain ⟨al, hal⟩ : ∃ u, i.a = u := ⟨_, rfl⟩
  have HA : Hid ((Cel.iv i).cells[7]? = some (.int .i64 al)) := by
    show some (Value.int .i64 i.a) = _
    rw [hal]
  obtain ⟨sh, hsh⟩ : ∃ u, i.sh = u := ⟨_, rfl⟩
  have HSH : Hid ((Cel.iv i).cells[10]? = some (.int .i64 sh)) := by
    show some (Value.int .i64 i.sh) = _
    rw [hsh]
  obtain ⟨sb, hsb⟩ : ∃ u, i.s = u := ⟨_, rfl⟩
  have HS : Hid ((Cel.iv i).cells[2]? = some (.bool sb)) := by
    show some (Value.bool i.s) = _
    rw [hsb]
  obtain ⟨ub, hub⟩ : ∃ u, i.useImm = u := ⟨_, rfl⟩
  have HU : Hid ((Cel.iv i).cells[9]? = some (.bool ub)) := by
    show some (Value.bool i.useImm) = _
    rw [hub]
  rw [ho] at CC CF
  obtain rfl : sb = true := by rw [← hsb, hs1]
  rw [ho] at hrr
  rcases (show o ≤ 0 ∨ (1 ≤ o ∧ o ≤ 2) ∨ o = 3 ∨ o = 4 ∨ o = 5 ∨ o = 6 ∨ o = 7 ∨ (8 ≤ o ∧ o ≤ 9) by omega) with hr | hr | hr | hr | hr | hr | hr | hr
  focus
    have e3 : (o == 3) = false := by simp; omega
    have e4 : (o == 4) = false := by simp; omega
    have e5 : (o == 5) = false := by simp; omega
    have e6 : (o == 6) = false := by simp; omega
    have e7 : (o == 7) = false := by simp; omega
    have e10 : (o == 10) = false := by simp; omega
    have e11 : (o == 11) = false := by simp; omega
    have e17 : (o == 17) = false := by simp; omega
    have e18 : (o == 18) = false := by simp; omega
    have e19 : (o == 19) = false := by simp; omega
    have e20 : (o == 20) = false := by simp; omega
    have e21 : (o == 21) = false := by simp; omega
    have e43 : (o == 43) = false := by simp; omega
    have hq1 : comparesS o = false := by unfold comparesS; (repeat' split) <;> first | rfl | omega
    have hq2 : sumsS o = false := by unfold sumsS; (repeat' split) <;> first | rfl | omega
    have hq3 : shiftsS o = false := by unfold shiftsS; (repeat' split) <;> first | rfl | omega
    have hq4 : (classS o == 1) = false := by unfold classS; simp only [beq_eq_false_iff_ne, ne_eq]; (repeat' split) <;> omega
    have hq5 : (classS o != 1) = true := by simp only [bne, hq4, Bool.not_false]
    rw [hq1] at CF
    have hv : setsI i = 0 := by
      unfold setsI carriesS
      simp only [ho, hsb, hub, hal, hsh, hq1, hq2, hq3, hq4]
      first | rfl | (simp [*]; done)
    rw [hv]
    clear hv ho hsb hub hal hsh hq1 hq2 hq3 h43
    generalize classS o = cl at *
  rotate_left 1
  focus
    have e3 : (o == 3) = false := by simp; omega
    have e4 : (o == 4) = false := by simp; omega
    have e5 : (o == 5) = false := by simp; omega
    have e6 : (o == 6) = false := by simp; omega
    have e7 : (o == 7) = false := by simp; omega
    have e10 : (o == 10) = false := by simp; omega
    have e11 : (o == 11) = false := by simp; omega
    have e17 : (o == 17) = false := by simp; omega
    have e18 : (o == 18) = false := by simp; omega
    have e19 : (o == 19) = false := by simp; omega
    have e20 : (o == 20) = false := by simp; omega
    have e21 : (o == 21) = false := by simp; omega
    have e43 : (o == 43) = false := by simp; omega
    have hq1 : comparesS o = false := by unfold comparesS; (repeat' split) <;> first | rfl | omega
    have hq2 : sumsS o = false := by unfold sumsS; (repeat' split) <;> first | rfl | omega
    have hq3 : shiftsS o = false := by unfold shiftsS; (repeat' split) <;> first | rfl | omega
    have hq4 : classS o = 1 := by unfold classS; (repeat' split) <;> omega
    rw [hq1] at CF
    rw [hq4] at CC
    cases ub
    focus
      cases e1 : (sh == 0)
      focus
        have n1 : (sh != 0) = true := by simp only [bne, e1, Bool.not_false]
        have hv : setsI i = 14 := by
          unfold setsI carriesS
          simp only [ho, hsb, hub, hal, hsh, hq1, hq2, hq3, hq4]
          first | rfl | (simp [*]; done)
        rw [hv]
        clear hv ho hsb hub hal hsh hq1 hq2 hq3 hq4 h43
      rotate_left 1
      focus
        have n1 : (sh != 0) = false := by simp only [bne, e1, Bool.not_true]
        have hv : setsI i = 12 := by
          unfold setsI carriesS
          simp only [ho, hsb, hub, hal, hsh, hq1, hq2, hq3, hq4]
          first | rfl | (simp [*]; done)
        rw [hv]
        clear hv ho hsb hub hal hsh hq1 hq2 hq3 hq4 h43
      rotate_left 1
    rotate_left 2
    focus
      cases e1 : (al == 1)
      focus
        have hv : setsI i = 12 := by
          unfold setsI carriesS
          simp only [ho, hsb, hub, hal, hsh, hq1, hq2, hq3, hq4]
          first | rfl | (simp [*]; done)
        rw [hv]
        clear hv ho hsb hub hal hsh hq1 hq2 hq3 hq4 h43
      rotate_left 1
      focus
        have hv : setsI i = 14 := by
          unfold setsI carriesS
          simp only [ho, hsb, hub, hal, hsh, hq1, hq2, hq3, hq4]
          first | rfl | (simp [*]; done)
        rw [hv]
        clear hv ho hsb hub hal hsh hq1 hq2 hq3 hq4 h43
      rotate_left 1
    rotate_left 2
  rotate_left 4
  focus
    subst hr
    have hq1 : comparesS 3 = false := by rfl
    have hq2 : sumsS 3 = true := by rfl
    have hq3 : shiftsS 3 = false := by rfl
    have hq4 : classS 3 = 1 := by rfl
    rw [hq1] at CF
    rw [hq4] at CC
    have hv : setsI i = 15 := by
      unfold setsI carriesS
      simp only [ho, hsb, hub, hal, hsh, hq1, hq2, hq3, hq4]
      first | rfl | (simp [*]; done)
    rw [hv]
    clear hv ho hsb hub hal hsh hq1 hq2 hq3 hq4 h43
  rotate_left 1
  focus
    subst hr
    have hq1 : comparesS 4 = false := by rfl
    have hq2 : sumsS 4 = true := by rfl
    have hq3 : shiftsS 4 = false := by rfl
    have hq4 : classS 4 = 1 := by rfl
    rw [hq1] at CF
    rw [hq4] at CC
    have hv : setsI i = 15 := by
      unfold setsI carriesS
      simp only [ho, hsb, hub, hal, hsh, hq1, hq2, hq3, hq4]
      first | rfl | (simp [*]; done)
    rw [hv]
    clear hv ho hsb hub hal hsh hq1 hq2 hq3 hq4 h43
  rotate_left 1
  focus
    subst hr
    have hq1 : comparesS 5 = false := by rfl
    have hq2 : sumsS 5 = true := by rfl
    have hq3 : shiftsS 5 = false := by rfl
    have hq4 : classS 5 = 1 := by rfl
    rw [hq1] at CF
    rw [hq4] at CC
    have hv : setsI i = 15 := by
      unfold setsI carriesS
      simp only [ho, hsb, hub, hal, hsh, hq1, hq2, hq3, hq4]
      first | rfl | (simp [*]; done)
    rw [hv]
    clear hv ho hsb hub hal hsh hq1 hq2 hq3 hq4 h43
  rotate_left 1
  focus
    subst hr
    have hq1 : comparesS 6 = false := by rfl
    have hq2 : sumsS 6 = true := by rfl
    have hq3 : shiftsS 6 = false := by rfl
    have hq4 : classS 6 = 1 := by rfl
    rw [hq1] at CF
    rw [hq4] at CC
    have hv : setsI i = 15 := by
      unfold setsI carriesS
      simp only [ho, hsb, hub, hal, hsh, hq1, hq2, hq3, hq4]
      first | rfl | (simp [*]; done)
    rw [hv]
    clear hv ho hsb hub hal hsh hq1 hq2 hq3 hq4 h43
  rotate_left 1
  focus
    subst hr
    have hq1 : comparesS 7 = false := by rfl
    have hq2 : sumsS 7 = true := by rfl
    have hq3 : shiftsS 7 = false := by rfl
    have hq4 : classS 7 = 1 := by rfl
    rw [hq1] at CF
    rw [hq4] at CC
    have hv : setsI i = 15 := by
      unfold setsI carriesS
      simp only [ho, hsb, hub, hal, hsh, hq1, hq2, hq3, hq4]
      first | rfl | (simp [*]; done)
    rw [hv]
    clear hv ho hsb hub hal hsh hq1 hq2 hq3 hq4 h43
  rotate_left 1
  focus
    have e3 : (o == 3) = false := by simp; omega
    have e4 : (o == 4) = false := by simp; omega
    have e5 : (o == 5) = false := by simp; omega
    have e6 : (o == 6) = false := by simp; omega
    have e7 : (o == 7) = false := by simp; omega
    have e10 : (o == 10) = false := by simp; omega
    have e11 : (o == 11) = false := by simp; omega
    have e17 : (o == 17) = false := by simp; omega
    have e18 : (o == 18) = false := by simp; omega
    have e19 : (o == 19) = false := by simp; omega
    have e20 : (o == 20) = false := by simp; omega
    have e21 : (o == 21) = false := by simp; omega
    have e43 : (o == 43) = false := by simp; omega
    have hq1 : comparesS o = true := by unfold comparesS; (repeat' split) <;> first | rfl | omega
    have hq2 : sumsS o = false := by unfold sumsS; (repeat' split) <;> first | rfl | omega
    have hq3 : shiftsS o = false := by unfold shiftsS; (repeat' split) <;> first | rfl | omega
    have hq4 : classS o = 1 := by unfold classS; (repeat' split) <;> omega
    rw [hq1] at CF
    rw [hq4] at CC
    cases ub
    focus
      cases e1 : (sh == 0)
      focus
        have n1 : (sh != 0) = true := by simp only [bne, e1, Bool.not_false]
        have hv : setsI i = 14 := by
          unfold setsI carriesS
          simp only [ho, hsb, hub, hal, hsh, hq1, hq2, hq3, hq4]
          first | rfl | (simp [*]; done)
        rw [hv]
        clear hv ho hsb hub hal hsh hq1 hq2 hq3 hq4 h43
      rotate_left 1
      focus
        have n1 : (sh != 0) = false := by simp only [bne, e1, Bool.not_true]
        have hv : setsI i = 12 := by
          unfold setsI carriesS
          simp only [ho, hsb, hub, hal, hsh, hq1, hq2, hq3, hq4]
          first | rfl | (simp [*]; done)
        rw [hv]
        clear hv ho hsb hub hal hsh hq1 hq2 hq3 hq4 h43
      rotate_left 1
    rotate_left 2
    focus
      cases e1 : (al == 1)
      focus
        have hv : setsI i = 12 := by
          unfold setsI carriesS
          simp only [ho, hsb, hub, hal, hsh, hq1, hq2, hq3, hq4]
          first | rfl | (simp [*]; done)
        rw [hv]
        clear hv ho hsb hub hal hsh hq1 hq2 hq3 hq4 h43
      rotate_left 1
      focus
        have hv : setsI i = 14 := by
          unfold setsI carriesS
          simp only [ho, hsb, hub, hal, hsh, hq1, hq2, hq3, hq4]
          first | rfl | (simp [*]; done)
        rw [hv]
        clear hv ho hsb hub hal hsh hq1 hq2 hq3 hq4 h43
      rotate_left 1
    rotate_left 2
  rotate_left 4
  all_goals
    go_enter Tryz.func43, Tryz.ntmps43
    have S := SH.start w
    go_wp2_with (first
     | ((with_reducible refine wpl_isDst 1 ?_); refine SH.box (L := []) S rfl 28 _ rfl (Cel.iv i) rfl ?_; clear S; intro b1 w1 S)
     | ((with_reducible refine g_ld 4 ?_); first | (refine wpl_skip rfl ?_) | (refine S.ld 4 _ rfl b1 2 rfl 0 _ rfl (.bool _) HS.out _ Tryz.underlying4 rfl rfl ?_) | (refine S.ld 4 _ rfl b1 9 rfl 0 _ rfl (.bool _) HU.out _ Tryz.underlying4 rfl rfl ?_))
     | ((with_reducible refine g_ld 3 ?_); first | (refine wpl_skip rfl ?_) | (refine S.ld 3 _ rfl b1 0 rfl 0 _ rfl (.int .i64 _) HOP.out _ Tryz.underlying3 rfl rfl ?_) | (refine S.ld 3 _ rfl b1 7 rfl 0 _ rfl (.int .i64 _) HA.out _ Tryz.underlying3 rfl rfl ?_) | (refine S.ld 3 _ rfl b1 10 rfl 0 _ rfl (.int .i64 _) HSH.out _ Tryz.underlying3 rfl rfl ?_))
     | (go_at_call 53; refine (CF.out _).mono ?_; rintro e wf ⟨rfl, rfl⟩)
     | (go_at_call 51; refine (CC.out _).mono ?_; rintro e wf ⟨rfl, rfl⟩))
    go_ret
    exact ⟨rfl, S.low⟩
theorem rsets_tb (i : IV) (h43 : i.op = 43 → i.s = false) (hs1 : i.s = true) (hrr : (10 ≤ i.op ∧ i.op ≤ 20)) (w : World) : Calls Tryz.prog 43 #[i.val] w fun e w' => e = .returned (.int .i64 (setsI i)) ∧ Below w.heap.size w w' := by
  have CC : Hid (∀ w1, Calls Tryz.prog 51 #[.int .i64 i.op] w1 fun e w' => e = .returned (.int .i64 (classS i.op)) ∧ w' = w1) := fun w1 => rclassZ_c i.op w1
  have CF : Hid (∀ w1, Calls Tryz.prog 53 #[.int .i64 i.op] w1 fun e w' => e = .returned (.bool (comparesS i.op)) ∧ w' = w1) := fun w1 => rfour_c i.op w1
  obtain ⟨o, ho⟩ : ∃ o, i.op = o := ⟨_, rfl⟩
  have HOP : Hid ((Cel.iv i).cells[0]? = some (.int .i64 o)) := by
    show some (Value.int .i64 i.op) = _
    rw [ho]
  obtain ⟨al, hal⟩ : ∃ u, i.a = u := ⟨_, rfl⟩
  have HA : Hid ((Cel.iv i).cells[7]? = some (.int .i64 al)) := by
    show some (Value.int .i64 i.a) = _
    rw [hal]
  obtain ⟨sh, hsh⟩ : ∃ u, i.sh = u := ⟨_, rfl⟩
  have HSH : Hid ((Cel.iv i).cells[10]? = some (.int .i64 sh)) := by
    show some (Value.int .i64 i.sh) = _
    rw [hsh]
  obtain ⟨sb, hsb⟩ : ∃ u, i.s = u := ⟨_, rfl⟩
  have HS : Hid ((Cel.iv i).cells[2]? = some (.bool sb)) := by
    show some (Value.bool i.s) = _
    rw [hsb]
  obtain ⟨ub, hub⟩ : ∃ u, i.useImm = u := ⟨_, rfl⟩
  have HU : Hid ((Cel.iv i).cells[9]? = some (.bool ub)) := by
    show some (Value.bool i.useImm) = _
    rw [hub]
  rw [ho] at CC CF
  obtain rfl : sb = true := by rw [← hsb, hs1]
  rw [ho] at hrr
  rcases (show o = 10 ∨ o = 11 ∨ (12 ≤ o ∧ o ≤ 16) ∨ o = 17 ∨ o = 18 ∨ o = 19 ∨ o = 20 by omega) with hr | hr | hr | hr | hr | hr | hr
  focus
    subst hr
    have hq1 : comparesS 10 = true := by rfl
    have hq2 : sumsS 10 = true := by rfl
    have hq3 : shiftsS 10 = false := by rfl
    have hq4 : classS 10 = 1 := by rfl
    rw [hq1] at CF
    rw [hq4] at CC
    have hv : setsI i = 15 := by
      unfold setsI carriesS
      simp only [ho, hsb, hub, hal, hsh, hq1, hq2, hq3, hq4]
      first | rfl | (simp [*]; done)
    rw [hv]
    clear hv ho hsb hub hal hsh hq1 hq2 hq3 hq4 h43
  rotate_left 1
  focus
    subst hr
    have hq1 : comparesS 11 = true := by rfl
    have hq2 : sumsS 11 = true := by rfl
    have hq3 : shiftsS 11 = false := by rfl
    have hq4 : classS 11 = 1 := by rfl
    rw [hq1] at CF
    rw [hq4] at CC
    have hv : setsI i = 15 := by
      unfold setsI carriesS
      simp only [ho, hsb, hub, hal, hsh, hq1, hq2, hq3, hq4]
      first | rfl | (simp [*]; done)
    rw [hv]
    clear hv ho hsb hub hal hsh hq1 hq2 hq3 hq4 h43
  rotate_left 1
  focus
    have e3 : (o == 3) = false := by simp; omega
    have e4 : (o == 4) = false := by simp; omega
    have e5 : (o == 5) = false := by simp; omega
    have e6 : (o == 6) = false := by simp; omega
    have e7 : (o == 7) = false := by simp; omega
    have e10 : (o == 10) = false := by simp; omega
    have e11 : (o == 11) = false := by simp; omega
    have e17 : (o == 17) = false := by simp; omega
    have e18 : (o == 18) = false := by simp; omega
    have e19 : (o == 19) = false := by simp; omega
    have e20 : (o == 20) = false := by simp; omega
    have e21 : (o == 21) = false := by simp; omega
    have e43 : (o == 43) = false := by simp; omega
    have hq1 : comparesS o = false := by unfold comparesS; (repeat' split) <;> first | rfl | omega
    have hq2 : sumsS o = false := by unfold sumsS; (repeat' split) <;> first | rfl | omega
    have hq3 : shiftsS o = false := by unfold shiftsS; (repeat' split) <;> first | rfl | omega
    have hq4 : classS o = 1 := by unfold classS; (repeat' split) <;> omega
    rw [hq1] at CF
    rw [hq4] at CC
    cases ub
    focus
      cases e1 : (sh == 0)
      focus
        have n1 : (sh != 0) = true := by simp only [bne, e1, Bool.not_false]
        have hv : setsI i = 14 := by
          unfold setsI carriesS
          simp only [ho, hsb, hub, hal, hsh, hq1, hq2, hq3, hq4]
          first | rfl | (simp [*]; done)
        rw [hv]
        clear hv ho hsb hub hal hsh hq1 hq2 hq3 hq4 h43
      rotate_left 1
      focus
        have n1 : (sh != 0) = false := by simp only [bne, e1, Bool.not_true]
        have hv : setsI i = 12 := by
          unfold setsI carriesS
          simp only [ho, hsb, hub, hal, hsh, hq1, hq2, hq3, hq4]
          first | rfl | (simp [*]; done)
        rw [hv]
        clear hv ho hsb hub hal hsh hq1 hq2 hq3 hq4 h43
      rotate_left 1
    rotate_left 2
    focus
      cases e1 : (al == 1)
      focus
        have hv : setsI i = 12 := by
          unfold setsI carriesS
          simp only [ho, hsb, hub, hal, hsh, hq1, hq2, hq3, hq4]
          first | rfl | (simp [*]; done)
        rw [hv]
        clear hv ho hsb hub hal hsh hq1 hq2 hq3 hq4 h43
      rotate_left 1
      focus
        have hv : setsI i = 14 := by
          unfold setsI carriesS
          simp only [ho, hsb, hub, hal, hsh, hq1, hq2, hq3, hq4]
          first | rfl | (simp [*]; done)
        rw [hv]
        clear hv ho hsb hub hal hsh hq1 hq2 hq3 hq4 h43
      rotate_left 1
    rotate_left 2
  rotate_left 4
  focus
    subst hr
    have hq1 : comparesS 17 = false := by rfl
    have hq2 : sumsS 17 = false := by rfl
    have hq3 : shiftsS 17 = true := by rfl
    have hq4 : classS 17 = 1 := by rfl
    rw [hq1] at CF
    rw [hq4] at CC
    have hv : setsI i = 14 := by
      unfold setsI carriesS
      simp only [ho, hsb, hub, hal, hsh, hq1, hq2, hq3, hq4]
      first | rfl | (simp [*]; done)
    rw [hv]
    clear hv ho hsb hub hal hsh hq1 hq2 hq3 hq4 h43
  rotate_left 1
  focus
    subst hr
    have hq1 : comparesS 18 = false := by rfl
    have hq2 : sumsS 18 = false := by rfl
    have hq3 : shiftsS 18 = true := by rfl
    have hq4 : classS 18 = 1 := by rfl
    rw [hq1] at CF
    rw [hq4] at CC
    have hv : setsI i = 14 := by
      unfold setsI carriesS
      simp only [ho, hsb, hub, hal, hsh, hq1, hq2, hq3, hq4]
      first | rfl | (simp [*]; done)
    rw [hv]
    clear hv ho hsb hub hal hsh hq1 hq2 hq3 hq4 h43
  rotate_left 1
  focus
    subst hr
    have hq1 : comparesS 19 = false := by rfl
    have hq2 : sumsS 19 = false := by rfl
    have hq3 : shiftsS 19 = true := by rfl
    have hq4 : classS 19 = 1 := by rfl
    rw [hq1] at CF
    rw [hq4] at CC
    have hv : setsI i = 14 := by
      unfold setsI carriesS
      simp only [ho, hsb, hub, hal, hsh, hq1, hq2, hq3, hq4]
      first | rfl | (simp [*]; done)
    rw [hv]
    clear hv ho hsb hub hal hsh hq1 hq2 hq3 hq4 h43
  rotate_left 1
  focus
    subst hr
    have hq1 : comparesS 20 = false := by rfl
    have hq2 : sumsS 20 = false := by rfl
    have hq3 : shiftsS 20 = true := by rfl
    have hq4 : classS 20 = 1 := by rfl
    rw [hq1] at CF
    rw [hq4] at CC
    have hv : setsI i = 14 := by
      unfold setsI carriesS
      simp only [ho, hsb, hub, hal, hsh, hq1, hq2, hq3, hq4]
      first | rfl | (simp [*]; done)
    rw [hv]
    clear hv ho hsb hub hal hsh hq1 hq2 hq3 hq4 h43
  rotate_left 1
  all_goals
    go_enter Tryz.func43, Tryz.ntmps43
    have S := SH.start w
    go_wp2_with (first
     | ((with_reducible refine wpl_isDst 1 ?_); refine SH.box (L := []) S rfl 28 _ rfl (Cel.iv i) rfl ?_; clear S; intro b1 w1 S)
     | ((with_reducible refine g_ld 4 ?_); first | (refine wpl_skip rfl ?_) | (refine S.ld 4 _ rfl b1 2 rfl 0 _ rfl (.bool _) HS.out _ Tryz.underlying4 rfl rfl ?_) | (refine S.ld 4 _ rfl b1 9 rfl 0 _ rfl (.bool _) HU.out _ Tryz.underlying4 rfl rfl ?_))
     | ((with_reducible refine g_ld 3 ?_); first | (refine wpl_skip rfl ?_) | (refine S.ld 3 _ rfl b1 0 rfl 0 _ rfl (.int .i64 _) HOP.out _ Tryz.underlying3 rfl rfl ?_) | (refine S.ld 3 _ rfl b1 7 rfl 0 _ rfl (.int .i64 _) HA.out _ Tryz.underlying3 rfl rfl ?_) | (refine S.ld 3 _ rfl b1 10 rfl 0 _ rfl (.int .i64 _) HSH.out _ Tryz.underlying3 rfl rfl ?_))
     | (go_at_call 53; refine (CF.out _).mono ?_; rintro e wf ⟨rfl, rfl⟩)
     | (go_at_call 51; refine (CC.out _).mono ?_; rintro e wf ⟨rfl, rfl⟩))
    go_ret
    exact ⟨rfl, S.low⟩
theorem rsets_tc (i : IV) (h43 : i.op = 43 → i.s = false) (hs1 : i.s = true) (hrr : 21 ≤ i.op) (w : World) : Calls Tryz.prog 43 #[i.val] w fun e w' => e = .returned (.int .i64 (setsI i)) ∧ Below w.heap.size w w' := by
  have CC : Hid (∀ w1, Calls Tryz.prog 51 #[.int .i64 i.op] w1 fun e w' => e = .returned (.int .i64 (classS i.op)) ∧ w' = w1) := fun w1 => rclassZ_c i.op w1
  have CF : Hid (∀ w1, Calls Tryz.prog 53 #[.int .i64 i.op] w1 fun e w' => e = .returned (.bool (comparesS i.op)) ∧ w' = w1) := fun w1 => rfour_c i.op w1
  obtain ⟨o, ho⟩ : ∃ o, i.op = o := ⟨_, rfl⟩
  have HOP : Hid ((Cel.iv i).cells[0]? = some (.int .i64 o)) := by
    show some (Value.int .i64 i.op) = _
    rw [ho]
  obtain ⟨al, hal⟩ : ∃ u, i.a = u := ⟨_, rfl⟩
  have HA : Hid ((Cel.iv i).cells[7]? = some (.int .i64 al)) := by
    show some (Value.int .i64 i.a) = _
    rw [hal]
  obtain ⟨sh, hsh⟩ : ∃ u, i.sh = u := ⟨_, rfl⟩
  have HSH : Hid ((Cel.iv i).cells[10]? = some (.int .i64 sh)) := by
    show some (Value.int .i64 i.sh) = _
    rw [hsh]
  obtain ⟨sb, hsb⟩ : ∃ u, i.s = u := ⟨_, rfl⟩
  have HS : Hid ((Cel.iv i).cells[2]? = some (.bool sb)) := by
    show some (Value.bool i.s) = _
    rw [hsb]
  obtain ⟨ub, hub⟩ : ∃ u, i.useImm = u := ⟨_, rfl⟩
  have HU : Hid ((Cel.iv i).cells[9]? = some (.bool ub)) := by
    show some (Value.bool i.useImm) = _
    rw [hub]
  rw [ho] at CC CF
  obtain rfl : sb = true := by rw [← hsb, hs1]
  rw [ho] at hrr
  rcases (show o = 21 ∨ (22 ≤ o ∧ o ≤ 42) ∨ o = 43 ∨ 44 ≤ o by omega) with hr | hr | hr | hr
  focus
    subst hr
    have hq1 : comparesS 21 = false := by rfl
    have hq2 : sumsS 21 = false := by rfl
    have hq3 : shiftsS 21 = false := by rfl
    have hq4 : classS 21 = 2 := by rfl
    rw [hq1] at CF
    rw [hq4] at CC
    have hv : setsI i = 12 := by
      unfold setsI carriesS
      simp only [ho, hsb, hub, hal, hsh, hq1, hq2, hq3, hq4]
      first | rfl | (simp [*]; done)
    rw [hv]
    clear hv ho hsb hub hal hsh hq1 hq2 hq3 hq4 h43
  rotate_left 1
  focus
    have e3 : (o == 3) = false := by simp; omega
    have e4 : (o == 4) = false := by simp; omega
    have e5 : (o == 5) = false := by simp; omega
    have e6 : (o == 6) = false := by simp; omega
    have e7 : (o == 7) = false := by simp; omega
    have e10 : (o == 10) = false := by simp; omega
    have e11 : (o == 11) = false := by simp; omega
    have e17 : (o == 17) = false := by simp; omega
    have e18 : (o == 18) = false := by simp; omega
    have e19 : (o == 19) = false := by simp; omega
    have e20 : (o == 20) = false := by simp; omega
    have e21 : (o == 21) = false := by simp; omega
    have e43 : (o == 43) = false := by simp; omega
    have hq1 : comparesS o = false := by unfold comparesS; (repeat' split) <;> first | rfl | omega
    have hq2 : sumsS o = false := by unfold sumsS; (repeat' split) <;> first | rfl | omega
    have hq3 : shiftsS o = false := by unfold shiftsS; (repeat' split) <;> first | rfl | omega
    have hq4 : (classS o == 1) = false := by unfold classS; simp only [beq_eq_false_iff_ne, ne_eq]; (repeat' split) <;> omega
    have hq5 : (classS o != 1) = true := by simp only [bne, hq4, Bool.not_false]
    rw [hq1] at CF
    have hv : setsI i = 0 := by
      unfold setsI carriesS
      simp only [ho, hsb, hub, hal, hsh, hq1, hq2, hq3, hq4]
      first | rfl | (simp [*]; done)
    rw [hv]
    clear hv ho hsb hub hal hsh hq1 hq2 hq3 h43
    generalize classS o = cl at *
  rotate_left 1
  · subst hr
    exact absurd (h43 ho) (by rw [hsb]; decide)
  focus
    have e3 : (o == 3) = false := by simp; omega
    have e4 : (o == 4) = false := by simp; omega
    have e5 : (o == 5) = false := by simp; omega
    have e6 : (o == 6) = false := by simp; omega
    have e7 : (o == 7) = false := by simp; omega
    have e10 : (o == 10) = false := by simp; omega
    have e11 : (o == 11) = false := by simp; omega
    have e17 : (o == 17) = false := by simp; omega
    have e18 : (o == 18) = false := by simp; omega
    have e19 : (o == 19) = false := by simp; omega
    have e20 : (o == 20) = false := by simp; omega
    have e21 : (o == 21) = false := by simp; omega
    have e43 : (o == 43) = false := by simp; omega
    have hq1 : comparesS o = false := by unfold comparesS; (repeat' split) <;> first | rfl | omega
    have hq2 : sumsS o = false := by unfold sumsS; (repeat' split) <;> first | rfl | omega
    have hq3 : shiftsS o = false := by unfold shiftsS; (repeat' split) <;> first | rfl | omega
    have hq4 : (classS o == 1) = false := by unfold classS; simp only [beq_eq_false_iff_ne, ne_eq]; (repeat' split) <;> omega
    have hq5 : (classS o != 1) = true := by simp only [bne, hq4, Bool.not_false]
    rw [hq1] at CF
    have hv : setsI i = 0 := by
      unfold setsI carriesS
      simp only [ho, hsb, hub, hal, hsh, hq1, hq2, hq3, hq4]
      first | rfl | (simp [*]; done)
    rw [hv]
    clear hv ho hsb hub hal hsh hq1 hq2 hq3 h43
    generalize classS o = cl at *
  rotate_left 1
  all_goals
    go_enter Tryz.func43, Tryz.ntmps43
    have S := SH.start w
    go_wp2_with (first
     | ((with_reducible refine wpl_isDst 1 ?_); refine SH.box (L := []) S rfl 28 _ rfl (Cel.iv i) rfl ?_; clear S; intro b1 w1 S)
     | ((with_reducible refine g_ld 4 ?_); first | (refine wpl_skip rfl ?_) | (refine S.ld 4 _ rfl b1 2 rfl 0 _ rfl (.bool _) HS.out _ Tryz.underlying4 rfl rfl ?_) | (refine S.ld 4 _ rfl b1 9 rfl 0 _ rfl (.bool _) HU.out _ Tryz.underlying4 rfl rfl ?_))
     | ((with_reducible refine g_ld 3 ?_); first | (refine wpl_skip rfl ?_) | (refine S.ld 3 _ rfl b1 0 rfl 0 _ rfl (.int .i64 _) HOP.out _ Tryz.underlying3 rfl rfl ?_) | (refine S.ld 3 _ rfl b1 7 rfl 0 _ rfl (.int .i64 _) HA.out _ Tryz.underlying3 rfl rfl ?_) | (refine S.ld 3 _ rfl b1 10 rfl 0 _ rfl (.int .i64 _) HSH.out _ Tryz.underlying3 rfl rfl ?_))
     | (go_at_call 53; refine (CF.out _).mono ?_; rintro e wf ⟨rfl, rfl⟩)
     | (go_at_call 51; refine (CC.out _).mono ?_; rintro e wf ⟨rfl, rfl⟩))
    go_ret
    exact ⟨rfl, S.low⟩
theorem rsets_c (i : IV) (h43 : i.op = 43 → i.s = false) (w : World) : Calls Tryz.prog 43 #[i.val] w fun e w' => e = .returned (.int .i64 (setsI i)) ∧ Below w.heap.size w w' := by
  cases hs : i.s
  · exact rsets_f i h43 hs w
  · rcases (show i.op ≤ 9 ∨ (10 ≤ i.op ∧ i.op ≤ 20) ∨ 21 ≤ i.op by omega) with h | h | h
    · exact rsets_ta i h43 hs h w
    · exact rsets_tb i h43 hs h w
    · exact rsets_tc i h43 hs h w
end Go.Proofs.YtplhblhopaheeaaGreatDoor
