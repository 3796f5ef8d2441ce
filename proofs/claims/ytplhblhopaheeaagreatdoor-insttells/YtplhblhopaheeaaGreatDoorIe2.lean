/- Stage 9: the document's small functions of an instruction -/
import Derived.Test.YtplhblhopaheeaaGreatDoorYc
import Derived.Test.YtplhblhopaheeaaGreatDoorYa
namespace Go.Proofs.YtplhblhopaheeaaGreatDoor
open Go.ChangeShapes Go.WideShapes Go.ChangeAt Go.RowKit
set_option linter.unusedVariables false
set_option linter.unusedSimpArgs false
set_option maxHeartbeats 20000000
set_option maxRecDepth 100000

theorem rclassZ_c (o : Int) (w : World) : Calls Tryz.prog 51 #[.int .i64 o] w fun e w' => e = .returned (.int .i64 (classS o)) ∧ w' = w := by
  rcases (show (o ≤ 0) ∨ (1 ≤ o ∧ o ≤ 20) ∨ (21 ≤ o ∧ o ≤ 29) ∨ (30 ≤ o ∧ o ≤ 42) ∨ (o = 43) ∨ (44 ≤ o ∧ o ≤ 51) ∨ (o = 52) ∨ (o = 53) ∨ (54 ≤ o ∧ o ≤ 59) ∨ (60 ≤ o ∧ o ≤ 65) ∨ (66 ≤ o) by omega) with h | h | h | h | h | h | h | h | h | h | h
  · have hs : classS o = 0 := by
      unfold classS
      repeat' split
      all_goals omega
    rw [hs]
    clear hs
    have g1 : decide (1 ≤ o) = false := by simp; omega
    have g21 : decide (21 ≤ o) = false := by simp; omega
    have g30 : decide (30 ≤ o) = false := by simp; omega
    have g44 : decide (44 ≤ o) = false := by simp; omega
    have g54 : decide (54 ≤ o) = false := by simp; omega
    have g60 : decide (60 ≤ o) = false := by simp; omega
    have l20 : decide (o ≤ 20) = true := by simp; omega
    have l29 : decide (o ≤ 29) = true := by simp; omega
    have l42 : decide (o ≤ 42) = true := by simp; omega
    have l51 : decide (o ≤ 51) = true := by simp; omega
    have l59 : decide (o ≤ 59) = true := by simp; omega
    have l66 : decide (o < 66) = true := by simp; omega
    have e43 : (o == 43) = false := by simp; omega
    have e52 : (o == 52) = false := by simp; omega
    have e53 : (o == 53) = false := by simp; omega
    go_enter Tryz.func51, Tryz.ntmps51
    go_wp2
    go_ret
    exact ⟨rfl, rfl⟩
  · have hs : classS o = 1 := by
      unfold classS
      repeat' split
      all_goals omega
    rw [hs]
    clear hs
    have g1 : decide (1 ≤ o) = true := by simp; omega
    have g21 : decide (21 ≤ o) = false := by simp; omega
    have g30 : decide (30 ≤ o) = false := by simp; omega
    have g44 : decide (44 ≤ o) = false := by simp; omega
    have g54 : decide (54 ≤ o) = false := by simp; omega
    have g60 : decide (60 ≤ o) = false := by simp; omega
    have l20 : decide (o ≤ 20) = true := by simp; omega
    have l29 : decide (o ≤ 29) = true := by simp; omega
    have l42 : decide (o ≤ 42) = true := by simp; omega
    have l51 : decide (o ≤ 51) = true := by simp; omega
    have l59 : decide (o ≤ 59) = true := by simp; omega
    have l66 : decide (o < 66) = true := by simp; omega
    have e43 : (o == 43) = false := by simp; omega
    have e52 : (o == 52) = false := by simp; omega
    have e53 : (o == 53) = false := by simp; omega
    go_enter Tryz.func51, Tryz.ntmps51
    go_wp2
    go_ret
    exact ⟨rfl, rfl⟩
  · have hs : classS o = 2 := by
      unfold classS
      repeat' split
      all_goals omega
    rw [hs]
    clear hs
    have g1 : decide (1 ≤ o) = true := by simp; omega
    have g21 : decide (21 ≤ o) = true := by simp; omega
    have g30 : decide (30 ≤ o) = false := by simp; omega
    have g44 : decide (44 ≤ o) = false := by simp; omega
    have g54 : decide (54 ≤ o) = false := by simp; omega
    have g60 : decide (60 ≤ o) = false := by simp; omega
    have l20 : decide (o ≤ 20) = false := by simp; omega
    have l29 : decide (o ≤ 29) = true := by simp; omega
    have l42 : decide (o ≤ 42) = true := by simp; omega
    have l51 : decide (o ≤ 51) = true := by simp; omega
    have l59 : decide (o ≤ 59) = true := by simp; omega
    have l66 : decide (o < 66) = true := by simp; omega
    have e43 : (o == 43) = false := by simp; omega
    have e52 : (o == 52) = false := by simp; omega
    have e53 : (o == 53) = false := by simp; omega
    go_enter Tryz.func51, Tryz.ntmps51
    go_wp2
    go_ret
    exact ⟨rfl, rfl⟩
  · have hs : classS o = 3 := by
      unfold classS
      repeat' split
      all_goals omega
    rw [hs]
    clear hs
    have g1 : decide (1 ≤ o) = true := by simp; omega
    have g21 : decide (21 ≤ o) = true := by simp; omega
    have g30 : decide (30 ≤ o) = true := by simp; omega
    have g44 : decide (44 ≤ o) = false := by simp; omega
    have g54 : decide (54 ≤ o) = false := by simp; omega
    have g60 : decide (60 ≤ o) = false := by simp; omega
    have l20 : decide (o ≤ 20) = false := by simp; omega
    have l29 : decide (o ≤ 29) = false := by simp; omega
    have l42 : decide (o ≤ 42) = true := by simp; omega
    have l51 : decide (o ≤ 51) = true := by simp; omega
    have l59 : decide (o ≤ 59) = true := by simp; omega
    have l66 : decide (o < 66) = true := by simp; omega
    have e43 : (o == 43) = false := by simp; omega
    have e52 : (o == 52) = false := by simp; omega
    have e53 : (o == 53) = false := by simp; omega
    go_enter Tryz.func51, Tryz.ntmps51
    go_wp2
    go_ret
    exact ⟨rfl, rfl⟩
  · have hs : classS o = 1 := by
      unfold classS
      repeat' split
      all_goals omega
    rw [hs]
    clear hs
    have g1 : decide (1 ≤ o) = true := by simp; omega
    have g21 : decide (21 ≤ o) = true := by simp; omega
    have g30 : decide (30 ≤ o) = true := by simp; omega
    have g44 : decide (44 ≤ o) = false := by simp; omega
    have g54 : decide (54 ≤ o) = false := by simp; omega
    have g60 : decide (60 ≤ o) = false := by simp; omega
    have l20 : decide (o ≤ 20) = false := by simp; omega
    have l29 : decide (o ≤ 29) = false := by simp; omega
    have l42 : decide (o ≤ 42) = false := by simp; omega
    have l51 : decide (o ≤ 51) = true := by simp; omega
    have l59 : decide (o ≤ 59) = true := by simp; omega
    have l66 : decide (o < 66) = true := by simp; omega
    have e43 : (o == 43) = true := by simp; omega
    have e52 : (o == 52) = false := by simp; omega
    have e53 : (o == 53) = false := by simp; omega
    go_enter Tryz.func51, Tryz.ntmps51
    go_wp2
    go_ret
    exact ⟨rfl, rfl⟩
  · have hs : classS o = 4 := by
      unfold classS
      repeat' split
      all_goals omega
    rw [hs]
    clear hs
    have g1 : decide (1 ≤ o) = true := by simp; omega
    have g21 : decide (21 ≤ o) = true := by simp; omega
    have g30 : decide (30 ≤ o) = true := by simp; omega
    have g44 : decide (44 ≤ o) = true := by simp; omega
    have g54 : decide (54 ≤ o) = false := by simp; omega
    have g60 : decide (60 ≤ o) = false := by simp; omega
    have l20 : decide (o ≤ 20) = false := by simp; omega
    have l29 : decide (o ≤ 29) = false := by simp; omega
    have l42 : decide (o ≤ 42) = false := by simp; omega
    have l51 : decide (o ≤ 51) = true := by simp; omega
    have l59 : decide (o ≤ 59) = true := by simp; omega
    have l66 : decide (o < 66) = true := by simp; omega
    have e43 : (o == 43) = false := by simp; omega
    have e52 : (o == 52) = false := by simp; omega
    have e53 : (o == 53) = false := by simp; omega
    go_enter Tryz.func51, Tryz.ntmps51
    go_wp2
    go_ret
    exact ⟨rfl, rfl⟩
  · have hs : classS o = 5 := by
      unfold classS
      repeat' split
      all_goals omega
    rw [hs]
    clear hs
    have g1 : decide (1 ≤ o) = true := by simp; omega
    have g21 : decide (21 ≤ o) = true := by simp; omega
    have g30 : decide (30 ≤ o) = true := by simp; omega
    have g44 : decide (44 ≤ o) = true := by simp; omega
    have g54 : decide (54 ≤ o) = false := by simp; omega
    have g60 : decide (60 ≤ o) = false := by simp; omega
    have l20 : decide (o ≤ 20) = false := by simp; omega
    have l29 : decide (o ≤ 29) = false := by simp; omega
    have l42 : decide (o ≤ 42) = false := by simp; omega
    have l51 : decide (o ≤ 51) = false := by simp; omega
    have l59 : decide (o ≤ 59) = true := by simp; omega
    have l66 : decide (o < 66) = true := by simp; omega
    have e43 : (o == 43) = false := by simp; omega
    have e52 : (o == 52) = true := by simp; omega
    have e53 : (o == 53) = false := by simp; omega
    go_enter Tryz.func51, Tryz.ntmps51
    go_wp2
    go_ret
    exact ⟨rfl, rfl⟩
  · have hs : classS o = 5 := by
      unfold classS
      repeat' split
      all_goals omega
    rw [hs]
    clear hs
    have g1 : decide (1 ≤ o) = true := by simp; omega
    have g21 : decide (21 ≤ o) = true := by simp; omega
    have g30 : decide (30 ≤ o) = true := by simp; omega
    have g44 : decide (44 ≤ o) = true := by simp; omega
    have g54 : decide (54 ≤ o) = false := by simp; omega
    have g60 : decide (60 ≤ o) = false := by simp; omega
    have l20 : decide (o ≤ 20) = false := by simp; omega
    have l29 : decide (o ≤ 29) = false := by simp; omega
    have l42 : decide (o ≤ 42) = false := by simp; omega
    have l51 : decide (o ≤ 51) = false := by simp; omega
    have l59 : decide (o ≤ 59) = true := by simp; omega
    have l66 : decide (o < 66) = true := by simp; omega
    have e43 : (o == 43) = false := by simp; omega
    have e52 : (o == 52) = false := by simp; omega
    have e53 : (o == 53) = true := by simp; omega
    go_enter Tryz.func51, Tryz.ntmps51
    go_wp2
    go_ret
    exact ⟨rfl, rfl⟩
  · have hs : classS o = 6 := by
      unfold classS
      repeat' split
      all_goals omega
    rw [hs]
    clear hs
    have g1 : decide (1 ≤ o) = true := by simp; omega
    have g21 : decide (21 ≤ o) = true := by simp; omega
    have g30 : decide (30 ≤ o) = true := by simp; omega
    have g44 : decide (44 ≤ o) = true := by simp; omega
    have g54 : decide (54 ≤ o) = true := by simp; omega
    have g60 : decide (60 ≤ o) = false := by simp; omega
    have l20 : decide (o ≤ 20) = false := by simp; omega
    have l29 : decide (o ≤ 29) = false := by simp; omega
    have l42 : decide (o ≤ 42) = false := by simp; omega
    have l51 : decide (o ≤ 51) = false := by simp; omega
    have l59 : decide (o ≤ 59) = true := by simp; omega
    have l66 : decide (o < 66) = true := by simp; omega
    have e43 : (o == 43) = false := by simp; omega
    have e52 : (o == 52) = false := by simp; omega
    have e53 : (o == 53) = false := by simp; omega
    go_enter Tryz.func51, Tryz.ntmps51
    go_wp2
    go_ret
    exact ⟨rfl, rfl⟩
  · have hs : classS o = 7 := by
      unfold classS
      repeat' split
      all_goals omega
    rw [hs]
    clear hs
    have g1 : decide (1 ≤ o) = true := by simp; omega
    have g21 : decide (21 ≤ o) = true := by simp; omega
    have g30 : decide (30 ≤ o) = true := by simp; omega
    have g44 : decide (44 ≤ o) = true := by simp; omega
    have g54 : decide (54 ≤ o) = true := by simp; omega
    have g60 : decide (60 ≤ o) = true := by simp; omega
    have l20 : decide (o ≤ 20) = false := by simp; omega
    have l29 : decide (o ≤ 29) = false := by simp; omega
    have l42 : decide (o ≤ 42) = false := by simp; omega
    have l51 : decide (o ≤ 51) = false := by simp; omega
    have l59 : decide (o ≤ 59) = false := by simp; omega
    have l66 : decide (o < 66) = true := by simp; omega
    have e43 : (o == 43) = false := by simp; omega
    have e52 : (o == 52) = false := by simp; omega
    have e53 : (o == 53) = false := by simp; omega
    go_enter Tryz.func51, Tryz.ntmps51
    go_wp2
    go_ret
    exact ⟨rfl, rfl⟩
  · have hs : classS o = 0 := by
      unfold classS
      repeat' split
      all_goals omega
    rw [hs]
    clear hs
    have g1 : decide (1 ≤ o) = true := by simp; omega
    have g21 : decide (21 ≤ o) = true := by simp; omega
    have g30 : decide (30 ≤ o) = true := by simp; omega
    have g44 : decide (44 ≤ o) = true := by simp; omega
    have g54 : decide (54 ≤ o) = true := by simp; omega
    have g60 : decide (60 ≤ o) = true := by simp; omega
    have l20 : decide (o ≤ 20) = false := by simp; omega
    have l29 : decide (o ≤ 29) = false := by simp; omega
    have l42 : decide (o ≤ 42) = false := by simp; omega
    have l51 : decide (o ≤ 51) = false := by simp; omega
    have l59 : decide (o ≤ 59) = false := by simp; omega
    have l66 : decide (o < 66) = false := by simp; omega
    have e43 : (o == 43) = false := by simp; omega
    have e52 : (o == 52) = false := by simp; omega
    have e53 : (o == 53) = false := by simp; omega
    go_enter Tryz.func51, Tryz.ntmps51
    go_wp2
    go_ret
    exact ⟨rfl, rfl⟩
theorem rfour_c (o : Int) (w : World) : Calls Tryz.prog 53 #[.int .i64 o] w fun e w' => e = .returned (.bool (comparesS o)) ∧ w' = w := by
  rcases (show o ≤ 7 ∨ o = 8 ∨ o = 9 ∨ o = 10 ∨ o = 11 ∨ 12 ≤ o by omega) with h | h | h | h | h | h
  · have e8 : (o == 8) = false := by simp; omega
    have e9 : (o == 9) = false := by simp; omega
    have e10 : (o == 10) = false := by simp; omega
    have e11 : (o == 11) = false := by simp; omega
    have hr : comparesS o = false := by unfold comparesS; (repeat' split) <;> first | rfl | omega
    rw [hr]
    clear hr
    go_enter Tryz.func53, Tryz.ntmps53
    go_wp2
    go_ret
    exact ⟨rfl, rfl⟩
  · subst h
    have hr : comparesS 8 = true := rfl
    rw [hr]
    go_enter Tryz.func53, Tryz.ntmps53
    go_wp2
    go_ret
    exact ⟨rfl, rfl⟩
  · subst h
    have hr : comparesS 9 = true := rfl
    rw [hr]
    go_enter Tryz.func53, Tryz.ntmps53
    go_wp2
    go_ret
    exact ⟨rfl, rfl⟩
  · subst h
    have hr : comparesS 10 = true := rfl
    rw [hr]
    go_enter Tryz.func53, Tryz.ntmps53
    go_wp2
    go_ret
    exact ⟨rfl, rfl⟩
  · subst h
    have hr : comparesS 11 = true := rfl
    rw [hr]
    go_enter Tryz.func53, Tryz.ntmps53
    go_wp2
    go_ret
    exact ⟨rfl, rfl⟩
  · have e8 : (o == 8) = false := by simp; omega
    have e9 : (o == 9) = false := by simp; omega
    have e10 : (o == 10) = false := by simp; omega
    have e11 : (o == 11) = false := by simp; omega
    have hr : comparesS o = false := by unfold comparesS; (repeat' split) <;> first | rfl | omega
    rw [hr]
    clear hr
    go_enter Tryz.func53, Tryz.ntmps53
    go_wp2
    go_ret
    exact ⟨rfl, rfl⟩
theorem rshifts_c (o : Int) (w : World) : Calls Tryz.prog 82 #[.int .i64 o] w fun e w' => e = .returned (.bool (shiftsS o)) ∧ w' = w := by
  rcases (show o ≤ 16 ∨ (17 ≤ o ∧ o ≤ 20) ∨ 21 ≤ o by omega) with h | h | h
  · have g1 : decide (17 ≤ o) = false := by simp; omega
    have g2 : decide (o ≤ 20) = true := by simp; omega
    have hr : shiftsS o = false := by unfold shiftsS; (repeat' split) <;> first | rfl | omega
    rw [hr]
    clear hr
    go_enter Tryz.func82, Tryz.ntmps82
    go_wp2
    go_ret
    exact ⟨rfl, rfl⟩
  · have g1 : decide (17 ≤ o) = true := by simp; omega
    have g2 : decide (o ≤ 20) = true := by simp; omega
    have hr : shiftsS o = true := by unfold shiftsS; (repeat' split) <;> first | rfl | omega
    rw [hr]
    clear hr
    go_enter Tryz.func82, Tryz.ntmps82
    go_wp2
    go_ret
    exact ⟨rfl, rfl⟩
  · have g1 : decide (17 ≤ o) = true := by simp; omega
    have g2 : decide (o ≤ 20) = false := by simp; omega
    have hr : shiftsS o = false := by unfold shiftsS; (repeat' split) <;> first | rfl | omega
    rw [hr]
    clear hr
    go_enter Tryz.func82, Tryz.ntmps82
    go_wp2
    go_ret
    exact ⟨rfl, rfl⟩
theorem rstores_c (i : IV) (w : World) : Calls Tryz.prog 48 #[i.val] w fun e w' => e = .returned (.bool (storesI i.op)) ∧ Below w.heap.size w w' := by
  obtain ⟨o, ho⟩ : ∃ o, i.op = o := ⟨_, rfl⟩
  have HOP : Hid ((Cel.iv i).cells[0]? = some (.int .i64 o)) := by
    show some (Value.int .i64 i.op) = _
    rw [ho]
  rw [ho]
  clear ho
  rcases (show o = 49 ∨ o = 50 ∨ o = 51 ∨ o = 53 ∨ (o ≠ 49 ∧ o ≠ 50 ∧ o ≠ 51 ∧ o ≠ 53) by omega) with h | h | h | h | h
  · subst h
    rw [show storesI 49 = true from rfl]
    go_enter Tryz.func48, Tryz.ntmps48
    have S := SH.start w
    go_wp2_with (first
     | ((with_reducible refine wpl_isDst 1 ?_); refine SH.box (L := []) S rfl 28 _ rfl (Cel.iv i) rfl ?_; clear S; intro b1 w1 S)
     | ((with_reducible refine g_ld 3 ?_); first | (refine wpl_skip rfl ?_) | (refine S.ld 3 _ rfl b1 0 rfl 0 _ rfl (.int .i64 _) HOP.out _ Tryz.underlying3 rfl rfl ?_)))
    go_ret
    exact ⟨rfl, S.low⟩
  · subst h
    rw [show storesI 50 = true from rfl]
    go_enter Tryz.func48, Tryz.ntmps48
    have S := SH.start w
    go_wp2_with (first
     | ((with_reducible refine wpl_isDst 1 ?_); refine SH.box (L := []) S rfl 28 _ rfl (Cel.iv i) rfl ?_; clear S; intro b1 w1 S)
     | ((with_reducible refine g_ld 3 ?_); first | (refine wpl_skip rfl ?_) | (refine S.ld 3 _ rfl b1 0 rfl 0 _ rfl (.int .i64 _) HOP.out _ Tryz.underlying3 rfl rfl ?_)))
    go_ret
    exact ⟨rfl, S.low⟩
  · subst h
    rw [show storesI 51 = true from rfl]
    go_enter Tryz.func48, Tryz.ntmps48
    have S := SH.start w
    go_wp2_with (first
     | ((with_reducible refine wpl_isDst 1 ?_); refine SH.box (L := []) S rfl 28 _ rfl (Cel.iv i) rfl ?_; clear S; intro b1 w1 S)
     | ((with_reducible refine g_ld 3 ?_); first | (refine wpl_skip rfl ?_) | (refine S.ld 3 _ rfl b1 0 rfl 0 _ rfl (.int .i64 _) HOP.out _ Tryz.underlying3 rfl rfl ?_)))
    go_ret
    exact ⟨rfl, S.low⟩
  · subst h
    rw [show storesI 53 = true from rfl]
    go_enter Tryz.func48, Tryz.ntmps48
    have S := SH.start w
    go_wp2_with (first
     | ((with_reducible refine wpl_isDst 1 ?_); refine SH.box (L := []) S rfl 28 _ rfl (Cel.iv i) rfl ?_; clear S; intro b1 w1 S)
     | ((with_reducible refine g_ld 3 ?_); first | (refine wpl_skip rfl ?_) | (refine S.ld 3 _ rfl b1 0 rfl 0 _ rfl (.int .i64 _) HOP.out _ Tryz.underlying3 rfl rfl ?_)))
    go_ret
    exact ⟨rfl, S.low⟩
  · have e49 : (o == 49) = false := by simp; omega
    have e50 : (o == 50) = false := by simp; omega
    have e51 : (o == 51) = false := by simp; omega
    have e53 : (o == 53) = false := by simp; omega
    have hr : storesI o = false := by simp [storesI]; omega
    rw [hr]
    clear hr
    go_enter Tryz.func48, Tryz.ntmps48
    have S := SH.start w
    go_wp2_with (first
     | ((with_reducible refine wpl_isDst 1 ?_); refine SH.box (L := []) S rfl 28 _ rfl (Cel.iv i) rfl ?_; clear S; intro b1 w1 S)
     | ((with_reducible refine g_ld 3 ?_); first | (refine wpl_skip rfl ?_) | (refine S.ld 3 _ rfl b1 0 rfl 0 _ rfl (.int .i64 _) HOP.out _ Tryz.underlying3 rfl rfl ?_)))
    go_ret
    exact ⟨rfl, S.low⟩
theorem rloads_c (i : IV) (w : World) : Calls Tryz.prog 47 #[i.val] w fun e w' => e = .returned (.bool (loadsI i.op)) ∧ Below w.heap.size w w' := by
  have CC : Hid (∀ w1, Calls Tryz.prog 51 #[.int .i64 i.op] w1 fun e w' => e = .returned (.int .i64 (classS i.op)) ∧ w' = w1) := fun w1 => rclassZ_c i.op w1
  have CS : Hid (∀ w1, Calls Tryz.prog 48 #[i.val] w1 fun e w' => e = .returned (.bool (storesI i.op)) ∧ Below w1.heap.size w1 w') := fun w1 => rstores_c i w1
  obtain ⟨o, ho⟩ : ∃ o, i.op = o := ⟨_, rfl⟩
  have HOP : Hid ((Cel.iv i).cells[0]? = some (.int .i64 o)) := by
    show some (Value.int .i64 i.op) = _
    rw [ho]
  rw [ho] at CC CS ⊢
  clear ho
  rcases (show o ≤ 43 ∨ (44 ≤ o ∧ o ≤ 48) ∨ (49 ≤ o ∧ o ≤ 51) ∨ o = 52 ∨ (53 ≤ o ∧ o ≤ 53) ∨ 54 ≤ o by omega) with h | h | h | h | h | h
  · have e52 : (o == 52) = false := by simp; omega
    have hc : (classS o == 4) = false := by unfold classS; simp only [beq_eq_false_iff_ne, ne_eq]; (repeat' split) <;> omega
    generalize classS o = cl at *
    generalize storesI o = st at *
    have hr : loadsI o = false := by simp [loadsI]; omega
    rw [hr]
    clear hr
    go_enter Tryz.func47, Tryz.ntmps47
    have S := SH.start w
    go_wp2_with (first
     | ((with_reducible refine wpl_isDst 1 ?_); refine SH.box (L := []) S rfl 28 _ rfl (Cel.iv i) rfl ?_; clear S; intro b1 w1 S)
     | ((with_reducible refine g_ld 3 ?_); first | (refine wpl_skip rfl ?_) | (refine S.ld 3 _ rfl b1 0 rfl 0 _ rfl (.int .i64 _) HOP.out _ Tryz.underlying3 rfl rfl ?_))
     | (go_at_call 51; refine (CC.out _).mono ?_; rintro e wf ⟨rfl, rfl⟩)
     | ((with_reducible refine wpl_isDst 13 ?_); first | (refine wpl_skip rfl ?_) | refine S.ldAll 28 _ rfl b1 rfl 0 _ rfl _ Tryz.underlying28 rfl (szIV _) rfl ?_)
     | (go_at_call 48; refine (CS.out _).mono ?_; rintro e wf ⟨rfl, hbf⟩; replace S := S.below hbf; clear hbf))
    go_ret
    exact ⟨rfl, S.low⟩
  · have e52 : (o == 52) = false := by simp; omega
    have hc : classS o = 4 := by unfold classS; (repeat' split) <;> omega
    rw [hc] at CC
    have hs : storesI o = false := by simp [storesI]; omega
    rw [hs] at CS
    have hr : loadsI o = true := by simp [loadsI]; omega
    rw [hr]
    clear hr
    go_enter Tryz.func47, Tryz.ntmps47
    have S := SH.start w
    go_wp2_with (first
     | ((with_reducible refine wpl_isDst 1 ?_); refine SH.box (L := []) S rfl 28 _ rfl (Cel.iv i) rfl ?_; clear S; intro b1 w1 S)
     | ((with_reducible refine g_ld 3 ?_); first | (refine wpl_skip rfl ?_) | (refine S.ld 3 _ rfl b1 0 rfl 0 _ rfl (.int .i64 _) HOP.out _ Tryz.underlying3 rfl rfl ?_))
     | (go_at_call 51; refine (CC.out _).mono ?_; rintro e wf ⟨rfl, rfl⟩)
     | ((with_reducible refine wpl_isDst 13 ?_); first | (refine wpl_skip rfl ?_) | refine S.ldAll 28 _ rfl b1 rfl 0 _ rfl _ Tryz.underlying28 rfl (szIV _) rfl ?_)
     | (go_at_call 48; refine (CS.out _).mono ?_; rintro e wf ⟨rfl, hbf⟩; replace S := S.below hbf; clear hbf))
    go_ret
    exact ⟨rfl, S.low⟩
  · have e52 : (o == 52) = false := by simp; omega
    have hc : classS o = 4 := by unfold classS; (repeat' split) <;> omega
    rw [hc] at CC
    have hs : storesI o = true := by simp [storesI]; omega
    rw [hs] at CS
    have hr : loadsI o = false := by simp [loadsI]; omega
    rw [hr]
    clear hr
    go_enter Tryz.func47, Tryz.ntmps47
    have S := SH.start w
    go_wp2_with (first
     | ((with_reducible refine wpl_isDst 1 ?_); refine SH.box (L := []) S rfl 28 _ rfl (Cel.iv i) rfl ?_; clear S; intro b1 w1 S)
     | ((with_reducible refine g_ld 3 ?_); first | (refine wpl_skip rfl ?_) | (refine S.ld 3 _ rfl b1 0 rfl 0 _ rfl (.int .i64 _) HOP.out _ Tryz.underlying3 rfl rfl ?_))
     | (go_at_call 51; refine (CC.out _).mono ?_; rintro e wf ⟨rfl, rfl⟩)
     | ((with_reducible refine wpl_isDst 13 ?_); first | (refine wpl_skip rfl ?_) | refine S.ldAll 28 _ rfl b1 rfl 0 _ rfl _ Tryz.underlying28 rfl (szIV _) rfl ?_)
     | (go_at_call 48; refine (CS.out _).mono ?_; rintro e wf ⟨rfl, hbf⟩; replace S := S.below hbf; clear hbf))
    go_ret
    exact ⟨rfl, S.low⟩
  · subst h
    have hc : classS 52 = 5 := by rfl
    rw [hc] at CC
    have hs : storesI 52 = false := by rfl
    rw [hs] at CS
    have hr : loadsI 52 = true := by rfl
    rw [hr]
    clear hr
    go_enter Tryz.func47, Tryz.ntmps47
    have S := SH.start w
    go_wp2_with (first
     | ((with_reducible refine wpl_isDst 1 ?_); refine SH.box (L := []) S rfl 28 _ rfl (Cel.iv i) rfl ?_; clear S; intro b1 w1 S)
     | ((with_reducible refine g_ld 3 ?_); first | (refine wpl_skip rfl ?_) | (refine S.ld 3 _ rfl b1 0 rfl 0 _ rfl (.int .i64 _) HOP.out _ Tryz.underlying3 rfl rfl ?_))
     | (go_at_call 51; refine (CC.out _).mono ?_; rintro e wf ⟨rfl, rfl⟩)
     | ((with_reducible refine wpl_isDst 13 ?_); first | (refine wpl_skip rfl ?_) | refine S.ldAll 28 _ rfl b1 rfl 0 _ rfl _ Tryz.underlying28 rfl (szIV _) rfl ?_)
     | (go_at_call 48; refine (CS.out _).mono ?_; rintro e wf ⟨rfl, hbf⟩; replace S := S.below hbf; clear hbf))
    go_ret
    exact ⟨rfl, S.low⟩
  · have e52 : (o == 52) = false := by simp; omega
    have hc : classS o = 5 := by unfold classS; (repeat' split) <;> omega
    rw [hc] at CC
    have hs : storesI o = true := by simp [storesI]; omega
    rw [hs] at CS
    have hr : loadsI o = false := by simp [loadsI]; omega
    rw [hr]
    clear hr
    go_enter Tryz.func47, Tryz.ntmps47
    have S := SH.start w
    go_wp2_with (first
     | ((with_reducible refine wpl_isDst 1 ?_); refine SH.box (L := []) S rfl 28 _ rfl (Cel.iv i) rfl ?_; clear S; intro b1 w1 S)
     | ((with_reducible refine g_ld 3 ?_); first | (refine wpl_skip rfl ?_) | (refine S.ld 3 _ rfl b1 0 rfl 0 _ rfl (.int .i64 _) HOP.out _ Tryz.underlying3 rfl rfl ?_))
     | (go_at_call 51; refine (CC.out _).mono ?_; rintro e wf ⟨rfl, rfl⟩)
     | ((with_reducible refine wpl_isDst 13 ?_); first | (refine wpl_skip rfl ?_) | refine S.ldAll 28 _ rfl b1 rfl 0 _ rfl _ Tryz.underlying28 rfl (szIV _) rfl ?_)
     | (go_at_call 48; refine (CS.out _).mono ?_; rintro e wf ⟨rfl, hbf⟩; replace S := S.below hbf; clear hbf))
    go_ret
    exact ⟨rfl, S.low⟩
  · have e52 : (o == 52) = false := by simp; omega
    have hc : (classS o == 4) = false := by unfold classS; simp only [beq_eq_false_iff_ne, ne_eq]; (repeat' split) <;> omega
    generalize classS o = cl at *
    generalize storesI o = st at *
    have hr : loadsI o = false := by simp [loadsI]; omega
    rw [hr]
    clear hr
    go_enter Tryz.func47, Tryz.ntmps47
    have S := SH.start w
    go_wp2_with (first
     | ((with_reducible refine wpl_isDst 1 ?_); refine SH.box (L := []) S rfl 28 _ rfl (Cel.iv i) rfl ?_; clear S; intro b1 w1 S)
     | ((with_reducible refine g_ld 3 ?_); first | (refine wpl_skip rfl ?_) | (refine S.ld 3 _ rfl b1 0 rfl 0 _ rfl (.int .i64 _) HOP.out _ Tryz.underlying3 rfl rfl ?_))
     | (go_at_call 51; refine (CC.out _).mono ?_; rintro e wf ⟨rfl, rfl⟩)
     | ((with_reducible refine wpl_isDst 13 ?_); first | (refine wpl_skip rfl ?_) | refine S.ldAll 28 _ rfl b1 rfl 0 _ rfl _ Tryz.underlying28 rfl (szIV _) rfl ?_)
     | (go_at_call 48; refine (CS.out _).mono ?_; rintro e wf ⟨rfl, hbf⟩; replace S := S.below hbf; clear hbf))
    go_ret
    exact ⟨rfl, S.low⟩
theorem rsize_c (i : IV) (w : World) : Calls Tryz.prog 45 #[i.val] w fun e w' => e = .returned (.int .u32 (if i.wide then 4 else 2)) ∧ Below w.heap.size w w' := by
  obtain ⟨u, hu⟩ : ∃ u, i.wide = u := ⟨_, rfl⟩
  have HU : Hid ((Cel.iv i).cells[1]? = some (.bool u)) := by
    show some (Value.bool i.wide) = _
    rw [hu]
  rw [hu]
  clear hu
  cases u
  · go_enter Tryz.func45, Tryz.ntmps45
    have S := SH.start w
    go_wp2_with (first
     | ((with_reducible refine wpl_isDst 1 ?_); refine SH.box (L := []) S rfl 28 _ rfl (Cel.iv i) rfl ?_; clear S; intro b1 w1 S)
     | ((with_reducible refine g_ld 4 ?_); (refine S.ld 4 _ rfl b1 1 rfl 0 _ rfl (.bool _) HU.out _ Tryz.underlying4 rfl rfl ?_)))
    go_ret
    exact ⟨rfl, S.low⟩
  · go_enter Tryz.func45, Tryz.ntmps45
    have S := SH.start w
    go_wp2_with (first
     | ((with_reducible refine wpl_isDst 1 ?_); refine SH.box (L := []) S rfl 28 _ rfl (Cel.iv i) rfl ?_; clear S; intro b1 w1 S)
     | ((with_reducible refine g_ld 4 ?_); (refine S.ld 4 _ rfl b1 1 rfl 0 _ rfl (.bool _) HU.out _ Tryz.underlying4 rfl rfl ?_)))
    go_ret
    exact ⟨rfl, S.low⟩
theorem rbranches_c (i : IV) (l : Nat) (hl : i.list = (l : Int)) (hl2 : l < 65536) (w : World) : Calls Tryz.prog 46 #[i.val] w fun e w' => e = .returned (.bool (branchesI i l)) ∧ Below w.heap.size w w' := by
  have CC : Hid (∀ w1, Calls Tryz.prog 51 #[.int .i64 i.op] w1 fun e w' => e = .returned (.int .i64 (classS i.op)) ∧ w' = w1) := fun w1 => rclassZ_c i.op w1
  have hb : bits .and .i64 ((l : Int) / 2 ^ 15) 1 = bif l.testBit 15 then 1 else 0 := bit1 l 15 hl2
  have HLS : Hid ((Cel.iv i).cells[12]? = some (.int .i64 (l : Int))) := by
    show some (Value.int .i64 i.list) = _
    rw [hl]
  have hl0 : 0 ≤ (l : Int) := by omega
  simp only [show (2 : Int) ^ 15 = 32768 from rfl] at hb
  obtain ⟨o, ho⟩ : ∃ o, i.op = o := ⟨_, rfl⟩
  have HOP : Hid ((Cel.iv i).cells[0]? = some (.int .i64 o)) := by
    show some (Value.int .i64 i.op) = _
    rw [ho]
  unfold branchesI
  rw [ho] at CC ⊢
  clear hl hl2 ho
  generalize classS o = c at *
  cases e1 : (c == 6)
  · cases e2 : (o == 52)
    · clear hb
      go_enter Tryz.func46, Tryz.ntmps46
      have S := SH.start w
      go_wp2_with (first
       | ((with_reducible refine wpl_isDst 1 ?_); refine SH.box (L := []) S rfl 28 _ rfl (Cel.iv i) rfl ?_; clear S; intro b1 w1 S)
       | ((with_reducible refine g_ld 3 ?_); first | (refine wpl_skip rfl ?_) | (refine S.ld 3 _ rfl b1 0 rfl 0 _ rfl (.int .i64 _) HOP.out _ Tryz.underlying3 rfl rfl ?_) | (refine S.ld 3 _ rfl b1 12 rfl 0 _ rfl (.int .i64 l) HLS.out _ Tryz.underlying3 rfl rfl ?_))
       | (go_at_call 51; refine (CC.out _).mono ?_; rintro e wf ⟨rfl, rfl⟩)
       | ((with_reducible refine wpl_isDst 15 ?_); first | (refine wpl_skip rfl ?_) | refine wpl_dst 15 rfl (.int .i64 0) (by go_simp; skip) rfl ?_))
      go_ret
      exact ⟨rfl, S.low⟩
    · cases e3 : l.testBit 15
      · rw [e3] at hb
        simp only [cond_false] at hb
        go_enter Tryz.func46, Tryz.ntmps46
        have S := SH.start w
        go_wp2_with (first
         | ((with_reducible refine wpl_isDst 1 ?_); refine SH.box (L := []) S rfl 28 _ rfl (Cel.iv i) rfl ?_; clear S; intro b1 w1 S)
         | ((with_reducible refine g_ld 3 ?_); first | (refine wpl_skip rfl ?_) | (refine S.ld 3 _ rfl b1 0 rfl 0 _ rfl (.int .i64 _) HOP.out _ Tryz.underlying3 rfl rfl ?_) | (refine S.ld 3 _ rfl b1 12 rfl 0 _ rfl (.int .i64 l) HLS.out _ Tryz.underlying3 rfl rfl ?_))
         | (go_at_call 51; refine (CC.out _).mono ?_; rintro e wf ⟨rfl, rfl⟩)
         | ((with_reducible refine wpl_isDst 15 ?_); first | (refine wpl_skip rfl ?_) | refine wpl_dst 15 rfl (.int .i64 0) (by go_simp; exact hb) rfl ?_))
        go_ret
        exact ⟨rfl, S.low⟩
      · rw [e3] at hb
        simp only [cond_true] at hb
        go_enter Tryz.func46, Tryz.ntmps46
        have S := SH.start w
        go_wp2_with (first
         | ((with_reducible refine wpl_isDst 1 ?_); refine SH.box (L := []) S rfl 28 _ rfl (Cel.iv i) rfl ?_; clear S; intro b1 w1 S)
         | ((with_reducible refine g_ld 3 ?_); first | (refine wpl_skip rfl ?_) | (refine S.ld 3 _ rfl b1 0 rfl 0 _ rfl (.int .i64 _) HOP.out _ Tryz.underlying3 rfl rfl ?_) | (refine S.ld 3 _ rfl b1 12 rfl 0 _ rfl (.int .i64 l) HLS.out _ Tryz.underlying3 rfl rfl ?_))
         | (go_at_call 51; refine (CC.out _).mono ?_; rintro e wf ⟨rfl, rfl⟩)
         | ((with_reducible refine wpl_isDst 15 ?_); first | (refine wpl_skip rfl ?_) | refine wpl_dst 15 rfl (.int .i64 1) (by go_simp; exact hb) rfl ?_))
        go_ret
        exact ⟨rfl, S.low⟩
  · clear hb
    go_enter Tryz.func46, Tryz.ntmps46
    have S := SH.start w
    go_wp2_with (first
     | ((with_reducible refine wpl_isDst 1 ?_); refine SH.box (L := []) S rfl 28 _ rfl (Cel.iv i) rfl ?_; clear S; intro b1 w1 S)
     | ((with_reducible refine g_ld 3 ?_); first | (refine wpl_skip rfl ?_) | (refine S.ld 3 _ rfl b1 0 rfl 0 _ rfl (.int .i64 _) HOP.out _ Tryz.underlying3 rfl rfl ?_) | (refine S.ld 3 _ rfl b1 12 rfl 0 _ rfl (.int .i64 l) HLS.out _ Tryz.underlying3 rfl rfl ?_))
     | (go_at_call 51; refine (CC.out _).mono ?_; rintro e wf ⟨rfl, rfl⟩)
     | ((with_reducible refine wpl_isDst 15 ?_); first | (refine wpl_skip rfl ?_) | refine wpl_dst 15 rfl (.int .i64 0) (by go_simp; skip) rfl ?_))
    go_ret
    exact ⟨rfl, S.low⟩
theorem ruses_c (i : IV) (w : World) : Calls Tryz.prog 44 #[i.val] w fun e w' => e = .returned (.bool (usesI i)) ∧ Below w.heap.size w w' := by
  have CH : Hid (∀ w1, Calls Tryz.prog 82 #[.int .i64 i.op] w1 fun e w' => e = .returned (.bool (shiftsS i.op)) ∧ w' = w1) := fun w1 => rshifts_c i.op w1
  obtain ⟨o, ho⟩ : ∃ o, i.op = o := ⟨_, rfl⟩
  have HOP : Hid ((Cel.iv i).cells[0]? = some (.int .i64 o)) := by
    show some (Value.int .i64 i.op) = _
    rw [ho]
  obtain ⟨cd, hcd⟩ : ∃ u, i.cond = u := ⟨_, rfl⟩
  have HC : Hid ((Cel.iv i).cells[3]? = some (.int .i64 cd)) := by
    show some (Value.int .i64 i.cond) = _
    rw [hcd]
  obtain ⟨sh, hsh⟩ : ∃ u, i.sh = u := ⟨_, rfl⟩
  have HSH : Hid ((Cel.iv i).cells[10]? = some (.int .i64 sh)) := by
    show some (Value.int .i64 i.sh) = _
    rw [hsh]
  obtain ⟨sb, hsb⟩ : ∃ u, i.s = u := ⟨_, rfl⟩
  have HS : Hid ((Cel.iv i).cells[2]? = some (.bool sb)) := by
    show some (Value.bool i.s) = _
    rw [hsb]
  obtain ⟨ub, hub⟩ : ∃ u, i.useImm = u := ⟨_, rfl⟩
  have HU : Hid ((Cel.iv i).cells[9]? = some (.bool ub)) := by
    show some (Value.bool i.useImm) = _
    rw [hub]
  unfold usesI
  rw [ho] at CH
  rw [ho, hcd, hsh, hsb, hub]
  clear ho hcd hsh hsb hub
  generalize shiftsS o = q at *
  cases e1 : (cd == 14)
  · have n1 : (cd != 14) = true := by simp only [bne, e1, Bool.not_false]
    go_enter Tryz.func44, Tryz.ntmps44
    have S := SH.start w
    go_wp2_with (first
     | ((with_reducible refine wpl_isDst 1 ?_); refine SH.box (L := []) S rfl 28 _ rfl (Cel.iv i) rfl ?_; clear S; intro b1 w1 S)
     | ((with_reducible refine g_ld 3 ?_); first | (refine wpl_skip rfl ?_) | (refine S.ld 3 _ rfl b1 3 rfl 0 _ rfl (.int .i64 _) HC.out _ Tryz.underlying3 rfl rfl ?_) | (refine S.ld 3 _ rfl b1 0 rfl 0 _ rfl (.int .i64 _) HOP.out _ Tryz.underlying3 rfl rfl ?_) | (refine S.ld 3 _ rfl b1 10 rfl 0 _ rfl (.int .i64 _) HSH.out _ Tryz.underlying3 rfl rfl ?_))
     | (go_at_call 82; refine (CH.out _).mono ?_; rintro e wf ⟨rfl, rfl⟩)
     | ((with_reducible refine g_ld 4 ?_); first | (refine wpl_skip rfl ?_) | (refine S.ld 4 _ rfl b1 2 rfl 0 _ rfl (.bool _) HS.out _ Tryz.underlying4 rfl rfl ?_) | (refine S.ld 4 _ rfl b1 9 rfl 0 _ rfl (.bool _) HU.out _ Tryz.underlying4 rfl rfl ?_)))
    go_ret
    exact ⟨by simp [*], S.low⟩
  · have n1 : (cd != 14) = false := by simp only [bne, e1, Bool.not_true]
    cases e2 : (o == 6)
    · cases e3 : (o == 7)
      · cases e4 : (sh == 5)
        · cases q
          · go_enter Tryz.func44, Tryz.ntmps44
            have S := SH.start w
            go_wp2_with (first
             | ((with_reducible refine wpl_isDst 1 ?_); refine SH.box (L := []) S rfl 28 _ rfl (Cel.iv i) rfl ?_; clear S; intro b1 w1 S)
             | ((with_reducible refine g_ld 3 ?_); first | (refine wpl_skip rfl ?_) | (refine S.ld 3 _ rfl b1 3 rfl 0 _ rfl (.int .i64 _) HC.out _ Tryz.underlying3 rfl rfl ?_) | (refine S.ld 3 _ rfl b1 0 rfl 0 _ rfl (.int .i64 _) HOP.out _ Tryz.underlying3 rfl rfl ?_) | (refine S.ld 3 _ rfl b1 10 rfl 0 _ rfl (.int .i64 _) HSH.out _ Tryz.underlying3 rfl rfl ?_))
             | (go_at_call 82; refine (CH.out _).mono ?_; rintro e wf ⟨rfl, rfl⟩)
             | ((with_reducible refine g_ld 4 ?_); first | (refine wpl_skip rfl ?_) | (refine S.ld 4 _ rfl b1 2 rfl 0 _ rfl (.bool _) HS.out _ Tryz.underlying4 rfl rfl ?_) | (refine S.ld 4 _ rfl b1 9 rfl 0 _ rfl (.bool _) HU.out _ Tryz.underlying4 rfl rfl ?_)))
            go_ret
            exact ⟨by simp [*], S.low⟩
          · cases sb
            · go_enter Tryz.func44, Tryz.ntmps44
              have S := SH.start w
              go_wp2_with (first
               | ((with_reducible refine wpl_isDst 1 ?_); refine SH.box (L := []) S rfl 28 _ rfl (Cel.iv i) rfl ?_; clear S; intro b1 w1 S)
               | ((with_reducible refine g_ld 3 ?_); first | (refine wpl_skip rfl ?_) | (refine S.ld 3 _ rfl b1 3 rfl 0 _ rfl (.int .i64 _) HC.out _ Tryz.underlying3 rfl rfl ?_) | (refine S.ld 3 _ rfl b1 0 rfl 0 _ rfl (.int .i64 _) HOP.out _ Tryz.underlying3 rfl rfl ?_) | (refine S.ld 3 _ rfl b1 10 rfl 0 _ rfl (.int .i64 _) HSH.out _ Tryz.underlying3 rfl rfl ?_))
               | (go_at_call 82; refine (CH.out _).mono ?_; rintro e wf ⟨rfl, rfl⟩)
               | ((with_reducible refine g_ld 4 ?_); first | (refine wpl_skip rfl ?_) | (refine S.ld 4 _ rfl b1 2 rfl 0 _ rfl (.bool _) HS.out _ Tryz.underlying4 rfl rfl ?_) | (refine S.ld 4 _ rfl b1 9 rfl 0 _ rfl (.bool _) HU.out _ Tryz.underlying4 rfl rfl ?_)))
              go_ret
              exact ⟨by simp [*], S.low⟩
            · cases ub
              · go_enter Tryz.func44, Tryz.ntmps44
                have S := SH.start w
                go_wp2_with (first
                 | ((with_reducible refine wpl_isDst 1 ?_); refine SH.box (L := []) S rfl 28 _ rfl (Cel.iv i) rfl ?_; clear S; intro b1 w1 S)
                 | ((with_reducible refine g_ld 3 ?_); first | (refine wpl_skip rfl ?_) | (refine S.ld 3 _ rfl b1 3 rfl 0 _ rfl (.int .i64 _) HC.out _ Tryz.underlying3 rfl rfl ?_) | (refine S.ld 3 _ rfl b1 0 rfl 0 _ rfl (.int .i64 _) HOP.out _ Tryz.underlying3 rfl rfl ?_) | (refine S.ld 3 _ rfl b1 10 rfl 0 _ rfl (.int .i64 _) HSH.out _ Tryz.underlying3 rfl rfl ?_))
                 | (go_at_call 82; refine (CH.out _).mono ?_; rintro e wf ⟨rfl, rfl⟩)
                 | ((with_reducible refine g_ld 4 ?_); first | (refine wpl_skip rfl ?_) | (refine S.ld 4 _ rfl b1 2 rfl 0 _ rfl (.bool _) HS.out _ Tryz.underlying4 rfl rfl ?_) | (refine S.ld 4 _ rfl b1 9 rfl 0 _ rfl (.bool _) HU.out _ Tryz.underlying4 rfl rfl ?_)))
                go_ret
                exact ⟨by simp [*], S.low⟩
              · go_enter Tryz.func44, Tryz.ntmps44
                have S := SH.start w
                go_wp2_with (first
                 | ((with_reducible refine wpl_isDst 1 ?_); refine SH.box (L := []) S rfl 28 _ rfl (Cel.iv i) rfl ?_; clear S; intro b1 w1 S)
                 | ((with_reducible refine g_ld 3 ?_); first | (refine wpl_skip rfl ?_) | (refine S.ld 3 _ rfl b1 3 rfl 0 _ rfl (.int .i64 _) HC.out _ Tryz.underlying3 rfl rfl ?_) | (refine S.ld 3 _ rfl b1 0 rfl 0 _ rfl (.int .i64 _) HOP.out _ Tryz.underlying3 rfl rfl ?_) | (refine S.ld 3 _ rfl b1 10 rfl 0 _ rfl (.int .i64 _) HSH.out _ Tryz.underlying3 rfl rfl ?_))
                 | (go_at_call 82; refine (CH.out _).mono ?_; rintro e wf ⟨rfl, rfl⟩)
                 | ((with_reducible refine g_ld 4 ?_); first | (refine wpl_skip rfl ?_) | (refine S.ld 4 _ rfl b1 2 rfl 0 _ rfl (.bool _) HS.out _ Tryz.underlying4 rfl rfl ?_) | (refine S.ld 4 _ rfl b1 9 rfl 0 _ rfl (.bool _) HU.out _ Tryz.underlying4 rfl rfl ?_)))
                go_ret
                exact ⟨by simp [*], S.low⟩
        · go_enter Tryz.func44, Tryz.ntmps44
          have S := SH.start w
          go_wp2_with (first
           | ((with_reducible refine wpl_isDst 1 ?_); refine SH.box (L := []) S rfl 28 _ rfl (Cel.iv i) rfl ?_; clear S; intro b1 w1 S)
           | ((with_reducible refine g_ld 3 ?_); first | (refine wpl_skip rfl ?_) | (refine S.ld 3 _ rfl b1 3 rfl 0 _ rfl (.int .i64 _) HC.out _ Tryz.underlying3 rfl rfl ?_) | (refine S.ld 3 _ rfl b1 0 rfl 0 _ rfl (.int .i64 _) HOP.out _ Tryz.underlying3 rfl rfl ?_) | (refine S.ld 3 _ rfl b1 10 rfl 0 _ rfl (.int .i64 _) HSH.out _ Tryz.underlying3 rfl rfl ?_))
           | (go_at_call 82; refine (CH.out _).mono ?_; rintro e wf ⟨rfl, rfl⟩)
           | ((with_reducible refine g_ld 4 ?_); first | (refine wpl_skip rfl ?_) | (refine S.ld 4 _ rfl b1 2 rfl 0 _ rfl (.bool _) HS.out _ Tryz.underlying4 rfl rfl ?_) | (refine S.ld 4 _ rfl b1 9 rfl 0 _ rfl (.bool _) HU.out _ Tryz.underlying4 rfl rfl ?_)))
          go_ret
          exact ⟨by simp [*], S.low⟩
      · go_enter Tryz.func44, Tryz.ntmps44
        have S := SH.start w
        go_wp2_with (first
         | ((with_reducible refine wpl_isDst 1 ?_); refine SH.box (L := []) S rfl 28 _ rfl (Cel.iv i) rfl ?_; clear S; intro b1 w1 S)
         | ((with_reducible refine g_ld 3 ?_); first | (refine wpl_skip rfl ?_) | (refine S.ld 3 _ rfl b1 3 rfl 0 _ rfl (.int .i64 _) HC.out _ Tryz.underlying3 rfl rfl ?_) | (refine S.ld 3 _ rfl b1 0 rfl 0 _ rfl (.int .i64 _) HOP.out _ Tryz.underlying3 rfl rfl ?_) | (refine S.ld 3 _ rfl b1 10 rfl 0 _ rfl (.int .i64 _) HSH.out _ Tryz.underlying3 rfl rfl ?_))
         | (go_at_call 82; refine (CH.out _).mono ?_; rintro e wf ⟨rfl, rfl⟩)
         | ((with_reducible refine g_ld 4 ?_); first | (refine wpl_skip rfl ?_) | (refine S.ld 4 _ rfl b1 2 rfl 0 _ rfl (.bool _) HS.out _ Tryz.underlying4 rfl rfl ?_) | (refine S.ld 4 _ rfl b1 9 rfl 0 _ rfl (.bool _) HU.out _ Tryz.underlying4 rfl rfl ?_)))
        go_ret
        exact ⟨by simp [*], S.low⟩
    · go_enter Tryz.func44, Tryz.ntmps44
      have S := SH.start w
      go_wp2_with (first
       | ((with_reducible refine wpl_isDst 1 ?_); refine SH.box (L := []) S rfl 28 _ rfl (Cel.iv i) rfl ?_; clear S; intro b1 w1 S)
       | ((with_reducible refine g_ld 3 ?_); first | (refine wpl_skip rfl ?_) | (refine S.ld 3 _ rfl b1 3 rfl 0 _ rfl (.int .i64 _) HC.out _ Tryz.underlying3 rfl rfl ?_) | (refine S.ld 3 _ rfl b1 0 rfl 0 _ rfl (.int .i64 _) HOP.out _ Tryz.underlying3 rfl rfl ?_) | (refine S.ld 3 _ rfl b1 10 rfl 0 _ rfl (.int .i64 _) HSH.out _ Tryz.underlying3 rfl rfl ?_))
       | (go_at_call 82; refine (CH.out _).mono ?_; rintro e wf ⟨rfl, rfl⟩)
       | ((with_reducible refine g_ld 4 ?_); first | (refine wpl_skip rfl ?_) | (refine S.ld 4 _ rfl b1 2 rfl 0 _ rfl (.bool _) HS.out _ Tryz.underlying4 rfl rfl ?_) | (refine S.ld 4 _ rfl b1 9 rfl 0 _ rfl (.bool _) HU.out _ Tryz.underlying4 rfl rfl ?_)))
      go_ret
      exact ⟨by simp [*], S.low⟩
end Go.Proofs.YtplhblhopaheeaaGreatDoor
