/- Stage 7: what hangs on an instruction's number alone. -/
import Derived.Test.YtbbkiiabjhgpkaaDoorProg
import Derived.WalkKit
import Derived.Tactics2
namespace Go.Proofs.YtbbkiiabjhgpkaaDoor
open Go.RowKit
set_option linter.unusedVariables false
set_option linter.unusedSimpArgs false

def classS (o : Int) : Int := if o ≤ 0 then 0 else if o ≤ 20 then 1 else if o ≤ 29 then 2 else if o ≤ 42 then 3 else if o ≤ 43 then 1 else if o ≤ 51 then 4 else if o ≤ 53 then 5 else if o ≤ 59 then 6 else if o ≤ 65 then 7 else 0
set_option maxHeartbeats 2000000 in
theorem class_c (o : Int) (w : World) : Calls Tryd.prog 8 #[.int .i64 o] w fun e w' => e = .returned (.int .i64 (classS o)) ∧ w' = w := by
  rcases (show (o ≤ 0) ∨ (1 ≤ o ∧ o ≤ 20) ∨ (21 ≤ o ∧ o ≤ 29) ∨ (30 ≤ o ∧ o ≤ 42) ∨ (o = 43) ∨ (44 ≤ o ∧ o ≤ 51) ∨ (52 ≤ o ∧ o ≤ 53) ∨ (54 ≤ o ∧ o ≤ 59) ∨ (60 ≤ o ∧ o ≤ 65) ∨ (66 ≤ o) by omega) with h | h | h | h | h | h | h | h | h | h
  · have hs : classS o = 0 := by unfold classS; rw [if_pos (by omega)]
    rw [hs]
    clear hs
    have t0 : decide (o < 1) = true := by simp; omega
    have t1 : decide (66 ≤ o) = false := by simp; omega
    have t2 : decide (o ≤ 20) = true := by simp; omega
    have t3 : (o == 43) = false := by simp; omega
    have t4 : decide (o ≤ 29) = true := by simp; omega
    have t5 : decide (o ≤ 42) = true := by simp; omega
    have t6 : decide (o ≤ 51) = true := by simp; omega
    have t7 : decide (o ≤ 53) = true := by simp; omega
    have t8 : decide (o ≤ 59) = true := by simp; omega
    go_enter Tryd.func8, Tryd.ntmps8
    go_wp2
    go_ret
    exact ⟨rfl, rfl⟩
  · have hs : classS o = 1 := by unfold classS; rw [if_neg (by omega)]; rw [if_pos (by omega)]
    rw [hs]
    clear hs
    have t0 : decide (o < 1) = false := by simp; omega
    have t1 : decide (66 ≤ o) = false := by simp; omega
    have t2 : decide (o ≤ 20) = true := by simp; omega
    have t3 : (o == 43) = false := by simp; omega
    have t4 : decide (o ≤ 29) = true := by simp; omega
    have t5 : decide (o ≤ 42) = true := by simp; omega
    have t6 : decide (o ≤ 51) = true := by simp; omega
    have t7 : decide (o ≤ 53) = true := by simp; omega
    have t8 : decide (o ≤ 59) = true := by simp; omega
    go_enter Tryd.func8, Tryd.ntmps8
    go_wp2
    go_ret
    exact ⟨rfl, rfl⟩
  · have hs : classS o = 2 := by unfold classS; rw [if_neg (by omega)]; rw [if_neg (by omega)]; rw [if_pos (by omega)]
    rw [hs]
    clear hs
    have t0 : decide (o < 1) = false := by simp; omega
    have t1 : decide (66 ≤ o) = false := by simp; omega
    have t2 : decide (o ≤ 20) = false := by simp; omega
    have t3 : (o == 43) = false := by simp; omega
    have t4 : decide (o ≤ 29) = true := by simp; omega
    have t5 : decide (o ≤ 42) = true := by simp; omega
    have t6 : decide (o ≤ 51) = true := by simp; omega
    have t7 : decide (o ≤ 53) = true := by simp; omega
    have t8 : decide (o ≤ 59) = true := by simp; omega
    go_enter Tryd.func8, Tryd.ntmps8
    go_wp2
    go_ret
    exact ⟨rfl, rfl⟩
  · have hs : classS o = 3 := by unfold classS; rw [if_neg (by omega)]; rw [if_neg (by omega)]; rw [if_neg (by omega)]; rw [if_pos (by omega)]
    rw [hs]
    clear hs
    have t0 : decide (o < 1) = false := by simp; omega
    have t1 : decide (66 ≤ o) = false := by simp; omega
    have t2 : decide (o ≤ 20) = false := by simp; omega
    have t3 : (o == 43) = false := by simp; omega
    have t4 : decide (o ≤ 29) = false := by simp; omega
    have t5 : decide (o ≤ 42) = true := by simp; omega
    have t6 : decide (o ≤ 51) = true := by simp; omega
    have t7 : decide (o ≤ 53) = true := by simp; omega
    have t8 : decide (o ≤ 59) = true := by simp; omega
    go_enter Tryd.func8, Tryd.ntmps8
    go_wp2
    go_ret
    exact ⟨rfl, rfl⟩
  · have hs : classS o = 1 := by unfold classS; rw [if_neg (by omega)]; rw [if_neg (by omega)]; rw [if_neg (by omega)]; rw [if_neg (by omega)]; rw [if_pos (by omega)]
    rw [hs]
    clear hs
    subst h
    go_enter Tryd.func8, Tryd.ntmps8
    go_wp2
    go_ret
    exact ⟨rfl, rfl⟩
  · have hs : classS o = 4 := by unfold classS; rw [if_neg (by omega)]; rw [if_neg (by omega)]; rw [if_neg (by omega)]; rw [if_neg (by omega)]; rw [if_neg (by omega)]; rw [if_pos (by omega)]
    rw [hs]
    clear hs
    have t0 : decide (o < 1) = false := by simp; omega
    have t1 : decide (66 ≤ o) = false := by simp; omega
    have t2 : decide (o ≤ 20) = false := by simp; omega
    have t3 : (o == 43) = false := by simp; omega
    have t4 : decide (o ≤ 29) = false := by simp; omega
    have t5 : decide (o ≤ 42) = false := by simp; omega
    have t6 : decide (o ≤ 51) = true := by simp; omega
    have t7 : decide (o ≤ 53) = true := by simp; omega
    have t8 : decide (o ≤ 59) = true := by simp; omega
    go_enter Tryd.func8, Tryd.ntmps8
    go_wp2
    go_ret
    exact ⟨rfl, rfl⟩
  · have hs : classS o = 5 := by unfold classS; rw [if_neg (by omega)]; rw [if_neg (by omega)]; rw [if_neg (by omega)]; rw [if_neg (by omega)]; rw [if_neg (by omega)]; rw [if_neg (by omega)]; rw [if_pos (by omega)]
    rw [hs]
    clear hs
    have t0 : decide (o < 1) = false := by simp; omega
    have t1 : decide (66 ≤ o) = false := by simp; omega
    have t2 : decide (o ≤ 20) = false := by simp; omega
    have t3 : (o == 43) = false := by simp; omega
    have t4 : decide (o ≤ 29) = false := by simp; omega
    have t5 : decide (o ≤ 42) = false := by simp; omega
    have t6 : decide (o ≤ 51) = false := by simp; omega
    have t7 : decide (o ≤ 53) = true := by simp; omega
    have t8 : decide (o ≤ 59) = true := by simp; omega
    go_enter Tryd.func8, Tryd.ntmps8
    go_wp2
    go_ret
    exact ⟨rfl, rfl⟩
  · have hs : classS o = 6 := by unfold classS; rw [if_neg (by omega)]; rw [if_neg (by omega)]; rw [if_neg (by omega)]; rw [if_neg (by omega)]; rw [if_neg (by omega)]; rw [if_neg (by omega)]; rw [if_neg (by omega)]; rw [if_pos (by omega)]
    rw [hs]
    clear hs
    have t0 : decide (o < 1) = false := by simp; omega
    have t1 : decide (66 ≤ o) = false := by simp; omega
    have t2 : decide (o ≤ 20) = false := by simp; omega
    have t3 : (o == 43) = false := by simp; omega
    have t4 : decide (o ≤ 29) = false := by simp; omega
    have t5 : decide (o ≤ 42) = false := by simp; omega
    have t6 : decide (o ≤ 51) = false := by simp; omega
    have t7 : decide (o ≤ 53) = false := by simp; omega
    have t8 : decide (o ≤ 59) = true := by simp; omega
    go_enter Tryd.func8, Tryd.ntmps8
    go_wp2
    go_ret
    exact ⟨rfl, rfl⟩
  · have hs : classS o = 7 := by unfold classS; rw [if_neg (by omega)]; rw [if_neg (by omega)]; rw [if_neg (by omega)]; rw [if_neg (by omega)]; rw [if_neg (by omega)]; rw [if_neg (by omega)]; rw [if_neg (by omega)]; rw [if_neg (by omega)]; rw [if_pos (by omega)]
    rw [hs]
    clear hs
    have t0 : decide (o < 1) = false := by simp; omega
    have t1 : decide (66 ≤ o) = false := by simp; omega
    have t2 : decide (o ≤ 20) = false := by simp; omega
    have t3 : (o == 43) = false := by simp; omega
    have t4 : decide (o ≤ 29) = false := by simp; omega
    have t5 : decide (o ≤ 42) = false := by simp; omega
    have t6 : decide (o ≤ 51) = false := by simp; omega
    have t7 : decide (o ≤ 53) = false := by simp; omega
    have t8 : decide (o ≤ 59) = false := by simp; omega
    go_enter Tryd.func8, Tryd.ntmps8
    go_wp2
    go_ret
    exact ⟨rfl, rfl⟩
  · have hs : classS o = 0 := by unfold classS; rw [if_neg (by omega)]; rw [if_neg (by omega)]; rw [if_neg (by omega)]; rw [if_neg (by omega)]; rw [if_neg (by omega)]; rw [if_neg (by omega)]; rw [if_neg (by omega)]; rw [if_neg (by omega)]; rw [if_neg (by omega)]
    rw [hs]
    clear hs
    have t0 : decide (o < 1) = false := by simp; omega
    have t1 : decide (66 ≤ o) = true := by simp; omega
    have t2 : decide (o ≤ 20) = false := by simp; omega
    have t3 : (o == 43) = false := by simp; omega
    have t4 : decide (o ≤ 29) = false := by simp; omega
    have t5 : decide (o ≤ 42) = false := by simp; omega
    have t6 : decide (o ≤ 51) = false := by simp; omega
    have t7 : decide (o ≤ 53) = false := by simp; omega
    have t8 : decide (o ≤ 59) = false := by simp; omega
    go_enter Tryd.func8, Tryd.ntmps8
    go_wp2
    go_ret
    exact ⟨rfl, rfl⟩
def comparesS (o : Int) : Bool := if o ≤ 7 then false else if o ≤ 11 then true else false
set_option maxHeartbeats 2000000 in
theorem compares_c (o : Int) (w : World) : Calls Tryd.prog 38 #[.int .i64 o] w fun e w' => e = .returned (.bool (comparesS o)) ∧ w' = w := by
  rcases (show (o ≤ 7) ∨ (8 ≤ o ∧ o ≤ 11) ∨ (12 ≤ o) by omega) with h | h | h
  · have hs : comparesS o = false := by unfold comparesS; rw [if_pos (by omega)]
    rw [hs]
    clear hs
    have t0 : decide (8 ≤ o) = false := by simp; omega
    have t1 : decide (o ≤ 11) = true := by simp; omega
    go_enter Tryd.func38, Tryd.ntmps38
    go_wp2
    go_ret
    exact ⟨rfl, rfl⟩
  · have hs : comparesS o = true := by unfold comparesS; rw [if_neg (by omega)]; rw [if_pos (by omega)]
    rw [hs]
    clear hs
    have t0 : decide (8 ≤ o) = true := by simp; omega
    have t1 : decide (o ≤ 11) = true := by simp; omega
    go_enter Tryd.func38, Tryd.ntmps38
    go_wp2
    go_ret
    exact ⟨rfl, rfl⟩
  · have hs : comparesS o = false := by unfold comparesS; rw [if_neg (by omega)]; rw [if_neg (by omega)]
    rw [hs]
    clear hs
    have t0 : decide (8 ≤ o) = true := by simp; omega
    have t1 : decide (o ≤ 11) = false := by simp; omega
    go_enter Tryd.func38, Tryd.ntmps38
    go_wp2
    go_ret
    exact ⟨rfl, rfl⟩
def sumsS (o : Int) : Bool := if o ≤ 2 then false else if o ≤ 7 then true else if o ≤ 9 then false else if o ≤ 10 then true else if o ≤ 11 then true else false
set_option maxHeartbeats 2000000 in
theorem sums_c (o : Int) (w : World) : Calls Tryd.prog 39 #[.int .i64 o] w fun e w' => e = .returned (.bool (sumsS o)) ∧ w' = w := by
  rcases (show (o ≤ 2) ∨ (3 ≤ o ∧ o ≤ 7) ∨ (8 ≤ o ∧ o ≤ 9) ∨ (o = 10) ∨ (o = 11) ∨ (12 ≤ o) by omega) with h | h | h | h | h | h
  · have hs : sumsS o = false := by unfold sumsS; rw [if_pos (by omega)]
    rw [hs]
    clear hs
    have t0 : decide (3 ≤ o) = false := by simp; omega
    have t1 : decide (o ≤ 7) = true := by simp; omega
    have t2 : (o == 10) = false := by simp; omega
    have t3 : (o == 11) = false := by simp; omega
    go_enter Tryd.func39, Tryd.ntmps39
    go_wp2
    go_ret
    exact ⟨rfl, rfl⟩
  · have hs : sumsS o = true := by unfold sumsS; rw [if_neg (by omega)]; rw [if_pos (by omega)]
    rw [hs]
    clear hs
    have t0 : decide (3 ≤ o) = true := by simp; omega
    have t1 : decide (o ≤ 7) = true := by simp; omega
    have t2 : (o == 10) = false := by simp; omega
    have t3 : (o == 11) = false := by simp; omega
    go_enter Tryd.func39, Tryd.ntmps39
    go_wp2
    go_ret
    exact ⟨rfl, rfl⟩
  · have hs : sumsS o = false := by unfold sumsS; rw [if_neg (by omega)]; rw [if_neg (by omega)]; rw [if_pos (by omega)]
    rw [hs]
    clear hs
    have t0 : decide (3 ≤ o) = true := by simp; omega
    have t1 : decide (o ≤ 7) = false := by simp; omega
    have t2 : (o == 10) = false := by simp; omega
    have t3 : (o == 11) = false := by simp; omega
    go_enter Tryd.func39, Tryd.ntmps39
    go_wp2
    go_ret
    exact ⟨rfl, rfl⟩
  · have hs : sumsS o = true := by unfold sumsS; rw [if_neg (by omega)]; rw [if_neg (by omega)]; rw [if_neg (by omega)]; rw [if_pos (by omega)]
    rw [hs]
    clear hs
    subst h
    go_enter Tryd.func39, Tryd.ntmps39
    go_wp2
    go_ret
    exact ⟨rfl, rfl⟩
  · have hs : sumsS o = true := by unfold sumsS; rw [if_neg (by omega)]; rw [if_neg (by omega)]; rw [if_neg (by omega)]; rw [if_neg (by omega)]; rw [if_pos (by omega)]
    rw [hs]
    clear hs
    subst h
    go_enter Tryd.func39, Tryd.ntmps39
    go_wp2
    go_ret
    exact ⟨rfl, rfl⟩
  · have hs : sumsS o = false := by unfold sumsS; rw [if_neg (by omega)]; rw [if_neg (by omega)]; rw [if_neg (by omega)]; rw [if_neg (by omega)]; rw [if_neg (by omega)]
    rw [hs]
    clear hs
    have t0 : decide (3 ≤ o) = true := by simp; omega
    have t1 : decide (o ≤ 7) = false := by simp; omega
    have t2 : (o == 10) = false := by simp; omega
    have t3 : (o == 11) = false := by simp; omega
    go_enter Tryd.func39, Tryd.ntmps39
    go_wp2
    go_ret
    exact ⟨rfl, rfl⟩
def shiftsS (o : Int) : Bool := if o ≤ 16 then false else if o ≤ 20 then true else false
set_option maxHeartbeats 2000000 in
theorem shifts_c (o : Int) (w : World) : Calls Tryd.prog 37 #[.int .i64 o] w fun e w' => e = .returned (.bool (shiftsS o)) ∧ w' = w := by
  rcases (show (o ≤ 16) ∨ (17 ≤ o ∧ o ≤ 20) ∨ (21 ≤ o) by omega) with h | h | h
  · have hs : shiftsS o = false := by unfold shiftsS; rw [if_pos (by omega)]
    rw [hs]
    clear hs
    have t0 : decide (17 ≤ o) = false := by simp; omega
    have t1 : decide (o ≤ 20) = true := by simp; omega
    go_enter Tryd.func37, Tryd.ntmps37
    go_wp2
    go_ret
    exact ⟨rfl, rfl⟩
  · have hs : shiftsS o = true := by unfold shiftsS; rw [if_neg (by omega)]; rw [if_pos (by omega)]
    rw [hs]
    clear hs
    have t0 : decide (17 ≤ o) = true := by simp; omega
    have t1 : decide (o ≤ 20) = true := by simp; omega
    go_enter Tryd.func37, Tryd.ntmps37
    go_wp2
    go_ret
    exact ⟨rfl, rfl⟩
  · have hs : shiftsS o = false := by unfold shiftsS; rw [if_neg (by omega)]; rw [if_neg (by omega)]
    rw [hs]
    clear hs
    have t0 : decide (17 ≤ o) = true := by simp; omega
    have t1 : decide (o ≤ 20) = false := by simp; omega
    go_enter Tryd.func37, Tryd.ntmps37
    go_wp2
    go_ret
    exact ⟨rfl, rfl⟩
def dataTakesS (o : Int) : Int := if o ≤ 12 then 2 else if o ≤ 13 then 0 else if o ≤ 14 then 2 else if o ≤ 15 then 0 else if o ≤ 42 then 2 else if o ≤ 43 then 0 else 2
set_option maxHeartbeats 2000000 in
theorem dataTakes_c (o : Int) (w : World) : Calls Tryd.prog 44 #[.int .i64 o] w fun e w' => e = .returned (.int .i64 (dataTakesS o)) ∧ w' = w := by
  rcases (show (o ≤ 12) ∨ (o = 13) ∨ (o = 14) ∨ (o = 15) ∨ (16 ≤ o ∧ o ≤ 42) ∨ (o = 43) ∨ (44 ≤ o) by omega) with h | h | h | h | h | h | h
  · have hs : dataTakesS o = 2 := by unfold dataTakesS; rw [if_pos (by omega)]
    rw [hs]
    clear hs
    have t0 : (o == 13) = false := by simp; omega
    have t1 : (o == 15) = false := by simp; omega
    have t2 : (o == 43) = false := by simp; omega
    go_enter Tryd.func44, Tryd.ntmps44
    go_wp2
    go_ret
    exact ⟨rfl, rfl⟩
  · have hs : dataTakesS o = 0 := by unfold dataTakesS; rw [if_neg (by omega)]; rw [if_pos (by omega)]
    rw [hs]
    clear hs
    subst h
    go_enter Tryd.func44, Tryd.ntmps44
    go_wp2
    go_ret
    exact ⟨rfl, rfl⟩
  · have hs : dataTakesS o = 2 := by unfold dataTakesS; rw [if_neg (by omega)]; rw [if_neg (by omega)]; rw [if_pos (by omega)]
    rw [hs]
    clear hs
    subst h
    go_enter Tryd.func44, Tryd.ntmps44
    go_wp2
    go_ret
    exact ⟨rfl, rfl⟩
  · have hs : dataTakesS o = 0 := by unfold dataTakesS; rw [if_neg (by omega)]; rw [if_neg (by omega)]; rw [if_neg (by omega)]; rw [if_pos (by omega)]
    rw [hs]
    clear hs
    subst h
    go_enter Tryd.func44, Tryd.ntmps44
    go_wp2
    go_ret
    exact ⟨rfl, rfl⟩
  · have hs : dataTakesS o = 2 := by unfold dataTakesS; rw [if_neg (by omega)]; rw [if_neg (by omega)]; rw [if_neg (by omega)]; rw [if_neg (by omega)]; rw [if_pos (by omega)]
    rw [hs]
    clear hs
    have t0 : (o == 13) = false := by simp; omega
    have t1 : (o == 15) = false := by simp; omega
    have t2 : (o == 43) = false := by simp; omega
    go_enter Tryd.func44, Tryd.ntmps44
    go_wp2
    go_ret
    exact ⟨rfl, rfl⟩
  · have hs : dataTakesS o = 0 := by unfold dataTakesS; rw [if_neg (by omega)]; rw [if_neg (by omega)]; rw [if_neg (by omega)]; rw [if_neg (by omega)]; rw [if_neg (by omega)]; rw [if_pos (by omega)]
    rw [hs]
    clear hs
    subst h
    go_enter Tryd.func44, Tryd.ntmps44
    go_wp2
    go_ret
    exact ⟨rfl, rfl⟩
  · have hs : dataTakesS o = 2 := by unfold dataTakesS; rw [if_neg (by omega)]; rw [if_neg (by omega)]; rw [if_neg (by omega)]; rw [if_neg (by omega)]; rw [if_neg (by omega)]; rw [if_neg (by omega)]
    rw [hs]
    clear hs
    have t0 : (o == 13) = false := by simp; omega
    have t1 : (o == 15) = false := by simp; omega
    have t2 : (o == 43) = false := by simp; omega
    go_enter Tryd.func44, Tryd.ntmps44
    go_wp2
    go_ret
    exact ⟨rfl, rfl⟩
def longTakesS (o : Int) : Int := if o ≤ 21 then 0 else if o ≤ 22 then 8 else if o ≤ 23 then 8 else if o ≤ 25 then 0 else if o ≤ 26 then 9 else if o ≤ 27 then 9 else 0
set_option maxHeartbeats 2000000 in
theorem longTakes_c (o : Int) (w : World) : Calls Tryd.prog 46 #[.int .i64 o] w fun e w' => e = .returned (.int .i64 (longTakesS o)) ∧ w' = w := by
  rcases (show (o ≤ 21) ∨ (o = 22) ∨ (o = 23) ∨ (24 ≤ o ∧ o ≤ 25) ∨ (o = 26) ∨ (o = 27) ∨ (28 ≤ o) by omega) with h | h | h | h | h | h | h
  · have hs : longTakesS o = 0 := by unfold longTakesS; rw [if_pos (by omega)]
    rw [hs]
    clear hs
    have t0 : (o == 22) = false := by simp; omega
    have t1 : (o == 23) = false := by simp; omega
    have t2 : (o == 26) = false := by simp; omega
    have t3 : (o == 27) = false := by simp; omega
    go_enter Tryd.func46, Tryd.ntmps46
    go_wp2
    go_ret
    exact ⟨rfl, rfl⟩
  · have hs : longTakesS o = 8 := by unfold longTakesS; rw [if_neg (by omega)]; rw [if_pos (by omega)]
    rw [hs]
    clear hs
    subst h
    go_enter Tryd.func46, Tryd.ntmps46
    go_wp2
    go_ret
    exact ⟨rfl, rfl⟩
  · have hs : longTakesS o = 8 := by unfold longTakesS; rw [if_neg (by omega)]; rw [if_neg (by omega)]; rw [if_pos (by omega)]
    rw [hs]
    clear hs
    subst h
    go_enter Tryd.func46, Tryd.ntmps46
    go_wp2
    go_ret
    exact ⟨rfl, rfl⟩
  · have hs : longTakesS o = 0 := by unfold longTakesS; rw [if_neg (by omega)]; rw [if_neg (by omega)]; rw [if_neg (by omega)]; rw [if_pos (by omega)]
    rw [hs]
    clear hs
    have t0 : (o == 22) = false := by simp; omega
    have t1 : (o == 23) = false := by simp; omega
    have t2 : (o == 26) = false := by simp; omega
    have t3 : (o == 27) = false := by simp; omega
    go_enter Tryd.func46, Tryd.ntmps46
    go_wp2
    go_ret
    exact ⟨rfl, rfl⟩
  · have hs : longTakesS o = 9 := by unfold longTakesS; rw [if_neg (by omega)]; rw [if_neg (by omega)]; rw [if_neg (by omega)]; rw [if_neg (by omega)]; rw [if_pos (by omega)]
    rw [hs]
    clear hs
    subst h
    go_enter Tryd.func46, Tryd.ntmps46
    go_wp2
    go_ret
    exact ⟨rfl, rfl⟩
  · have hs : longTakesS o = 9 := by unfold longTakesS; rw [if_neg (by omega)]; rw [if_neg (by omega)]; rw [if_neg (by omega)]; rw [if_neg (by omega)]; rw [if_neg (by omega)]; rw [if_pos (by omega)]
    rw [hs]
    clear hs
    subst h
    go_enter Tryd.func46, Tryd.ntmps46
    go_wp2
    go_ret
    exact ⟨rfl, rfl⟩
  · have hs : longTakesS o = 0 := by unfold longTakesS; rw [if_neg (by omega)]; rw [if_neg (by omega)]; rw [if_neg (by omega)]; rw [if_neg (by omega)]; rw [if_neg (by omega)]; rw [if_neg (by omega)]
    rw [hs]
    clear hs
    have t0 : (o == 22) = false := by simp; omega
    have t1 : (o == 23) = false := by simp; omega
    have t2 : (o == 26) = false := by simp; omega
    have t3 : (o == 27) = false := by simp; omega
    go_enter Tryd.func46, Tryd.ntmps46
    go_wp2
    go_ret
    exact ⟨rfl, rfl⟩
def unaryTakesS (o : Int) : Int := if o ≤ 29 then 4 else if o ≤ 30 then 1 else if o ≤ 31 then 2 else if o ≤ 32 then 2 else if o ≤ 33 then 3 else 4
set_option maxHeartbeats 2000000 in
theorem unaryTakes_c (o : Int) (w : World) : Calls Tryd.prog 47 #[.int .i64 o] w fun e w' => e = .returned (.int .i64 (unaryTakesS o)) ∧ w' = w := by
  rcases (show (o ≤ 29) ∨ (o = 30) ∨ (o = 31) ∨ (o = 32) ∨ (o = 33) ∨ (34 ≤ o) by omega) with h | h | h | h | h | h
  · have hs : unaryTakesS o = 4 := by unfold unaryTakesS; rw [if_pos (by omega)]
    rw [hs]
    clear hs
    have t0 : (o == 30) = false := by simp; omega
    have t1 : (o == 33) = false := by simp; omega
    have t2 : (o == 31) = false := by simp; omega
    have t3 : (o == 32) = false := by simp; omega
    go_enter Tryd.func47, Tryd.ntmps47
    go_wp2
    go_ret
    exact ⟨rfl, rfl⟩
  · have hs : unaryTakesS o = 1 := by unfold unaryTakesS; rw [if_neg (by omega)]; rw [if_pos (by omega)]
    rw [hs]
    clear hs
    subst h
    go_enter Tryd.func47, Tryd.ntmps47
    go_wp2
    go_ret
    exact ⟨rfl, rfl⟩
  · have hs : unaryTakesS o = 2 := by unfold unaryTakesS; rw [if_neg (by omega)]; rw [if_neg (by omega)]; rw [if_pos (by omega)]
    rw [hs]
    clear hs
    subst h
    go_enter Tryd.func47, Tryd.ntmps47
    go_wp2
    go_ret
    exact ⟨rfl, rfl⟩
  · have hs : unaryTakesS o = 2 := by unfold unaryTakesS; rw [if_neg (by omega)]; rw [if_neg (by omega)]; rw [if_neg (by omega)]; rw [if_pos (by omega)]
    rw [hs]
    clear hs
    subst h
    go_enter Tryd.func47, Tryd.ntmps47
    go_wp2
    go_ret
    exact ⟨rfl, rfl⟩
  · have hs : unaryTakesS o = 3 := by unfold unaryTakesS; rw [if_neg (by omega)]; rw [if_neg (by omega)]; rw [if_neg (by omega)]; rw [if_neg (by omega)]; rw [if_pos (by omega)]
    rw [hs]
    clear hs
    subst h
    go_enter Tryd.func47, Tryd.ntmps47
    go_wp2
    go_ret
    exact ⟨rfl, rfl⟩
  · have hs : unaryTakesS o = 4 := by unfold unaryTakesS; rw [if_neg (by omega)]; rw [if_neg (by omega)]; rw [if_neg (by omega)]; rw [if_neg (by omega)]; rw [if_neg (by omega)]
    rw [hs]
    clear hs
    have t0 : (o == 30) = false := by simp; omega
    have t1 : (o == 33) = false := by simp; omega
    have t2 : (o == 31) = false := by simp; omega
    have t3 : (o == 32) = false := by simp; omega
    go_enter Tryd.func47, Tryd.ntmps47
    go_wp2
    go_ret
    exact ⟨rfl, rfl⟩
def restTakesS (o : Int) : Int := if o ≤ 55 then 0 else if o ≤ 56 then 4 else if o ≤ 57 then 4 else if o ≤ 58 then 2 else if o ≤ 59 then 2 else if o ≤ 61 then 0 else if o ≤ 62 then 32 else 0
set_option maxHeartbeats 2000000 in
theorem restTakes_c (o : Int) (w : World) : Calls Tryd.prog 48 #[.int .i64 o] w fun e w' => e = .returned (.int .i64 (restTakesS o)) ∧ w' = w := by
  rcases (show (o ≤ 55) ∨ (o = 56) ∨ (o = 57) ∨ (o = 58) ∨ (o = 59) ∨ (60 ≤ o ∧ o ≤ 61) ∨ (o = 62) ∨ (63 ≤ o) by omega) with h | h | h | h | h | h | h | h
  · have hs : restTakesS o = 0 := by unfold restTakesS; rw [if_pos (by omega)]
    rw [hs]
    clear hs
    have t0 : (o == 56) = false := by simp; omega
    have t1 : (o == 57) = false := by simp; omega
    have t2 : (o == 58) = false := by simp; omega
    have t3 : (o == 59) = false := by simp; omega
    have t4 : (o == 62) = false := by simp; omega
    go_enter Tryd.func48, Tryd.ntmps48
    go_wp2
    go_ret
    exact ⟨rfl, rfl⟩
  · have hs : restTakesS o = 4 := by unfold restTakesS; rw [if_neg (by omega)]; rw [if_pos (by omega)]
    rw [hs]
    clear hs
    subst h
    go_enter Tryd.func48, Tryd.ntmps48
    go_wp2
    go_ret
    exact ⟨rfl, rfl⟩
  · have hs : restTakesS o = 4 := by unfold restTakesS; rw [if_neg (by omega)]; rw [if_neg (by omega)]; rw [if_pos (by omega)]
    rw [hs]
    clear hs
    subst h
    go_enter Tryd.func48, Tryd.ntmps48
    go_wp2
    go_ret
    exact ⟨rfl, rfl⟩
  · have hs : restTakesS o = 2 := by unfold restTakesS; rw [if_neg (by omega)]; rw [if_neg (by omega)]; rw [if_neg (by omega)]; rw [if_pos (by omega)]
    rw [hs]
    clear hs
    subst h
    go_enter Tryd.func48, Tryd.ntmps48
    go_wp2
    go_ret
    exact ⟨rfl, rfl⟩
  · have hs : restTakesS o = 2 := by unfold restTakesS; rw [if_neg (by omega)]; rw [if_neg (by omega)]; rw [if_neg (by omega)]; rw [if_neg (by omega)]; rw [if_pos (by omega)]
    rw [hs]
    clear hs
    subst h
    go_enter Tryd.func48, Tryd.ntmps48
    go_wp2
    go_ret
    exact ⟨rfl, rfl⟩
  · have hs : restTakesS o = 0 := by unfold restTakesS; rw [if_neg (by omega)]; rw [if_neg (by omega)]; rw [if_neg (by omega)]; rw [if_neg (by omega)]; rw [if_neg (by omega)]; rw [if_pos (by omega)]
    rw [hs]
    clear hs
    have t0 : (o == 56) = false := by simp; omega
    have t1 : (o == 57) = false := by simp; omega
    have t2 : (o == 58) = false := by simp; omega
    have t3 : (o == 59) = false := by simp; omega
    have t4 : (o == 62) = false := by simp; omega
    go_enter Tryd.func48, Tryd.ntmps48
    go_wp2
    go_ret
    exact ⟨rfl, rfl⟩
  · have hs : restTakesS o = 32 := by unfold restTakesS; rw [if_neg (by omega)]; rw [if_neg (by omega)]; rw [if_neg (by omega)]; rw [if_neg (by omega)]; rw [if_neg (by omega)]; rw [if_neg (by omega)]; rw [if_pos (by omega)]
    rw [hs]
    clear hs
    subst h
    go_enter Tryd.func48, Tryd.ntmps48
    go_wp2
    go_ret
    exact ⟨rfl, rfl⟩
  · have hs : restTakesS o = 0 := by unfold restTakesS; rw [if_neg (by omega)]; rw [if_neg (by omega)]; rw [if_neg (by omega)]; rw [if_neg (by omega)]; rw [if_neg (by omega)]; rw [if_neg (by omega)]; rw [if_neg (by omega)]
    rw [hs]
    clear hs
    have t0 : (o == 56) = false := by simp; omega
    have t1 : (o == 57) = false := by simp; omega
    have t2 : (o == 58) = false := by simp; omega
    have t3 : (o == 59) = false := by simp; omega
    have t4 : (o == 62) = false := by simp; omega
    go_enter Tryd.func48, Tryd.ntmps48
    go_wp2
    go_ret
    exact ⟨rfl, rfl⟩
def restGivesS (o : Int) : Int := if o ≤ 53 then 0 else if o ≤ 54 then 128 else if o ≤ 55 then 192 else if o ≤ 56 then 128 else if o ≤ 57 then 192 else if o ≤ 58 then 128 else if o ≤ 59 then 128 else if o ≤ 61 then 0 else if o ≤ 62 then 32 else 0
set_option maxHeartbeats 2000000 in
theorem restGives_c (o : Int) (w : World) : Calls Tryd.prog 50 #[.int .i64 o] w fun e w' => e = .returned (.int .i64 (restGivesS o)) ∧ w' = w := by
  rcases (show (o ≤ 53) ∨ (o = 54) ∨ (o = 55) ∨ (o = 56) ∨ (o = 57) ∨ (o = 58) ∨ (o = 59) ∨ (60 ≤ o ∧ o ≤ 61) ∨ (o = 62) ∨ (63 ≤ o) by omega) with h | h | h | h | h | h | h | h | h | h
  · have hs : restGivesS o = 0 := by unfold restGivesS; rw [if_pos (by omega)]
    rw [hs]
    clear hs
    have t0 : (o == 55) = false := by simp; omega
    have t1 : (o == 57) = false := by simp; omega
    have t2 : (o == 54) = false := by simp; omega
    have t3 : (o == 56) = false := by simp; omega
    have t4 : (o == 58) = false := by simp; omega
    have t5 : (o == 59) = false := by simp; omega
    have t6 : (o == 62) = false := by simp; omega
    go_enter Tryd.func50, Tryd.ntmps50
    go_wp2
    go_ret
    exact ⟨rfl, rfl⟩
  · have hs : restGivesS o = 128 := by unfold restGivesS; rw [if_neg (by omega)]; rw [if_pos (by omega)]
    rw [hs]
    clear hs
    subst h
    go_enter Tryd.func50, Tryd.ntmps50
    go_wp2
    go_ret
    exact ⟨rfl, rfl⟩
  · have hs : restGivesS o = 192 := by unfold restGivesS; rw [if_neg (by omega)]; rw [if_neg (by omega)]; rw [if_pos (by omega)]
    rw [hs]
    clear hs
    subst h
    go_enter Tryd.func50, Tryd.ntmps50
    go_wp2
    go_ret
    exact ⟨rfl, rfl⟩
  · have hs : restGivesS o = 128 := by unfold restGivesS; rw [if_neg (by omega)]; rw [if_neg (by omega)]; rw [if_neg (by omega)]; rw [if_pos (by omega)]
    rw [hs]
    clear hs
    subst h
    go_enter Tryd.func50, Tryd.ntmps50
    go_wp2
    go_ret
    exact ⟨rfl, rfl⟩
  · have hs : restGivesS o = 192 := by unfold restGivesS; rw [if_neg (by omega)]; rw [if_neg (by omega)]; rw [if_neg (by omega)]; rw [if_neg (by omega)]; rw [if_pos (by omega)]
    rw [hs]
    clear hs
    subst h
    go_enter Tryd.func50, Tryd.ntmps50
    go_wp2
    go_ret
    exact ⟨rfl, rfl⟩
  · have hs : restGivesS o = 128 := by unfold restGivesS; rw [if_neg (by omega)]; rw [if_neg (by omega)]; rw [if_neg (by omega)]; rw [if_neg (by omega)]; rw [if_neg (by omega)]; rw [if_pos (by omega)]
    rw [hs]
    clear hs
    subst h
    go_enter Tryd.func50, Tryd.ntmps50
    go_wp2
    go_ret
    exact ⟨rfl, rfl⟩
  · have hs : restGivesS o = 128 := by unfold restGivesS; rw [if_neg (by omega)]; rw [if_neg (by omega)]; rw [if_neg (by omega)]; rw [if_neg (by omega)]; rw [if_neg (by omega)]; rw [if_neg (by omega)]; rw [if_pos (by omega)]
    rw [hs]
    clear hs
    subst h
    go_enter Tryd.func50, Tryd.ntmps50
    go_wp2
    go_ret
    exact ⟨rfl, rfl⟩
  · have hs : restGivesS o = 0 := by unfold restGivesS; rw [if_neg (by omega)]; rw [if_neg (by omega)]; rw [if_neg (by omega)]; rw [if_neg (by omega)]; rw [if_neg (by omega)]; rw [if_neg (by omega)]; rw [if_neg (by omega)]; rw [if_pos (by omega)]
    rw [hs]
    clear hs
    have t0 : (o == 55) = false := by simp; omega
    have t1 : (o == 57) = false := by simp; omega
    have t2 : (o == 54) = false := by simp; omega
    have t3 : (o == 56) = false := by simp; omega
    have t4 : (o == 58) = false := by simp; omega
    have t5 : (o == 59) = false := by simp; omega
    have t6 : (o == 62) = false := by simp; omega
    go_enter Tryd.func50, Tryd.ntmps50
    go_wp2
    go_ret
    exact ⟨rfl, rfl⟩
  · have hs : restGivesS o = 32 := by unfold restGivesS; rw [if_neg (by omega)]; rw [if_neg (by omega)]; rw [if_neg (by omega)]; rw [if_neg (by omega)]; rw [if_neg (by omega)]; rw [if_neg (by omega)]; rw [if_neg (by omega)]; rw [if_neg (by omega)]; rw [if_pos (by omega)]
    rw [hs]
    clear hs
    subst h
    go_enter Tryd.func50, Tryd.ntmps50
    go_wp2
    go_ret
    exact ⟨rfl, rfl⟩
  · have hs : restGivesS o = 0 := by unfold restGivesS; rw [if_neg (by omega)]; rw [if_neg (by omega)]; rw [if_neg (by omega)]; rw [if_neg (by omega)]; rw [if_neg (by omega)]; rw [if_neg (by omega)]; rw [if_neg (by omega)]; rw [if_neg (by omega)]; rw [if_neg (by omega)]
    rw [hs]
    clear hs
    have t0 : (o == 55) = false := by simp; omega
    have t1 : (o == 57) = false := by simp; omega
    have t2 : (o == 54) = false := by simp; omega
    have t3 : (o == 56) = false := by simp; omega
    have t4 : (o == 58) = false := by simp; omega
    have t5 : (o == 59) = false := by simp; omega
    have t6 : (o == 62) = false := by simp; omega
    go_enter Tryd.func50, Tryd.ntmps50
    go_wp2
    go_ret
    exact ⟨rfl, rfl⟩
end Go.Proofs.YtbbkiiabjhgpkaaDoor
