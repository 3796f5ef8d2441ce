/- Stage 7: what hangs on an instruction's number alone. -/
import Derived.Test.YtplhblhopaheeaaGreatDoorProg
import Derived.WalkKit
import Derived.Tactics2
import Derived.Below
import Derived.ProofKit
import Derived.OpenShut
import Derived.Deep.MidRow
import Derived.Deep.RegionHeld3
import Derived.Deep.DrawnRows
import Derived.Laws.AppendOwnNone
import Derived.Deep.AppendLies
import Derived.Deep.RegionHeld
namespace Go.Proofs.YtplhblhopaheeaaGreatDoor
open Go.RowKit
set_option linter.unusedVariables false
set_option linter.unusedSimpArgs false

def classS (o : Int) : Int := if o ≤ 0 then 0 else if o ≤ 20 then 1 else if o ≤ 29 then 2 else if o ≤ 42 then 3 else if o ≤ 43 then 1 else if o ≤ 51 then 4 else if o ≤ 53 then 5 else if o ≤ 59 then 6 else if o ≤ 65 then 7 else 0
set_option maxHeartbeats 2000000 in
theorem class_c (o : Int) (w : World) : Calls Tryz.prog 23 #[.int .i64 o] w fun e w' => e = .returned (.int .i64 (classS o)) ∧ w' = w := by
  rcases (show (o ≤ 0) ∨ (1 ≤ o ∧ o ≤ 20) ∨ (21 ≤ o ∧ o ≤ 29) ∨ (30 ≤ o ∧ o ≤ 42) ∨ (o = 43) ∨ (44 ≤ o ∧ o ≤ 51) ∨ (52 ≤ o ∧ o ≤ 53) ∨ (54 ≤ o ∧ o ≤ 59) ∨ (60 ≤ o ∧ o ≤ 65) ∨ (66 ≤ o) by omega) with h | h | h | h | h | h | h | h | h | h
  · have hs : classS o = 0 := by unfold classS; rw [if_pos (by omega)]
    rw [hs]
    clear hs
    have t0 : decide (o < 1) = true := by simp; omega
    have t1 : decide (66 ≤ o) = false := by simp; omega
    have t2 : decide (o ≤ 20) = true := by simp; omega
    have t3 : (o == 43) = false := by simp; omega
    have t4 : decide (o ≤ 29) = true := by simp; omega
    have t5 : decide (o ≤ 42) = true := by simp; omega
    have t6 : decide (o ≤ 51) = true := by simp; omega
    have t7 : decide (o ≤ 53) = true := by simp; omega
    have t8 : decide (o ≤ 59) = true := by simp; omega
    go_enter Tryz.func23, Tryz.ntmps23
    go_wp2
    go_ret
    exact ⟨rfl, rfl⟩
  · have hs : classS o = 1 := by unfold classS; rw [if_neg (by omega)]; rw [if_pos (by omega)]
    rw [hs]
    clear hs
    have t0 : decide (o < 1) = false := by simp; omega
    have t1 : decide (66 ≤ o) = false := by simp; omega
    have t2 : decide (o ≤ 20) = true := by simp; omega
    have t3 : (o == 43) = false := by simp; omega
    have t4 : decide (o ≤ 29) = true := by simp; omega
    have t5 : decide (o ≤ 42) = true := by simp; omega
    have t6 : decide (o ≤ 51) = true := by simp; omega
    have t7 : decide (o ≤ 53) = true := by simp; omega
    have t8 : decide (o ≤ 59) = true := by simp; omega
    go_enter Tryz.func23, Tryz.ntmps23
    go_wp2
    go_ret
    exact ⟨rfl, rfl⟩
  · have hs : classS o = 2 := by unfold classS; rw [if_neg (by omega)]; rw [if_neg (by omega)]; rw [if_pos (by omega)]
    rw [hs]
    clear hs
    have t0 : decide (o < 1) = false := by simp; omega
    have t1 : decide (66 ≤ o) = false := by simp; omega
    have t2 : decide (o ≤ 20) = false := by simp; omega
    have t3 : (o == 43) = false := by simp; omega
    have t4 : decide (o ≤ 29) = true := by simp; omega
    have t5 : decide (o ≤ 42) = true := by simp; omega
    have t6 : decide (o ≤ 51) = true := by simp; omega
    have t7 : decide (o ≤ 53) = true := by simp; omega
    have t8 : decide (o ≤ 59) = true := by simp; omega
    go_enter Tryz.func23, Tryz.ntmps23
    go_wp2
    go_ret
    exact ⟨rfl, rfl⟩
  · have hs : classS o = 3 := by unfold classS; rw [if_neg (by omega)]; rw [if_neg (by omega)]; rw [if_neg (by omega)]; rw [if_pos (by omega)]
    rw [hs]
    clear hs
    have t0 : decide (o < 1) = false := by simp; omega
    have t1 : decide (66 ≤ o) = false := by simp; omega
    have t2 : decide (o ≤ 20) = false := by simp; omega
    have t3 : (o == 43) = false := by simp; omega
    have t4 : decide (o ≤ 29) = false := by simp; omega
    have t5 : decide (o ≤ 42) = true := by simp; omega
    have t6 : decide (o ≤ 51) = true := by simp; omega
    have t7 : decide (o ≤ 53) = true := by simp; omega
    have t8 : decide (o ≤ 59) = true := by simp; omega
    go_enter Tryz.func23, Tryz.ntmps23
    go_wp2
    go_ret
    exact ⟨rfl, rfl⟩
  · have hs : classS o = 1 := by unfold classS; rw [if_neg (by omega)]; rw [if_neg (by omega)]; rw [if_neg (by omega)]; rw [if_neg (by omega)]; rw [if_pos (by omega)]
    rw [hs]
    clear hs
    subst h
    go_enter Tryz.func23, Tryz.ntmps23
    go_wp2
    go_ret
    exact ⟨rfl, rfl⟩
  · have hs : classS o = 4 := by unfold classS; rw [if_neg (by omega)]; rw [if_neg (by omega)]; rw [if_neg (by omega)]; rw [if_neg (by omega)]; rw [if_neg (by omega)]; rw [if_pos (by omega)]
    rw [hs]
    clear hs
    have t0 : decide (o < 1) = false := by simp; omega
    have t1 : decide (66 ≤ o) = false := by simp; omega
    have t2 : decide (o ≤ 20) = false := by simp; omega
    have t3 : (o == 43) = false := by simp; omega
    have t4 : decide (o ≤ 29) = false := by simp; omega
    have t5 : decide (o ≤ 42) = false := by simp; omega
    have t6 : decide (o ≤ 51) = true := by simp; omega
    have t7 : decide (o ≤ 53) = true := by simp; omega
    have t8 : decide (o ≤ 59) = true := by simp; omega
    go_enter Tryz.func23, Tryz.ntmps23
    go_wp2
    go_ret
    exact ⟨rfl, rfl⟩
  · have hs : classS o = 5 := by unfold classS; rw [if_neg (by omega)]; rw [if_neg (by omega)]; rw [if_neg (by omega)]; rw [if_neg (by omega)]; rw [if_neg (by omega)]; rw [if_neg (by omega)]; rw [if_pos (by omega)]
    rw [hs]
    clear hs
    have t0 : decide (o < 1) = false := by simp; omega
    have t1 : decide (66 ≤ o) = false := by simp; omega
    have t2 : decide (o ≤ 20) = false := by simp; omega
    have t3 : (o == 43) = false := by simp; omega
    have t4 : decide (o ≤ 29) = false := by simp; omega
    have t5 : decide (o ≤ 42) = false := by simp; omega
    have t6 : decide (o ≤ 51) = false := by simp; omega
    have t7 : decide (o ≤ 53) = true := by simp; omega
    have t8 : decide (o ≤ 59) = true := by simp; omega
    go_enter Tryz.func23, Tryz.ntmps23
    go_wp2
    go_ret
    exact ⟨rfl, rfl⟩
  · have hs : classS o = 6 := by unfold classS; rw [if_neg (by omega)]; rw [if_neg (by omega)]; rw [if_neg (by omega)]; rw [if_neg (by omega)]; rw [if_neg (by omega)]; rw [if_neg (by omega)]; rw [if_neg (by omega)]; rw [if_pos (by omega)]
    rw [hs]
    clear hs
    have t0 : decide (o < 1) = false := by simp; omega
    have t1 : decide (66 ≤ o) = false := by simp; omega
    have t2 : decide (o ≤ 20) = false := by simp; omega
    have t3 : (o == 43) = false := by simp; omega
    have t4 : decide (o ≤ 29) = false := by simp; omega
    have t5 : decide (o ≤ 42) = false := by simp; omega
    have t6 : decide (o ≤ 51) = false := by simp; omega
    have t7 : decide (o ≤ 53) = false := by simp; omega
    have t8 : decide (o ≤ 59) = true := by simp; omega
    go_enter Tryz.func23, Tryz.ntmps23
    go_wp2
    go_ret
    exact ⟨rfl, rfl⟩
  · have hs : classS o = 7 := by unfold classS; rw [if_neg (by omega)]; rw [if_neg (by omega)]; rw [if_neg (by omega)]; rw [if_neg (by omega)]; rw [if_neg (by omega)]; rw [if_neg (by omega)]; rw [if_neg (by omega)]; rw [if_neg (by omega)]; rw [if_pos (by omega)]
    rw [hs]
    clear hs
    have t0 : decide (o < 1) = false := by simp; omega
    have t1 : decide (66 ≤ o) = false := by simp; omega
    have t2 : decide (o ≤ 20) = false := by simp; omega
    have t3 : (o == 43) = false := by simp; omega
    have t4 : decide (o ≤ 29) = false := by simp; omega
    have t5 : decide (o ≤ 42) = false := by simp; omega
    have t6 : decide (o ≤ 51) = false := by simp; omega
    have t7 : decide (o ≤ 53) = false := by simp; omega
    have t8 : decide (o ≤ 59) = false := by simp; omega
    go_enter Tryz.func23, Tryz.ntmps23
    go_wp2
    go_ret
    exact ⟨rfl, rfl⟩
  · have hs : classS o = 0 := by unfold classS; rw [if_neg (by omega)]; rw [if_neg (by omega)]; rw [if_neg (by omega)]; rw [if_neg (by omega)]; rw [if_neg (by omega)]; rw [if_neg (by omega)]; rw [if_neg (by omega)]; rw [if_neg (by omega)]; rw [if_neg (by omega)]
    rw [hs]
    clear hs
    have t0 : decide (o < 1) = false := by simp; omega
    have t1 : decide (66 ≤ o) = true := by simp; omega
    have t2 : decide (o ≤ 20) = false := by simp; omega
    have t3 : (o == 43) = false := by simp; omega
    have t4 : decide (o ≤ 29) = false := by simp; omega
    have t5 : decide (o ≤ 42) = false := by simp; omega
    have t6 : decide (o ≤ 51) = false := by simp; omega
    have t7 : decide (o ≤ 53) = false := by simp; omega
    have t8 : decide (o ≤ 59) = false := by simp; omega
    go_enter Tryz.func23, Tryz.ntmps23
    go_wp2
    go_ret
    exact ⟨rfl, rfl⟩
def comparesS (o : Int) : Bool := if o ≤ 7 then false else if o ≤ 11 then true else false
set_option maxHeartbeats 2000000 in
theorem compares_c (o : Int) (w : World) : Calls Tryz.prog 63 #[.int .i64 o] w fun e w' => e = .returned (.bool (comparesS o)) ∧ w' = w := by
  rcases (show (o ≤ 7) ∨ (8 ≤ o ∧ o ≤ 11) ∨ (12 ≤ o) by omega) with h | h | h
  · have hs : comparesS o = false := by unfold comparesS; rw [if_pos (by omega)]
    rw [hs]
    clear hs
    have t0 : decide (8 ≤ o) = false := by simp; omega
    have t1 : decide (o ≤ 11) = true := by simp; omega
    go_enter Tryz.func63, Tryz.ntmps63
    go_wp2
    go_ret
    exact ⟨rfl, rfl⟩
  · have hs : comparesS o = true := by unfold comparesS; rw [if_neg (by omega)]; rw [if_pos (by omega)]
    rw [hs]
    clear hs
    have t0 : decide (8 ≤ o) = true := by simp; omega
    have t1 : decide (o ≤ 11) = true := by simp; omega
    go_enter Tryz.func63, Tryz.ntmps63
    go_wp2
    go_ret
    exact ⟨rfl, rfl⟩
  · have hs : comparesS o = false := by unfold comparesS; rw [if_neg (by omega)]; rw [if_neg (by omega)]
    rw [hs]
    clear hs
    have t0 : decide (8 ≤ o) = true := by simp; omega
    have t1 : decide (o ≤ 11) = false := by simp; omega
    go_enter Tryz.func63, Tryz.ntmps63
    go_wp2
    go_ret
    exact ⟨rfl, rfl⟩
def sumsS (o : Int) : Bool := if o ≤ 2 then false else if o ≤ 7 then true else if o ≤ 9 then false else if o ≤ 10 then true else if o ≤ 11 then true else false
set_option maxHeartbeats 2000000 in
theorem sums_c (o : Int) (w : World) : Calls Tryz.prog 64 #[.int .i64 o] w fun e w' => e = .returned (.bool (sumsS o)) ∧ w' = w := by
  rcases (show (o ≤ 2) ∨ (3 ≤ o ∧ o ≤ 7) ∨ (8 ≤ o ∧ o ≤ 9) ∨ (o = 10) ∨ (o = 11) ∨ (12 ≤ o) by omega) with h | h | h | h | h | h
  · have hs : sumsS o = false := by unfold sumsS; rw [if_pos (by omega)]
    rw [hs]
    clear hs
    have t0 : decide (3 ≤ o) = false := by simp; omega
    have t1 : decide (o ≤ 7) = true := by simp; omega
    have t2 : (o == 10) = false := by simp; omega
    have t3 : (o == 11) = false := by simp; omega
    go_enter Tryz.func64, Tryz.ntmps64
    go_wp2
    go_ret
    exact ⟨rfl, rfl⟩
  · have hs : sumsS o = true := by unfold sumsS; rw [if_neg (by omega)]; rw [if_pos (by omega)]
    rw [hs]
    clear hs
    have t0 : decide (3 ≤ o) = true := by simp; omega
    have t1 : decide (o ≤ 7) = true := by simp; omega
    have t2 : (o == 10) = false := by simp; omega
    have t3 : (o == 11) = false := by simp; omega
    go_enter Tryz.func64, Tryz.ntmps64
    go_wp2
    go_ret
    exact ⟨rfl, rfl⟩
  · have hs : sumsS o = false := by unfold sumsS; rw [if_neg (by omega)]; rw [if_neg (by omega)]; rw [if_pos (by omega)]
    rw [hs]
    clear hs
    have t0 : decide (3 ≤ o) = true := by simp; omega
    have t1 : decide (o ≤ 7) = false := by simp; omega
    have t2 : (o == 10) = false := by simp; omega
    have t3 : (o == 11) = false := by simp; omega
    go_enter Tryz.func64, Tryz.ntmps64
    go_wp2
    go_ret
    exact ⟨rfl, rfl⟩
  · have hs : sumsS o = true := by unfold sumsS; rw [if_neg (by omega)]; rw [if_neg (by omega)]; rw [if_neg (by omega)]; rw [if_pos (by omega)]
    rw [hs]
    clear hs
    subst h
    go_enter Tryz.func64, Tryz.ntmps64
    go_wp2
    go_ret
    exact ⟨rfl, rfl⟩
  · have hs : sumsS o = true := by unfold sumsS; rw [if_neg (by omega)]; rw [if_neg (by omega)]; rw [if_neg (by omega)]; rw [if_neg (by omega)]; rw [if_pos (by omega)]
    rw [hs]
    clear hs
    subst h
    go_enter Tryz.func64, Tryz.ntmps64
    go_wp2
    go_ret
    exact ⟨rfl, rfl⟩
  · have hs : sumsS o = false := by unfold sumsS; rw [if_neg (by omega)]; rw [if_neg (by omega)]; rw [if_neg (by omega)]; rw [if_neg (by omega)]; rw [if_neg (by omega)]
    rw [hs]
    clear hs
    have t0 : decide (3 ≤ o) = true := by simp; omega
    have t1 : decide (o ≤ 7) = false := by simp; omega
    have t2 : (o == 10) = false := by simp; omega
    have t3 : (o == 11) = false := by simp; omega
    go_enter Tryz.func64, Tryz.ntmps64
    go_wp2
    go_ret
    exact ⟨rfl, rfl⟩
def shiftsS (o : Int) : Bool := if o ≤ 16 then false else if o ≤ 20 then true else false
set_option maxHeartbeats 2000000 in
theorem shifts_c (o : Int) (w : World) : Calls Tryz.prog 65 #[.int .i64 o] w fun e w' => e = .returned (.bool (shiftsS o)) ∧ w' = w := by
  rcases (show (o ≤ 16) ∨ (17 ≤ o ∧ o ≤ 20) ∨ (21 ≤ o) by omega) with h | h | h
  · have hs : shiftsS o = false := by unfold shiftsS; rw [if_pos (by omega)]
    rw [hs]
    clear hs
    have t0 : decide (17 ≤ o) = false := by simp; omega
    have t1 : decide (o ≤ 20) = true := by simp; omega
    go_enter Tryz.func65, Tryz.ntmps65
    go_wp2
    go_ret
    exact ⟨rfl, rfl⟩
  · have hs : shiftsS o = true := by unfold shiftsS; rw [if_neg (by omega)]; rw [if_pos (by omega)]
    rw [hs]
    clear hs
    have t0 : decide (17 ≤ o) = true := by simp; omega
    have t1 : decide (o ≤ 20) = true := by simp; omega
    go_enter Tryz.func65, Tryz.ntmps65
    go_wp2
    go_ret
    exact ⟨rfl, rfl⟩
  · have hs : shiftsS o = false := by unfold shiftsS; rw [if_neg (by omega)]; rw [if_neg (by omega)]
    rw [hs]
    clear hs
    have t0 : decide (17 ≤ o) = true := by simp; omega
    have t1 : decide (o ≤ 20) = false := by simp; omega
    go_enter Tryz.func65, Tryz.ntmps65
    go_wp2
    go_ret
    exact ⟨rfl, rfl⟩
def dataTakesS (o : Int) : Int := if o ≤ 12 then 2 else if o ≤ 13 then 0 else if o ≤ 14 then 2 else if o ≤ 15 then 0 else if o ≤ 42 then 2 else if o ≤ 43 then 0 else 2
set_option maxHeartbeats 2000000 in
theorem dataTakes_c (o : Int) (w : World) : Calls Tryz.prog 109 #[.int .i64 o] w fun e w' => e = .returned (.int .i64 (dataTakesS o)) ∧ w' = w := by
  rcases (show (o ≤ 12) ∨ (o = 13) ∨ (o = 14) ∨ (o = 15) ∨ (16 ≤ o ∧ o ≤ 42) ∨ (o = 43) ∨ (44 ≤ o) by omega) with h | h | h | h | h | h | h
  · have hs : dataTakesS o = 2 := by unfold dataTakesS; rw [if_pos (by omega)]
    rw [hs]
    clear hs
    have t0 : (o == 13) = false := by simp; omega
    have t1 : (o == 15) = false := by simp; omega
    have t2 : (o == 43) = false := by simp; omega
    go_enter Tryz.func109, Tryz.ntmps109
    go_wp2
    go_ret
    exact ⟨rfl, rfl⟩
  · have hs : dataTakesS o = 0 := by unfold dataTakesS; rw [if_neg (by omega)]; rw [if_pos (by omega)]
    rw [hs]
    clear hs
    subst h
    go_enter Tryz.func109, Tryz.ntmps109
    go_wp2
    go_ret
    exact ⟨rfl, rfl⟩
  · have hs : dataTakesS o = 2 := by unfold dataTakesS; rw [if_neg (by omega)]; rw [if_neg (by omega)]; rw [if_pos (by omega)]
    rw [hs]
    clear hs
    subst h
    go_enter Tryz.func109, Tryz.ntmps109
    go_wp2
    go_ret
    exact ⟨rfl, rfl⟩
  · have hs : dataTakesS o = 0 := by unfold dataTakesS; rw [if_neg (by omega)]; rw [if_neg (by omega)]; rw [if_neg (by omega)]; rw [if_pos (by omega)]
    rw [hs]
    clear hs
    subst h
    go_enter Tryz.func109, Tryz.ntmps109
    go_wp2
    go_ret
    exact ⟨rfl, rfl⟩
  · have hs : dataTakesS o = 2 := by unfold dataTakesS; rw [if_neg (by omega)]; rw [if_neg (by omega)]; rw [if_neg (by omega)]; rw [if_neg (by omega)]; rw [if_pos (by omega)]
    rw [hs]
    clear hs
    have t0 : (o == 13) = false := by simp; omega
    have t1 : (o == 15) = false := by simp; omega
    have t2 : (o == 43) = false := by simp; omega
    go_enter Tryz.func109, Tryz.ntmps109
    go_wp2
    go_ret
    exact ⟨rfl, rfl⟩
  · have hs : dataTakesS o = 0 := by unfold dataTakesS; rw [if_neg (by omega)]; rw [if_neg (by omega)]; rw [if_neg (by omega)]; rw [if_neg (by omega)]; rw [if_neg (by omega)]; rw [if_pos (by omega)]
    rw [hs]
    clear hs
    subst h
    go_enter Tryz.func109, Tryz.ntmps109
    go_wp2
    go_ret
    exact ⟨rfl, rfl⟩
  · have hs : dataTakesS o = 2 := by unfold dataTakesS; rw [if_neg (by omega)]; rw [if_neg (by omega)]; rw [if_neg (by omega)]; rw [if_neg (by omega)]; rw [if_neg (by omega)]; rw [if_neg (by omega)]
    rw [hs]
    clear hs
    have t0 : (o == 13) = false := by simp; omega
    have t1 : (o == 15) = false := by simp; omega
    have t2 : (o == 43) = false := by simp; omega
    go_enter Tryz.func109, Tryz.ntmps109
    go_wp2
    go_ret
    exact ⟨rfl, rfl⟩
def longTakesS (o : Int) : Int := if o ≤ 21 then 0 else if o ≤ 22 then 8 else if o ≤ 23 then 8 else if o ≤ 25 then 0 else if o ≤ 26 then 9 else if o ≤ 27 then 9 else 0
set_option maxHeartbeats 2000000 in
theorem longTakes_c (o : Int) (w : World) : Calls Tryz.prog 111 #[.int .i64 o] w fun e w' => e = .returned (.int .i64 (longTakesS o)) ∧ w' = w := by
  rcases (show (o ≤ 21) ∨ (o = 22) ∨ (o = 23) ∨ (24 ≤ o ∧ o ≤ 25) ∨ (o = 26) ∨ (o = 27) ∨ (28 ≤ o) by omega) with h | h | h | h | h | h | h
  · have hs : longTakesS o = 0 := by unfold longTakesS; rw [if_pos (by omega)]
    rw [hs]
    clear hs
    have t0 : (o == 22) = false := by simp; omega
    have t1 : (o == 23) = false := by simp; omega
    have t2 : (o == 26) = false := by simp; omega
    have t3 : (o == 27) = false := by simp; omega
    go_enter Tryz.func111, Tryz.ntmps111
    go_wp2
    go_ret
    exact ⟨rfl, rfl⟩
  · have hs : longTakesS o = 8 := by unfold longTakesS; rw [if_neg (by omega)]; rw [if_pos (by omega)]
    rw [hs]
    clear hs
    subst h
    go_enter Tryz.func111, Tryz.ntmps111
    go_wp2
    go_ret
    exact ⟨rfl, rfl⟩
  · have hs : longTakesS o = 8 := by unfold longTakesS; rw [if_neg (by omega)]; rw [if_neg (by omega)]; rw [if_pos (by omega)]
    rw [hs]
    clear hs
    subst h
    go_enter Tryz.func111, Tryz.ntmps111
    go_wp2
    go_ret
    exact ⟨rfl, rfl⟩
  · have hs : longTakesS o = 0 := by unfold longTakesS; rw [if_neg (by omega)]; rw [if_neg (by omega)]; rw [if_neg (by omega)]; rw [if_pos (by omega)]
    rw [hs]
    clear hs
    have t0 : (o == 22) = false := by simp; omega
    have t1 : (o == 23) = false := by simp; omega
    have t2 : (o == 26) = false := by simp; omega
    have t3 : (o == 27) = false := by simp; omega
    go_enter Tryz.func111, Tryz.ntmps111
    go_wp2
    go_ret
    exact ⟨rfl, rfl⟩
  · have hs : longTakesS o = 9 := by unfold longTakesS; rw [if_neg (by omega)]; rw [if_neg (by omega)]; rw [if_neg (by omega)]; rw [if_neg (by omega)]; rw [if_pos (by omega)]
    rw [hs]
    clear hs
    subst h
    go_enter Tryz.func111, Tryz.ntmps111
    go_wp2
    go_ret
    exact ⟨rfl, rfl⟩
  · have hs : longTakesS o = 9 := by unfold longTakesS; rw [if_neg (by omega)]; rw [if_neg (by omega)]; rw [if_neg (by omega)]; rw [if_neg (by omega)]; rw [if_neg (by omega)]; rw [if_pos (by omega)]
    rw [hs]
    clear hs
    subst h
    go_enter Tryz.func111, Tryz.ntmps111
    go_wp2
    go_ret
    exact ⟨rfl, rfl⟩
  · have hs : longTakesS o = 0 := by unfold longTakesS; rw [if_neg (by omega)]; rw [if_neg (by omega)]; rw [if_neg (by omega)]; rw [if_neg (by omega)]; rw [if_neg (by omega)]; rw [if_neg (by omega)]
    rw [hs]
    clear hs
    have t0 : (o == 22) = false := by simp; omega
    have t1 : (o == 23) = false := by simp; omega
    have t2 : (o == 26) = false := by simp; omega
    have t3 : (o == 27) = false := by simp; omega
    go_enter Tryz.func111, Tryz.ntmps111
    go_wp2
    go_ret
    exact ⟨rfl, rfl⟩
def unaryTakesS (o : Int) : Int := if o ≤ 29 then 4 else if o ≤ 30 then 1 else if o ≤ 31 then 2 else if o ≤ 32 then 2 else if o ≤ 33 then 3 else 4
set_option maxHeartbeats 2000000 in
theorem unaryTakes_c (o : Int) (w : World) : Calls Tryz.prog 112 #[.int .i64 o] w fun e w' => e = .returned (.int .i64 (unaryTakesS o)) ∧ w' = w := by
  rcases (show (o ≤ 29) ∨ (o = 30) ∨ (o = 31) ∨ (o = 32) ∨ (o = 33) ∨ (34 ≤ o) by omega) with h | h | h | h | h | h
  · have hs : unaryTakesS o = 4 := by unfold unaryTakesS; rw [if_pos (by omega)]
    rw [hs]
    clear hs
    have t0 : (o == 30) = false := by simp; omega
    have t1 : (o == 33) = false := by simp; omega
    have t2 : (o == 31) = false := by simp; omega
    have t3 : (o == 32) = false := by simp; omega
    go_enter Tryz.func112, Tryz.ntmps112
    go_wp2
    go_ret
    exact ⟨rfl, rfl⟩
  · have hs : unaryTakesS o = 1 := by unfold unaryTakesS; rw [if_neg (by omega)]; rw [if_pos (by omega)]
    rw [hs]
    clear hs
    subst h
    go_enter Tryz.func112, Tryz.ntmps112
    go_wp2
    go_ret
    exact ⟨rfl, rfl⟩
  · have hs : unaryTakesS o = 2 := by unfold unaryTakesS; rw [if_neg (by omega)]; rw [if_neg (by omega)]; rw [if_pos (by omega)]
    rw [hs]
    clear hs
    subst h
    go_enter Tryz.func112, Tryz.ntmps112
    go_wp2
    go_ret
    exact ⟨rfl, rfl⟩
  · have hs : unaryTakesS o = 2 := by unfold unaryTakesS; rw [if_neg (by omega)]; rw [if_neg (by omega)]; rw [if_neg (by omega)]; rw [if_pos (by omega)]
    rw [hs]
    clear hs
    subst h
    go_enter Tryz.func112, Tryz.ntmps112
    go_wp2
    go_ret
    exact ⟨rfl, rfl⟩
  · have hs : unaryTakesS o = 3 := by unfold unaryTakesS; rw [if_neg (by omega)]; rw [if_neg (by omega)]; rw [if_neg (by omega)]; rw [if_neg (by omega)]; rw [if_pos (by omega)]
    rw [hs]
    clear hs
    subst h
    go_enter Tryz.func112, Tryz.ntmps112
    go_wp2
    go_ret
    exact ⟨rfl, rfl⟩
  · have hs : unaryTakesS o = 4 := by unfold unaryTakesS; rw [if_neg (by omega)]; rw [if_neg (by omega)]; rw [if_neg (by omega)]; rw [if_neg (by omega)]; rw [if_neg (by omega)]
    rw [hs]
    clear hs
    have t0 : (o == 30) = false := by simp; omega
    have t1 : (o == 33) = false := by simp; omega
    have t2 : (o == 31) = false := by simp; omega
    have t3 : (o == 32) = false := by simp; omega
    go_enter Tryz.func112, Tryz.ntmps112
    go_wp2
    go_ret
    exact ⟨rfl, rfl⟩
def restTakesS (o : Int) : Int := if o ≤ 55 then 0 else if o ≤ 56 then 4 else if o ≤ 57 then 4 else if o ≤ 58 then 2 else if o ≤ 59 then 2 else if o ≤ 61 then 0 else if o ≤ 62 then 32 else 0
set_option maxHeartbeats 2000000 in
theorem restTakes_c (o : Int) (w : World) : Calls Tryz.prog 113 #[.int .i64 o] w fun e w' => e = .returned (.int .i64 (restTakesS o)) ∧ w' = w := by
  rcases (show (o ≤ 55) ∨ (o = 56) ∨ (o = 57) ∨ (o = 58) ∨ (o = 59) ∨ (60 ≤ o ∧ o ≤ 61) ∨ (o = 62) ∨ (63 ≤ o) by omega) with h | h | h | h | h | h | h | h
  · have hs : restTakesS o = 0 := by unfold restTakesS; rw [if_pos (by omega)]
    rw [hs]
    clear hs
    have t0 : (o == 56) = false := by simp; omega
    have t1 : (o == 57) = false := by simp; omega
    have t2 : (o == 58) = false := by simp; omega
    have t3 : (o == 59) = false := by simp; omega
    have t4 : (o == 62) = false := by simp; omega
    go_enter Tryz.func113, Tryz.ntmps113
    go_wp2
    go_ret
    exact ⟨rfl, rfl⟩
  · have hs : restTakesS o = 4 := by unfold restTakesS; rw [if_neg (by omega)]; rw [if_pos (by omega)]
    rw [hs]
    clear hs
    subst h
    go_enter Tryz.func113, Tryz.ntmps113
    go_wp2
    go_ret
    exact ⟨rfl, rfl⟩
  · have hs : restTakesS o = 4 := by unfold restTakesS; rw [if_neg (by omega)]; rw [if_neg (by omega)]; rw [if_pos (by omega)]
    rw [hs]
    clear hs
    subst h
    go_enter Tryz.func113, Tryz.ntmps113
    go_wp2
    go_ret
    exact ⟨rfl, rfl⟩
  · have hs : restTakesS o = 2 := by unfold restTakesS; rw [if_neg (by omega)]; rw [if_neg (by omega)]; rw [if_neg (by omega)]; rw [if_pos (by omega)]
    rw [hs]
    clear hs
    subst h
    go_enter Tryz.func113, Tryz.ntmps113
    go_wp2
    go_ret
    exact ⟨rfl, rfl⟩
  · have hs : restTakesS o = 2 := by unfold restTakesS; rw [if_neg (by omega)]; rw [if_neg (by omega)]; rw [if_neg (by omega)]; rw [if_neg (by omega)]; rw [if_pos (by omega)]
    rw [hs]
    clear hs
    subst h
    go_enter Tryz.func113, Tryz.ntmps113
    go_wp2
    go_ret
    exact ⟨rfl, rfl⟩
  · have hs : restTakesS o = 0 := by unfold restTakesS; rw [if_neg (by omega)]; rw [if_neg (by omega)]; rw [if_neg (by omega)]; rw [if_neg (by omega)]; rw [if_neg (by omega)]; rw [if_pos (by omega)]
    rw [hs]
    clear hs
    have t0 : (o == 56) = false := by simp; omega
    have t1 : (o == 57) = false := by simp; omega
    have t2 : (o == 58) = false := by simp; omega
    have t3 : (o == 59) = false := by simp; omega
    have t4 : (o == 62) = false := by simp; omega
    go_enter Tryz.func113, Tryz.ntmps113
    go_wp2
    go_ret
    exact ⟨rfl, rfl⟩
  · have hs : restTakesS o = 32 := by unfold restTakesS; rw [if_neg (by omega)]; rw [if_neg (by omega)]; rw [if_neg (by omega)]; rw [if_neg (by omega)]; rw [if_neg (by omega)]; rw [if_neg (by omega)]; rw [if_pos (by omega)]
    rw [hs]
    clear hs
    subst h
    go_enter Tryz.func113, Tryz.ntmps113
    go_wp2
    go_ret
    exact ⟨rfl, rfl⟩
  · have hs : restTakesS o = 0 := by unfold restTakesS; rw [if_neg (by omega)]; rw [if_neg (by omega)]; rw [if_neg (by omega)]; rw [if_neg (by omega)]; rw [if_neg (by omega)]; rw [if_neg (by omega)]; rw [if_neg (by omega)]
    rw [hs]
    clear hs
    have t0 : (o == 56) = false := by simp; omega
    have t1 : (o == 57) = false := by simp; omega
    have t2 : (o == 58) = false := by simp; omega
    have t3 : (o == 59) = false := by simp; omega
    have t4 : (o == 62) = false := by simp; omega
    go_enter Tryz.func113, Tryz.ntmps113
    go_wp2
    go_ret
    exact ⟨rfl, rfl⟩
def restGivesS (o : Int) : Int := if o ≤ 53 then 0 else if o ≤ 54 then 128 else if o ≤ 55 then 192 else if o ≤ 56 then 128 else if o ≤ 57 then 192 else if o ≤ 58 then 128 else if o ≤ 59 then 128 else if o ≤ 61 then 0 else if o ≤ 62 then 32 else 0
set_option maxHeartbeats 2000000 in
theorem restGives_c (o : Int) (w : World) : Calls Tryz.prog 108 #[.int .i64 o] w fun e w' => e = .returned (.int .i64 (restGivesS o)) ∧ w' = w := by
  rcases (show (o ≤ 53) ∨ (o = 54) ∨ (o = 55) ∨ (o = 56) ∨ (o = 57) ∨ (o = 58) ∨ (o = 59) ∨ (60 ≤ o ∧ o ≤ 61) ∨ (o = 62) ∨ (63 ≤ o) by omega) with h | h | h | h | h | h | h | h | h | h
  · have hs : restGivesS o = 0 := by unfold restGivesS; rw [if_pos (by omega)]
    rw [hs]
    clear hs
    have t0 : (o == 55) = false := by simp; omega
    have t1 : (o == 57) = false := by simp; omega
    have t2 : (o == 54) = false := by simp; omega
    have t3 : (o == 56) = false := by simp; omega
    have t4 : (o == 58) = false := by simp; omega
    have t5 : (o == 59) = false := by simp; omega
    have t6 : (o == 62) = false := by simp; omega
    go_enter Tryz.func108, Tryz.ntmps108
    go_wp2
    go_ret
    exact ⟨rfl, rfl⟩
  · have hs : restGivesS o = 128 := by unfold restGivesS; rw [if_neg (by omega)]; rw [if_pos (by omega)]
    rw [hs]
    clear hs
    subst h
    go_enter Tryz.func108, Tryz.ntmps108
    go_wp2
    go_ret
    exact ⟨rfl, rfl⟩
  · have hs : restGivesS o = 192 := by unfold restGivesS; rw [if_neg (by omega)]; rw [if_neg (by omega)]; rw [if_pos (by omega)]
    rw [hs]
    clear hs
    subst h
    go_enter Tryz.func108, Tryz.ntmps108
    go_wp2
    go_ret
    exact ⟨rfl, rfl⟩
  · have hs : restGivesS o = 128 := by unfold restGivesS; rw [if_neg (by omega)]; rw [if_neg (by omega)]; rw [if_neg (by omega)]; rw [if_pos (by omega)]
    rw [hs]
    clear hs
    subst h
    go_enter Tryz.func108, Tryz.ntmps108
    go_wp2
    go_ret
    exact ⟨rfl, rfl⟩
  · have hs : restGivesS o = 192 := by unfold restGivesS; rw [if_neg (by omega)]; rw [if_neg (by omega)]; rw [if_neg (by omega)]; rw [if_neg (by omega)]; rw [if_pos (by omega)]
    rw [hs]
    clear hs
    subst h
    go_enter Tryz.func108, Tryz.ntmps108
    go_wp2
    go_ret
    exact ⟨rfl, rfl⟩
  · have hs : restGivesS o = 128 := by unfold restGivesS; rw [if_neg (by omega)]; rw [if_neg (by omega)]; rw [if_neg (by omega)]; rw [if_neg (by omega)]; rw [if_neg (by omega)]; rw [if_pos (by omega)]
    rw [hs]
    clear hs
    subst h
    go_enter Tryz.func108, Tryz.ntmps108
    go_wp2
    go_ret
    exact ⟨rfl, rfl⟩
  · have hs : restGivesS o = 128 := by unfold restGivesS; rw [if_neg (by omega)]; rw [if_neg (by omega)]; rw [if_neg (by omega)]; rw [if_neg (by omega)]; rw [if_neg (by omega)]; rw [if_neg (by omega)]; rw [if_pos (by omega)]
    rw [hs]
    clear hs
    subst h
    go_enter Tryz.func108, Tryz.ntmps108
    go_wp2
    go_ret
    exact ⟨rfl, rfl⟩
  · have hs : restGivesS o = 0 := by unfold restGivesS; rw [if_neg (by omega)]; rw [if_neg (by omega)]; rw [if_neg (by omega)]; rw [if_neg (by omega)]; rw [if_neg (by omega)]; rw [if_neg (by omega)]; rw [if_neg (by omega)]; rw [if_pos (by omega)]
    rw [hs]
    clear hs
    have t0 : (o == 55) = false := by simp; omega
    have t1 : (o == 57) = false := by simp; omega
    have t2 : (o == 54) = false := by simp; omega
    have t3 : (o == 56) = false := by simp; omega
    have t4 : (o == 58) = false := by simp; omega
    have t5 : (o == 59) = false := by simp; omega
    have t6 : (o == 62) = false := by simp; omega
    go_enter Tryz.func108, Tryz.ntmps108
    go_wp2
    go_ret
    exact ⟨rfl, rfl⟩
  · have hs : restGivesS o = 32 := by unfold restGivesS; rw [if_neg (by omega)]; rw [if_neg (by omega)]; rw [if_neg (by omega)]; rw [if_neg (by omega)]; rw [if_neg (by omega)]; rw [if_neg (by omega)]; rw [if_neg (by omega)]; rw [if_neg (by omega)]; rw [if_pos (by omega)]
    rw [hs]
    clear hs
    subst h
    go_enter Tryz.func108, Tryz.ntmps108
    go_wp2
    go_ret
    exact ⟨rfl, rfl⟩
  · have hs : restGivesS o = 0 := by unfold restGivesS; rw [if_neg (by omega)]; rw [if_neg (by omega)]; rw [if_neg (by omega)]; rw [if_neg (by omega)]; rw [if_neg (by omega)]; rw [if_neg (by omega)]; rw [if_neg (by omega)]; rw [if_neg (by omega)]; rw [if_neg (by omega)]
    rw [hs]
    clear hs
    have t0 : (o == 55) = false := by simp; omega
    have t1 : (o == 57) = false := by simp; omega
    have t2 : (o == 54) = false := by simp; omega
    have t3 : (o == 56) = false := by simp; omega
    have t4 : (o == 58) = false := by simp; omega
    have t5 : (o == 59) = false := by simp; omega
    have t6 : (o == 62) = false := by simp; omega
    go_enter Tryz.func108, Tryz.ntmps108
    go_wp2
    go_ret
    exact ⟨rfl, rfl⟩
end Go.Proofs.YtplhblhopaheeaaGreatDoor
namespace Go.Proofs.YtplhblhopaheeaaGreatDoor
open Go.RowKit
set_option linter.unusedVariables false
set_option linter.unusedSimpArgs false

structure IV where
  op : Int
  wide : Bool
  s : Bool
  cond : Int
  d : Int
  n : Int
  m : Int
  a : Int
  imm : Int
  useImm : Bool
  sh : Int
  amt : Int
  list : Int
  back : Bool
  down : Bool
def IV.cellsA (i : IV) : Array Value := #[.int .i64 i.op, .bool i.wide, .bool i.s, .int .i64 i.cond, .int .i64 i.d, .int .i64 i.n, .int .i64 i.m, .int .i64 i.a, .int .u32 i.imm, .bool i.useImm, .int .i64 i.sh, .int .i64 i.amt, .int .i64 i.list, .bool i.back, .bool i.down]
def IV.val (i : IV) : Value := .agg #[.int .i64 i.op, .bool i.wide, .bool i.s, .int .i64 i.cond, .int .i64 i.d, .int .i64 i.n, .int .i64 i.m, .int .i64 i.a, .int .u32 i.imm, .bool i.useImm, .int .i64 i.sh, .int .i64 i.amt, .int .i64 i.list, .bool i.back, .bool i.down]
def secondS (i : IV) : Int := if i.useImm then 0 else 4
set_option maxHeartbeats 2000000 in
theorem second_c (i : IV) (w : World) : Calls Tryz.prog 110 #[i.val] w fun e w' => e = .returned (.int .i64 (secondS i)) ∧ w' = w.alloc (Obj.cells i.cellsA 28) := by
  obtain ⟨op, wide, s, cond, d, n, m, a, imm, useImm, sh, amt, list, back, down⟩ := i
  unfold IV.val IV.cellsA
  simp only [secondS]
  cases useImm <;>
  · go_enter Tryz.func110, Tryz.ntmps110
    go_wp2
    go_ret
    exact ⟨rfl, rfl⟩
set_option maxHeartbeats 2000000 in
theorem size_c (i : IV) (w : World) : Calls Tryz.prog 26 #[i.val] w fun e w' => e = .returned (.int .u32 (if i.wide then 4 else 2)) ∧ w' = w.alloc (Obj.cells i.cellsA 28) := by
  obtain ⟨op, wide, s, cond, d, n, m, a, imm, useImm, sh, amt, list, back, down⟩ := i
  unfold IV.val IV.cellsA
  simp only []
  cases wide <;>
  · go_enter Tryz.func26, Tryz.ntmps26
    go_wp2
    go_ret
    exact ⟨rfl, rfl⟩
def carriesS (i : IV) : Bool := if i.useImm then i.a == 1 else i.sh != 0
set_option maxHeartbeats 2000000 in
theorem carries_c (i : IV) (w : World) : Calls Tryz.prog 66 #[i.val] w fun e w' => e = .returned (.bool (carriesS i)) ∧ w' = w.alloc (Obj.cells i.cellsA 28) := by
  obtain ⟨op, wide, s, cond, d, n, m, a, imm, useImm, sh, amt, list, back, down⟩ := i
  unfold IV.val IV.cellsA
  simp only [carriesS]
  cases useImm <;>
  · go_enter Tryz.func66, Tryz.ntmps66
    go_wp2
    go_ret
    exact ⟨by first | rfl | simp, rfl⟩
def loadsI (o : Int) : Bool := decide (44 ≤ o ∧ o ≤ 48) || o == 52
def storesI (o : Int) : Bool := decide (49 ≤ o ∧ o ≤ 51) || o == 53
set_option maxHeartbeats 2000000 in
theorem loadsI_c (i : IV) (w : World) : Calls Tryz.prog 28 #[i.val] w fun e w' => e = .returned (.bool (loadsI i.op)) ∧ w' = w.alloc (Obj.cells i.cellsA 28) := by
  obtain ⟨o, wide, s, cond, d, n, m, a, imm, useImm, sh, amt, list, back, down⟩ := i
  unfold IV.val IV.cellsA
  simp only []
  rcases (show o < 44 ∨ (44 ≤ o ∧ o ≤ 48) ∨ (49 ≤ o ∧ o ≠ 52) ∨ o = 52 by omega) with h | h | h | h
  · have t0 : decide (44 ≤ o) = false := by simp; omega
    have t1 : (o == 52) = false := by simp; omega
    have hr : loadsI o = false := by simp [loadsI, t1]; omega
    rw [hr]
    go_enter Tryz.func28, Tryz.ntmps28
    go_wp2
    go_ret
    exact ⟨rfl, rfl⟩
  · have t0 : decide (44 ≤ o) = true := by simp; omega
    have t2 : decide (o ≤ 48) = true := by simp; omega
    have hr : loadsI o = true := by simp [loadsI]; omega
    rw [hr]
    go_enter Tryz.func28, Tryz.ntmps28
    go_wp2
    go_ret
    exact ⟨rfl, rfl⟩
  · have t0 : decide (44 ≤ o) = true := by simp; omega
    have t2 : decide (o ≤ 48) = false := by simp; omega
    have t1 : (o == 52) = false := by simp; omega
    have hr : loadsI o = false := by simp [loadsI, t1]; omega
    rw [hr]
    go_enter Tryz.func28, Tryz.ntmps28
    go_wp2
    go_ret
    exact ⟨rfl, rfl⟩
  · subst h
    have hr : loadsI 52 = true := by rfl
    rw [hr]
    go_enter Tryz.func28, Tryz.ntmps28
    go_wp2
    go_ret
    exact ⟨rfl, rfl⟩
end Go.Proofs.YtplhblhopaheeaaGreatDoor
namespace Go.Proofs.YtplhblhopaheeaaGreatDoor
open Go.ChangeShapes Go.WideShapes Go.ChangeAt Go.RowKit
set_option linter.unusedVariables false
set_option linter.unusedSimpArgs false

/-- Alike but for the blocks from lo up to hi. -/
structure Mid (lo hi : Nat) (w w' : World) : Prop where
  os : w'.os = w.os
  tape : w'.tape = w.tape
  output : w'.output = w.output
  size : w.heap.size ≤ w'.heap.size
  block : ∀ k, k < w.heap.size → (k < lo ∨ hi ≤ k) → w'.heap[k]? = w.heap[k]?
theorem Mid.refl (lo hi : Nat) (w : World) : Mid lo hi w w := ⟨rfl, rfl, rfl, Nat.le_refl _, fun _ _ _ => rfl⟩
theorem Mid.trans {lo hi : Nat} {a b c : World} (h : Mid lo hi a b) (k : Mid lo hi b c) : Mid lo hi a c :=
  ⟨k.os.trans h.os, k.tape.trans h.tape, k.output.trans h.output, Nat.le_trans h.size k.size, fun i hi hk => (k.block i (Nat.lt_of_lt_of_le hi h.size) hk).trans (h.block i hi hk)⟩
theorem Mid.below {lo hi : Nat} {w w' : World} (h : Mid lo hi w w') (hl : lo ≤ w.heap.size) : Below lo w w' :=
  ⟨h.os, h.tape, h.output, h.size, fun k hk => h.block k (Nat.lt_of_lt_of_le hk hl) (.inl hk)⟩
theorem Below.mid {w w' : World} (h : Below w.heap.size w w') (lo hi : Nat) : Mid lo hi w w' :=
  ⟨h.os, h.tape, h.output, h.size, fun k hk _ => h.block k hk⟩

inductive Cel where
  | iv (i : IV)
  | any (cs : List Value)
def IV.cellsL (i : IV) : List Value := [.int .i64 i.op, .bool i.wide, .bool i.s, .int .i64 i.cond, .int .i64 i.d, .int .i64 i.n, .int .i64 i.m, .int .i64 i.a, .int .u32 i.imm, .bool i.useImm, .int .i64 i.sh, .int .i64 i.amt, .int .i64 i.list, .bool i.back, .bool i.down]
def Cel.cells : Cel → List Value
  | .iv i => i.cellsL
  | .any cs => cs
def Cel.val (c : Cel) : Value := .agg c.cells.toArray
theorem iv_val (i : IV) : i.val = (Cel.iv i).val := rfl
/-! ### One block -/
def Blk (w : World) (b : Nat) (cs : List Value) : Prop := ∃ t, w.heap[b]? = some (.cells cs.toArray t (0, 0))
theorem Blk.lt {w : World} {b : Nat} {cs : List Value} (h : Blk w b cs) : b < w.heap.size := by
  obtain ⟨t, h⟩ := h
  exact (Array.getElem?_eq_some_iff.1 h).1
theorem Blk.kept {w w' : World} {b : Nat} {cs : List Value} (h : Blk w b cs) (hb : w'.heap[b]? = w.heap[b]?) : Blk w' b cs := by
  obtain ⟨t, h⟩ := h
  exact ⟨t, hb.trans h⟩
theorem Blk.cell {w : World} {b : Nat} {cs : List Value} (h : Blk w b cs) (j : Nat) : w.cell? ⟨b, j, none⟩ = cs[j]? := by
  obtain ⟨t, h⟩ := h
  rw [cell_of_row w b j _ t _ h]
  simp
theorem Blk.range {w : World} {b : Nat} {cs : List Value} (h : Blk w b cs) : w.rangeAt b 0 cs := fun j v hv => by
  rw [Nat.zero_add, h.cell]; exact hv
theorem Blk.frozen {w : World} {b : Nat} {cs : List Value} (h : Blk w b cs) (j : Nat) : w.frozen? ⟨b, j, none⟩ = false := by
  obtain ⟨t, h⟩ := h
  exact frozen_of_row w b j _ t h
theorem Blk.new (w : World) (cs : List Value) (t : TypeId) : Blk (w.alloc (.cells cs.toArray t)) w.heap.size cs := ⟨t, heap_alloc_new w _⟩
theorem Blk.set {w : World} {b : Nat} {cs : List Value} (h : Blk w b cs) (j : Nat) (v : Value) : Blk (w.setCell ⟨b, j, none⟩ v) b (cs.set j v) := by
  obtain ⟨t, h⟩ := h
  exact ⟨t, by rw [heap_setCell_same w b j _ t v h]; simp⟩

/-! ### All of them -/
structure Zn where
  Z : Nat → Prop
  J : World → Prop
  lo : Nat
  hi : Nat
structure Zn.ok (M : Zn) : Prop where
  st : ∀ w w', M.J w → w.heap.size ≤ w'.heap.size → (∀ k, M.Z k → k < w.heap.size → w'.heap[k]? = w.heap[k]?) → M.J w'
  zz : ∀ k, M.lo ≤ k → k < M.hi → M.Z k
def noZ : Zn := ⟨fun _ => False, fun _ => True, 0, 0⟩
theorem noZ_ok : noZ.ok := ⟨fun _ _ _ _ _ => trivial, fun k h1 h2 => by simp only [noZ] at h2; omega⟩
structure SH (M : Zn) (w0 w : World) (L : List (Nat × Cel)) : Prop where
  ok : M.ok
  inv : M.J w
  zb : ∀ k, M.Z k → k < w.heap.size
  mid : Mid M.lo M.hi w0 w
  blk : ∀ p ∈ L, Blk w p.1 p.2.cells
  out : ∀ p ∈ L, w0.heap.size ≤ p.1 ∧ ¬ M.Z p.1
  nd : ∀ (i j : Nat) (p q : Nat × Cel), L[i]? = some p → L[j]? = some q → p.1 = q.1 → i = j
theorem SH.start (w : World) : SH noZ w w [] := ⟨noZ_ok, trivial, fun k h => h.elim, Mid.refl _ _ _, fun p hp => (by cases hp), fun p hp => (by cases hp), fun i j p q h => (by simp at h)⟩
theorem SH.at {M : Zn} {w0 w : World} {L : List (Nat × Cel)} (S : SH M w0 w L) {i b : Nat} {c : Cel} (hL : L[i]? = some (b, c)) : Blk w b c.cells ∧ w0.heap.size ≤ b ∧ ¬ M.Z b :=
  ⟨S.blk _ (List.mem_of_getElem? hL), S.out _ (List.mem_of_getElem? hL)⟩
theorem SH.below {M : Zn} {w0 w w1 : World} {L : List (Nat × Cel)} (S : SH M w0 w L) (hb : Below w.heap.size w w1) : SH M w0 w1 L :=
  ⟨S.ok, S.ok.st w w1 S.inv hb.size (fun k _ hk => hb.block k hk), fun k hk => Nat.lt_of_lt_of_le (S.zb k hk) hb.size,
    S.mid.trans ⟨hb.os, hb.tape, hb.output, hb.size, fun k hk _ => hb.block k hk⟩, fun p hp => (S.blk p hp).kept (hb.block _ (S.blk p hp).lt), S.out, S.nd⟩
theorem SH.drew {M : Zn} {w0 w : World} {L : List (Nat × Cel)} (S : SH M w0 w L) : SH M w0 w.drew L := S.below (Below.refl _ _).drew
theorem SH.new {M : Zn} {w0 w : World} {L : List (Nat × Cel)} (S : SH M w0 w L) (c : Cel) (t : TypeId) : SH M w0 (w.alloc (.cells c.cells.toArray t)) ((w.heap.size, c) :: L) := by
  have S1 := S.below ((Below.refl w.heap.size w).alloc (Nat.le_refl _) (.cells c.cells.toArray t))
  refine ⟨S1.ok, S1.inv, S1.zb, S1.mid, fun p hp => ?_, fun p hp => ?_, ?_⟩
  · rcases List.mem_cons.1 hp with rfl | hp
    · exact Blk.new w _ t
    · exact S1.blk p hp
  · rcases List.mem_cons.1 hp with rfl | hp
    · exact ⟨S.mid.size, fun h => absurd (S.zb _ h) (Nat.lt_irrefl _)⟩
    · exact S1.out p hp
  · intro i j p q hi hj he
    have key : ∀ (m : Nat) (r : Nat × Cel), L[m]? = some r → r.1 < w.heap.size := fun m r hm => (S.blk r (List.mem_of_getElem? hm)).lt
    cases i with
    | zero =>
      cases j with
      | zero => rfl
      | succ j =>
        simp only [List.getElem?_cons_zero, Option.some.injEq, List.getElem?_cons_succ] at hi hj
        subst hi
        have := key j q hj
        simp only at he
        omega
    | succ i =>
      cases j with
      | zero =>
        simp only [List.getElem?_cons_zero, Option.some.injEq, List.getElem?_cons_succ] at hi hj
        subst hj
        have := key i p hi
        simp only at he
        omega
      | succ j =>
        simp only [List.getElem?_cons_succ] at hi hj
        rw [S.nd i j p q hi hj he]
/-- One block is written. -/
structure Upd (b : Nat) (w w1 : World) : Prop where
  os : w1.os = w.os
  tape : w1.tape = w.tape
  output : w1.output = w.output
  size : w1.heap.size = w.heap.size
  block : ∀ k, k ≠ b → w1.heap[k]? = w.heap[k]?
theorem Upd.setCell (w : World) (b j : Nat) (v : Value) : Upd b w (w.setCell ⟨b, j, none⟩ v) :=
  ⟨rfl, rfl, rfl, by simp [World.setCell], fun k hk => heap_setCell_other w ⟨b, j, none⟩ k v hk⟩
theorem Upd.setRow (w : World) (b : Nat) (cs : Array Value) : Upd b w (w.setRow b cs) :=
  ⟨rfl, rfl, rfl, by simp, fun k hk => setRow_other w b k _ hk⟩
theorem SH.upd {M : Zn} {w0 w w1 : World} {L : List (Nat × Cel)} (S : SH M w0 w L) {i b : Nat} {c : Cel} (c' : Cel) (hL : L[i]? = some (b, c)) (hu : Upd b w w1) (hb : Blk w1 b c'.cells) : SH M w0 w1 (L.set i (b, c')) := by
  obtain ⟨h1, h2, h3⟩ := S.at hL
  have hi' := (List.getElem?_eq_some_iff.1 hL).1
  have key : ∀ (j : Nat) (p : Nat × Cel), (L.set i (b, c'))[j]? = some p → (j = i ∧ p = (b, c')) ∨ (j ≠ i ∧ L[j]? = some p) := by
    intro j p hj
    rw [List.getElem?_set] at hj
    split at hj
    · rename_i h
      subst h
      simp only [hi', if_true, Option.some.injEq] at hj
      exact .inl ⟨rfl, hj.symm⟩
    · rename_i h
      exact .inr ⟨fun e => h e.symm, hj⟩
  refine ⟨S.ok, S.ok.st w w1 S.inv (by rw [hu.size]; exact Nat.le_refl _) (fun k hk _ => hu.block k (fun e => h3 (e ▸ hk))), fun k hk => by rw [hu.size]; exact S.zb k hk,
    ⟨hu.os.trans S.mid.os, hu.tape.trans S.mid.tape, hu.output.trans S.mid.output, by rw [hu.size]; exact S.mid.size, fun k hk hk2 => (hu.block k (by omega)).trans (S.mid.block k hk hk2)⟩, fun p hp => ?_, fun p hp => ?_, ?_⟩
  · obtain ⟨j, hj⟩ := List.getElem?_of_mem hp
    rcases key j p hj with ⟨_, rfl⟩ | ⟨hne, hj⟩
    · exact hb
    · refine (S.blk p (List.mem_of_getElem? hj)).kept (hu.block _ fun e => hne (S.nd j i p (b, c) hj hL e))
  · obtain ⟨j, hj⟩ := List.getElem?_of_mem hp
    rcases key j p hj with ⟨_, rfl⟩ | ⟨hne, hj⟩
    · exact ⟨h2, h3⟩
    · exact S.out p (List.mem_of_getElem? hj)
  · intro j m p q hj hm he
    rcases key j p hj with ⟨e1, rfl⟩ | ⟨hne, hj'⟩ <;> rcases key m q hm with ⟨e2, rfl⟩ | ⟨hne', hm'⟩
    · rw [e1, e2]
    · exact absurd (S.nd _ _ _ _ hL hm' he).symm hne'
    · exact absurd (S.nd _ _ _ _ hj' hL he) hne
    · exact S.nd _ _ _ _ hj' hm' he
/-- What is told of the memory turns, and what lies elsewhere stays. -/
theorem SH.turn {M M' : Zn} {w0 w w1 : World} {L : List (Nat × Cel)} (S : SH M w0 w L) (ok : M'.ok) (inv : M'.J w1) (zb : ∀ k, M'.Z k → k < w1.heap.size) (mid : Mid M'.lo M'.hi w0 w1)
    (hk : ∀ p ∈ L, w1.heap[p.1]? = w.heap[p.1]?) (hz : ∀ p ∈ L, ¬ M'.Z p.1) : SH M' w0 w1 L :=
  ⟨ok, inv, zb, mid, fun p hp => (S.blk p hp).kept (hk p hp), fun p hp => ⟨(S.out p hp).1, hz p hp⟩, S.nd⟩
/-- Some are forgotten. -/
theorem SH.fewer {M : Zn} {w0 w : World} {L : List (Nat × Cel)} (S : SH M w0 w L) (k : Nat) : SH M w0 w (L.drop k) :=
  ⟨S.ok, S.inv, S.zb, S.mid, fun p hp => S.blk p (List.mem_of_mem_drop hp), fun p hp => S.out p (List.mem_of_mem_drop hp), fun i j p q hi hj he => by
    rw [List.getElem?_drop] at hi hj
    have := S.nd _ _ p q hi hj he
    omega⟩
theorem SH.low {w0 w : World} {L : List (Nat × Cel)} (S : SH noZ w0 w L) : Below w0.heap.size w0 w :=
  ⟨S.mid.os, S.mid.tape, S.mid.output, S.mid.size, fun k hk => S.mid.block k hk (.inr (Nat.zero_le _))⟩

/-! ### The operations -/
section
variable {P : Program} {M : Zn} {w0 w : World} {L : List (Nat × Cel)} {ops : Array Oper} {rest : List Oper} {o : Oper} {a : Act} {Q : Exit → Act → World → Prop}
theorem SH.box (S : SH M w0 w L) (hgd : o.guard = none) (ty : TypeId) (x : Operand) (ho : o.op = .box ty x) (c : Cel) (hx : a.eval x = c.val)
    (h : ∀ b w1, SH M w0 w1 ((b, c) :: L) → wpList P ops Q rest (a.put o.dst (.pointer (some ⟨b, 0, none⟩))) w1) : wpList P ops Q (o :: rest) a w :=
  wpList_plain hgd fun K hK => by
    unfold Oper.wp execOp
    have hr : (Instr.box ty c.val).run P w = .ok (.pointer (some ⟨w.heap.size, 0, none⟩)) (w.alloc (.cells c.cells.toArray ty)) := by
      simp [Instr.box, newVar, newRow, Cel.val, Value.cells]
    simp only [ho, hx, Sem.run_bind, hr, Result.andThen_ok, Sem.run_pure]
    exact hK _ _ (h _ _ (S.new c ty))
theorem SH.alloc (S : SH M w0 w L) (hgd : o.guard = none) (ty : TypeId) (ho : o.op = .alloc ty) (c : Cel) (hz : (P.info? ty).map (fun i => i.zero) = some (some c.val))
    (h : ∀ b w1, SH M w0 w1 ((b, c) :: L) → wpList P ops Q rest (a.put o.dst (.pointer (some ⟨b, 0, none⟩))) w1) : wpList P ops Q (o :: rest) a w :=
  wpList_plain hgd fun K hK => by
    unfold Oper.wp execOp
    have hr : (Instr.alloc ty true (.tuple #[])).run P w = .ok (.pointer (some ⟨w.heap.size, 0, none⟩)) (w.alloc (.cells c.cells.toArray ty)) := by
      cases hq : P.info? ty with
      | none => simp [hq] at hz
      | some i =>
        simp [hq] at hz
        simp [Instr.alloc, zeroValue, typeInfo, hq, hz, newVar, newRow, Cel.val, Value.cells]
    simp only [ho, Sem.run_bind, hr, Result.andThen_ok, Sem.run_pure]
    exact hK _ _ (h _ _ (S.new c ty))
theorem run_load1 (w : World) (b j : Nat) (ty : TypeId) (v : Value) (d : TypeDesc) (hc : w.cell? ⟨b, j, none⟩ = some v) (hu : P.underlying ty = some d) (hd : d.isRow = false) :
    (Instr.loadAt ty (.pointer (some ⟨b, j, none⟩))).run P w = .ok v w := by
  have hagg : (isAgg ty).run P w = .ok false w := by
    unfold isAgg
    rw [Sem.run_bind, run_underlying hu w]
    cases d <;> simp_all
  simp [Instr.loadAt, Instr.sureAddr, loadVar, Sem.run_bind, hagg, hc]
theorem SH.load1 (S : SH M w0 w L) (hw : Region.wanted o (yielded ops a.tmps) = true) (ty : TypeId) (x : Operand) (ho : o.op = .load ty x) (b j : Nat) (hx : a.eval x = .pointer (some ⟨b, j, none⟩)) (i : Nat) (c : Cel) (hL : L[i]? = some (b, c))
    (v : Value) (hv : c.cells[j]? = some v) (d : TypeDesc) (hu : P.underlying ty = some d) (hd : d.isRow = false)
    (h : wpList P ops Q rest (a.put o.dst v) w) : wpList P ops Q (o :: rest) a w :=
  wpList_step fun K hK => by
    rw [if_pos hw]
    unfold Oper.wp execOp
    simp only [ho, hx, Sem.run_bind, run_load1 w b j ty v d (((S.at hL).1.cell j).trans hv) hu hd, Result.andThen_ok, Sem.run_pure]
    exact hK _ _ h
theorem SH.loadAll (S : SH M w0 w L) (hw : Region.wanted o (yielded ops a.tmps) = true) (ty : TypeId) (x : Operand) (ho : o.op = .load ty x) (b : Nat) (hx : a.eval x = .pointer (some ⟨b, 0, none⟩)) (i : Nat) (c : Cel) (hL : L[i]? = some (b, c))
    (d : TypeDesc) (hu : P.underlying ty = some d) (hd : d.isRow = true) (hi : (P.info? ty).map (·.size) = some c.cells.length)
    (h : wpList P ops Q rest (a.put o.dst c.val) w) : wpList P ops Q (o :: rest) a w :=
  wpList_step fun K hK => by
    rw [if_pos hw]
    exact wp_load_mid ty x ho b 0 hx c.cells d (S.at hL).1.range hu hd hi (hK _ _ h)
theorem run_store1 (w : World) (b j : Nat) (ty : TypeId) (v u : Value) (hc : w.cell? ⟨b, j, none⟩ = some u) (hf : w.frozen? ⟨b, j, none⟩ = false) (h1 : v.oneCell' = true) (hi : (P.info? ty).map (·.size) = some 1) :
    (Instr.storeAt ty (.pointer (some ⟨b, j, none⟩)) v).run P w = .ok () (w.setCell ⟨b, j, none⟩ v) := by
  have z : ∀ k : Nat, k < [v].length → k = 0 := fun k hk => by simpa using hk
  have := run_storeCells_cells (P := P) b j [v] 0 w (fun k hk => by rw [z k hk]; simp [hc]) (fun k hk => by rw [z k hk]; simpa using hf) (fun x hx => by rw [List.mem_singleton.1 hx]; exact h1)
  cases hq : P.info? ty with
  | none => simp [hq] at hi
  | some i =>
    have hs : i.size = 1 := by simpa [hq] using hi
    have hv : v.cells = #[v] := by cases v <;> simp_all [Value.cells, Value.oneCell']
    simp only [Nat.add_zero, World.setCells] at this
    simp [Instr.storeAt, Instr.sureAddr, storeVar, sizeOf, typeInfo, hq, hs, hv, this]
theorem SH.store1 (S : SH M w0 w L) (hgd : o.guard = none) (ty : TypeId) (x y : Operand) (ho : o.op = .store ty x y) (b j : Nat) (v : Value) (hx : a.eval x = .pointer (some ⟨b, j, none⟩)) (hy : a.eval y = v) (i : Nat) (c : Cel) (hL : L[i]? = some (b, c))
    (h1 : v.oneCell' = true) (hj : j < c.cells.length) (c' : Cel) (hc : c.cells.set j v = c'.cells) (hi : (P.info? ty).map (·.size) = some 1)
    (h : ∀ w1, SH M w0 w1 (L.set i (b, c')) → wpList P ops Q rest (a.put o.dst undef) w1) : wpList P ops Q (o :: rest) a w :=
  wpList_plain hgd fun K hK => by
    unfold Oper.wp execOp
    obtain ⟨hb, _⟩ := S.at hL
    have hcell := (hb.cell j).trans (List.getElem?_eq_getElem hj)
    simp only [ho, hx, hy, Sem.run_bind, run_store1 w b j ty v _ hcell (hb.frozen j) h1 hi, Result.andThen_ok, Sem.run_pure]
    exact hK _ _ (h _ (S.upd c' hL (Upd.setCell w b j v) (by rw [← hc]; exact hb.set j v)))
theorem SH.storeAll (S : SH M w0 w L) (hgd : o.guard = none) (ty : TypeId) (x y : Operand) (ho : o.op = .store ty x y) (b : Nat) (c' : Cel) (hx : a.eval x = .pointer (some ⟨b, 0, none⟩)) (hy : a.eval y = c'.val) (i : Nat) (c : Cel) (hL : L[i]? = some (b, c))
    (hl : c.cells.length = c'.cells.length) (h1 : ∀ v ∈ c'.cells, v.oneCell' = true) (hi : (P.info? ty).map (·.size) = some c'.cells.length)
    (h : ∀ w1, SH M w0 w1 (L.set i (b, c')) → wpList P ops Q rest (a.put o.dst undef) w1) : wpList P ops Q (o :: rest) a w :=
  wpList_plain hgd fun K hK => by
    unfold Oper.wp execOp
    obtain ⟨⟨t, hb⟩, _⟩ := S.at hL
    have hr := run_storeVar_row (P := P) w b t ty c.cells.toArray c'.cells.toArray hb (by simpa using hi) (by simpa using hl) (all_oneCell_toArray h1)
    simp only [ho, hx, hy, Cel.val, Sem.run_bind, Instr.storeAt, Instr.sureAddr, Sem.run_pure, Result.andThen_ok, hr]
    exact hK _ _ (h _ (S.upd c' hL (Upd.setRow w b _) ⟨t, setRow_heap w b _ _ t _ hb⟩))
theorem SH.wpStoreAll (S : SH M w0 w L) (ty : TypeId) (x y : Operand) (ho : o.op = .store ty x y) (b : Nat) (c' : Cel) (hx : a.eval x = .pointer (some ⟨b, 0, none⟩)) (hy : a.eval y = c'.val) (i : Nat) (c : Cel) (hL : L[i]? = some (b, c))
    (hl : c.cells.length = c'.cells.length) (h1 : ∀ v ∈ c'.cells, v.oneCell' = true) (hi : (P.info? ty).map (·.size) = some c'.cells.length) {K : Act → World → Prop}
    (h : ∀ w1, SH M w0 w1 (L.set i (b, c')) → K (a.put o.dst undef) w1) : o.wp P a w K Q := by
  unfold Oper.wp execOp
  obtain ⟨⟨t, hb⟩, _⟩ := S.at hL
  have hr := run_storeVar_row (P := P) w b t ty c.cells.toArray c'.cells.toArray hb (by simpa using hi) (by simpa using hl) (all_oneCell_toArray h1)
  simp only [ho, hx, hy, Cel.val, Sem.run_bind, Instr.storeAt, Instr.sureAddr, Sem.run_pure, Result.andThen_ok, hr]
  exact h _ (S.upd c' hL (Upd.setRow w b _) ⟨t, setRow_heap w b _ _ t _ hb⟩)
theorem SH.wpStore1 (S : SH M w0 w L) (ty : TypeId) (x y : Operand) (ho : o.op = .store ty x y) (b j : Nat) (v : Value) (hx : a.eval x = .pointer (some ⟨b, j, none⟩)) (hy : a.eval y = v) (i : Nat) (c : Cel) (hL : L[i]? = some (b, c))
    (h1 : v.oneCell' = true) (hj : j < c.cells.length) (c' : Cel) (hc : c.cells.set j v = c'.cells) (hi : (P.info? ty).map (·.size) = some 1) {K : Act → World → Prop}
    (h : ∀ w1, SH M w0 w1 (L.set i (b, c')) → K (a.put o.dst undef) w1) : o.wp P a w K Q := by
  unfold Oper.wp execOp
  obtain ⟨hb, _⟩ := S.at hL
  have hcell := (hb.cell j).trans (List.getElem?_eq_getElem hj)
  simp only [ho, hx, hy, Sem.run_bind, run_store1 w b j ty v _ hcell (hb.frozen j) h1 hi, Result.andThen_ok, Sem.run_pure]
  exact h _ (S.upd c' hL (Upd.setCell w b j v) (by rw [← hc]; exact hb.set j v))
theorem SH.results (S : SH M w0 w L) {fn : Func} {p : Tmp} {ty : TypeId} (hfn : fn.results = #[.cell p ty]) (tmps : Array Value) (b : Nat) (hp : tmps.getD p undef = .pointer (some ⟨b, 0, none⟩)) (i : Nat) (c : Cel) (hL : L[i]? = some (b, c))
    (d : TypeDesc) (hu : P.underlying ty = some d) (hd : d.isRow = true) (hi : (P.info? ty).map (·.size) = some c.cells.length) : (results fn tmps).run P w = .ok c.val w := by
  obtain ⟨⟨t, hb⟩, _⟩ := S.at hL
  exact results_cell_row hfn tmps w b t _ _ d hp hb hu (by cases d <;> simp_all) (by simpa using hi)
end
section
variable {P : Program} {M : Zn} {w0 w : World} {L : List (Nat × Cel)} {ops : Array Oper} {rest : List Oper} {o : Oper} {a : Act} {Q : Exit → Act → World → Prop}
theorem SH.ld (S : SH M w0 w L) (ty : TypeId) (x : Operand) (ho : o.op = .load ty x) (b j : Nat) (hx : a.eval x = .pointer (some ⟨b, j, none⟩)) (i : Nat) (c : Cel) (hL : L[i]? = some (b, c))
    (v : Value) (hv : c.cells[j]? = some v) (d : TypeDesc) (hu : P.underlying ty = some d) (hd : d.isRow = false) (hw : Region.wanted o (yielded ops a.tmps) = true) (h : wpList P ops Q rest (a.put o.dst v) w) : wpList P ops Q (o :: rest) a w :=
  S.load1 hw ty x ho b j hx i c hL v hv d hu hd h
theorem SH.ldAll (S : SH M w0 w L) (ty : TypeId) (x : Operand) (ho : o.op = .load ty x) (b : Nat) (hx : a.eval x = .pointer (some ⟨b, 0, none⟩)) (i : Nat) (c : Cel) (hL : L[i]? = some (b, c))
    (d : TypeDesc) (hu : P.underlying ty = some d) (hd : d.isRow = true) (hi : (P.info? ty).map (·.size) = some c.cells.length) (hw : Region.wanted o (yielded ops a.tmps) = true) (h : wpList P ops Q rest (a.put o.dst c.val) w) : wpList P ops Q (o :: rest) a w :=
  S.loadAll hw ty x ho b hx i c hL d hu hd hi h
/-- The walk stands at an operation (asked with_reducible: cheap). -/
theorem wpl_is (h : wpList P ops Q (o :: rest) a w) : wpList P ops Q (o :: rest) a w := h
/-- An operation that yields a value, by the slot that it writes. -/
theorem wpl_dst (k : Nat) (hd : o.dst = some k) (v : Value) (hr : (execOp a.eval o).run P w = .ok (.value v) w) (hw : Region.wanted o (yielded ops a.tmps) = true) (h : wpList P ops Q rest (a.put o.dst v) w) : wpList P ops Q (o :: rest) a w :=
  wpList_step fun K hK => by
    rw [if_pos hw]
    unfold Oper.wp
    rw [hr]
    exact hK _ _ h
end
section
variable {P : Program} {w : World} {ops : Array Oper} {rest : List Oper} {a : Act} {Q : Exit → Act → World → Prop}
theorem wpl_isLoad {d : Option Nat} {ty : TypeId} {x : Operand} {t : TypeId} {p : String} {af : Array Edge} {g : Option (Nat × Bool)} (h : wpList P ops Q ({ dst := d, op := Op.load ty x, type := t, pos := p, after := af, guard := g } :: rest) a w) : wpList P ops Q ({ dst := d, op := Op.load ty x, type := t, pos := p, after := af, guard := g } :: rest) a w := h
theorem wpl_isStore {d : Option Nat} {ty : TypeId} {x y : Operand} {t : TypeId} {p : String} {af : Array Edge} {g : Option (Nat × Bool)} (h : wpList P ops Q ({ dst := d, op := Op.store ty x y, type := t, pos := p, after := af, guard := g } :: rest) a w) : wpList P ops Q ({ dst := d, op := Op.store ty x y, type := t, pos := p, after := af, guard := g } :: rest) a w := h
theorem wpl_isDst (k : Nat) {op : Op} {t : TypeId} {p : String} {af : Array Edge} {g : Option (Nat × Bool)} (h : wpList P ops Q ({ dst := some k, op := op, type := t, pos := p, after := af, guard := g } :: rest) a w) : wpList P ops Q ({ dst := some k, op := op, type := t, pos := p, after := af, guard := g } :: rest) a w := h
end

def IV.zero : IV := ⟨0, false, false, 0, 0, 0, 0, 0, 0, false, 0, 0, 0, false, false⟩
theorem zeroIV : (Tryz.prog.info? 28).map (fun i => i.zero) = some (some (Cel.iv IV.zero).val) := by kernel_rfl
theorem szIV (i : IV) : (Tryz.prog.info? 28).map (·.size) = some (Cel.iv i).cells.length := by
  show _ = some 15
  kernel_rfl
theorem one_iv (i : IV) : ∀ u ∈ (Cel.iv i).cells, u.oneCell' = true := by
  intro u hu
  simp only [Cel.cells, IV.cellsL, List.mem_cons, List.not_mem_nil, or_false] at hu
  rcases hu with rfl | rfl | rfl | rfl | rfl | rfl | rfl | rfl | rfl | rfl | rfl | rfl | rfl | rfl | rfl <;> rfl
end Go.Proofs.YtplhblhopaheeaaGreatDoor
namespace Go.Proofs.YtplhblhopaheeaaGreatDoor
open Go.RowKit
set_option linter.unusedVariables false
set_option linter.unusedSimpArgs false

section
variable {P : Program} {ops : Array Oper} {Q : Exit → Act → World → Prop} {md : Region.Mode} {S : World → Prop} {n : Nat}
/-- Whatever comes up next; S is owed behind each but the n-th. -/
def Upto (P : Program) (md : Region.Mode) (ops : Array Oper) (Q : Exit → Act → World → Prop) (S : World → Prop) (n : Nat) : Nat → Array Bool → Act → World → Prop
  | 0, l, a, w => Region.ready md ops l = [] ∧ Q .normal a w
  | k + 1, l, a, w => (Region.ready md ops l = [] → Q .normal a w) ∧ ∀ i, i ∈ Region.ready md ops l → wpOp P ops Q i (fun a' w' => (i ≠ n → S w') ∧ Upto P md ops Q S n k (l.setIfInBounds i true) a' w') a w
theorem Upto.any : ∀ (k : Nat) {l : Array Bool} {a : Act} {w : World}, Upto P md ops Q S n k l a w → wpAny P md ops Q k l a w
  | 0, _, _, _, h => h
  | k + 1, _, _, _, h => ⟨h.1, fun i hi => wpOp_mono (fun _ _ q => Upto.any k q.2) (h.2 i hi)⟩
/-- Who is not listed keeps those back that wait for it. -/
theorem waits {l : Array Bool} {i j : Nat} {oj : Oper} (hi : i ∈ Region.ready md ops l) (hj : j ∈ Region.ready md ops l) (ho : ops[j]? = some oj) : ∀ e ∈ oj.after, Region.binds md e = true → e.on ≠ i := by
  intro e he hb h
  obtain ⟨_, o, h1, h2⟩ := mem_ready.1 hj
  obtain ⟨h3, _⟩ := mem_ready.1 hi
  rw [ho] at h1
  cases h1
  have h4 := h2 e he hb
  rw [h] at h4
  by_cases hs : i < l.size
  · simp [hs] at h3 h4
    rw [h3] at h4
    cases h4
  · simp [Array.getElem?_eq_none (Nat.le_of_not_lt hs)] at h4
theorem Upto.first {i : Nat} {oi on : Oper} {v : Value} (hi : ops[i]? = some oi) (hn : ops[n]? = some on) (hw : ∃ e ∈ on.after, Region.binds md e = true ∧ e.on = i) (hne : i ≠ n)
    (hsel : ∀ (j : Nat) (o : Oper) cs b, ops[j]? = some o → o.op ≠ .select cs b) (hQ : ∀ c a w, Q (.panic c) (a.put oi.dst v) w → Q (.panic c) a w) :
    ∀ (k : Nat) (l : Array Bool) (a : Act) (w : World), (∀ j oj, ops[j]? = some oj → j ≠ i → l.getD j true = false → (∀ e ∈ oj.after, Region.binds md e = true → e.on ≠ i) → oi.apart ops oj = true) →
      i ∈ Region.ready md ops l → YieldsIf P ops S oi v a → S w → Upto P md ops Q S n k (l.setIfInBounds i true) (a.put oi.dst v) w → Upto P md ops Q S n (k + 1) l a w := by
  intro k
  induction k with
  | zero =>
    intro l a w hf hr hy hS H
    refine ⟨fun h => absurd (h ▸ hr) (by simp), fun j hj => ?_⟩
    by_cases hji : j = i
    · rw [hji]
      exact hy.wpOp hi hS ⟨fun _ => hS, H⟩
    · exact absurd (H.1 ▸ ready_mono hj hji) (by simp)
  | succ k ih =>
    intro l a w hf hr hy hS H
    refine ⟨fun h => absurd (h ▸ hr) (by simp), fun j hj => ?_⟩
    by_cases hji : j = i
    · rw [hji]
      exact hy.wpOp hi hS ⟨fun _ => hS, H⟩
    · obtain ⟨hun, oj, hoj, _⟩ := mem_ready.1 hj
      have hno := waits hr hj hoj
      have hjn : j ≠ n := by
        rintro rfl
        rw [hn] at hoj
        cases hoj
        obtain ⟨e, h1, h2, h3⟩ := hw
        exact hno e h1 h2 h3
      refine wpOp_mono (fun a' w' q => ?_) (wpOp_putIf hoj (hf j oj hoj hji hun hno) (fun cs b => hsel i oi cs b hi) (fun cs b => hsel j oj cs b hoj) hQ hy (H.2 j (ready_mono hj hji)))
      have hS' := q.2.1 hjn
      refine ⟨fun _ => hS', ih _ a' w' (fun m om hm hmi hmu hmn => hf m om hm hmi ?_ hmn) (ready_mono hr (Ne.symm hji)) q.1 hS' ?_⟩
      · by_cases hjm : j = m
        · rw [← hjm]; exact hun
        · rwa [getD_set_ne true hjm] at hmu
      · rw [Array.setIfInBounds_comm _ _ hji]
        exact q.2.2
/-- The n-th waits for the i-th. -/
def waitsB (md : Region.Mode) (ops : Array Oper) (n i : Nat) : Bool := match ops[n]? with
  | some o => o.after.any fun e => Region.binds md e && e.on == i
  | none => false
theorem Upto.take {i : Nat} {oi : Oper} {v : Value} {k : Nat} {l : Array Bool} {a : Act} {w : World} (hi : ops[i]? = some oi) (hwt : (waitsB md ops n i && i != n) = true)
    (hs : Region.noSelect ops = true) (hf : Region.free md ops l i = true) (hr : (Region.ready md ops l).contains i = true)
    (hQ : ∀ c a w, Q (.panic c) (a.put oi.dst v) w → Q (.panic c) a w) (hy : YieldsIf P ops S oi v a) (hS : S w)
    (h : Upto P md ops Q S n k (l.setIfInBounds i true) (a.put oi.dst v) w) : Upto P md ops Q S n (k + 1) l a w := by
  simp only [Bool.and_eq_true, bne_iff_ne, waitsB] at hwt
  obtain ⟨h1, h2⟩ := hwt
  cases hn : ops[n]? with
  | none => rw [hn] at h1; cases h1
  | some on =>
    rw [hn] at h1
    simp only [Array.any_eq_true', Bool.and_eq_true, beq_iff_eq] at h1
    exact Upto.first hi hn h1 h2 (Region.noSelect_spec hs) hQ k l a w (Region.free_spec hi hf) (by simpa using hr) hy hS h
theorem Upto.done {l : Array Bool} {a : Act} {w : World} (hr : Region.ready md ops l = []) (h : Q .normal a w) : ∀ k, Upto P md ops Q S n k l a w
  | 0 => ⟨hr, h⟩
  | _ + 1 => ⟨fun _ => h, fun i hi => by rw [hr] at hi; cases hi⟩
theorem Upto.start (n : Nat) {id : Nat} {a : Act} {w : World} (hm : P.follows .mixedOrders = true) (h : Upto P .any ops Q S n ops.size (Array.replicate ops.size false) a w.drew) : (Code.region id ops true).wp P Q a w :=
  wp_region_any hm (Upto.any _ h)
def Nexts (P : Program) (md : Region.Mode) (ops : Array Oper) (Q : Exit → Act → World → Prop) (S : World → Prop) (n k : Nat) (l : Array Bool) (a : Act) (w : World) (rs : List Nat) : Prop :=
  ∀ i ∈ rs, wpOp P ops Q i (fun a' w' => (i ≠ n → S w') ∧ Upto P md ops Q S n k (l.setIfInBounds i true) a' w') a w
theorem Nexts.nil {k : Nat} {l : Array Bool} {a : Act} {w : World} : Nexts P md ops Q S n k l a w [] := fun _ h => by cases h
theorem Nexts.cons {k : Nat} {l : Array Bool} {a : Act} {w : World} {i : Nat} {o : Oper} {rs : List Nat} (ho : ops[i]? = some o) (hin : i ≠ n)
    (h : ∀ K' : Act → World → Prop, Shut (∀ a w, S w → Upto P md ops Q S n k (l.setIfInBounds i true) a w → K' a w) → if Region.wanted o (yielded ops a.tmps) = true then Oper.wp P o a w K' Q else K' (a.put o.dst undef) w)
    (hs : Nexts P md ops Q S n k l a w rs) : Nexts P md ops Q S n k l a w (i :: rs) := fun j hj => by
  rcases List.mem_cons.1 hj with rfl | hj
  · exact wpOp_step ho (fun K' hK => h K' (fun a w hS hW => hK a w ⟨fun _ => hS, hW⟩))
  · exact hs j hj
/-- The n-th itself. -/
theorem Nexts.last {k : Nat} {l : Array Bool} {a : Act} {w : World} {o : Oper} (ho : ops[n]? = some o)
    (h : ∀ K' : Act → World → Prop, Shut (∀ a w, Upto P md ops Q S n k (l.setIfInBounds n true) a w → K' a w) → if Region.wanted o (yielded ops a.tmps) = true then Oper.wp P o a w K' Q else K' (a.put o.dst undef) w) :
    Nexts P md ops Q S n k l a w [n] := fun j hj => by
  have : j = n := by simpa using hj
  subst this
  exact wpOp_step ho (fun K' hK => h K' (fun a w hW => hK a w ⟨fun e => absurd rfl e, hW⟩))
theorem Upto.ready {rs : List Nat} {k : Nat} {l : Array Bool} {a : Act} {w : World} (hr : Region.ready md ops l = rs) (hne : rs ≠ []) (h : Nexts P md ops Q S n k l a w rs) : Upto P md ops Q S n (k + 1) l a w :=
  ⟨fun h0 => absurd (hr ▸ h0) hne, fun i hi => h i (hr ▸ hi)⟩
end

theorem y_cell {P : Program} {ops : Array Oper} {S : World → Prop} {o : Oper} {a : Act} (hw : Region.wanted o (yielded ops a.tmps) = true) (ty : TypeId) (x : Operand) (ho : o.op = .load ty x) (b j : Nat) (hx : a.eval x = .pointer (some ⟨b, j, none⟩))
    (v : Value) (hv : ∀ w, S w → w.cell? ⟨b, j, none⟩ = some v) (d : TypeDesc) (hu : P.underlying ty = some d) (hd : d.isRow = false) : YieldsIf P ops S o v a :=
  .inl ⟨hw, fun w hS => by
    have hc := hv w hS
    have hagg : (isAgg ty).run P w = .ok false w := by
      unfold isAgg
      rw [Sem.run_bind, run_underlying hu w]
      cases d <;> simp_all
    have hl : (Instr.loadAt ty (.pointer (some ⟨b, j, none⟩))).run P w = .ok v w := by
      simp [Instr.loadAt, Instr.sureAddr, loadVar, Sem.run_bind, hagg, hc]
    unfold execOp
    simp only [ho, hx, Sem.run_bind, hl, Result.andThen_ok, Sem.run_pure]⟩
theorem Below.cellAt {w w' : World} (h : Below w.heap.size w w') {b j : Nat} {v : Value} (hc : w.cell? ⟨b, j, none⟩ = some v) : w'.cell? ⟨b, j, none⟩ = some v :=
  (World.cell?_of_block (w := w) (a := ⟨b, j, none⟩) (h.block b (World.block_lt_of_cell? w _ hc))).trans hc
end Go.Proofs.YtplhblhopaheeaaGreatDoor
namespace Go.Proofs.YtplhblhopaheeaaGreatDoor
open Go.ChangeShapes Go.WideShapes Go.ChangeAt Go.RowKit
set_option linter.unusedVariables false
set_option linter.unusedSimpArgs false

abbrev zL : List Value := [.int .i64 0, .bool false, .bool false, .int .i64 0, .int .i64 0, .int .i64 0, .int .i64 0, .int .i64 0, .int .u32 0, .bool false, .int .i64 0, .int .i64 0, .int .i64 0, .bool false, .bool false]
theorem gi0 {α : Type} {x : α} {L : List α} : (x :: L)[0]? = some x := rfl
theorem gi1 {α : Type} {x a : α} {L : List α} : (a :: x :: L)[1]? = some x := rfl
theorem gi2 {α : Type} {x a b : α} {L : List α} : (a :: b :: x :: L)[2]? = some x := rfl
theorem gi3 {α : Type} {x a b c : α} {L : List α} : (a :: b :: c :: x :: L)[3]? = some x := rfl
theorem gi4 {α : Type} {x a b c d : α} {L : List α} : (a :: b :: c :: d :: x :: L)[4]? = some x := rfl
theorem gi5 {α : Type} {x a b c d e : α} {L : List α} : (a :: b :: c :: d :: e :: x :: L)[5]? = some x := rfl
theorem zI : (Tryz.prog.info? 28).map (fun i => i.zero) = some (some (Cel.any zL).val) := zeroIV
theorem sI {c : Cel} (h : c.cells.length = 15) : (Tryz.prog.info? 28).map (·.size) = some c.cells.length := by
  rw [h]
  exact szIV IV.zero
theorem s_int : (Tryz.prog.info? 3).map (·.size) = some 1 := by kernel_rfl
theorem s_u32 : (Tryz.prog.info? 26).map (·.size) = some 1 := by kernel_rfl
theorem s_bool : (Tryz.prog.info? 4).map (·.size) = some 1 := by kernel_rfl
section
variable {P : Program} {M : Zn} {w w0 : World} {L : List (Nat × Cel)} {ops : Array Oper} {rest : List Oper} {a : Act} {Q : Exit → Act → World → Prop} {d : Option Nat} {t : TypeId} {p : String} {af : Array Edge} {g : Option (Nat × Bool)}
theorem g_al (ty : TypeId) (h : wpList P ops Q (⟨d, .alloc ty, t, p, af, g⟩ :: rest) a w) : wpList P ops Q (⟨d, .alloc ty, t, p, af, g⟩ :: rest) a w := h
theorem g_bx (ty : TypeId) {x : Operand} (h : wpList P ops Q (⟨d, .box ty x, t, p, af, g⟩ :: rest) a w) : wpList P ops Q (⟨d, .box ty x, t, p, af, g⟩ :: rest) a w := h
theorem g_st (ty : TypeId) {x y : Operand} (h : wpList P ops Q (⟨d, .store ty x y, t, p, af, g⟩ :: rest) a w) : wpList P ops Q (⟨d, .store ty x y, t, p, af, g⟩ :: rest) a w := h
theorem g_ld (ty : TypeId) {x : Operand} (h : wpList P ops Q (⟨d, .load ty x, t, p, af, g⟩ :: rest) a w) : wpList P ops Q (⟨d, .load ty x, t, p, af, g⟩ :: rest) a w := h
theorem g_skip {o : Oper} (hw : Region.wanted o (yielded ops a.tmps) = false) (h : wpList P ops Q rest (a.put o.dst undef) w) : wpList P ops Q (o :: rest) a w :=
  wpList_step fun K hK => by
    rw [if_neg (by simp [hw])]
    exact hK _ _ h
theorem SH.gal {ty : TypeId} (S : SH M w0 w L) (hz : (P.info? ty).map (fun i => i.zero) = some (some (Cel.any zL).val)) (h : ∀ b w1, SH M w0 w1 ((b, Cel.any zL) :: L) → wpList P ops Q rest (a.put d (.pointer (some ⟨b, 0, none⟩))) w1) : wpList P ops Q (⟨d, .alloc ty, t, p, af, none⟩ :: rest) a w :=
  S.alloc rfl ty rfl _ hz h
theorem SH.gbx {ty : TypeId} {x : Operand} {cs : List Value} (S : SH M w0 w L) (hx : a.eval x = .agg cs.toArray) (h : ∀ b w1, SH M w0 w1 ((b, Cel.any cs) :: L) → wpList P ops Q rest (a.put d (.pointer (some ⟨b, 0, none⟩))) w1) : wpList P ops Q (⟨d, .box ty x, t, p, af, none⟩ :: rest) a w :=
  S.box rfl ty x rfl (Cel.any cs) hx h
theorem SH.gst {ty : TypeId} {x y : Operand} {b i : Nat} {c : Cel} {cs : List Value} (S : SH M w0 w L) (hx : a.eval x = .pointer (some ⟨b, 0, none⟩)) (hy : a.eval y = .agg cs.toArray) (hL : L[i]? = some (b, c)) (hl : c.cells.length = cs.length) (h1 : cs.all (fun v => v.oneCell') = true) (hi : (P.info? ty).map (·.size) = some (Cel.any cs).cells.length)
    (h : ∀ w1, SH M w0 w1 (L.set i (b, Cel.any cs)) → wpList P ops Q rest (a.put d undef) w1) : wpList P ops Q (⟨d, .store ty x y, t, p, af, none⟩ :: rest) a w :=
  S.storeAll rfl ty x y rfl b (Cel.any cs) hx hy i c hL hl (fun v hv => List.all_eq_true.1 h1 v hv) hi h
theorem SH.gs1 {ty : TypeId} {x y : Operand} {b j i : Nat} (v : Value) {c : Cel} {cs : List Value} (S : SH M w0 w L) (hi : (P.info? ty).map (·.size) = some 1) (hx : a.eval x = .pointer (some ⟨b, j, none⟩)) (hy : a.eval y = v) (h1 : v.oneCell' = true) (hL : L[i]? = some (b, c)) (hj : j < c.cells.length) (hc : c.cells.set j v = cs)
    (h : ∀ w1, SH M w0 w1 (L.set i (b, Cel.any cs)) → wpList P ops Q rest (a.put d undef) w1) : wpList P ops Q (⟨d, .store ty x y, t, p, af, none⟩ :: rest) a w :=
  S.store1 rfl ty x y rfl b j v hx hy i c hL h1 hj (Cel.any cs) hc hi h
theorem SH.gld {ty : TypeId} {x : Operand} {b j i : Nat} {c : Cel} {v : Value} {k : TypeDesc} (S : SH M w0 w L) (hu : P.underlying ty = some k) (hd : k.isRow = false) (hx : a.eval x = .pointer (some ⟨b, j, none⟩)) (hw : Region.wanted ⟨d, .load ty x, t, p, af, g⟩ (yielded ops a.tmps) = true) (hL : L[i]? = some (b, c)) (hv : c.cells[j]? = some v) (h : wpList P ops Q rest (a.put d v) w) : wpList P ops Q (⟨d, .load ty x, t, p, af, g⟩ :: rest) a w :=
  S.load1 hw ty x rfl b j hx i c hL v hv k hu hd h
theorem SH.gla {ty : TypeId} {x : Operand} {b i : Nat} {c : Cel} {k : TypeDesc} (S : SH M w0 w L) (hu : P.underlying ty = some k) (hd : k.isRow = true) (hx : a.eval x = .pointer (some ⟨b, 0, none⟩)) (hw : Region.wanted ⟨d, .load ty x, t, p, af, g⟩ (yielded ops a.tmps) = true) (hL : L[i]? = some (b, c)) (hi : (P.info? ty).map (·.size) = some c.cells.length) (h : wpList P ops Q rest (a.put d c.val) w) : wpList P ops Q (⟨d, .load ty x, t, p, af, g⟩ :: rest) a w :=
  S.loadAll hw ty x rfl b hx i c hL k hu hd hi h
theorem SH.gsl {ty n : Nat} {xs : Array (Nat × Operand)} (cs : List Value) (e : TypeId) (S : SH M w0 w L) (hr : (execOp a.eval ⟨d, .buildSlice ty n xs, t, p, af, none⟩).run P w = .ok (.value (.slice (some ⟨w.heap.size, 0, none⟩) n n)) (w.alloc (.cells cs.toArray e)))
    (h : ∀ g w1, SH M w0 w1 ((g, Cel.any cs) :: L) → wpList P ops Q rest (a.put d (.slice (some ⟨g, 0, none⟩) n n)) w1) : wpList P ops Q (⟨d, .buildSlice ty n xs, t, p, af, none⟩ :: rest) a w :=
  wpList_plain rfl fun K hK => by
    unfold Oper.wp
    rw [hr]
    exact hK _ _ (h _ _ (S.new (Cel.any cs) e))
theorem SH.gR {ty : TypeId} {fn : Func} {q : Tmp} {tmps : Array Value} {b i : Nat} {c : Cel} {k : TypeDesc} (S : SH M w0 w L) (hu : P.underlying ty = some k) (hd : k.isRow = true) (hfn : fn.results = #[.cell q ty]) (hp : tmps.getD q undef = .pointer (some ⟨b, 0, none⟩)) (hL : L[i]? = some (b, c)) (hi : (P.info? ty).map (·.size) = some c.cells.length) : (Go.results fn tmps).run P w = .ok c.val w :=
  S.results hfn tmps b hp i c hL k hu hd hi
theorem SH.gR2 {ty : TypeId} {fn : Func} {q r : Tmp} {tmps : Array Value} {b i : Nat} {c : Cel} {k : TypeDesc} (S : SH M w0 w L) (hu : P.underlying ty = some k) (hd : k.isRow = true) (hfn : fn.results = #[.cell q ty, .tmp r]) (hp : tmps.getD q undef = .pointer (some ⟨b, 0, none⟩)) (hL : L[i]? = some (b, c)) (hi : (P.info? ty).map (·.size) = some c.cells.length) : (Go.results fn tmps).run P w = .ok (.tuple #[c.val, tmps.getD r undef]) w := by
  obtain ⟨⟨t, hb⟩, _⟩ := S.at hL
  have hp' : tmps[q]?.getD undef = .pointer (some ⟨b, 0, none⟩) := by simpa using hp
  simp [Go.results, hfn, hp', asAddr, Cel.val, run_loadVar_row w b t ty _ _ k hb hu (by cases k <;> simp_all) (by simpa using hi)]
end
end Go.Proofs.YtplhblhopaheeaaGreatDoor
