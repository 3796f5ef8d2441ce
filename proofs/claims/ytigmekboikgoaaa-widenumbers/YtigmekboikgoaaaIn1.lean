/- Stage 7: what hangs on an instruction's number alone. -/
import Derived.Test.YtigmekboikgoaaaProg
import Derived.WalkKit
import Derived.Tactics2
namespace Go.Proofs.Ytigmekboikgoaaa
open Go.RowKit
set_option linter.unusedVariables false
set_option linter.unusedSimpArgs false

def classS (o : Int) : Int := if o ≤ 0 then 0 else if o ≤ 20 then 1 else if o ≤ 29 then 2 else if o ≤ 42 then 3 else if o ≤ 43 then 1 else if o ≤ 51 then 4 else if o ≤ 53 then 5 else if o ≤ 59 then 6 else if o ≤ 65 then 7 else 0
set_option maxHeartbeats 2000000 in
theorem class_c (o : Int) (w : World) : Calls Try.prog 35 #[.int .i64 o] w fun e w' => e = .returned (.int .i64 (classS o)) ∧ w' = w := by
  rcases (show (o ≤ 0) ∨ (1 ≤ o ∧ o ≤ 20) ∨ (21 ≤ o ∧ o ≤ 29) ∨ (30 ≤ o ∧ o ≤ 42) ∨ (o = 43) ∨ (44 ≤ o ∧ o ≤ 51) ∨ (52 ≤ o ∧ o ≤ 53) ∨ (54 ≤ o ∧ o ≤ 59) ∨ (60 ≤ o ∧ o ≤ 65) ∨ (66 ≤ o) by omega) with h | h | h | h | h | h | h | h | h | h
  · have hs : classS o = 0 := by unfold classS; rw [if_pos (by omega)]
    rw [hs]
    clear hs
    have t0 : decide (o < 1) = true := by simp; omega
    have t1 : decide (66 ≤ o) = false := by simp; omega
    have t2 : decide (o ≤ 20) = true := by simp; omega
    have t3 : (o == 43) = false := by simp; omega
    have t4 : decide (o ≤ 29) = true := by simp; omega
    have t5 : decide (o ≤ 42) = true := by simp; omega
    have t6 : decide (o ≤ 51) = true := by simp; omega
    have t7 : decide (o ≤ 53) = true := by simp; omega
    have t8 : decide (o ≤ 59) = true := by simp; omega
    go_enter Try.func35, Try.ntmps35
    go_wp2
    go_ret
    exact ⟨rfl, rfl⟩
  · have hs : classS o = 1 := by unfold classS; rw [if_neg (by omega)]; rw [if_pos (by omega)]
    rw [hs]
    clear hs
    have t0 : decide (o < 1) = false := by simp; omega
    have t1 : decide (66 ≤ o) = false := by simp; omega
    have t2 : decide (o ≤ 20) = true := by simp; omega
    have t3 : (o == 43) = false := by simp; omega
    have t4 : decide (o ≤ 29) = true := by simp; omega
    have t5 : decide (o ≤ 42) = true := by simp; omega
    have t6 : decide (o ≤ 51) = true := by simp; omega
    have t7 : decide (o ≤ 53) = true := by simp; omega
    have t8 : decide (o ≤ 59) = true := by simp; omega
    go_enter Try.func35, Try.ntmps35
    go_wp2
    go_ret
    exact ⟨rfl, rfl⟩
  · have hs : classS o = 2 := by unfold classS; rw [if_neg (by omega)]; rw [if_neg (by omega)]; rw [if_pos (by omega)]
    rw [hs]
    clear hs
    have t0 : decide (o < 1) = false := by simp; omega
    have t1 : decide (66 ≤ o) = false := by simp; omega
    have t2 : decide (o ≤ 20) = false := by simp; omega
    have t3 : (o == 43) = false := by simp; omega
    have t4 : decide (o ≤ 29) = true := by simp; omega
    have t5 : decide (o ≤ 42) = true := by simp; omega
    have t6 : decide (o ≤ 51) = true := by simp; omega
    have t7 : decide (o ≤ 53) = true := by simp; omega
    have t8 : decide (o ≤ 59) = true := by simp; omega
    go_enter Try.func35, Try.ntmps35
    go_wp2
    go_ret
    exact ⟨rfl, rfl⟩
  · have hs : classS o = 3 := by unfold classS; rw [if_neg (by omega)]; rw [if_neg (by omega)]; rw [if_neg (by omega)]; rw [if_pos (by omega)]
    rw [hs]
    clear hs
    have t0 : decide (o < 1) = false := by simp; omega
    have t1 : decide (66 ≤ o) = false := by simp; omega
    have t2 : decide (o ≤ 20) = false := by simp; omega
    have t3 : (o == 43) = false := by simp; omega
    have t4 : decide (o ≤ 29) = false := by simp; omega
    have t5 : decide (o ≤ 42) = true := by simp; omega
    have t6 : decide (o ≤ 51) = true := by simp; omega
    have t7 : decide (o ≤ 53) = true := by simp; omega
    have t8 : decide (o ≤ 59) = true := by simp; omega
    go_enter Try.func35, Try.ntmps35
    go_wp2
    go_ret
    exact ⟨rfl, rfl⟩
  · have hs : classS o = 1 := by unfold classS; rw [if_neg (by omega)]; rw [if_neg (by omega)]; rw [if_neg (by omega)]; rw [if_neg (by omega)]; rw [if_pos (by omega)]
    rw [hs]
    clear hs
    subst h
    go_enter Try.func35, Try.ntmps35
    go_wp2
    go_ret
    exact ⟨rfl, rfl⟩
  · have hs : classS o = 4 := by unfold classS; rw [if_neg (by omega)]; rw [if_neg (by omega)]; rw [if_neg (by omega)]; rw [if_neg (by omega)]; rw [if_neg (by omega)]; rw [if_pos (by omega)]
    rw [hs]
    clear hs
    have t0 : decide (o < 1) = false := by simp; omega
    have t1 : decide (66 ≤ o) = false := by simp; omega
    have t2 : decide (o ≤ 20) = false := by simp; omega
    have t3 : (o == 43) = false := by simp; omega
    have t4 : decide (o ≤ 29) = false := by simp; omega
    have t5 : decide (o ≤ 42) = false := by simp; omega
    have t6 : decide (o ≤ 51) = true := by simp; omega
    have t7 : decide (o ≤ 53) = true := by simp; omega
    have t8 : decide (o ≤ 59) = true := by simp; omega
    go_enter Try.func35, Try.ntmps35
    go_wp2
    go_ret
    exact ⟨rfl, rfl⟩
  · have hs : classS o = 5 := by unfold classS; rw [if_neg (by omega)]; rw [if_neg (by omega)]; rw [if_neg (by omega)]; rw [if_neg (by omega)]; rw [if_neg (by omega)]; rw [if_neg (by omega)]; rw [if_pos (by omega)]
    rw [hs]
    clear hs
    have t0 : decide (o < 1) = false := by simp; omega
    have t1 : decide (66 ≤ o) = false := by simp; omega
    have t2 : decide (o ≤ 20) = false := by simp; omega
    have t3 : (o == 43) = false := by simp; omega
    have t4 : decide (o ≤ 29) = false := by simp; omega
    have t5 : decide (o ≤ 42) = false := by simp; omega
    have t6 : decide (o ≤ 51) = false := by simp; omega
    have t7 : decide (o ≤ 53) = true := by simp; omega
    have t8 : decide (o ≤ 59) = true := by simp; omega
    go_enter Try.func35, Try.ntmps35
    go_wp2
    go_ret
    exact ⟨rfl, rfl⟩
  · have hs : classS o = 6 := by unfold classS; rw [if_neg (by omega)]; rw [if_neg (by omega)]; rw [if_neg (by omega)]; rw [if_neg (by omega)]; rw [if_neg (by omega)]; rw [if_neg (by omega)]; rw [if_neg (by omega)]; rw [if_pos (by omega)]
    rw [hs]
    clear hs
    have t0 : decide (o < 1) = false := by simp; omega
    have t1 : decide (66 ≤ o) = false := by simp; omega
    have t2 : decide (o ≤ 20) = false := by simp; omega
    have t3 : (o == 43) = false := by simp; omega
    have t4 : decide (o ≤ 29) = false := by simp; omega
    have t5 : decide (o ≤ 42) = false := by simp; omega
    have t6 : decide (o ≤ 51) = false := by simp; omega
    have t7 : decide (o ≤ 53) = false := by simp; omega
    have t8 : decide (o ≤ 59) = true := by simp; omega
    go_enter Try.func35, Try.ntmps35
    go_wp2
    go_ret
    exact ⟨rfl, rfl⟩
  · have hs : classS o = 7 := by unfold classS; rw [if_neg (by omega)]; rw [if_neg (by omega)]; rw [if_neg (by omega)]; rw [if_neg (by omega)]; rw [if_neg (by omega)]; rw [if_neg (by omega)]; rw [if_neg (by omega)]; rw [if_neg (by omega)]; rw [if_pos (by omega)]
    rw [hs]
    clear hs
    have t0 : decide (o < 1) = false := by simp; omega
    have t1 : decide (66 ≤ o) = false := by simp; omega
    have t2 : decide (o ≤ 20) = false := by simp; omega
    have t3 : (o == 43) = false := by simp; omega
    have t4 : decide (o ≤ 29) = false := by simp; omega
    have t5 : decide (o ≤ 42) = false := by simp; omega
    have t6 : decide (o ≤ 51) = false := by simp; omega
    have t7 : decide (o ≤ 53) = false := by simp; omega
    have t8 : decide (o ≤ 59) = false := by simp; omega
    go_enter Try.func35, Try.ntmps35
    go_wp2
    go_ret
    exact ⟨rfl, rfl⟩
  · have hs : classS o = 0 := by unfold classS; rw [if_neg (by omega)]; rw [if_neg (by omega)]; rw [if_neg (by omega)]; rw [if_neg (by omega)]; rw [if_neg (by omega)]; rw [if_neg (by omega)]; rw [if_neg (by omega)]; rw [if_neg (by omega)]; rw [if_neg (by omega)]
    rw [hs]
    clear hs
    have t0 : decide (o < 1) = false := by simp; omega
    have t1 : decide (66 ≤ o) = true := by simp; omega
    have t2 : decide (o ≤ 20) = false := by simp; omega
    have t3 : (o == 43) = false := by simp; omega
    have t4 : decide (o ≤ 29) = false := by simp; omega
    have t5 : decide (o ≤ 42) = false := by simp; omega
    have t6 : decide (o ≤ 51) = false := by simp; omega
    have t7 : decide (o ≤ 53) = false := by simp; omega
    have t8 : decide (o ≤ 59) = false := by simp; omega
    go_enter Try.func35, Try.ntmps35
    go_wp2
    go_ret
    exact ⟨rfl, rfl⟩
def comparesS (o : Int) : Bool := if o ≤ 7 then false else if o ≤ 11 then true else false
def sumsS (o : Int) : Bool := if o ≤ 2 then false else if o ≤ 7 then true else if o ≤ 9 then false else if o ≤ 10 then true else if o ≤ 11 then true else false
def shiftsS (o : Int) : Bool := if o ≤ 16 then false else if o ≤ 20 then true else false
def dataTakesS (o : Int) : Int := if o ≤ 12 then 2 else if o ≤ 13 then 0 else if o ≤ 14 then 2 else if o ≤ 15 then 0 else if o ≤ 42 then 2 else if o ≤ 43 then 0 else 2
def longTakesS (o : Int) : Int := if o ≤ 21 then 0 else if o ≤ 22 then 8 else if o ≤ 23 then 8 else if o ≤ 25 then 0 else if o ≤ 26 then 9 else if o ≤ 27 then 9 else 0
def unaryTakesS (o : Int) : Int := if o ≤ 29 then 4 else if o ≤ 30 then 1 else if o ≤ 31 then 2 else if o ≤ 32 then 2 else if o ≤ 33 then 3 else 4
def restTakesS (o : Int) : Int := if o ≤ 55 then 0 else if o ≤ 56 then 4 else if o ≤ 57 then 4 else if o ≤ 58 then 2 else if o ≤ 59 then 2 else if o ≤ 61 then 0 else if o ≤ 62 then 32 else 0
def restGivesS (o : Int) : Int := if o ≤ 53 then 0 else if o ≤ 54 then 128 else if o ≤ 55 then 192 else if o ≤ 56 then 128 else if o ≤ 57 then 192 else if o ≤ 58 then 128 else if o ≤ 59 then 128 else if o ≤ 61 then 0 else if o ≤ 62 then 32 else 0
end Go.Proofs.Ytigmekboikgoaaa
