/- The host's instructions in plain words, and the contracts of the functions that take a number alone. -/
import Derived.Test.YtjhmmfpmmgebjaaGreatRows
import Derived.WalkKit
import Derived.ProofKit
import Derived.OpenShut
import Derived.Deep.QuietTactic
import Derived.BigQuiet
namespace Go.Proofs.YtjhmmfpmmgebjaaGreat
open Go.ChangeShapes Go.WideShapes Go.ChangeAt Go.RowKit
set_option linter.unusedVariables false
set_option linter.unusedSimpArgs false

def isS (o : Int) : Bool := decide (0 < o) && decide (o < 32)
def usesS (o : Int) : Int :=
  if o = 1 then 17 else if o = 2 then 3 else if o = 17 then 3 else if o = 21 then 15 else if o = 22 then 19 else if o = 23 then 19 else if o = 24 then 19 else if o = 25 then 22 else if o = 26 then 22 else if o = 27 then 22
  else if o = 28 then 16 else if o = 31 then 16 else if o = 29 then 18 else if o = 30 then 0 else 7
def loadsS (o : Int) : Int := if o = 22 then 1 else if o = 23 then 2 else if o = 24 then 4 else 0
def storesS (o : Int) : Int := if o = 25 then 1 else if o = 26 then 2 else if o = 27 then 4 else 0
def costS (o : Int) : Int :=
  if o = 12 then 3 else if o = 13 then 3 else if o = 14 then 3 else if o = 15 then 12 else if o = 16 then 12 else if o = 22 then 2 else if o = 23 then 2 else if o = 24 then 2 else if o = 25 then 2 else if o = 26 then 2 else if o = 27 then 2
  else if o = 28 then 2 else if o = 29 then 2 else if o = 30 then 4 else if o = 31 then 4 else if isS o then 1 else 0

theorem any_op {P : Int → Prop} (o : Int) (h : ∀ k : Nat, k < 32 → P k) (hl : o < 0 → P o) (hg : 31 < o → P o) : P o := by
  rcases (show o < 0 ∨ 31 < o ∨ (0 ≤ o ∧ o ≤ 31) by omega) with h1 | h1 | h1
  · exact hl h1
  · exact hg h1
  · obtain ⟨k, rfl⟩ : ∃ k : Nat, o = k := ⟨o.toNat, by omega⟩
    exact h k (by omega)

theorem is_c (o : Int) (w : World) : Calls Tryz.prog 89 #[.int .i64 o] w fun e w' => e = .returned (.bool (isS o)) ∧ w' = w := by
  unfold isS
  by_cases h1 : 0 < o
  · by_cases h2 : o < 32
    · go_enter Tryz.func89, Tryz.ntmps89
      go_wp2
      go_ret
      exact ⟨by simp [h1, h2], rfl⟩
    · go_enter Tryz.func89, Tryz.ntmps89
      go_wp2
      go_ret
      exact ⟨by simp [h1, h2], rfl⟩
  · go_enter Tryz.func89, Tryz.ntmps89
    go_wp2
    go_ret
    exact ⟨by rw [show decide (0 < o) = false by simpa using h1]; rfl, rfl⟩
theorem uses_0 (w : World) : Calls Tryz.prog 90 #[.int .i64 0] w fun e w' => e = .returned (.int .i64 (usesS 0)) ∧ w' = w := by
  go_enter Tryz.func90, Tryz.ntmps90
  go_wp2
  go_ret
  exact ⟨rfl, rfl⟩
theorem uses_1 (w : World) : Calls Tryz.prog 90 #[.int .i64 1] w fun e w' => e = .returned (.int .i64 (usesS 1)) ∧ w' = w := by
  go_enter Tryz.func90, Tryz.ntmps90
  go_wp2
  go_ret
  exact ⟨rfl, rfl⟩
theorem uses_2 (w : World) : Calls Tryz.prog 90 #[.int .i64 2] w fun e w' => e = .returned (.int .i64 (usesS 2)) ∧ w' = w := by
  go_enter Tryz.func90, Tryz.ntmps90
  go_wp2
  go_ret
  exact ⟨rfl, rfl⟩
theorem uses_3 (w : World) : Calls Tryz.prog 90 #[.int .i64 3] w fun e w' => e = .returned (.int .i64 (usesS 3)) ∧ w' = w := by
  go_enter Tryz.func90, Tryz.ntmps90
  go_wp2
  go_ret
  exact ⟨rfl, rfl⟩
theorem uses_4 (w : World) : Calls Tryz.prog 90 #[.int .i64 4] w fun e w' => e = .returned (.int .i64 (usesS 4)) ∧ w' = w := by
  go_enter Tryz.func90, Tryz.ntmps90
  go_wp2
  go_ret
  exact ⟨rfl, rfl⟩
theorem uses_5 (w : World) : Calls Tryz.prog 90 #[.int .i64 5] w fun e w' => e = .returned (.int .i64 (usesS 5)) ∧ w' = w := by
  go_enter Tryz.func90, Tryz.ntmps90
  go_wp2
  go_ret
  exact ⟨rfl, rfl⟩
theorem uses_6 (w : World) : Calls Tryz.prog 90 #[.int .i64 6] w fun e w' => e = .returned (.int .i64 (usesS 6)) ∧ w' = w := by
  go_enter Tryz.func90, Tryz.ntmps90
  go_wp2
  go_ret
  exact ⟨rfl, rfl⟩
theorem uses_7 (w : World) : Calls Tryz.prog 90 #[.int .i64 7] w fun e w' => e = .returned (.int .i64 (usesS 7)) ∧ w' = w := by
  go_enter Tryz.func90, Tryz.ntmps90
  go_wp2
  go_ret
  exact ⟨rfl, rfl⟩
theorem uses_8 (w : World) : Calls Tryz.prog 90 #[.int .i64 8] w fun e w' => e = .returned (.int .i64 (usesS 8)) ∧ w' = w := by
  go_enter Tryz.func90, Tryz.ntmps90
  go_wp2
  go_ret
  exact ⟨rfl, rfl⟩
theorem uses_9 (w : World) : Calls Tryz.prog 90 #[.int .i64 9] w fun e w' => e = .returned (.int .i64 (usesS 9)) ∧ w' = w := by
  go_enter Tryz.func90, Tryz.ntmps90
  go_wp2
  go_ret
  exact ⟨rfl, rfl⟩
theorem uses_10 (w : World) : Calls Tryz.prog 90 #[.int .i64 10] w fun e w' => e = .returned (.int .i64 (usesS 10)) ∧ w' = w := by
  go_enter Tryz.func90, Tryz.ntmps90
  go_wp2
  go_ret
  exact ⟨rfl, rfl⟩
theorem uses_11 (w : World) : Calls Tryz.prog 90 #[.int .i64 11] w fun e w' => e = .returned (.int .i64 (usesS 11)) ∧ w' = w := by
  go_enter Tryz.func90, Tryz.ntmps90
  go_wp2
  go_ret
  exact ⟨rfl, rfl⟩
theorem uses_12 (w : World) : Calls Tryz.prog 90 #[.int .i64 12] w fun e w' => e = .returned (.int .i64 (usesS 12)) ∧ w' = w := by
  go_enter Tryz.func90, Tryz.ntmps90
  go_wp2
  go_ret
  exact ⟨rfl, rfl⟩
theorem uses_13 (w : World) : Calls Tryz.prog 90 #[.int .i64 13] w fun e w' => e = .returned (.int .i64 (usesS 13)) ∧ w' = w := by
  go_enter Tryz.func90, Tryz.ntmps90
  go_wp2
  go_ret
  exact ⟨rfl, rfl⟩
theorem uses_14 (w : World) : Calls Tryz.prog 90 #[.int .i64 14] w fun e w' => e = .returned (.int .i64 (usesS 14)) ∧ w' = w := by
  go_enter Tryz.func90, Tryz.ntmps90
  go_wp2
  go_ret
  exact ⟨rfl, rfl⟩
theorem uses_15 (w : World) : Calls Tryz.prog 90 #[.int .i64 15] w fun e w' => e = .returned (.int .i64 (usesS 15)) ∧ w' = w := by
  go_enter Tryz.func90, Tryz.ntmps90
  go_wp2
  go_ret
  exact ⟨rfl, rfl⟩
theorem uses_16 (w : World) : Calls Tryz.prog 90 #[.int .i64 16] w fun e w' => e = .returned (.int .i64 (usesS 16)) ∧ w' = w := by
  go_enter Tryz.func90, Tryz.ntmps90
  go_wp2
  go_ret
  exact ⟨rfl, rfl⟩
theorem uses_17 (w : World) : Calls Tryz.prog 90 #[.int .i64 17] w fun e w' => e = .returned (.int .i64 (usesS 17)) ∧ w' = w := by
  go_enter Tryz.func90, Tryz.ntmps90
  go_wp2
  go_ret
  exact ⟨rfl, rfl⟩
theorem uses_18 (w : World) : Calls Tryz.prog 90 #[.int .i64 18] w fun e w' => e = .returned (.int .i64 (usesS 18)) ∧ w' = w := by
  go_enter Tryz.func90, Tryz.ntmps90
  go_wp2
  go_ret
  exact ⟨rfl, rfl⟩
theorem uses_19 (w : World) : Calls Tryz.prog 90 #[.int .i64 19] w fun e w' => e = .returned (.int .i64 (usesS 19)) ∧ w' = w := by
  go_enter Tryz.func90, Tryz.ntmps90
  go_wp2
  go_ret
  exact ⟨rfl, rfl⟩
theorem uses_20 (w : World) : Calls Tryz.prog 90 #[.int .i64 20] w fun e w' => e = .returned (.int .i64 (usesS 20)) ∧ w' = w := by
  go_enter Tryz.func90, Tryz.ntmps90
  go_wp2
  go_ret
  exact ⟨rfl, rfl⟩
theorem uses_21 (w : World) : Calls Tryz.prog 90 #[.int .i64 21] w fun e w' => e = .returned (.int .i64 (usesS 21)) ∧ w' = w := by
  go_enter Tryz.func90, Tryz.ntmps90
  go_wp2
  go_ret
  exact ⟨rfl, rfl⟩
theorem uses_22 (w : World) : Calls Tryz.prog 90 #[.int .i64 22] w fun e w' => e = .returned (.int .i64 (usesS 22)) ∧ w' = w := by
  go_enter Tryz.func90, Tryz.ntmps90
  go_wp2
  go_ret
  exact ⟨rfl, rfl⟩
theorem uses_23 (w : World) : Calls Tryz.prog 90 #[.int .i64 23] w fun e w' => e = .returned (.int .i64 (usesS 23)) ∧ w' = w := by
  go_enter Tryz.func90, Tryz.ntmps90
  go_wp2
  go_ret
  exact ⟨rfl, rfl⟩
theorem uses_24 (w : World) : Calls Tryz.prog 90 #[.int .i64 24] w fun e w' => e = .returned (.int .i64 (usesS 24)) ∧ w' = w := by
  go_enter Tryz.func90, Tryz.ntmps90
  go_wp2
  go_ret
  exact ⟨rfl, rfl⟩
theorem uses_25 (w : World) : Calls Tryz.prog 90 #[.int .i64 25] w fun e w' => e = .returned (.int .i64 (usesS 25)) ∧ w' = w := by
  go_enter Tryz.func90, Tryz.ntmps90
  go_wp2
  go_ret
  exact ⟨rfl, rfl⟩
theorem uses_26 (w : World) : Calls Tryz.prog 90 #[.int .i64 26] w fun e w' => e = .returned (.int .i64 (usesS 26)) ∧ w' = w := by
  go_enter Tryz.func90, Tryz.ntmps90
  go_wp2
  go_ret
  exact ⟨rfl, rfl⟩
theorem uses_27 (w : World) : Calls Tryz.prog 90 #[.int .i64 27] w fun e w' => e = .returned (.int .i64 (usesS 27)) ∧ w' = w := by
  go_enter Tryz.func90, Tryz.ntmps90
  go_wp2
  go_ret
  exact ⟨rfl, rfl⟩
theorem uses_28 (w : World) : Calls Tryz.prog 90 #[.int .i64 28] w fun e w' => e = .returned (.int .i64 (usesS 28)) ∧ w' = w := by
  go_enter Tryz.func90, Tryz.ntmps90
  go_wp2
  go_ret
  exact ⟨rfl, rfl⟩
theorem uses_29 (w : World) : Calls Tryz.prog 90 #[.int .i64 29] w fun e w' => e = .returned (.int .i64 (usesS 29)) ∧ w' = w := by
  go_enter Tryz.func90, Tryz.ntmps90
  go_wp2
  go_ret
  exact ⟨rfl, rfl⟩
theorem uses_30 (w : World) : Calls Tryz.prog 90 #[.int .i64 30] w fun e w' => e = .returned (.int .i64 (usesS 30)) ∧ w' = w := by
  go_enter Tryz.func90, Tryz.ntmps90
  go_wp2
  go_ret
  exact ⟨rfl, rfl⟩
theorem uses_31 (w : World) : Calls Tryz.prog 90 #[.int .i64 31] w fun e w' => e = .returned (.int .i64 (usesS 31)) ∧ w' = w := by
  go_enter Tryz.func90, Tryz.ntmps90
  go_wp2
  go_ret
  exact ⟨rfl, rfl⟩
theorem uses_lo (o : Int) (h : o < 0) (w : World) : Calls Tryz.prog 90 #[.int .i64 o] w fun e w' => e = .returned (.int .i64 (usesS o)) ∧ w' = w := by
  have hs : usesS o = 7 := by unfold usesS; rw [if_neg (by omega), if_neg (by omega), if_neg (by omega), if_neg (by omega), if_neg (by omega), if_neg (by omega), if_neg (by omega), if_neg (by omega), if_neg (by omega), if_neg (by omega), if_neg (by omega), if_neg (by omega), if_neg (by omega), if_neg (by omega)]
  rw [hs]
  go_enter Tryz.func90, Tryz.ntmps90
  go_wp2
  go_ret
  exact ⟨rfl, rfl⟩
theorem uses_hi (o : Int) (h : 31 < o) (w : World) : Calls Tryz.prog 90 #[.int .i64 o] w fun e w' => e = .returned (.int .i64 (usesS o)) ∧ w' = w := by
  have hs : usesS o = 7 := by unfold usesS; rw [if_neg (by omega), if_neg (by omega), if_neg (by omega), if_neg (by omega), if_neg (by omega), if_neg (by omega), if_neg (by omega), if_neg (by omega), if_neg (by omega), if_neg (by omega), if_neg (by omega), if_neg (by omega), if_neg (by omega), if_neg (by omega)]
  rw [hs]
  go_enter Tryz.func90, Tryz.ntmps90
  go_wp2
  go_ret
  exact ⟨rfl, rfl⟩
theorem uses_c (o : Int) (w : World) : Calls Tryz.prog 90 #[.int .i64 o] w fun e w' => e = .returned (.int .i64 (usesS o)) ∧ w' = w := by
  rcases (show o < 0 ∨ 31 < o ∨ o = 0 ∨ o = 1 ∨ o = 2 ∨ o = 3 ∨ o = 4 ∨ o = 5 ∨ o = 6 ∨ o = 7 ∨ o = 8 ∨ o = 9 ∨ o = 10 ∨ o = 11 ∨ o = 12 ∨ o = 13 ∨ o = 14 ∨ o = 15 ∨ o = 16 ∨ o = 17 ∨ o = 18 ∨ o = 19 ∨ o = 20 ∨ o = 21 ∨ o = 22 ∨ o = 23 ∨ o = 24 ∨ o = 25 ∨ o = 26 ∨ o = 27 ∨ o = 28 ∨ o = 29 ∨ o = 30 ∨ o = 31 by omega) with h | h | rfl | rfl | rfl | rfl | rfl | rfl | rfl | rfl | rfl | rfl | rfl | rfl | rfl | rfl | rfl | rfl | rfl | rfl | rfl | rfl | rfl | rfl | rfl | rfl | rfl | rfl | rfl | rfl | rfl | rfl | rfl | rfl
  · exact uses_lo o h w
  · exact uses_hi o h w
  · exact uses_0 w
  · exact uses_1 w
  · exact uses_2 w
  · exact uses_3 w
  · exact uses_4 w
  · exact uses_5 w
  · exact uses_6 w
  · exact uses_7 w
  · exact uses_8 w
  · exact uses_9 w
  · exact uses_10 w
  · exact uses_11 w
  · exact uses_12 w
  · exact uses_13 w
  · exact uses_14 w
  · exact uses_15 w
  · exact uses_16 w
  · exact uses_17 w
  · exact uses_18 w
  · exact uses_19 w
  · exact uses_20 w
  · exact uses_21 w
  · exact uses_22 w
  · exact uses_23 w
  · exact uses_24 w
  · exact uses_25 w
  · exact uses_26 w
  · exact uses_27 w
  · exact uses_28 w
  · exact uses_29 w
  · exact uses_30 w
  · exact uses_31 w
theorem loads_0 (w : World) : Calls Tryz.prog 69 #[.int .i64 0] w fun e w' => e = .returned (.int .i64 (loadsS 0)) ∧ w' = w := by
  go_enter Tryz.func69, Tryz.ntmps69
  go_wp2
  go_ret
  exact ⟨rfl, rfl⟩
theorem loads_1 (w : World) : Calls Tryz.prog 69 #[.int .i64 1] w fun e w' => e = .returned (.int .i64 (loadsS 1)) ∧ w' = w := by
  go_enter Tryz.func69, Tryz.ntmps69
  go_wp2
  go_ret
  exact ⟨rfl, rfl⟩
theorem loads_2 (w : World) : Calls Tryz.prog 69 #[.int .i64 2] w fun e w' => e = .returned (.int .i64 (loadsS 2)) ∧ w' = w := by
  go_enter Tryz.func69, Tryz.ntmps69
  go_wp2
  go_ret
  exact ⟨rfl, rfl⟩
theorem loads_3 (w : World) : Calls Tryz.prog 69 #[.int .i64 3] w fun e w' => e = .returned (.int .i64 (loadsS 3)) ∧ w' = w := by
  go_enter Tryz.func69, Tryz.ntmps69
  go_wp2
  go_ret
  exact ⟨rfl, rfl⟩
theorem loads_4 (w : World) : Calls Tryz.prog 69 #[.int .i64 4] w fun e w' => e = .returned (.int .i64 (loadsS 4)) ∧ w' = w := by
  go_enter Tryz.func69, Tryz.ntmps69
  go_wp2
  go_ret
  exact ⟨rfl, rfl⟩
theorem loads_5 (w : World) : Calls Tryz.prog 69 #[.int .i64 5] w fun e w' => e = .returned (.int .i64 (loadsS 5)) ∧ w' = w := by
  go_enter Tryz.func69, Tryz.ntmps69
  go_wp2
  go_ret
  exact ⟨rfl, rfl⟩
theorem loads_6 (w : World) : Calls Tryz.prog 69 #[.int .i64 6] w fun e w' => e = .returned (.int .i64 (loadsS 6)) ∧ w' = w := by
  go_enter Tryz.func69, Tryz.ntmps69
  go_wp2
  go_ret
  exact ⟨rfl, rfl⟩
theorem loads_7 (w : World) : Calls Tryz.prog 69 #[.int .i64 7] w fun e w' => e = .returned (.int .i64 (loadsS 7)) ∧ w' = w := by
  go_enter Tryz.func69, Tryz.ntmps69
  go_wp2
  go_ret
  exact ⟨rfl, rfl⟩
theorem loads_8 (w : World) : Calls Tryz.prog 69 #[.int .i64 8] w fun e w' => e = .returned (.int .i64 (loadsS 8)) ∧ w' = w := by
  go_enter Tryz.func69, Tryz.ntmps69
  go_wp2
  go_ret
  exact ⟨rfl, rfl⟩
theorem loads_9 (w : World) : Calls Tryz.prog 69 #[.int .i64 9] w fun e w' => e = .returned (.int .i64 (loadsS 9)) ∧ w' = w := by
  go_enter Tryz.func69, Tryz.ntmps69
  go_wp2
  go_ret
  exact ⟨rfl, rfl⟩
theorem loads_10 (w : World) : Calls Tryz.prog 69 #[.int .i64 10] w fun e w' => e = .returned (.int .i64 (loadsS 10)) ∧ w' = w := by
  go_enter Tryz.func69, Tryz.ntmps69
  go_wp2
  go_ret
  exact ⟨rfl, rfl⟩
theorem loads_11 (w : World) : Calls Tryz.prog 69 #[.int .i64 11] w fun e w' => e = .returned (.int .i64 (loadsS 11)) ∧ w' = w := by
  go_enter Tryz.func69, Tryz.ntmps69
  go_wp2
  go_ret
  exact ⟨rfl, rfl⟩
theorem loads_12 (w : World) : Calls Tryz.prog 69 #[.int .i64 12] w fun e w' => e = .returned (.int .i64 (loadsS 12)) ∧ w' = w := by
  go_enter Tryz.func69, Tryz.ntmps69
  go_wp2
  go_ret
  exact ⟨rfl, rfl⟩
theorem loads_13 (w : World) : Calls Tryz.prog 69 #[.int .i64 13] w fun e w' => e = .returned (.int .i64 (loadsS 13)) ∧ w' = w := by
  go_enter Tryz.func69, Tryz.ntmps69
  go_wp2
  go_ret
  exact ⟨rfl, rfl⟩
theorem loads_14 (w : World) : Calls Tryz.prog 69 #[.int .i64 14] w fun e w' => e = .returned (.int .i64 (loadsS 14)) ∧ w' = w := by
  go_enter Tryz.func69, Tryz.ntmps69
  go_wp2
  go_ret
  exact ⟨rfl, rfl⟩
theorem loads_15 (w : World) : Calls Tryz.prog 69 #[.int .i64 15] w fun e w' => e = .returned (.int .i64 (loadsS 15)) ∧ w' = w := by
  go_enter Tryz.func69, Tryz.ntmps69
  go_wp2
  go_ret
  exact ⟨rfl, rfl⟩
theorem loads_16 (w : World) : Calls Tryz.prog 69 #[.int .i64 16] w fun e w' => e = .returned (.int .i64 (loadsS 16)) ∧ w' = w := by
  go_enter Tryz.func69, Tryz.ntmps69
  go_wp2
  go_ret
  exact ⟨rfl, rfl⟩
theorem loads_17 (w : World) : Calls Tryz.prog 69 #[.int .i64 17] w fun e w' => e = .returned (.int .i64 (loadsS 17)) ∧ w' = w := by
  go_enter Tryz.func69, Tryz.ntmps69
  go_wp2
  go_ret
  exact ⟨rfl, rfl⟩
theorem loads_18 (w : World) : Calls Tryz.prog 69 #[.int .i64 18] w fun e w' => e = .returned (.int .i64 (loadsS 18)) ∧ w' = w := by
  go_enter Tryz.func69, Tryz.ntmps69
  go_wp2
  go_ret
  exact ⟨rfl, rfl⟩
theorem loads_19 (w : World) : Calls Tryz.prog 69 #[.int .i64 19] w fun e w' => e = .returned (.int .i64 (loadsS 19)) ∧ w' = w := by
  go_enter Tryz.func69, Tryz.ntmps69
  go_wp2
  go_ret
  exact ⟨rfl, rfl⟩
theorem loads_20 (w : World) : Calls Tryz.prog 69 #[.int .i64 20] w fun e w' => e = .returned (.int .i64 (loadsS 20)) ∧ w' = w := by
  go_enter Tryz.func69, Tryz.ntmps69
  go_wp2
  go_ret
  exact ⟨rfl, rfl⟩
theorem loads_21 (w : World) : Calls Tryz.prog 69 #[.int .i64 21] w fun e w' => e = .returned (.int .i64 (loadsS 21)) ∧ w' = w := by
  go_enter Tryz.func69, Tryz.ntmps69
  go_wp2
  go_ret
  exact ⟨rfl, rfl⟩
theorem loads_22 (w : World) : Calls Tryz.prog 69 #[.int .i64 22] w fun e w' => e = .returned (.int .i64 (loadsS 22)) ∧ w' = w := by
  go_enter Tryz.func69, Tryz.ntmps69
  go_wp2
  go_ret
  exact ⟨rfl, rfl⟩
theorem loads_23 (w : World) : Calls Tryz.prog 69 #[.int .i64 23] w fun e w' => e = .returned (.int .i64 (loadsS 23)) ∧ w' = w := by
  go_enter Tryz.func69, Tryz.ntmps69
  go_wp2
  go_ret
  exact ⟨rfl, rfl⟩
theorem loads_24 (w : World) : Calls Tryz.prog 69 #[.int .i64 24] w fun e w' => e = .returned (.int .i64 (loadsS 24)) ∧ w' = w := by
  go_enter Tryz.func69, Tryz.ntmps69
  go_wp2
  go_ret
  exact ⟨rfl, rfl⟩
theorem loads_25 (w : World) : Calls Tryz.prog 69 #[.int .i64 25] w fun e w' => e = .returned (.int .i64 (loadsS 25)) ∧ w' = w := by
  go_enter Tryz.func69, Tryz.ntmps69
  go_wp2
  go_ret
  exact ⟨rfl, rfl⟩
theorem loads_26 (w : World) : Calls Tryz.prog 69 #[.int .i64 26] w fun e w' => e = .returned (.int .i64 (loadsS 26)) ∧ w' = w := by
  go_enter Tryz.func69, Tryz.ntmps69
  go_wp2
  go_ret
  exact ⟨rfl, rfl⟩
theorem loads_27 (w : World) : Calls Tryz.prog 69 #[.int .i64 27] w fun e w' => e = .returned (.int .i64 (loadsS 27)) ∧ w' = w := by
  go_enter Tryz.func69, Tryz.ntmps69
  go_wp2
  go_ret
  exact ⟨rfl, rfl⟩
theorem loads_28 (w : World) : Calls Tryz.prog 69 #[.int .i64 28] w fun e w' => e = .returned (.int .i64 (loadsS 28)) ∧ w' = w := by
  go_enter Tryz.func69, Tryz.ntmps69
  go_wp2
  go_ret
  exact ⟨rfl, rfl⟩
theorem loads_29 (w : World) : Calls Tryz.prog 69 #[.int .i64 29] w fun e w' => e = .returned (.int .i64 (loadsS 29)) ∧ w' = w := by
  go_enter Tryz.func69, Tryz.ntmps69
  go_wp2
  go_ret
  exact ⟨rfl, rfl⟩
theorem loads_30 (w : World) : Calls Tryz.prog 69 #[.int .i64 30] w fun e w' => e = .returned (.int .i64 (loadsS 30)) ∧ w' = w := by
  go_enter Tryz.func69, Tryz.ntmps69
  go_wp2
  go_ret
  exact ⟨rfl, rfl⟩
theorem loads_31 (w : World) : Calls Tryz.prog 69 #[.int .i64 31] w fun e w' => e = .returned (.int .i64 (loadsS 31)) ∧ w' = w := by
  go_enter Tryz.func69, Tryz.ntmps69
  go_wp2
  go_ret
  exact ⟨rfl, rfl⟩
theorem loads_lo (o : Int) (h : o < 0) (w : World) : Calls Tryz.prog 69 #[.int .i64 o] w fun e w' => e = .returned (.int .i64 (loadsS o)) ∧ w' = w := by
  have hs : loadsS o = 0 := by unfold loadsS; rw [if_neg (by omega), if_neg (by omega), if_neg (by omega)]
  rw [hs]
  go_enter Tryz.func69, Tryz.ntmps69
  go_wp2
  go_ret
  exact ⟨rfl, rfl⟩
theorem loads_hi (o : Int) (h : 31 < o) (w : World) : Calls Tryz.prog 69 #[.int .i64 o] w fun e w' => e = .returned (.int .i64 (loadsS o)) ∧ w' = w := by
  have hs : loadsS o = 0 := by unfold loadsS; rw [if_neg (by omega), if_neg (by omega), if_neg (by omega)]
  rw [hs]
  go_enter Tryz.func69, Tryz.ntmps69
  go_wp2
  go_ret
  exact ⟨rfl, rfl⟩
theorem loads_c (o : Int) (w : World) : Calls Tryz.prog 69 #[.int .i64 o] w fun e w' => e = .returned (.int .i64 (loadsS o)) ∧ w' = w := by
  rcases (show o < 0 ∨ 31 < o ∨ o = 0 ∨ o = 1 ∨ o = 2 ∨ o = 3 ∨ o = 4 ∨ o = 5 ∨ o = 6 ∨ o = 7 ∨ o = 8 ∨ o = 9 ∨ o = 10 ∨ o = 11 ∨ o = 12 ∨ o = 13 ∨ o = 14 ∨ o = 15 ∨ o = 16 ∨ o = 17 ∨ o = 18 ∨ o = 19 ∨ o = 20 ∨ o = 21 ∨ o = 22 ∨ o = 23 ∨ o = 24 ∨ o = 25 ∨ o = 26 ∨ o = 27 ∨ o = 28 ∨ o = 29 ∨ o = 30 ∨ o = 31 by omega) with h | h | rfl | rfl | rfl | rfl | rfl | rfl | rfl | rfl | rfl | rfl | rfl | rfl | rfl | rfl | rfl | rfl | rfl | rfl | rfl | rfl | rfl | rfl | rfl | rfl | rfl | rfl | rfl | rfl | rfl | rfl | rfl | rfl
  · exact loads_lo o h w
  · exact loads_hi o h w
  · exact loads_0 w
  · exact loads_1 w
  · exact loads_2 w
  · exact loads_3 w
  · exact loads_4 w
  · exact loads_5 w
  · exact loads_6 w
  · exact loads_7 w
  · exact loads_8 w
  · exact loads_9 w
  · exact loads_10 w
  · exact loads_11 w
  · exact loads_12 w
  · exact loads_13 w
  · exact loads_14 w
  · exact loads_15 w
  · exact loads_16 w
  · exact loads_17 w
  · exact loads_18 w
  · exact loads_19 w
  · exact loads_20 w
  · exact loads_21 w
  · exact loads_22 w
  · exact loads_23 w
  · exact loads_24 w
  · exact loads_25 w
  · exact loads_26 w
  · exact loads_27 w
  · exact loads_28 w
  · exact loads_29 w
  · exact loads_30 w
  · exact loads_31 w
theorem stores_0 (w : World) : Calls Tryz.prog 70 #[.int .i64 0] w fun e w' => e = .returned (.int .i64 (storesS 0)) ∧ w' = w := by
  go_enter Tryz.func70, Tryz.ntmps70
  go_wp2
  go_ret
  exact ⟨rfl, rfl⟩
theorem stores_1 (w : World) : Calls Tryz.prog 70 #[.int .i64 1] w fun e w' => e = .returned (.int .i64 (storesS 1)) ∧ w' = w := by
  go_enter Tryz.func70, Tryz.ntmps70
  go_wp2
  go_ret
  exact ⟨rfl, rfl⟩
theorem stores_2 (w : World) : Calls Tryz.prog 70 #[.int .i64 2] w fun e w' => e = .returned (.int .i64 (storesS 2)) ∧ w' = w := by
  go_enter Tryz.func70, Tryz.ntmps70
  go_wp2
  go_ret
  exact ⟨rfl, rfl⟩
theorem stores_3 (w : World) : Calls Tryz.prog 70 #[.int .i64 3] w fun e w' => e = .returned (.int .i64 (storesS 3)) ∧ w' = w := by
  go_enter Tryz.func70, Tryz.ntmps70
  go_wp2
  go_ret
  exact ⟨rfl, rfl⟩
theorem stores_4 (w : World) : Calls Tryz.prog 70 #[.int .i64 4] w fun e w' => e = .returned (.int .i64 (storesS 4)) ∧ w' = w := by
  go_enter Tryz.func70, Tryz.ntmps70
  go_wp2
  go_ret
  exact ⟨rfl, rfl⟩
theorem stores_5 (w : World) : Calls Tryz.prog 70 #[.int .i64 5] w fun e w' => e = .returned (.int .i64 (storesS 5)) ∧ w' = w := by
  go_enter Tryz.func70, Tryz.ntmps70
  go_wp2
  go_ret
  exact ⟨rfl, rfl⟩
theorem stores_6 (w : World) : Calls Tryz.prog 70 #[.int .i64 6] w fun e w' => e = .returned (.int .i64 (storesS 6)) ∧ w' = w := by
  go_enter Tryz.func70, Tryz.ntmps70
  go_wp2
  go_ret
  exact ⟨rfl, rfl⟩
theorem stores_7 (w : World) : Calls Tryz.prog 70 #[.int .i64 7] w fun e w' => e = .returned (.int .i64 (storesS 7)) ∧ w' = w := by
  go_enter Tryz.func70, Tryz.ntmps70
  go_wp2
  go_ret
  exact ⟨rfl, rfl⟩
theorem stores_8 (w : World) : Calls Tryz.prog 70 #[.int .i64 8] w fun e w' => e = .returned (.int .i64 (storesS 8)) ∧ w' = w := by
  go_enter Tryz.func70, Tryz.ntmps70
  go_wp2
  go_ret
  exact ⟨rfl, rfl⟩
theorem stores_9 (w : World) : Calls Tryz.prog 70 #[.int .i64 9] w fun e w' => e = .returned (.int .i64 (storesS 9)) ∧ w' = w := by
  go_enter Tryz.func70, Tryz.ntmps70
  go_wp2
  go_ret
  exact ⟨rfl, rfl⟩
theorem stores_10 (w : World) : Calls Tryz.prog 70 #[.int .i64 10] w fun e w' => e = .returned (.int .i64 (storesS 10)) ∧ w' = w := by
  go_enter Tryz.func70, Tryz.ntmps70
  go_wp2
  go_ret
  exact ⟨rfl, rfl⟩
theorem stores_11 (w : World) : Calls Tryz.prog 70 #[.int .i64 11] w fun e w' => e = .returned (.int .i64 (storesS 11)) ∧ w' = w := by
  go_enter Tryz.func70, Tryz.ntmps70
  go_wp2
  go_ret
  exact ⟨rfl, rfl⟩
theorem stores_12 (w : World) : Calls Tryz.prog 70 #[.int .i64 12] w fun e w' => e = .returned (.int .i64 (storesS 12)) ∧ w' = w := by
  go_enter Tryz.func70, Tryz.ntmps70
  go_wp2
  go_ret
  exact ⟨rfl, rfl⟩
theorem stores_13 (w : World) : Calls Tryz.prog 70 #[.int .i64 13] w fun e w' => e = .returned (.int .i64 (storesS 13)) ∧ w' = w := by
  go_enter Tryz.func70, Tryz.ntmps70
  go_wp2
  go_ret
  exact ⟨rfl, rfl⟩
theorem stores_14 (w : World) : Calls Tryz.prog 70 #[.int .i64 14] w fun e w' => e = .returned (.int .i64 (storesS 14)) ∧ w' = w := by
  go_enter Tryz.func70, Tryz.ntmps70
  go_wp2
  go_ret
  exact ⟨rfl, rfl⟩
theorem stores_15 (w : World) : Calls Tryz.prog 70 #[.int .i64 15] w fun e w' => e = .returned (.int .i64 (storesS 15)) ∧ w' = w := by
  go_enter Tryz.func70, Tryz.ntmps70
  go_wp2
  go_ret
  exact ⟨rfl, rfl⟩
theorem stores_16 (w : World) : Calls Tryz.prog 70 #[.int .i64 16] w fun e w' => e = .returned (.int .i64 (storesS 16)) ∧ w' = w := by
  go_enter Tryz.func70, Tryz.ntmps70
  go_wp2
  go_ret
  exact ⟨rfl, rfl⟩
theorem stores_17 (w : World) : Calls Tryz.prog 70 #[.int .i64 17] w fun e w' => e = .returned (.int .i64 (storesS 17)) ∧ w' = w := by
  go_enter Tryz.func70, Tryz.ntmps70
  go_wp2
  go_ret
  exact ⟨rfl, rfl⟩
theorem stores_18 (w : World) : Calls Tryz.prog 70 #[.int .i64 18] w fun e w' => e = .returned (.int .i64 (storesS 18)) ∧ w' = w := by
  go_enter Tryz.func70, Tryz.ntmps70
  go_wp2
  go_ret
  exact ⟨rfl, rfl⟩
theorem stores_19 (w : World) : Calls Tryz.prog 70 #[.int .i64 19] w fun e w' => e = .returned (.int .i64 (storesS 19)) ∧ w' = w := by
  go_enter Tryz.func70, Tryz.ntmps70
  go_wp2
  go_ret
  exact ⟨rfl, rfl⟩
theorem stores_20 (w : World) : Calls Tryz.prog 70 #[.int .i64 20] w fun e w' => e = .returned (.int .i64 (storesS 20)) ∧ w' = w := by
  go_enter Tryz.func70, Tryz.ntmps70
  go_wp2
  go_ret
  exact ⟨rfl, rfl⟩
theorem stores_21 (w : World) : Calls Tryz.prog 70 #[.int .i64 21] w fun e w' => e = .returned (.int .i64 (storesS 21)) ∧ w' = w := by
  go_enter Tryz.func70, Tryz.ntmps70
  go_wp2
  go_ret
  exact ⟨rfl, rfl⟩
theorem stores_22 (w : World) : Calls Tryz.prog 70 #[.int .i64 22] w fun e w' => e = .returned (.int .i64 (storesS 22)) ∧ w' = w := by
  go_enter Tryz.func70, Tryz.ntmps70
  go_wp2
  go_ret
  exact ⟨rfl, rfl⟩
theorem stores_23 (w : World) : Calls Tryz.prog 70 #[.int .i64 23] w fun e w' => e = .returned (.int .i64 (storesS 23)) ∧ w' = w := by
  go_enter Tryz.func70, Tryz.ntmps70
  go_wp2
  go_ret
  exact ⟨rfl, rfl⟩
theorem stores_24 (w : World) : Calls Tryz.prog 70 #[.int .i64 24] w fun e w' => e = .returned (.int .i64 (storesS 24)) ∧ w' = w := by
  go_enter Tryz.func70, Tryz.ntmps70
  go_wp2
  go_ret
  exact ⟨rfl, rfl⟩
theorem stores_25 (w : World) : Calls Tryz.prog 70 #[.int .i64 25] w fun e w' => e = .returned (.int .i64 (storesS 25)) ∧ w' = w := by
  go_enter Tryz.func70, Tryz.ntmps70
  go_wp2
  go_ret
  exact ⟨rfl, rfl⟩
theorem stores_26 (w : World) : Calls Tryz.prog 70 #[.int .i64 26] w fun e w' => e = .returned (.int .i64 (storesS 26)) ∧ w' = w := by
  go_enter Tryz.func70, Tryz.ntmps70
  go_wp2
  go_ret
  exact ⟨rfl, rfl⟩
theorem stores_27 (w : World) : Calls Tryz.prog 70 #[.int .i64 27] w fun e w' => e = .returned (.int .i64 (storesS 27)) ∧ w' = w := by
  go_enter Tryz.func70, Tryz.ntmps70
  go_wp2
  go_ret
  exact ⟨rfl, rfl⟩
theorem stores_28 (w : World) : Calls Tryz.prog 70 #[.int .i64 28] w fun e w' => e = .returned (.int .i64 (storesS 28)) ∧ w' = w := by
  go_enter Tryz.func70, Tryz.ntmps70
  go_wp2
  go_ret
  exact ⟨rfl, rfl⟩
theorem stores_29 (w : World) : Calls Tryz.prog 70 #[.int .i64 29] w fun e w' => e = .returned (.int .i64 (storesS 29)) ∧ w' = w := by
  go_enter Tryz.func70, Tryz.ntmps70
  go_wp2
  go_ret
  exact ⟨rfl, rfl⟩
theorem stores_30 (w : World) : Calls Tryz.prog 70 #[.int .i64 30] w fun e w' => e = .returned (.int .i64 (storesS 30)) ∧ w' = w := by
  go_enter Tryz.func70, Tryz.ntmps70
  go_wp2
  go_ret
  exact ⟨rfl, rfl⟩
theorem stores_31 (w : World) : Calls Tryz.prog 70 #[.int .i64 31] w fun e w' => e = .returned (.int .i64 (storesS 31)) ∧ w' = w := by
  go_enter Tryz.func70, Tryz.ntmps70
  go_wp2
  go_ret
  exact ⟨rfl, rfl⟩
theorem stores_lo (o : Int) (h : o < 0) (w : World) : Calls Tryz.prog 70 #[.int .i64 o] w fun e w' => e = .returned (.int .i64 (storesS o)) ∧ w' = w := by
  have hs : storesS o = 0 := by unfold storesS; rw [if_neg (by omega), if_neg (by omega), if_neg (by omega)]
  rw [hs]
  go_enter Tryz.func70, Tryz.ntmps70
  go_wp2
  go_ret
  exact ⟨rfl, rfl⟩
theorem stores_hi (o : Int) (h : 31 < o) (w : World) : Calls Tryz.prog 70 #[.int .i64 o] w fun e w' => e = .returned (.int .i64 (storesS o)) ∧ w' = w := by
  have hs : storesS o = 0 := by unfold storesS; rw [if_neg (by omega), if_neg (by omega), if_neg (by omega)]
  rw [hs]
  go_enter Tryz.func70, Tryz.ntmps70
  go_wp2
  go_ret
  exact ⟨rfl, rfl⟩
theorem stores_c (o : Int) (w : World) : Calls Tryz.prog 70 #[.int .i64 o] w fun e w' => e = .returned (.int .i64 (storesS o)) ∧ w' = w := by
  rcases (show o < 0 ∨ 31 < o ∨ o = 0 ∨ o = 1 ∨ o = 2 ∨ o = 3 ∨ o = 4 ∨ o = 5 ∨ o = 6 ∨ o = 7 ∨ o = 8 ∨ o = 9 ∨ o = 10 ∨ o = 11 ∨ o = 12 ∨ o = 13 ∨ o = 14 ∨ o = 15 ∨ o = 16 ∨ o = 17 ∨ o = 18 ∨ o = 19 ∨ o = 20 ∨ o = 21 ∨ o = 22 ∨ o = 23 ∨ o = 24 ∨ o = 25 ∨ o = 26 ∨ o = 27 ∨ o = 28 ∨ o = 29 ∨ o = 30 ∨ o = 31 by omega) with h | h | rfl | rfl | rfl | rfl | rfl | rfl | rfl | rfl | rfl | rfl | rfl | rfl | rfl | rfl | rfl | rfl | rfl | rfl | rfl | rfl | rfl | rfl | rfl | rfl | rfl | rfl | rfl | rfl | rfl | rfl | rfl | rfl
  · exact stores_lo o h w
  · exact stores_hi o h w
  · exact stores_0 w
  · exact stores_1 w
  · exact stores_2 w
  · exact stores_3 w
  · exact stores_4 w
  · exact stores_5 w
  · exact stores_6 w
  · exact stores_7 w
  · exact stores_8 w
  · exact stores_9 w
  · exact stores_10 w
  · exact stores_11 w
  · exact stores_12 w
  · exact stores_13 w
  · exact stores_14 w
  · exact stores_15 w
  · exact stores_16 w
  · exact stores_17 w
  · exact stores_18 w
  · exact stores_19 w
  · exact stores_20 w
  · exact stores_21 w
  · exact stores_22 w
  · exact stores_23 w
  · exact stores_24 w
  · exact stores_25 w
  · exact stores_26 w
  · exact stores_27 w
  · exact stores_28 w
  · exact stores_29 w
  · exact stores_30 w
  · exact stores_31 w
theorem cost_0 (w : World) : Calls Tryz.prog 68 #[.int .i64 0] w fun e w' => e = .returned (.int .i64 (costS 0)) ∧ w' = w := by
  go_enter Tryz.func68, Tryz.ntmps68
  go_wp2_with fail
  refine (is_c 0 _).mono ?_
  rintro e _ ⟨rfl, rfl⟩
  go_wp2
  go_ret
  exact ⟨rfl, rfl⟩
theorem cost_1 (w : World) : Calls Tryz.prog 68 #[.int .i64 1] w fun e w' => e = .returned (.int .i64 (costS 1)) ∧ w' = w := by
  go_enter Tryz.func68, Tryz.ntmps68
  go_wp2_with fail
  refine (is_c 1 _).mono ?_
  rintro e _ ⟨rfl, rfl⟩
  go_wp2
  go_ret
  exact ⟨rfl, rfl⟩
theorem cost_2 (w : World) : Calls Tryz.prog 68 #[.int .i64 2] w fun e w' => e = .returned (.int .i64 (costS 2)) ∧ w' = w := by
  go_enter Tryz.func68, Tryz.ntmps68
  go_wp2_with fail
  refine (is_c 2 _).mono ?_
  rintro e _ ⟨rfl, rfl⟩
  go_wp2
  go_ret
  exact ⟨rfl, rfl⟩
theorem cost_3 (w : World) : Calls Tryz.prog 68 #[.int .i64 3] w fun e w' => e = .returned (.int .i64 (costS 3)) ∧ w' = w := by
  go_enter Tryz.func68, Tryz.ntmps68
  go_wp2_with fail
  refine (is_c 3 _).mono ?_
  rintro e _ ⟨rfl, rfl⟩
  go_wp2
  go_ret
  exact ⟨rfl, rfl⟩
theorem cost_4 (w : World) : Calls Tryz.prog 68 #[.int .i64 4] w fun e w' => e = .returned (.int .i64 (costS 4)) ∧ w' = w := by
  go_enter Tryz.func68, Tryz.ntmps68
  go_wp2_with fail
  refine (is_c 4 _).mono ?_
  rintro e _ ⟨rfl, rfl⟩
  go_wp2
  go_ret
  exact ⟨rfl, rfl⟩
theorem cost_5 (w : World) : Calls Tryz.prog 68 #[.int .i64 5] w fun e w' => e = .returned (.int .i64 (costS 5)) ∧ w' = w := by
  go_enter Tryz.func68, Tryz.ntmps68
  go_wp2_with fail
  refine (is_c 5 _).mono ?_
  rintro e _ ⟨rfl, rfl⟩
  go_wp2
  go_ret
  exact ⟨rfl, rfl⟩
theorem cost_6 (w : World) : Calls Tryz.prog 68 #[.int .i64 6] w fun e w' => e = .returned (.int .i64 (costS 6)) ∧ w' = w := by
  go_enter Tryz.func68, Tryz.ntmps68
  go_wp2_with fail
  refine (is_c 6 _).mono ?_
  rintro e _ ⟨rfl, rfl⟩
  go_wp2
  go_ret
  exact ⟨rfl, rfl⟩
theorem cost_7 (w : World) : Calls Tryz.prog 68 #[.int .i64 7] w fun e w' => e = .returned (.int .i64 (costS 7)) ∧ w' = w := by
  go_enter Tryz.func68, Tryz.ntmps68
  go_wp2_with fail
  refine (is_c 7 _).mono ?_
  rintro e _ ⟨rfl, rfl⟩
  go_wp2
  go_ret
  exact ⟨rfl, rfl⟩
theorem cost_8 (w : World) : Calls Tryz.prog 68 #[.int .i64 8] w fun e w' => e = .returned (.int .i64 (costS 8)) ∧ w' = w := by
  go_enter Tryz.func68, Tryz.ntmps68
  go_wp2_with fail
  refine (is_c 8 _).mono ?_
  rintro e _ ⟨rfl, rfl⟩
  go_wp2
  go_ret
  exact ⟨rfl, rfl⟩
theorem cost_9 (w : World) : Calls Tryz.prog 68 #[.int .i64 9] w fun e w' => e = .returned (.int .i64 (costS 9)) ∧ w' = w := by
  go_enter Tryz.func68, Tryz.ntmps68
  go_wp2_with fail
  refine (is_c 9 _).mono ?_
  rintro e _ ⟨rfl, rfl⟩
  go_wp2
  go_ret
  exact ⟨rfl, rfl⟩
theorem cost_10 (w : World) : Calls Tryz.prog 68 #[.int .i64 10] w fun e w' => e = .returned (.int .i64 (costS 10)) ∧ w' = w := by
  go_enter Tryz.func68, Tryz.ntmps68
  go_wp2_with fail
  refine (is_c 10 _).mono ?_
  rintro e _ ⟨rfl, rfl⟩
  go_wp2
  go_ret
  exact ⟨rfl, rfl⟩
theorem cost_11 (w : World) : Calls Tryz.prog 68 #[.int .i64 11] w fun e w' => e = .returned (.int .i64 (costS 11)) ∧ w' = w := by
  go_enter Tryz.func68, Tryz.ntmps68
  go_wp2_with fail
  refine (is_c 11 _).mono ?_
  rintro e _ ⟨rfl, rfl⟩
  go_wp2
  go_ret
  exact ⟨rfl, rfl⟩
theorem cost_12 (w : World) : Calls Tryz.prog 68 #[.int .i64 12] w fun e w' => e = .returned (.int .i64 (costS 12)) ∧ w' = w := by
  go_enter Tryz.func68, Tryz.ntmps68
  go_wp2
  go_ret
  exact ⟨rfl, rfl⟩
theorem cost_13 (w : World) : Calls Tryz.prog 68 #[.int .i64 13] w fun e w' => e = .returned (.int .i64 (costS 13)) ∧ w' = w := by
  go_enter Tryz.func68, Tryz.ntmps68
  go_wp2
  go_ret
  exact ⟨rfl, rfl⟩
theorem cost_14 (w : World) : Calls Tryz.prog 68 #[.int .i64 14] w fun e w' => e = .returned (.int .i64 (costS 14)) ∧ w' = w := by
  go_enter Tryz.func68, Tryz.ntmps68
  go_wp2
  go_ret
  exact ⟨rfl, rfl⟩
theorem cost_15 (w : World) : Calls Tryz.prog 68 #[.int .i64 15] w fun e w' => e = .returned (.int .i64 (costS 15)) ∧ w' = w := by
  go_enter Tryz.func68, Tryz.ntmps68
  go_wp2
  go_ret
  exact ⟨rfl, rfl⟩
theorem cost_16 (w : World) : Calls Tryz.prog 68 #[.int .i64 16] w fun e w' => e = .returned (.int .i64 (costS 16)) ∧ w' = w := by
  go_enter Tryz.func68, Tryz.ntmps68
  go_wp2
  go_ret
  exact ⟨rfl, rfl⟩
theorem cost_17 (w : World) : Calls Tryz.prog 68 #[.int .i64 17] w fun e w' => e = .returned (.int .i64 (costS 17)) ∧ w' = w := by
  go_enter Tryz.func68, Tryz.ntmps68
  go_wp2_with fail
  refine (is_c 17 _).mono ?_
  rintro e _ ⟨rfl, rfl⟩
  go_wp2
  go_ret
  exact ⟨rfl, rfl⟩
theorem cost_18 (w : World) : Calls Tryz.prog 68 #[.int .i64 18] w fun e w' => e = .returned (.int .i64 (costS 18)) ∧ w' = w := by
  go_enter Tryz.func68, Tryz.ntmps68
  go_wp2_with fail
  refine (is_c 18 _).mono ?_
  rintro e _ ⟨rfl, rfl⟩
  go_wp2
  go_ret
  exact ⟨rfl, rfl⟩
theorem cost_19 (w : World) : Calls Tryz.prog 68 #[.int .i64 19] w fun e w' => e = .returned (.int .i64 (costS 19)) ∧ w' = w := by
  go_enter Tryz.func68, Tryz.ntmps68
  go_wp2_with fail
  refine (is_c 19 _).mono ?_
  rintro e _ ⟨rfl, rfl⟩
  go_wp2
  go_ret
  exact ⟨rfl, rfl⟩
theorem cost_20 (w : World) : Calls Tryz.prog 68 #[.int .i64 20] w fun e w' => e = .returned (.int .i64 (costS 20)) ∧ w' = w := by
  go_enter Tryz.func68, Tryz.ntmps68
  go_wp2_with fail
  refine (is_c 20 _).mono ?_
  rintro e _ ⟨rfl, rfl⟩
  go_wp2
  go_ret
  exact ⟨rfl, rfl⟩
theorem cost_21 (w : World) : Calls Tryz.prog 68 #[.int .i64 21] w fun e w' => e = .returned (.int .i64 (costS 21)) ∧ w' = w := by
  go_enter Tryz.func68, Tryz.ntmps68
  go_wp2_with fail
  refine (is_c 21 _).mono ?_
  rintro e _ ⟨rfl, rfl⟩
  go_wp2
  go_ret
  exact ⟨rfl, rfl⟩
theorem cost_22 (w : World) : Calls Tryz.prog 68 #[.int .i64 22] w fun e w' => e = .returned (.int .i64 (costS 22)) ∧ w' = w := by
  go_enter Tryz.func68, Tryz.ntmps68
  go_wp2
  go_ret
  exact ⟨rfl, rfl⟩
theorem cost_23 (w : World) : Calls Tryz.prog 68 #[.int .i64 23] w fun e w' => e = .returned (.int .i64 (costS 23)) ∧ w' = w := by
  go_enter Tryz.func68, Tryz.ntmps68
  go_wp2
  go_ret
  exact ⟨rfl, rfl⟩
theorem cost_24 (w : World) : Calls Tryz.prog 68 #[.int .i64 24] w fun e w' => e = .returned (.int .i64 (costS 24)) ∧ w' = w := by
  go_enter Tryz.func68, Tryz.ntmps68
  go_wp2
  go_ret
  exact ⟨rfl, rfl⟩
theorem cost_25 (w : World) : Calls Tryz.prog 68 #[.int .i64 25] w fun e w' => e = .returned (.int .i64 (costS 25)) ∧ w' = w := by
  go_enter Tryz.func68, Tryz.ntmps68
  go_wp2
  go_ret
  exact ⟨rfl, rfl⟩
theorem cost_26 (w : World) : Calls Tryz.prog 68 #[.int .i64 26] w fun e w' => e = .returned (.int .i64 (costS 26)) ∧ w' = w := by
  go_enter Tryz.func68, Tryz.ntmps68
  go_wp2
  go_ret
  exact ⟨rfl, rfl⟩
theorem cost_27 (w : World) : Calls Tryz.prog 68 #[.int .i64 27] w fun e w' => e = .returned (.int .i64 (costS 27)) ∧ w' = w := by
  go_enter Tryz.func68, Tryz.ntmps68
  go_wp2
  go_ret
  exact ⟨rfl, rfl⟩
theorem cost_28 (w : World) : Calls Tryz.prog 68 #[.int .i64 28] w fun e w' => e = .returned (.int .i64 (costS 28)) ∧ w' = w := by
  go_enter Tryz.func68, Tryz.ntmps68
  go_wp2
  go_ret
  exact ⟨rfl, rfl⟩
theorem cost_29 (w : World) : Calls Tryz.prog 68 #[.int .i64 29] w fun e w' => e = .returned (.int .i64 (costS 29)) ∧ w' = w := by
  go_enter Tryz.func68, Tryz.ntmps68
  go_wp2
  go_ret
  exact ⟨rfl, rfl⟩
theorem cost_30 (w : World) : Calls Tryz.prog 68 #[.int .i64 30] w fun e w' => e = .returned (.int .i64 (costS 30)) ∧ w' = w := by
  go_enter Tryz.func68, Tryz.ntmps68
  go_wp2
  go_ret
  exact ⟨rfl, rfl⟩
theorem cost_31 (w : World) : Calls Tryz.prog 68 #[.int .i64 31] w fun e w' => e = .returned (.int .i64 (costS 31)) ∧ w' = w := by
  go_enter Tryz.func68, Tryz.ntmps68
  go_wp2
  go_ret
  exact ⟨rfl, rfl⟩
theorem cost_lo (o : Int) (h : o < 0) (w : World) : Calls Tryz.prog 68 #[.int .i64 o] w fun e w' => e = .returned (.int .i64 (costS o)) ∧ w' = w := by
  have hs : costS o = 0 := by unfold costS; rw [if_neg (by omega), if_neg (by omega), if_neg (by omega), if_neg (by omega), if_neg (by omega), if_neg (by omega), if_neg (by omega), if_neg (by omega), if_neg (by omega), if_neg (by omega), if_neg (by omega), if_neg (by omega), if_neg (by omega), if_neg (by omega), if_neg (by omega), if_neg (by simp [isS]; omega)]
  rw [hs]
  go_enter Tryz.func68, Tryz.ntmps68
  go_wp2_with fail
  refine (is_c o _).mono ?_
  rw [show isS o = false by unfold isS; simp; omega]
  rintro e _ ⟨rfl, rfl⟩
  go_wp2
  go_ret
  exact ⟨rfl, rfl⟩
theorem cost_hi (o : Int) (h : 31 < o) (w : World) : Calls Tryz.prog 68 #[.int .i64 o] w fun e w' => e = .returned (.int .i64 (costS o)) ∧ w' = w := by
  have hs : costS o = 0 := by unfold costS; rw [if_neg (by omega), if_neg (by omega), if_neg (by omega), if_neg (by omega), if_neg (by omega), if_neg (by omega), if_neg (by omega), if_neg (by omega), if_neg (by omega), if_neg (by omega), if_neg (by omega), if_neg (by omega), if_neg (by omega), if_neg (by omega), if_neg (by omega), if_neg (by simp [isS]; omega)]
  rw [hs]
  go_enter Tryz.func68, Tryz.ntmps68
  go_wp2_with fail
  refine (is_c o _).mono ?_
  rw [show isS o = false by unfold isS; simp; omega]
  rintro e _ ⟨rfl, rfl⟩
  go_wp2
  go_ret
  exact ⟨rfl, rfl⟩
theorem cost_c (o : Int) (w : World) : Calls Tryz.prog 68 #[.int .i64 o] w fun e w' => e = .returned (.int .i64 (costS o)) ∧ w' = w := by
  rcases (show o < 0 ∨ 31 < o ∨ o = 0 ∨ o = 1 ∨ o = 2 ∨ o = 3 ∨ o = 4 ∨ o = 5 ∨ o = 6 ∨ o = 7 ∨ o = 8 ∨ o = 9 ∨ o = 10 ∨ o = 11 ∨ o = 12 ∨ o = 13 ∨ o = 14 ∨ o = 15 ∨ o = 16 ∨ o = 17 ∨ o = 18 ∨ o = 19 ∨ o = 20 ∨ o = 21 ∨ o = 22 ∨ o = 23 ∨ o = 24 ∨ o = 25 ∨ o = 26 ∨ o = 27 ∨ o = 28 ∨ o = 29 ∨ o = 30 ∨ o = 31 by omega) with h | h | rfl | rfl | rfl | rfl | rfl | rfl | rfl | rfl | rfl | rfl | rfl | rfl | rfl | rfl | rfl | rfl | rfl | rfl | rfl | rfl | rfl | rfl | rfl | rfl | rfl | rfl | rfl | rfl | rfl | rfl | rfl | rfl
  · exact cost_lo o h w
  · exact cost_hi o h w
  · exact cost_0 w
  · exact cost_1 w
  · exact cost_2 w
  · exact cost_3 w
  · exact cost_4 w
  · exact cost_5 w
  · exact cost_6 w
  · exact cost_7 w
  · exact cost_8 w
  · exact cost_9 w
  · exact cost_10 w
  · exact cost_11 w
  · exact cost_12 w
  · exact cost_13 w
  · exact cost_14 w
  · exact cost_15 w
  · exact cost_16 w
  · exact cost_17 w
  · exact cost_18 w
  · exact cost_19 w
  · exact cost_20 w
  · exact cost_21 w
  · exact cost_22 w
  · exact cost_23 w
  · exact cost_24 w
  · exact cost_25 w
  · exact cost_26 w
  · exact cost_27 w
  · exact cost_28 w
  · exact cost_29 w
  · exact cost_30 w
  · exact cost_31 w
theorem rloads_0 (w : World) : Calls Tryz.prog 28 #[.int .i64 0] w fun e w' => e = .returned (.int .i64 (loadsS 0)) ∧ w' = w := by
  go_enter Tryz.func28, Tryz.ntmps28
  go_wp2
  go_ret
  exact ⟨rfl, rfl⟩
theorem rloads_1 (w : World) : Calls Tryz.prog 28 #[.int .i64 1] w fun e w' => e = .returned (.int .i64 (loadsS 1)) ∧ w' = w := by
  go_enter Tryz.func28, Tryz.ntmps28
  go_wp2
  go_ret
  exact ⟨rfl, rfl⟩
theorem rloads_2 (w : World) : Calls Tryz.prog 28 #[.int .i64 2] w fun e w' => e = .returned (.int .i64 (loadsS 2)) ∧ w' = w := by
  go_enter Tryz.func28, Tryz.ntmps28
  go_wp2
  go_ret
  exact ⟨rfl, rfl⟩
theorem rloads_3 (w : World) : Calls Tryz.prog 28 #[.int .i64 3] w fun e w' => e = .returned (.int .i64 (loadsS 3)) ∧ w' = w := by
  go_enter Tryz.func28, Tryz.ntmps28
  go_wp2
  go_ret
  exact ⟨rfl, rfl⟩
theorem rloads_4 (w : World) : Calls Tryz.prog 28 #[.int .i64 4] w fun e w' => e = .returned (.int .i64 (loadsS 4)) ∧ w' = w := by
  go_enter Tryz.func28, Tryz.ntmps28
  go_wp2
  go_ret
  exact ⟨rfl, rfl⟩
theorem rloads_5 (w : World) : Calls Tryz.prog 28 #[.int .i64 5] w fun e w' => e = .returned (.int .i64 (loadsS 5)) ∧ w' = w := by
  go_enter Tryz.func28, Tryz.ntmps28
  go_wp2
  go_ret
  exact ⟨rfl, rfl⟩
theorem rloads_6 (w : World) : Calls Tryz.prog 28 #[.int .i64 6] w fun e w' => e = .returned (.int .i64 (loadsS 6)) ∧ w' = w := by
  go_enter Tryz.func28, Tryz.ntmps28
  go_wp2
  go_ret
  exact ⟨rfl, rfl⟩
theorem rloads_7 (w : World) : Calls Tryz.prog 28 #[.int .i64 7] w fun e w' => e = .returned (.int .i64 (loadsS 7)) ∧ w' = w := by
  go_enter Tryz.func28, Tryz.ntmps28
  go_wp2
  go_ret
  exact ⟨rfl, rfl⟩
theorem rloads_8 (w : World) : Calls Tryz.prog 28 #[.int .i64 8] w fun e w' => e = .returned (.int .i64 (loadsS 8)) ∧ w' = w := by
  go_enter Tryz.func28, Tryz.ntmps28
  go_wp2
  go_ret
  exact ⟨rfl, rfl⟩
theorem rloads_9 (w : World) : Calls Tryz.prog 28 #[.int .i64 9] w fun e w' => e = .returned (.int .i64 (loadsS 9)) ∧ w' = w := by
  go_enter Tryz.func28, Tryz.ntmps28
  go_wp2
  go_ret
  exact ⟨rfl, rfl⟩
theorem rloads_10 (w : World) : Calls Tryz.prog 28 #[.int .i64 10] w fun e w' => e = .returned (.int .i64 (loadsS 10)) ∧ w' = w := by
  go_enter Tryz.func28, Tryz.ntmps28
  go_wp2
  go_ret
  exact ⟨rfl, rfl⟩
theorem rloads_11 (w : World) : Calls Tryz.prog 28 #[.int .i64 11] w fun e w' => e = .returned (.int .i64 (loadsS 11)) ∧ w' = w := by
  go_enter Tryz.func28, Tryz.ntmps28
  go_wp2
  go_ret
  exact ⟨rfl, rfl⟩
theorem rloads_12 (w : World) : Calls Tryz.prog 28 #[.int .i64 12] w fun e w' => e = .returned (.int .i64 (loadsS 12)) ∧ w' = w := by
  go_enter Tryz.func28, Tryz.ntmps28
  go_wp2
  go_ret
  exact ⟨rfl, rfl⟩
theorem rloads_13 (w : World) : Calls Tryz.prog 28 #[.int .i64 13] w fun e w' => e = .returned (.int .i64 (loadsS 13)) ∧ w' = w := by
  go_enter Tryz.func28, Tryz.ntmps28
  go_wp2
  go_ret
  exact ⟨rfl, rfl⟩
theorem rloads_14 (w : World) : Calls Tryz.prog 28 #[.int .i64 14] w fun e w' => e = .returned (.int .i64 (loadsS 14)) ∧ w' = w := by
  go_enter Tryz.func28, Tryz.ntmps28
  go_wp2
  go_ret
  exact ⟨rfl, rfl⟩
theorem rloads_15 (w : World) : Calls Tryz.prog 28 #[.int .i64 15] w fun e w' => e = .returned (.int .i64 (loadsS 15)) ∧ w' = w := by
  go_enter Tryz.func28, Tryz.ntmps28
  go_wp2
  go_ret
  exact ⟨rfl, rfl⟩
theorem rloads_16 (w : World) : Calls Tryz.prog 28 #[.int .i64 16] w fun e w' => e = .returned (.int .i64 (loadsS 16)) ∧ w' = w := by
  go_enter Tryz.func28, Tryz.ntmps28
  go_wp2
  go_ret
  exact ⟨rfl, rfl⟩
theorem rloads_17 (w : World) : Calls Tryz.prog 28 #[.int .i64 17] w fun e w' => e = .returned (.int .i64 (loadsS 17)) ∧ w' = w := by
  go_enter Tryz.func28, Tryz.ntmps28
  go_wp2
  go_ret
  exact ⟨rfl, rfl⟩
theorem rloads_18 (w : World) : Calls Tryz.prog 28 #[.int .i64 18] w fun e w' => e = .returned (.int .i64 (loadsS 18)) ∧ w' = w := by
  go_enter Tryz.func28, Tryz.ntmps28
  go_wp2
  go_ret
  exact ⟨rfl, rfl⟩
theorem rloads_19 (w : World) : Calls Tryz.prog 28 #[.int .i64 19] w fun e w' => e = .returned (.int .i64 (loadsS 19)) ∧ w' = w := by
  go_enter Tryz.func28, Tryz.ntmps28
  go_wp2
  go_ret
  exact ⟨rfl, rfl⟩
theorem rloads_20 (w : World) : Calls Tryz.prog 28 #[.int .i64 20] w fun e w' => e = .returned (.int .i64 (loadsS 20)) ∧ w' = w := by
  go_enter Tryz.func28, Tryz.ntmps28
  go_wp2
  go_ret
  exact ⟨rfl, rfl⟩
theorem rloads_21 (w : World) : Calls Tryz.prog 28 #[.int .i64 21] w fun e w' => e = .returned (.int .i64 (loadsS 21)) ∧ w' = w := by
  go_enter Tryz.func28, Tryz.ntmps28
  go_wp2
  go_ret
  exact ⟨rfl, rfl⟩
theorem rloads_22 (w : World) : Calls Tryz.prog 28 #[.int .i64 22] w fun e w' => e = .returned (.int .i64 (loadsS 22)) ∧ w' = w := by
  go_enter Tryz.func28, Tryz.ntmps28
  go_wp2
  go_ret
  exact ⟨rfl, rfl⟩
theorem rloads_23 (w : World) : Calls Tryz.prog 28 #[.int .i64 23] w fun e w' => e = .returned (.int .i64 (loadsS 23)) ∧ w' = w := by
  go_enter Tryz.func28, Tryz.ntmps28
  go_wp2
  go_ret
  exact ⟨rfl, rfl⟩
theorem rloads_24 (w : World) : Calls Tryz.prog 28 #[.int .i64 24] w fun e w' => e = .returned (.int .i64 (loadsS 24)) ∧ w' = w := by
  go_enter Tryz.func28, Tryz.ntmps28
  go_wp2
  go_ret
  exact ⟨rfl, rfl⟩
theorem rloads_25 (w : World) : Calls Tryz.prog 28 #[.int .i64 25] w fun e w' => e = .returned (.int .i64 (loadsS 25)) ∧ w' = w := by
  go_enter Tryz.func28, Tryz.ntmps28
  go_wp2
  go_ret
  exact ⟨rfl, rfl⟩
theorem rloads_26 (w : World) : Calls Tryz.prog 28 #[.int .i64 26] w fun e w' => e = .returned (.int .i64 (loadsS 26)) ∧ w' = w := by
  go_enter Tryz.func28, Tryz.ntmps28
  go_wp2
  go_ret
  exact ⟨rfl, rfl⟩
theorem rloads_27 (w : World) : Calls Tryz.prog 28 #[.int .i64 27] w fun e w' => e = .returned (.int .i64 (loadsS 27)) ∧ w' = w := by
  go_enter Tryz.func28, Tryz.ntmps28
  go_wp2
  go_ret
  exact ⟨rfl, rfl⟩
theorem rloads_28 (w : World) : Calls Tryz.prog 28 #[.int .i64 28] w fun e w' => e = .returned (.int .i64 (loadsS 28)) ∧ w' = w := by
  go_enter Tryz.func28, Tryz.ntmps28
  go_wp2
  go_ret
  exact ⟨rfl, rfl⟩
theorem rloads_29 (w : World) : Calls Tryz.prog 28 #[.int .i64 29] w fun e w' => e = .returned (.int .i64 (loadsS 29)) ∧ w' = w := by
  go_enter Tryz.func28, Tryz.ntmps28
  go_wp2
  go_ret
  exact ⟨rfl, rfl⟩
theorem rloads_30 (w : World) : Calls Tryz.prog 28 #[.int .i64 30] w fun e w' => e = .returned (.int .i64 (loadsS 30)) ∧ w' = w := by
  go_enter Tryz.func28, Tryz.ntmps28
  go_wp2
  go_ret
  exact ⟨rfl, rfl⟩
theorem rloads_31 (w : World) : Calls Tryz.prog 28 #[.int .i64 31] w fun e w' => e = .returned (.int .i64 (loadsS 31)) ∧ w' = w := by
  go_enter Tryz.func28, Tryz.ntmps28
  go_wp2
  go_ret
  exact ⟨rfl, rfl⟩
theorem rloads_lo (o : Int) (h : o < 0) (w : World) : Calls Tryz.prog 28 #[.int .i64 o] w fun e w' => e = .returned (.int .i64 (loadsS o)) ∧ w' = w := by
  have hs : loadsS o = 0 := by unfold loadsS; rw [if_neg (by omega), if_neg (by omega), if_neg (by omega)]
  rw [hs]
  go_enter Tryz.func28, Tryz.ntmps28
  go_wp2
  go_ret
  exact ⟨rfl, rfl⟩
theorem rloads_hi (o : Int) (h : 31 < o) (w : World) : Calls Tryz.prog 28 #[.int .i64 o] w fun e w' => e = .returned (.int .i64 (loadsS o)) ∧ w' = w := by
  have hs : loadsS o = 0 := by unfold loadsS; rw [if_neg (by omega), if_neg (by omega), if_neg (by omega)]
  rw [hs]
  go_enter Tryz.func28, Tryz.ntmps28
  go_wp2
  go_ret
  exact ⟨rfl, rfl⟩
theorem rloads_c (o : Int) (w : World) : Calls Tryz.prog 28 #[.int .i64 o] w fun e w' => e = .returned (.int .i64 (loadsS o)) ∧ w' = w := by
  rcases (show o < 0 ∨ 31 < o ∨ o = 0 ∨ o = 1 ∨ o = 2 ∨ o = 3 ∨ o = 4 ∨ o = 5 ∨ o = 6 ∨ o = 7 ∨ o = 8 ∨ o = 9 ∨ o = 10 ∨ o = 11 ∨ o = 12 ∨ o = 13 ∨ o = 14 ∨ o = 15 ∨ o = 16 ∨ o = 17 ∨ o = 18 ∨ o = 19 ∨ o = 20 ∨ o = 21 ∨ o = 22 ∨ o = 23 ∨ o = 24 ∨ o = 25 ∨ o = 26 ∨ o = 27 ∨ o = 28 ∨ o = 29 ∨ o = 30 ∨ o = 31 by omega) with h | h | rfl | rfl | rfl | rfl | rfl | rfl | rfl | rfl | rfl | rfl | rfl | rfl | rfl | rfl | rfl | rfl | rfl | rfl | rfl | rfl | rfl | rfl | rfl | rfl | rfl | rfl | rfl | rfl | rfl | rfl | rfl | rfl
  · exact rloads_lo o h w
  · exact rloads_hi o h w
  · exact rloads_0 w
  · exact rloads_1 w
  · exact rloads_2 w
  · exact rloads_3 w
  · exact rloads_4 w
  · exact rloads_5 w
  · exact rloads_6 w
  · exact rloads_7 w
  · exact rloads_8 w
  · exact rloads_9 w
  · exact rloads_10 w
  · exact rloads_11 w
  · exact rloads_12 w
  · exact rloads_13 w
  · exact rloads_14 w
  · exact rloads_15 w
  · exact rloads_16 w
  · exact rloads_17 w
  · exact rloads_18 w
  · exact rloads_19 w
  · exact rloads_20 w
  · exact rloads_21 w
  · exact rloads_22 w
  · exact rloads_23 w
  · exact rloads_24 w
  · exact rloads_25 w
  · exact rloads_26 w
  · exact rloads_27 w
  · exact rloads_28 w
  · exact rloads_29 w
  · exact rloads_30 w
  · exact rloads_31 w
theorem rstores_0 (w : World) : Calls Tryz.prog 30 #[.int .i64 0] w fun e w' => e = .returned (.int .i64 (storesS 0)) ∧ w' = w := by
  go_enter Tryz.func30, Tryz.ntmps30
  go_wp2
  go_ret
  exact ⟨rfl, rfl⟩
theorem rstores_1 (w : World) : Calls Tryz.prog 30 #[.int .i64 1] w fun e w' => e = .returned (.int .i64 (storesS 1)) ∧ w' = w := by
  go_enter Tryz.func30, Tryz.ntmps30
  go_wp2
  go_ret
  exact ⟨rfl, rfl⟩
theorem rstores_2 (w : World) : Calls Tryz.prog 30 #[.int .i64 2] w fun e w' => e = .returned (.int .i64 (storesS 2)) ∧ w' = w := by
  go_enter Tryz.func30, Tryz.ntmps30
  go_wp2
  go_ret
  exact ⟨rfl, rfl⟩
theorem rstores_3 (w : World) : Calls Tryz.prog 30 #[.int .i64 3] w fun e w' => e = .returned (.int .i64 (storesS 3)) ∧ w' = w := by
  go_enter Tryz.func30, Tryz.ntmps30
  go_wp2
  go_ret
  exact ⟨rfl, rfl⟩
theorem rstores_4 (w : World) : Calls Tryz.prog 30 #[.int .i64 4] w fun e w' => e = .returned (.int .i64 (storesS 4)) ∧ w' = w := by
  go_enter Tryz.func30, Tryz.ntmps30
  go_wp2
  go_ret
  exact ⟨rfl, rfl⟩
theorem rstores_5 (w : World) : Calls Tryz.prog 30 #[.int .i64 5] w fun e w' => e = .returned (.int .i64 (storesS 5)) ∧ w' = w := by
  go_enter Tryz.func30, Tryz.ntmps30
  go_wp2
  go_ret
  exact ⟨rfl, rfl⟩
theorem rstores_6 (w : World) : Calls Tryz.prog 30 #[.int .i64 6] w fun e w' => e = .returned (.int .i64 (storesS 6)) ∧ w' = w := by
  go_enter Tryz.func30, Tryz.ntmps30
  go_wp2
  go_ret
  exact ⟨rfl, rfl⟩
theorem rstores_7 (w : World) : Calls Tryz.prog 30 #[.int .i64 7] w fun e w' => e = .returned (.int .i64 (storesS 7)) ∧ w' = w := by
  go_enter Tryz.func30, Tryz.ntmps30
  go_wp2
  go_ret
  exact ⟨rfl, rfl⟩
theorem rstores_8 (w : World) : Calls Tryz.prog 30 #[.int .i64 8] w fun e w' => e = .returned (.int .i64 (storesS 8)) ∧ w' = w := by
  go_enter Tryz.func30, Tryz.ntmps30
  go_wp2
  go_ret
  exact ⟨rfl, rfl⟩
theorem rstores_9 (w : World) : Calls Tryz.prog 30 #[.int .i64 9] w fun e w' => e = .returned (.int .i64 (storesS 9)) ∧ w' = w := by
  go_enter Tryz.func30, Tryz.ntmps30
  go_wp2
  go_ret
  exact ⟨rfl, rfl⟩
theorem rstores_10 (w : World) : Calls Tryz.prog 30 #[.int .i64 10] w fun e w' => e = .returned (.int .i64 (storesS 10)) ∧ w' = w := by
  go_enter Tryz.func30, Tryz.ntmps30
  go_wp2
  go_ret
  exact ⟨rfl, rfl⟩
theorem rstores_11 (w : World) : Calls Tryz.prog 30 #[.int .i64 11] w fun e w' => e = .returned (.int .i64 (storesS 11)) ∧ w' = w := by
  go_enter Tryz.func30, Tryz.ntmps30
  go_wp2
  go_ret
  exact ⟨rfl, rfl⟩
theorem rstores_12 (w : World) : Calls Tryz.prog 30 #[.int .i64 12] w fun e w' => e = .returned (.int .i64 (storesS 12)) ∧ w' = w := by
  go_enter Tryz.func30, Tryz.ntmps30
  go_wp2
  go_ret
  exact ⟨rfl, rfl⟩
theorem rstores_13 (w : World) : Calls Tryz.prog 30 #[.int .i64 13] w fun e w' => e = .returned (.int .i64 (storesS 13)) ∧ w' = w := by
  go_enter Tryz.func30, Tryz.ntmps30
  go_wp2
  go_ret
  exact ⟨rfl, rfl⟩
theorem rstores_14 (w : World) : Calls Tryz.prog 30 #[.int .i64 14] w fun e w' => e = .returned (.int .i64 (storesS 14)) ∧ w' = w := by
  go_enter Tryz.func30, Tryz.ntmps30
  go_wp2
  go_ret
  exact ⟨rfl, rfl⟩
theorem rstores_15 (w : World) : Calls Tryz.prog 30 #[.int .i64 15] w fun e w' => e = .returned (.int .i64 (storesS 15)) ∧ w' = w := by
  go_enter Tryz.func30, Tryz.ntmps30
  go_wp2
  go_ret
  exact ⟨rfl, rfl⟩
theorem rstores_16 (w : World) : Calls Tryz.prog 30 #[.int .i64 16] w fun e w' => e = .returned (.int .i64 (storesS 16)) ∧ w' = w := by
  go_enter Tryz.func30, Tryz.ntmps30
  go_wp2
  go_ret
  exact ⟨rfl, rfl⟩
theorem rstores_17 (w : World) : Calls Tryz.prog 30 #[.int .i64 17] w fun e w' => e = .returned (.int .i64 (storesS 17)) ∧ w' = w := by
  go_enter Tryz.func30, Tryz.ntmps30
  go_wp2
  go_ret
  exact ⟨rfl, rfl⟩
theorem rstores_18 (w : World) : Calls Tryz.prog 30 #[.int .i64 18] w fun e w' => e = .returned (.int .i64 (storesS 18)) ∧ w' = w := by
  go_enter Tryz.func30, Tryz.ntmps30
  go_wp2
  go_ret
  exact ⟨rfl, rfl⟩
theorem rstores_19 (w : World) : Calls Tryz.prog 30 #[.int .i64 19] w fun e w' => e = .returned (.int .i64 (storesS 19)) ∧ w' = w := by
  go_enter Tryz.func30, Tryz.ntmps30
  go_wp2
  go_ret
  exact ⟨rfl, rfl⟩
theorem rstores_20 (w : World) : Calls Tryz.prog 30 #[.int .i64 20] w fun e w' => e = .returned (.int .i64 (storesS 20)) ∧ w' = w := by
  go_enter Tryz.func30, Tryz.ntmps30
  go_wp2
  go_ret
  exact ⟨rfl, rfl⟩
theorem rstores_21 (w : World) : Calls Tryz.prog 30 #[.int .i64 21] w fun e w' => e = .returned (.int .i64 (storesS 21)) ∧ w' = w := by
  go_enter Tryz.func30, Tryz.ntmps30
  go_wp2
  go_ret
  exact ⟨rfl, rfl⟩
theorem rstores_22 (w : World) : Calls Tryz.prog 30 #[.int .i64 22] w fun e w' => e = .returned (.int .i64 (storesS 22)) ∧ w' = w := by
  go_enter Tryz.func30, Tryz.ntmps30
  go_wp2
  go_ret
  exact ⟨rfl, rfl⟩
theorem rstores_23 (w : World) : Calls Tryz.prog 30 #[.int .i64 23] w fun e w' => e = .returned (.int .i64 (storesS 23)) ∧ w' = w := by
  go_enter Tryz.func30, Tryz.ntmps30
  go_wp2
  go_ret
  exact ⟨rfl, rfl⟩
theorem rstores_24 (w : World) : Calls Tryz.prog 30 #[.int .i64 24] w fun e w' => e = .returned (.int .i64 (storesS 24)) ∧ w' = w := by
  go_enter Tryz.func30, Tryz.ntmps30
  go_wp2
  go_ret
  exact ⟨rfl, rfl⟩
theorem rstores_25 (w : World) : Calls Tryz.prog 30 #[.int .i64 25] w fun e w' => e = .returned (.int .i64 (storesS 25)) ∧ w' = w := by
  go_enter Tryz.func30, Tryz.ntmps30
  go_wp2
  go_ret
  exact ⟨rfl, rfl⟩
theorem rstores_26 (w : World) : Calls Tryz.prog 30 #[.int .i64 26] w fun e w' => e = .returned (.int .i64 (storesS 26)) ∧ w' = w := by
  go_enter Tryz.func30, Tryz.ntmps30
  go_wp2
  go_ret
  exact ⟨rfl, rfl⟩
theorem rstores_27 (w : World) : Calls Tryz.prog 30 #[.int .i64 27] w fun e w' => e = .returned (.int .i64 (storesS 27)) ∧ w' = w := by
  go_enter Tryz.func30, Tryz.ntmps30
  go_wp2
  go_ret
  exact ⟨rfl, rfl⟩
theorem rstores_28 (w : World) : Calls Tryz.prog 30 #[.int .i64 28] w fun e w' => e = .returned (.int .i64 (storesS 28)) ∧ w' = w := by
  go_enter Tryz.func30, Tryz.ntmps30
  go_wp2
  go_ret
  exact ⟨rfl, rfl⟩
theorem rstores_29 (w : World) : Calls Tryz.prog 30 #[.int .i64 29] w fun e w' => e = .returned (.int .i64 (storesS 29)) ∧ w' = w := by
  go_enter Tryz.func30, Tryz.ntmps30
  go_wp2
  go_ret
  exact ⟨rfl, rfl⟩
theorem rstores_30 (w : World) : Calls Tryz.prog 30 #[.int .i64 30] w fun e w' => e = .returned (.int .i64 (storesS 30)) ∧ w' = w := by
  go_enter Tryz.func30, Tryz.ntmps30
  go_wp2
  go_ret
  exact ⟨rfl, rfl⟩
theorem rstores_31 (w : World) : Calls Tryz.prog 30 #[.int .i64 31] w fun e w' => e = .returned (.int .i64 (storesS 31)) ∧ w' = w := by
  go_enter Tryz.func30, Tryz.ntmps30
  go_wp2
  go_ret
  exact ⟨rfl, rfl⟩
theorem rstores_lo (o : Int) (h : o < 0) (w : World) : Calls Tryz.prog 30 #[.int .i64 o] w fun e w' => e = .returned (.int .i64 (storesS o)) ∧ w' = w := by
  have hs : storesS o = 0 := by unfold storesS; rw [if_neg (by omega), if_neg (by omega), if_neg (by omega)]
  rw [hs]
  go_enter Tryz.func30, Tryz.ntmps30
  go_wp2
  go_ret
  exact ⟨rfl, rfl⟩
theorem rstores_hi (o : Int) (h : 31 < o) (w : World) : Calls Tryz.prog 30 #[.int .i64 o] w fun e w' => e = .returned (.int .i64 (storesS o)) ∧ w' = w := by
  have hs : storesS o = 0 := by unfold storesS; rw [if_neg (by omega), if_neg (by omega), if_neg (by omega)]
  rw [hs]
  go_enter Tryz.func30, Tryz.ntmps30
  go_wp2
  go_ret
  exact ⟨rfl, rfl⟩
theorem rstores_c (o : Int) (w : World) : Calls Tryz.prog 30 #[.int .i64 o] w fun e w' => e = .returned (.int .i64 (storesS o)) ∧ w' = w := by
  rcases (show o < 0 ∨ 31 < o ∨ o = 0 ∨ o = 1 ∨ o = 2 ∨ o = 3 ∨ o = 4 ∨ o = 5 ∨ o = 6 ∨ o = 7 ∨ o = 8 ∨ o = 9 ∨ o = 10 ∨ o = 11 ∨ o = 12 ∨ o = 13 ∨ o = 14 ∨ o = 15 ∨ o = 16 ∨ o = 17 ∨ o = 18 ∨ o = 19 ∨ o = 20 ∨ o = 21 ∨ o = 22 ∨ o = 23 ∨ o = 24 ∨ o = 25 ∨ o = 26 ∨ o = 27 ∨ o = 28 ∨ o = 29 ∨ o = 30 ∨ o = 31 by omega) with h | h | rfl | rfl | rfl | rfl | rfl | rfl | rfl | rfl | rfl | rfl | rfl | rfl | rfl | rfl | rfl | rfl | rfl | rfl | rfl | rfl | rfl | rfl | rfl | rfl | rfl | rfl | rfl | rfl | rfl | rfl | rfl | rfl
  · exact rstores_lo o h w
  · exact rstores_hi o h w
  · exact rstores_0 w
  · exact rstores_1 w
  · exact rstores_2 w
  · exact rstores_3 w
  · exact rstores_4 w
  · exact rstores_5 w
  · exact rstores_6 w
  · exact rstores_7 w
  · exact rstores_8 w
  · exact rstores_9 w
  · exact rstores_10 w
  · exact rstores_11 w
  · exact rstores_12 w
  · exact rstores_13 w
  · exact rstores_14 w
  · exact rstores_15 w
  · exact rstores_16 w
  · exact rstores_17 w
  · exact rstores_18 w
  · exact rstores_19 w
  · exact rstores_20 w
  · exact rstores_21 w
  · exact rstores_22 w
  · exact rstores_23 w
  · exact rstores_24 w
  · exact rstores_25 w
  · exact rstores_26 w
  · exact rstores_27 w
  · exact rstores_28 w
  · exact rstores_29 w
  · exact rstores_30 w
  · exact rstores_31 w
theorem rcost_0 (w : World) : Calls Tryz.prog 27 #[.int .i64 0] w fun e w' => e = .returned (.int .i64 (costS 0)) ∧ w' = w := by
  go_enter Tryz.func27, Tryz.ntmps27
  go_wp2
  go_ret
  exact ⟨rfl, rfl⟩
theorem rcost_1 (w : World) : Calls Tryz.prog 27 #[.int .i64 1] w fun e w' => e = .returned (.int .i64 (costS 1)) ∧ w' = w := by
  go_enter Tryz.func27, Tryz.ntmps27
  go_wp2_with fail
  refine (rloads_c 1 _).mono ?_
  rintro e _ ⟨rfl, rfl⟩
  go_wp2_with fail
  refine (rstores_c 1 _).mono ?_
  rintro e _ ⟨rfl, rfl⟩
  go_wp2
  go_ret
  exact ⟨rfl, rfl⟩
theorem rcost_2 (w : World) : Calls Tryz.prog 27 #[.int .i64 2] w fun e w' => e = .returned (.int .i64 (costS 2)) ∧ w' = w := by
  go_enter Tryz.func27, Tryz.ntmps27
  go_wp2_with fail
  refine (rloads_c 2 _).mono ?_
  rintro e _ ⟨rfl, rfl⟩
  go_wp2_with fail
  refine (rstores_c 2 _).mono ?_
  rintro e _ ⟨rfl, rfl⟩
  go_wp2
  go_ret
  exact ⟨rfl, rfl⟩
theorem rcost_3 (w : World) : Calls Tryz.prog 27 #[.int .i64 3] w fun e w' => e = .returned (.int .i64 (costS 3)) ∧ w' = w := by
  go_enter Tryz.func27, Tryz.ntmps27
  go_wp2_with fail
  refine (rloads_c 3 _).mono ?_
  rintro e _ ⟨rfl, rfl⟩
  go_wp2_with fail
  refine (rstores_c 3 _).mono ?_
  rintro e _ ⟨rfl, rfl⟩
  go_wp2
  go_ret
  exact ⟨rfl, rfl⟩
theorem rcost_4 (w : World) : Calls Tryz.prog 27 #[.int .i64 4] w fun e w' => e = .returned (.int .i64 (costS 4)) ∧ w' = w := by
  go_enter Tryz.func27, Tryz.ntmps27
  go_wp2_with fail
  refine (rloads_c 4 _).mono ?_
  rintro e _ ⟨rfl, rfl⟩
  go_wp2_with fail
  refine (rstores_c 4 _).mono ?_
  rintro e _ ⟨rfl, rfl⟩
  go_wp2
  go_ret
  exact ⟨rfl, rfl⟩
theorem rcost_5 (w : World) : Calls Tryz.prog 27 #[.int .i64 5] w fun e w' => e = .returned (.int .i64 (costS 5)) ∧ w' = w := by
  go_enter Tryz.func27, Tryz.ntmps27
  go_wp2_with fail
  refine (rloads_c 5 _).mono ?_
  rintro e _ ⟨rfl, rfl⟩
  go_wp2_with fail
  refine (rstores_c 5 _).mono ?_
  rintro e _ ⟨rfl, rfl⟩
  go_wp2
  go_ret
  exact ⟨rfl, rfl⟩
theorem rcost_6 (w : World) : Calls Tryz.prog 27 #[.int .i64 6] w fun e w' => e = .returned (.int .i64 (costS 6)) ∧ w' = w := by
  go_enter Tryz.func27, Tryz.ntmps27
  go_wp2_with fail
  refine (rloads_c 6 _).mono ?_
  rintro e _ ⟨rfl, rfl⟩
  go_wp2_with fail
  refine (rstores_c 6 _).mono ?_
  rintro e _ ⟨rfl, rfl⟩
  go_wp2
  go_ret
  exact ⟨rfl, rfl⟩
theorem rcost_7 (w : World) : Calls Tryz.prog 27 #[.int .i64 7] w fun e w' => e = .returned (.int .i64 (costS 7)) ∧ w' = w := by
  go_enter Tryz.func27, Tryz.ntmps27
  go_wp2_with fail
  refine (rloads_c 7 _).mono ?_
  rintro e _ ⟨rfl, rfl⟩
  go_wp2_with fail
  refine (rstores_c 7 _).mono ?_
  rintro e _ ⟨rfl, rfl⟩
  go_wp2
  go_ret
  exact ⟨rfl, rfl⟩
theorem rcost_8 (w : World) : Calls Tryz.prog 27 #[.int .i64 8] w fun e w' => e = .returned (.int .i64 (costS 8)) ∧ w' = w := by
  go_enter Tryz.func27, Tryz.ntmps27
  go_wp2_with fail
  refine (rloads_c 8 _).mono ?_
  rintro e _ ⟨rfl, rfl⟩
  go_wp2_with fail
  refine (rstores_c 8 _).mono ?_
  rintro e _ ⟨rfl, rfl⟩
  go_wp2
  go_ret
  exact ⟨rfl, rfl⟩
theorem rcost_9 (w : World) : Calls Tryz.prog 27 #[.int .i64 9] w fun e w' => e = .returned (.int .i64 (costS 9)) ∧ w' = w := by
  go_enter Tryz.func27, Tryz.ntmps27
  go_wp2_with fail
  refine (rloads_c 9 _).mono ?_
  rintro e _ ⟨rfl, rfl⟩
  go_wp2_with fail
  refine (rstores_c 9 _).mono ?_
  rintro e _ ⟨rfl, rfl⟩
  go_wp2
  go_ret
  exact ⟨rfl, rfl⟩
theorem rcost_10 (w : World) : Calls Tryz.prog 27 #[.int .i64 10] w fun e w' => e = .returned (.int .i64 (costS 10)) ∧ w' = w := by
  go_enter Tryz.func27, Tryz.ntmps27
  go_wp2_with fail
  refine (rloads_c 10 _).mono ?_
  rintro e _ ⟨rfl, rfl⟩
  go_wp2_with fail
  refine (rstores_c 10 _).mono ?_
  rintro e _ ⟨rfl, rfl⟩
  go_wp2
  go_ret
  exact ⟨rfl, rfl⟩
theorem rcost_11 (w : World) : Calls Tryz.prog 27 #[.int .i64 11] w fun e w' => e = .returned (.int .i64 (costS 11)) ∧ w' = w := by
  go_enter Tryz.func27, Tryz.ntmps27
  go_wp2_with fail
  refine (rloads_c 11 _).mono ?_
  rintro e _ ⟨rfl, rfl⟩
  go_wp2_with fail
  refine (rstores_c 11 _).mono ?_
  rintro e _ ⟨rfl, rfl⟩
  go_wp2
  go_ret
  exact ⟨rfl, rfl⟩
theorem rcost_12 (w : World) : Calls Tryz.prog 27 #[.int .i64 12] w fun e w' => e = .returned (.int .i64 (costS 12)) ∧ w' = w := by
  go_enter Tryz.func27, Tryz.ntmps27
  go_wp2
  go_ret
  exact ⟨rfl, rfl⟩
theorem rcost_13 (w : World) : Calls Tryz.prog 27 #[.int .i64 13] w fun e w' => e = .returned (.int .i64 (costS 13)) ∧ w' = w := by
  go_enter Tryz.func27, Tryz.ntmps27
  go_wp2
  go_ret
  exact ⟨rfl, rfl⟩
theorem rcost_14 (w : World) : Calls Tryz.prog 27 #[.int .i64 14] w fun e w' => e = .returned (.int .i64 (costS 14)) ∧ w' = w := by
  go_enter Tryz.func27, Tryz.ntmps27
  go_wp2
  go_ret
  exact ⟨rfl, rfl⟩
theorem rcost_15 (w : World) : Calls Tryz.prog 27 #[.int .i64 15] w fun e w' => e = .returned (.int .i64 (costS 15)) ∧ w' = w := by
  go_enter Tryz.func27, Tryz.ntmps27
  go_wp2
  go_ret
  exact ⟨rfl, rfl⟩
theorem rcost_16 (w : World) : Calls Tryz.prog 27 #[.int .i64 16] w fun e w' => e = .returned (.int .i64 (costS 16)) ∧ w' = w := by
  go_enter Tryz.func27, Tryz.ntmps27
  go_wp2
  go_ret
  exact ⟨rfl, rfl⟩
theorem rcost_17 (w : World) : Calls Tryz.prog 27 #[.int .i64 17] w fun e w' => e = .returned (.int .i64 (costS 17)) ∧ w' = w := by
  go_enter Tryz.func27, Tryz.ntmps27
  go_wp2_with fail
  refine (rloads_c 17 _).mono ?_
  rintro e _ ⟨rfl, rfl⟩
  go_wp2_with fail
  refine (rstores_c 17 _).mono ?_
  rintro e _ ⟨rfl, rfl⟩
  go_wp2
  go_ret
  exact ⟨rfl, rfl⟩
theorem rcost_18 (w : World) : Calls Tryz.prog 27 #[.int .i64 18] w fun e w' => e = .returned (.int .i64 (costS 18)) ∧ w' = w := by
  go_enter Tryz.func27, Tryz.ntmps27
  go_wp2_with fail
  refine (rloads_c 18 _).mono ?_
  rintro e _ ⟨rfl, rfl⟩
  go_wp2_with fail
  refine (rstores_c 18 _).mono ?_
  rintro e _ ⟨rfl, rfl⟩
  go_wp2
  go_ret
  exact ⟨rfl, rfl⟩
theorem rcost_19 (w : World) : Calls Tryz.prog 27 #[.int .i64 19] w fun e w' => e = .returned (.int .i64 (costS 19)) ∧ w' = w := by
  go_enter Tryz.func27, Tryz.ntmps27
  go_wp2_with fail
  refine (rloads_c 19 _).mono ?_
  rintro e _ ⟨rfl, rfl⟩
  go_wp2_with fail
  refine (rstores_c 19 _).mono ?_
  rintro e _ ⟨rfl, rfl⟩
  go_wp2
  go_ret
  exact ⟨rfl, rfl⟩
theorem rcost_20 (w : World) : Calls Tryz.prog 27 #[.int .i64 20] w fun e w' => e = .returned (.int .i64 (costS 20)) ∧ w' = w := by
  go_enter Tryz.func27, Tryz.ntmps27
  go_wp2_with fail
  refine (rloads_c 20 _).mono ?_
  rintro e _ ⟨rfl, rfl⟩
  go_wp2_with fail
  refine (rstores_c 20 _).mono ?_
  rintro e _ ⟨rfl, rfl⟩
  go_wp2
  go_ret
  exact ⟨rfl, rfl⟩
theorem rcost_21 (w : World) : Calls Tryz.prog 27 #[.int .i64 21] w fun e w' => e = .returned (.int .i64 (costS 21)) ∧ w' = w := by
  go_enter Tryz.func27, Tryz.ntmps27
  go_wp2_with fail
  refine (rloads_c 21 _).mono ?_
  rintro e _ ⟨rfl, rfl⟩
  go_wp2_with fail
  refine (rstores_c 21 _).mono ?_
  rintro e _ ⟨rfl, rfl⟩
  go_wp2
  go_ret
  exact ⟨rfl, rfl⟩
theorem rcost_22 (w : World) : Calls Tryz.prog 27 #[.int .i64 22] w fun e w' => e = .returned (.int .i64 (costS 22)) ∧ w' = w := by
  go_enter Tryz.func27, Tryz.ntmps27
  go_wp2_with fail
  refine (rloads_c 22 _).mono ?_
  rintro e _ ⟨rfl, rfl⟩
  go_wp2
  go_ret
  exact ⟨rfl, rfl⟩
theorem rcost_23 (w : World) : Calls Tryz.prog 27 #[.int .i64 23] w fun e w' => e = .returned (.int .i64 (costS 23)) ∧ w' = w := by
  go_enter Tryz.func27, Tryz.ntmps27
  go_wp2_with fail
  refine (rloads_c 23 _).mono ?_
  rintro e _ ⟨rfl, rfl⟩
  go_wp2
  go_ret
  exact ⟨rfl, rfl⟩
theorem rcost_24 (w : World) : Calls Tryz.prog 27 #[.int .i64 24] w fun e w' => e = .returned (.int .i64 (costS 24)) ∧ w' = w := by
  go_enter Tryz.func27, Tryz.ntmps27
  go_wp2_with fail
  refine (rloads_c 24 _).mono ?_
  rintro e _ ⟨rfl, rfl⟩
  go_wp2
  go_ret
  exact ⟨rfl, rfl⟩
theorem rcost_25 (w : World) : Calls Tryz.prog 27 #[.int .i64 25] w fun e w' => e = .returned (.int .i64 (costS 25)) ∧ w' = w := by
  go_enter Tryz.func27, Tryz.ntmps27
  go_wp2_with fail
  refine (rloads_c 25 _).mono ?_
  rintro e _ ⟨rfl, rfl⟩
  go_wp2_with fail
  refine (rstores_c 25 _).mono ?_
  rintro e _ ⟨rfl, rfl⟩
  go_wp2
  go_ret
  exact ⟨rfl, rfl⟩
theorem rcost_26 (w : World) : Calls Tryz.prog 27 #[.int .i64 26] w fun e w' => e = .returned (.int .i64 (costS 26)) ∧ w' = w := by
  go_enter Tryz.func27, Tryz.ntmps27
  go_wp2_with fail
  refine (rloads_c 26 _).mono ?_
  rintro e _ ⟨rfl, rfl⟩
  go_wp2_with fail
  refine (rstores_c 26 _).mono ?_
  rintro e _ ⟨rfl, rfl⟩
  go_wp2
  go_ret
  exact ⟨rfl, rfl⟩
theorem rcost_27 (w : World) : Calls Tryz.prog 27 #[.int .i64 27] w fun e w' => e = .returned (.int .i64 (costS 27)) ∧ w' = w := by
  go_enter Tryz.func27, Tryz.ntmps27
  go_wp2_with fail
  refine (rloads_c 27 _).mono ?_
  rintro e _ ⟨rfl, rfl⟩
  go_wp2_with fail
  refine (rstores_c 27 _).mono ?_
  rintro e _ ⟨rfl, rfl⟩
  go_wp2
  go_ret
  exact ⟨rfl, rfl⟩
theorem rcost_28 (w : World) : Calls Tryz.prog 27 #[.int .i64 28] w fun e w' => e = .returned (.int .i64 (costS 28)) ∧ w' = w := by
  go_enter Tryz.func27, Tryz.ntmps27
  go_wp2_with fail
  refine (rloads_c 28 _).mono ?_
  rintro e _ ⟨rfl, rfl⟩
  go_wp2_with fail
  refine (rstores_c 28 _).mono ?_
  rintro e _ ⟨rfl, rfl⟩
  go_wp2
  go_ret
  exact ⟨rfl, rfl⟩
theorem rcost_29 (w : World) : Calls Tryz.prog 27 #[.int .i64 29] w fun e w' => e = .returned (.int .i64 (costS 29)) ∧ w' = w := by
  go_enter Tryz.func27, Tryz.ntmps27
  go_wp2_with fail
  refine (rloads_c 29 _).mono ?_
  rintro e _ ⟨rfl, rfl⟩
  go_wp2_with fail
  refine (rstores_c 29 _).mono ?_
  rintro e _ ⟨rfl, rfl⟩
  go_wp2
  go_ret
  exact ⟨rfl, rfl⟩
theorem rcost_30 (w : World) : Calls Tryz.prog 27 #[.int .i64 30] w fun e w' => e = .returned (.int .i64 (costS 30)) ∧ w' = w := by
  go_enter Tryz.func27, Tryz.ntmps27
  go_wp2_with fail
  refine (rloads_c 30 _).mono ?_
  rintro e _ ⟨rfl, rfl⟩
  go_wp2_with fail
  refine (rstores_c 30 _).mono ?_
  rintro e _ ⟨rfl, rfl⟩
  go_wp2
  go_ret
  exact ⟨rfl, rfl⟩
theorem rcost_31 (w : World) : Calls Tryz.prog 27 #[.int .i64 31] w fun e w' => e = .returned (.int .i64 (costS 31)) ∧ w' = w := by
  go_enter Tryz.func27, Tryz.ntmps27
  go_wp2_with fail
  refine (rloads_c 31 _).mono ?_
  rintro e _ ⟨rfl, rfl⟩
  go_wp2_with fail
  refine (rstores_c 31 _).mono ?_
  rintro e _ ⟨rfl, rfl⟩
  go_wp2
  go_ret
  exact ⟨rfl, rfl⟩
theorem rcost_lo (o : Int) (h : o < 0) (w : World) : Calls Tryz.prog 27 #[.int .i64 o] w fun e w' => e = .returned (.int .i64 (costS o)) ∧ w' = w := by
  have hs : costS o = 0 := by unfold costS; rw [if_neg (by omega), if_neg (by omega), if_neg (by omega), if_neg (by omega), if_neg (by omega), if_neg (by omega), if_neg (by omega), if_neg (by omega), if_neg (by omega), if_neg (by omega), if_neg (by omega), if_neg (by omega), if_neg (by omega), if_neg (by omega), if_neg (by omega), if_neg (by simp [isS]; omega)]
  rw [hs]
  go_enter Tryz.func27, Tryz.ntmps27
  go_wp2
  go_ret
  exact ⟨rfl, rfl⟩
theorem rcost_hi (o : Int) (h : 31 < o) (w : World) : Calls Tryz.prog 27 #[.int .i64 o] w fun e w' => e = .returned (.int .i64 (costS o)) ∧ w' = w := by
  have hs : costS o = 0 := by unfold costS; rw [if_neg (by omega), if_neg (by omega), if_neg (by omega), if_neg (by omega), if_neg (by omega), if_neg (by omega), if_neg (by omega), if_neg (by omega), if_neg (by omega), if_neg (by omega), if_neg (by omega), if_neg (by omega), if_neg (by omega), if_neg (by omega), if_neg (by omega), if_neg (by simp [isS]; omega)]
  rw [hs]
  go_enter Tryz.func27, Tryz.ntmps27
  go_wp2
  go_ret
  exact ⟨rfl, rfl⟩
theorem rcost_c (o : Int) (w : World) : Calls Tryz.prog 27 #[.int .i64 o] w fun e w' => e = .returned (.int .i64 (costS o)) ∧ w' = w := by
  rcases (show o < 0 ∨ 31 < o ∨ o = 0 ∨ o = 1 ∨ o = 2 ∨ o = 3 ∨ o = 4 ∨ o = 5 ∨ o = 6 ∨ o = 7 ∨ o = 8 ∨ o = 9 ∨ o = 10 ∨ o = 11 ∨ o = 12 ∨ o = 13 ∨ o = 14 ∨ o = 15 ∨ o = 16 ∨ o = 17 ∨ o = 18 ∨ o = 19 ∨ o = 20 ∨ o = 21 ∨ o = 22 ∨ o = 23 ∨ o = 24 ∨ o = 25 ∨ o = 26 ∨ o = 27 ∨ o = 28 ∨ o = 29 ∨ o = 30 ∨ o = 31 by omega) with h | h | rfl | rfl | rfl | rfl | rfl | rfl | rfl | rfl | rfl | rfl | rfl | rfl | rfl | rfl | rfl | rfl | rfl | rfl | rfl | rfl | rfl | rfl | rfl | rfl | rfl | rfl | rfl | rfl | rfl | rfl | rfl | rfl
  · exact rcost_lo o h w
  · exact rcost_hi o h w
  · exact rcost_0 w
  · exact rcost_1 w
  · exact rcost_2 w
  · exact rcost_3 w
  · exact rcost_4 w
  · exact rcost_5 w
  · exact rcost_6 w
  · exact rcost_7 w
  · exact rcost_8 w
  · exact rcost_9 w
  · exact rcost_10 w
  · exact rcost_11 w
  · exact rcost_12 w
  · exact rcost_13 w
  · exact rcost_14 w
  · exact rcost_15 w
  · exact rcost_16 w
  · exact rcost_17 w
  · exact rcost_18 w
  · exact rcost_19 w
  · exact rcost_20 w
  · exact rcost_21 w
  · exact rcost_22 w
  · exact rcost_23 w
  · exact rcost_24 w
  · exact rcost_25 w
  · exact rcost_26 w
  · exact rcost_27 w
  · exact rcost_28 w
  · exact rcost_29 w
  · exact rcost_30 w
  · exact rcost_31 w
end Go.Proofs.YtjhmmfpmmgebjaaGreat
