/- The contracts of package cond's Holds and Name for every number, and of the reference's functions of layer 2. -/
import Derived.Test.YtmgnmoohfnaekaaDoorCond
namespace Go.Proofs.YtmgnmoohfnaekaaDoor
open Go.ChangeShapes Go.WideShapes Go.ChangeAt Go.RowKit
set_option linter.unusedVariables false
set_option linter.unusedSimpArgs false

theorem holds_out (c f : Int) (n z k v : Bool) (H : Hid (∀ w, Calls Tryd.prog 18 #[.int .i64 f] w fun e w' => e = .returned (.tuple #[.bool n, .bool z, .bool k, .bool v]) ∧ w' = w)) (hc : c < 0 ∨ 13 < c) (w : World) :
    Calls Tryd.prog 7 #[.int .i64 c, .int .i64 f] w fun e w' => e = .returned (.bool (c == 14)) ∧ w' = w := by
  rcases hc with hc | hc
  · go_enter Tryd.func7, Tryd.ntmps7
    go_wp2_with fail
    refine (H.out _).mono ?_
    rintro e _ ⟨rfl, rfl⟩
    go_wp2
    go_ret
    exact ⟨rfl, rfl⟩
  · go_enter Tryd.func7, Tryd.ntmps7
    go_wp2_with fail
    refine (H.out _).mono ?_
    rintro e _ ⟨rfl, rfl⟩
    go_wp2
    go_ret
    exact ⟨rfl, rfl⟩

theorem holds_c (c f : Int) (w : World) : Calls Tryd.prog 7 #[.int .i64 c, .int .i64 f] w fun e w' => e = .returned (.bool (flagsHold c f)) ∧ w' = w := by
  have H : Hid _ := fun w => parts_c f w
  unfold flagsHold
  generalize bitS f 8 = n at *
  generalize bitS f 4 = z at *
  generalize bitS f 2 = k at *
  generalize bitS f 1 = v at *
  rcases (show c = 0 ∨ c = 1 ∨ c = 2 ∨ c = 3 ∨ c = 4 ∨ c = 5 ∨ c = 6 ∨ c = 7 ∨ c = 8 ∨ c = 9 ∨ c = 10 ∨ c = 11 ∨ c = 12 ∨ c = 13 ∨ (c < 0 ∨ 13 < c) by omega) with rfl | rfl | rfl | rfl | rfl | rfl | rfl | rfl | rfl | rfl | rfl | rfl | rfl | rfl | h
  · exact holds_0 f n z k v H w
  · exact holds_1 f n z k v H w
  · exact holds_2 f n z k v H w
  · exact holds_3 f n z k v H w
  · exact holds_4 f n z k v H w
  · exact holds_5 f n z k v H w
  · exact holds_6 f n z k v H w
  · exact holds_7 f n z k v H w
  · exact holds_8 f n z k v H w
  · exact holds_9 f n z k v H w
  · exact holds_10 f n z k v H w
  · exact holds_11 f n z k v H w
  · exact holds_12 f n z k v H w
  · exact holds_13 f n z k v H w
  · have e : holdsS c n z k v = (c == 14) := by
      unfold holdsS
      rw [if_neg (by omega), if_neg (by omega), if_neg (by omega), if_neg (by omega), if_neg (by omega), if_neg (by omega), if_neg (by omega), if_neg (by omega), if_neg (by omega), if_neg (by omega), if_neg (by omega), if_neg (by omega), if_neg (by omega), if_neg (by omega)]
    rw [e]
    exact holds_out c f n z k v H h w

theorem name_0 (w : World) : Calls Tryd.prog 9 #[.int .i64 0] w fun e w' => e = .returned (.string (nameS 0)) ∧ w' = w := by
  go_enter Tryd.func9, Tryd.ntmps9
  go_wp2
  go_ret
  exact ⟨rfl, rfl⟩
theorem name_1 (w : World) : Calls Tryd.prog 9 #[.int .i64 1] w fun e w' => e = .returned (.string (nameS 1)) ∧ w' = w := by
  go_enter Tryd.func9, Tryd.ntmps9
  go_wp2
  go_ret
  exact ⟨rfl, rfl⟩
theorem name_2 (w : World) : Calls Tryd.prog 9 #[.int .i64 2] w fun e w' => e = .returned (.string (nameS 2)) ∧ w' = w := by
  go_enter Tryd.func9, Tryd.ntmps9
  go_wp2
  go_ret
  exact ⟨rfl, rfl⟩
theorem name_3 (w : World) : Calls Tryd.prog 9 #[.int .i64 3] w fun e w' => e = .returned (.string (nameS 3)) ∧ w' = w := by
  go_enter Tryd.func9, Tryd.ntmps9
  go_wp2
  go_ret
  exact ⟨rfl, rfl⟩
theorem name_4 (w : World) : Calls Tryd.prog 9 #[.int .i64 4] w fun e w' => e = .returned (.string (nameS 4)) ∧ w' = w := by
  go_enter Tryd.func9, Tryd.ntmps9
  go_wp2
  go_ret
  exact ⟨rfl, rfl⟩
theorem name_5 (w : World) : Calls Tryd.prog 9 #[.int .i64 5] w fun e w' => e = .returned (.string (nameS 5)) ∧ w' = w := by
  go_enter Tryd.func9, Tryd.ntmps9
  go_wp2
  go_ret
  exact ⟨rfl, rfl⟩
theorem name_6 (w : World) : Calls Tryd.prog 9 #[.int .i64 6] w fun e w' => e = .returned (.string (nameS 6)) ∧ w' = w := by
  go_enter Tryd.func9, Tryd.ntmps9
  go_wp2
  go_ret
  exact ⟨rfl, rfl⟩
theorem name_7 (w : World) : Calls Tryd.prog 9 #[.int .i64 7] w fun e w' => e = .returned (.string (nameS 7)) ∧ w' = w := by
  go_enter Tryd.func9, Tryd.ntmps9
  go_wp2
  go_ret
  exact ⟨rfl, rfl⟩
theorem name_8 (w : World) : Calls Tryd.prog 9 #[.int .i64 8] w fun e w' => e = .returned (.string (nameS 8)) ∧ w' = w := by
  go_enter Tryd.func9, Tryd.ntmps9
  go_wp2
  go_ret
  exact ⟨rfl, rfl⟩
theorem name_9 (w : World) : Calls Tryd.prog 9 #[.int .i64 9] w fun e w' => e = .returned (.string (nameS 9)) ∧ w' = w := by
  go_enter Tryd.func9, Tryd.ntmps9
  go_wp2
  go_ret
  exact ⟨rfl, rfl⟩
theorem name_10 (w : World) : Calls Tryd.prog 9 #[.int .i64 10] w fun e w' => e = .returned (.string (nameS 10)) ∧ w' = w := by
  go_enter Tryd.func9, Tryd.ntmps9
  go_wp2
  go_ret
  exact ⟨rfl, rfl⟩
theorem name_11 (w : World) : Calls Tryd.prog 9 #[.int .i64 11] w fun e w' => e = .returned (.string (nameS 11)) ∧ w' = w := by
  go_enter Tryd.func9, Tryd.ntmps9
  go_wp2
  go_ret
  exact ⟨rfl, rfl⟩
theorem name_12 (w : World) : Calls Tryd.prog 9 #[.int .i64 12] w fun e w' => e = .returned (.string (nameS 12)) ∧ w' = w := by
  go_enter Tryd.func9, Tryd.ntmps9
  go_wp2
  go_ret
  exact ⟨rfl, rfl⟩
theorem name_13 (w : World) : Calls Tryd.prog 9 #[.int .i64 13] w fun e w' => e = .returned (.string (nameS 13)) ∧ w' = w := by
  go_enter Tryd.func9, Tryd.ntmps9
  go_wp2
  go_ret
  exact ⟨rfl, rfl⟩
theorem name_14 (w : World) : Calls Tryd.prog 9 #[.int .i64 14] w fun e w' => e = .returned (.string (nameS 14)) ∧ w' = w := by
  go_enter Tryd.func9, Tryd.ntmps9
  go_wp2
  go_ret
  exact ⟨rfl, rfl⟩
theorem name_c (c : Int) (w : World) : Calls Tryd.prog 9 #[.int .i64 c] w fun e w' => e = .returned (.string (nameS c)) ∧ w' = w := by
  rcases (show (c < 0 ∨ 14 < c) ∨ (0 ≤ c ∧ c ≤ 14) by omega) with h | ⟨h, h'⟩
  · rw [nameS_out c h]
    rcases h with h | h
    · go_enter Tryd.func9, Tryd.ntmps9
      go_wp2
      go_ret
      exact ⟨rfl, rfl⟩
    · go_enter Tryd.func9, Tryd.ntmps9
      go_wp2
      go_ret
      exact ⟨rfl, rfl⟩
  · rcases upto14 c h h' with rfl | rfl | rfl | rfl | rfl | rfl | rfl | rfl | rfl | rfl | rfl | rfl | rfl | rfl | rfl
    · exact name_0 w
    · exact name_1 w
    · exact name_2 w
    · exact name_3 w
    · exact name_4 w
    · exact name_5 w
    · exact name_6 w
    · exact name_7 w
    · exact name_8 w
    · exact name_9 w
    · exact name_10 w
    · exact name_11 w
    · exact name_12 w
    · exact name_13 w
    · exact name_14 w
theorem rOf_c (n z k v : Bool) (w : World) : Calls Tryd.prog 16 #[.bool n, .bool z, .bool k, .bool v] w fun e w' => e = .returned (.int .i64 (ofS n z k v)) ∧ w' = w := by
  cases n <;> cases z <;> cases k <;> cases v
  all_goals
    (go_enter Tryd.func16, Tryd.ntmps16
     go_wp2
     go_ret
     exact ⟨congrArg (fun x => Ending.returned (Value.int IntKind.i64 x)) (by decide +kernel), rfl⟩)
theorem rNot_c (c : Int) (w : World) : Calls Tryd.prog 12 #[.int .i64 c] w fun e w' => e = .returned (.int .i64 (notS c)) ∧ w' = w := by
  unfold notS
  rcases (show c < 0 ∨ 13 < c ∨ (0 ≤ c ∧ c ≤ 13) by omega) with h | h | ⟨h, h'⟩
  · rw [if_pos h]
    go_enter Tryd.func12, Tryd.ntmps12
    go_wp2
    go_ret
    exact ⟨rfl, rfl⟩
  · rw [if_neg (by omega), if_pos h]
    go_enter Tryd.func12, Tryd.ntmps12
    go_wp2
    go_ret
    exact ⟨rfl, rfl⟩
  · rw [if_neg (by omega), if_neg (by omega)]
    go_enter Tryd.func12, Tryd.ntmps12
    go_wp2
    go_ret
    exact ⟨rfl, rfl⟩
theorem top_bit (x : Int) (x0 : 0 ≤ x) (x1 : x < 4294967296) : (bits .and .u32 (x / 2147483648) 1 == 1) = topS x := by
  unfold topS
  rcases (show x / 2147483648 = 0 ∨ x / 2147483648 = 1 by omega) with h | h
  · rw [h, show (bits .and .u32 0 1 == 1) = false by decide +kernel]; exact (decide_eq_false (by omega)).symm
  · rw [h, show (bits .and .u32 1 1 == 1) = true by decide +kernel]; exact (decide_eq_true (by omega)).symm
theorem rBit_c (x : Int) (x0 : 0 ≤ x) (x1 : x < 4294967296) (w : World) : Calls Tryd.prog 19 #[.int .u32 x, .int .i64 31] w fun e w' => e = .returned (.bool (topS x)) ∧ w' = w := by
  have ht := top_bit x x0 x1
  go_enter Tryd.func19, Tryd.ntmps19
  go_wp2
  go_ret
  exact ⟨by rw [← ht]; rfl, rfl⟩
theorem rResult_c (x : Int) (k o : Bool) (x0 : 0 ≤ x) (x1 : x < 4294967296) (w : World) : Calls Tryd.prog 14 #[.int .u32 x, .bool k, .bool o] w fun e w' => e = .returned (.int .i64 (resultS x k o)) ∧ w' = w := by
  have B : Hid _ := fun w => rBit_c x x0 x1 w
  have C : Hid _ := fun w => rOf_c (topS x) (x == 0) k o w
  unfold resultS
  go_enter Tryd.func14, Tryd.ntmps14
  go_wp2_with fail
  refine (B.out _).mono ?_
  rintro e _ ⟨rfl, rfl⟩
  go_wp2_with fail
  refine (C.out _).mono ?_
  rintro e _ ⟨rfl, rfl⟩
  go_wp2
  go_ret
  exact ⟨rfl, rfl⟩
end Go.Proofs.YtmgnmoohfnaekaaDoor
