/- The reference's Holds and Name: what the plain arithmetic says; the world has at most new blocks. -/
import Derived.Test.YtmgnmoohfnaekaaDoorCond2
namespace Go.Proofs.YtmgnmoohfnaekaaDoor
open Go.ChangeShapes Go.WideShapes Go.ChangeAt Go.RowKit
set_option linter.unusedVariables false
set_option linter.unusedSimpArgs false

theorem rHolds_0 (f : Int) (n z k v : Bool) (h1 : (bits .and .i64 f 8 != 0) = n) (h2 : (bits .and .i64 f 4 != 0) = z) (h3 : (bits .and .i64 f 2 != 0) = k) (h4 : (bits .and .i64 f 1 != 0) = v) (w : World) :
    Calls Tryd.prog 8 #[.int .i64 0, .int .i64 f] w fun e w' => e = .returned (.bool (holdsS 0 n z k v)) ∧ Below w.heap.size w w' := by
  cases z <;> cases k
  all_goals
    (go_enter Tryd.func8, Tryd.ntmps8
     go_wp2
     go_ret
     exact ⟨congrArg (fun x => Ending.returned (Value.bool x)) (by clear h1 h4; revert n v; decide), Below.alloc (Below.refl _ _) (Nat.le_refl _) _⟩)
theorem rHolds_1 (f : Int) (n z k v : Bool) (h1 : (bits .and .i64 f 8 != 0) = n) (h2 : (bits .and .i64 f 4 != 0) = z) (h3 : (bits .and .i64 f 2 != 0) = k) (h4 : (bits .and .i64 f 1 != 0) = v) (w : World) :
    Calls Tryd.prog 8 #[.int .i64 1, .int .i64 f] w fun e w' => e = .returned (.bool (holdsS 1 n z k v)) ∧ Below w.heap.size w w' := by
  cases z <;> cases k
  all_goals
    (go_enter Tryd.func8, Tryd.ntmps8
     go_wp2
     go_ret
     exact ⟨congrArg (fun x => Ending.returned (Value.bool x)) (by clear h1 h4; revert n v; decide), Below.alloc (Below.refl _ _) (Nat.le_refl _) _⟩)
theorem rHolds_2 (f : Int) (n z k v : Bool) (h1 : (bits .and .i64 f 8 != 0) = n) (h2 : (bits .and .i64 f 4 != 0) = z) (h3 : (bits .and .i64 f 2 != 0) = k) (h4 : (bits .and .i64 f 1 != 0) = v) (w : World) :
    Calls Tryd.prog 8 #[.int .i64 2, .int .i64 f] w fun e w' => e = .returned (.bool (holdsS 2 n z k v)) ∧ Below w.heap.size w w' := by
  cases z <;> cases k
  all_goals
    (go_enter Tryd.func8, Tryd.ntmps8
     go_wp2
     go_ret
     exact ⟨congrArg (fun x => Ending.returned (Value.bool x)) (by clear h1 h4; revert n v; decide), Below.alloc (Below.refl _ _) (Nat.le_refl _) _⟩)
theorem rHolds_3 (f : Int) (n z k v : Bool) (h1 : (bits .and .i64 f 8 != 0) = n) (h2 : (bits .and .i64 f 4 != 0) = z) (h3 : (bits .and .i64 f 2 != 0) = k) (h4 : (bits .and .i64 f 1 != 0) = v) (w : World) :
    Calls Tryd.prog 8 #[.int .i64 3, .int .i64 f] w fun e w' => e = .returned (.bool (holdsS 3 n z k v)) ∧ Below w.heap.size w w' := by
  cases z <;> cases k
  all_goals
    (go_enter Tryd.func8, Tryd.ntmps8
     go_wp2
     go_ret
     exact ⟨congrArg (fun x => Ending.returned (Value.bool x)) (by clear h1 h4; revert n v; decide), Below.alloc (Below.refl _ _) (Nat.le_refl _) _⟩)
theorem rHolds_4 (f : Int) (n z k v : Bool) (h1 : (bits .and .i64 f 8 != 0) = n) (h2 : (bits .and .i64 f 4 != 0) = z) (h3 : (bits .and .i64 f 2 != 0) = k) (h4 : (bits .and .i64 f 1 != 0) = v) (w : World) :
    Calls Tryd.prog 8 #[.int .i64 4, .int .i64 f] w fun e w' => e = .returned (.bool (holdsS 4 n z k v)) ∧ Below w.heap.size w w' := by
  cases z <;> cases k
  all_goals
    (go_enter Tryd.func8, Tryd.ntmps8
     go_wp2
     go_ret
     exact ⟨congrArg (fun x => Ending.returned (Value.bool x)) (by clear h1 h4; revert n v; decide), Below.alloc (Below.refl _ _) (Nat.le_refl _) _⟩)
theorem rHolds_5 (f : Int) (n z k v : Bool) (h1 : (bits .and .i64 f 8 != 0) = n) (h2 : (bits .and .i64 f 4 != 0) = z) (h3 : (bits .and .i64 f 2 != 0) = k) (h4 : (bits .and .i64 f 1 != 0) = v) (w : World) :
    Calls Tryd.prog 8 #[.int .i64 5, .int .i64 f] w fun e w' => e = .returned (.bool (holdsS 5 n z k v)) ∧ Below w.heap.size w w' := by
  cases z <;> cases k
  all_goals
    (go_enter Tryd.func8, Tryd.ntmps8
     go_wp2
     go_ret
     exact ⟨congrArg (fun x => Ending.returned (Value.bool x)) (by clear h1 h4; revert n v; decide), Below.alloc (Below.refl _ _) (Nat.le_refl _) _⟩)
theorem rHolds_6 (f : Int) (n z k v : Bool) (h1 : (bits .and .i64 f 8 != 0) = n) (h2 : (bits .and .i64 f 4 != 0) = z) (h3 : (bits .and .i64 f 2 != 0) = k) (h4 : (bits .and .i64 f 1 != 0) = v) (w : World) :
    Calls Tryd.prog 8 #[.int .i64 6, .int .i64 f] w fun e w' => e = .returned (.bool (holdsS 6 n z k v)) ∧ Below w.heap.size w w' := by
  cases z <;> cases k
  all_goals
    (go_enter Tryd.func8, Tryd.ntmps8
     go_wp2
     go_ret
     exact ⟨congrArg (fun x => Ending.returned (Value.bool x)) (by clear h1 h4; revert n v; decide), Below.alloc (Below.refl _ _) (Nat.le_refl _) _⟩)
theorem rHolds_7 (f : Int) (n z k v : Bool) (h1 : (bits .and .i64 f 8 != 0) = n) (h2 : (bits .and .i64 f 4 != 0) = z) (h3 : (bits .and .i64 f 2 != 0) = k) (h4 : (bits .and .i64 f 1 != 0) = v) (w : World) :
    Calls Tryd.prog 8 #[.int .i64 7, .int .i64 f] w fun e w' => e = .returned (.bool (holdsS 7 n z k v)) ∧ Below w.heap.size w w' := by
  cases z <;> cases k
  all_goals
    (go_enter Tryd.func8, Tryd.ntmps8
     go_wp2
     go_ret
     exact ⟨congrArg (fun x => Ending.returned (Value.bool x)) (by clear h1 h4; revert n v; decide), Below.alloc (Below.refl _ _) (Nat.le_refl _) _⟩)
theorem rHolds_8 (f : Int) (n z k v : Bool) (h1 : (bits .and .i64 f 8 != 0) = n) (h2 : (bits .and .i64 f 4 != 0) = z) (h3 : (bits .and .i64 f 2 != 0) = k) (h4 : (bits .and .i64 f 1 != 0) = v) (w : World) :
    Calls Tryd.prog 8 #[.int .i64 8, .int .i64 f] w fun e w' => e = .returned (.bool (holdsS 8 n z k v)) ∧ Below w.heap.size w w' := by
  cases z <;> cases k
  all_goals
    (go_enter Tryd.func8, Tryd.ntmps8
     go_wp2
     go_ret
     exact ⟨congrArg (fun x => Ending.returned (Value.bool x)) (by clear h1 h4; revert n v; decide), Below.alloc (Below.refl _ _) (Nat.le_refl _) _⟩)
theorem rHolds_9 (f : Int) (n z k v : Bool) (h1 : (bits .and .i64 f 8 != 0) = n) (h2 : (bits .and .i64 f 4 != 0) = z) (h3 : (bits .and .i64 f 2 != 0) = k) (h4 : (bits .and .i64 f 1 != 0) = v) (w : World) :
    Calls Tryd.prog 8 #[.int .i64 9, .int .i64 f] w fun e w' => e = .returned (.bool (holdsS 9 n z k v)) ∧ Below w.heap.size w w' := by
  cases z <;> cases k
  all_goals
    (go_enter Tryd.func8, Tryd.ntmps8
     go_wp2
     go_ret
     exact ⟨congrArg (fun x => Ending.returned (Value.bool x)) (by clear h1 h4; revert n v; decide), Below.alloc (Below.refl _ _) (Nat.le_refl _) _⟩)
theorem rHolds_10 (f : Int) (n z k v : Bool) (h1 : (bits .and .i64 f 8 != 0) = n) (h2 : (bits .and .i64 f 4 != 0) = z) (h3 : (bits .and .i64 f 2 != 0) = k) (h4 : (bits .and .i64 f 1 != 0) = v) (w : World) :
    Calls Tryd.prog 8 #[.int .i64 10, .int .i64 f] w fun e w' => e = .returned (.bool (holdsS 10 n z k v)) ∧ Below w.heap.size w w' := by
  cases z <;> cases k
  all_goals
    (go_enter Tryd.func8, Tryd.ntmps8
     go_wp2
     go_ret
     exact ⟨congrArg (fun x => Ending.returned (Value.bool x)) (by clear h1 h4; revert n v; decide), Below.alloc (Below.refl _ _) (Nat.le_refl _) _⟩)
theorem rHolds_11 (f : Int) (n z k v : Bool) (h1 : (bits .and .i64 f 8 != 0) = n) (h2 : (bits .and .i64 f 4 != 0) = z) (h3 : (bits .and .i64 f 2 != 0) = k) (h4 : (bits .and .i64 f 1 != 0) = v) (w : World) :
    Calls Tryd.prog 8 #[.int .i64 11, .int .i64 f] w fun e w' => e = .returned (.bool (holdsS 11 n z k v)) ∧ Below w.heap.size w w' := by
  cases z <;> cases k
  all_goals
    (go_enter Tryd.func8, Tryd.ntmps8
     go_wp2
     go_ret
     exact ⟨congrArg (fun x => Ending.returned (Value.bool x)) (by clear h1 h4; revert n v; decide), Below.alloc (Below.refl _ _) (Nat.le_refl _) _⟩)
theorem rHolds_12 (f : Int) (n z k v : Bool) (h1 : (bits .and .i64 f 8 != 0) = n) (h2 : (bits .and .i64 f 4 != 0) = z) (h3 : (bits .and .i64 f 2 != 0) = k) (h4 : (bits .and .i64 f 1 != 0) = v) (w : World) :
    Calls Tryd.prog 8 #[.int .i64 12, .int .i64 f] w fun e w' => e = .returned (.bool (holdsS 12 n z k v)) ∧ Below w.heap.size w w' := by
  cases z <;> cases k
  all_goals
    (go_enter Tryd.func8, Tryd.ntmps8
     go_wp2
     go_ret
     exact ⟨congrArg (fun x => Ending.returned (Value.bool x)) (by clear h1 h4; revert n v; decide), Below.alloc (Below.refl _ _) (Nat.le_refl _) _⟩)
theorem rHolds_13 (f : Int) (n z k v : Bool) (h1 : (bits .and .i64 f 8 != 0) = n) (h2 : (bits .and .i64 f 4 != 0) = z) (h3 : (bits .and .i64 f 2 != 0) = k) (h4 : (bits .and .i64 f 1 != 0) = v) (w : World) :
    Calls Tryd.prog 8 #[.int .i64 13, .int .i64 f] w fun e w' => e = .returned (.bool (holdsS 13 n z k v)) ∧ Below w.heap.size w w' := by
  cases z <;> cases k
  all_goals
    (go_enter Tryd.func8, Tryd.ntmps8
     go_wp2
     go_ret
     exact ⟨congrArg (fun x => Ending.returned (Value.bool x)) (by clear h1 h4; revert n v; decide), Below.alloc (Below.refl _ _) (Nat.le_refl _) _⟩)
theorem rHolds_14 (f : Int) (n z k v : Bool) (h1 : (bits .and .i64 f 8 != 0) = n) (h2 : (bits .and .i64 f 4 != 0) = z) (h3 : (bits .and .i64 f 2 != 0) = k) (h4 : (bits .and .i64 f 1 != 0) = v) (w : World) :
    Calls Tryd.prog 8 #[.int .i64 14, .int .i64 f] w fun e w' => e = .returned (.bool (holdsS 14 n z k v)) ∧ Below w.heap.size w w' := by
  cases z <;> cases k
  all_goals
    (go_enter Tryd.func8, Tryd.ntmps8
     go_wp2
     go_ret
     exact ⟨congrArg (fun x => Ending.returned (Value.bool x)) (by clear h1 h4; revert n v; decide), Below.alloc (Below.refl _ _) (Nat.le_refl _) _⟩)
theorem rName_0 (w : World) : Calls Tryd.prog 10 #[.int .i64 0] w fun e w' => e = .returned (.string (nameS 0)) ∧ Below w.heap.size w w' := by
  go_enter Tryd.func10, Tryd.ntmps10
  go_wp2
  go_ret
  exact ⟨rfl, Below.alloc (Below.refl _ _) (Nat.le_refl _) _⟩
theorem rName_1 (w : World) : Calls Tryd.prog 10 #[.int .i64 1] w fun e w' => e = .returned (.string (nameS 1)) ∧ Below w.heap.size w w' := by
  go_enter Tryd.func10, Tryd.ntmps10
  go_wp2
  go_ret
  exact ⟨rfl, Below.alloc (Below.refl _ _) (Nat.le_refl _) _⟩
theorem rName_2 (w : World) : Calls Tryd.prog 10 #[.int .i64 2] w fun e w' => e = .returned (.string (nameS 2)) ∧ Below w.heap.size w w' := by
  go_enter Tryd.func10, Tryd.ntmps10
  go_wp2
  go_ret
  exact ⟨rfl, Below.alloc (Below.refl _ _) (Nat.le_refl _) _⟩
theorem rName_3 (w : World) : Calls Tryd.prog 10 #[.int .i64 3] w fun e w' => e = .returned (.string (nameS 3)) ∧ Below w.heap.size w w' := by
  go_enter Tryd.func10, Tryd.ntmps10
  go_wp2
  go_ret
  exact ⟨rfl, Below.alloc (Below.refl _ _) (Nat.le_refl _) _⟩
theorem rName_4 (w : World) : Calls Tryd.prog 10 #[.int .i64 4] w fun e w' => e = .returned (.string (nameS 4)) ∧ Below w.heap.size w w' := by
  go_enter Tryd.func10, Tryd.ntmps10
  go_wp2
  go_ret
  exact ⟨rfl, Below.alloc (Below.refl _ _) (Nat.le_refl _) _⟩
theorem rName_5 (w : World) : Calls Tryd.prog 10 #[.int .i64 5] w fun e w' => e = .returned (.string (nameS 5)) ∧ Below w.heap.size w w' := by
  go_enter Tryd.func10, Tryd.ntmps10
  go_wp2
  go_ret
  exact ⟨rfl, Below.alloc (Below.refl _ _) (Nat.le_refl _) _⟩
theorem rName_6 (w : World) : Calls Tryd.prog 10 #[.int .i64 6] w fun e w' => e = .returned (.string (nameS 6)) ∧ Below w.heap.size w w' := by
  go_enter Tryd.func10, Tryd.ntmps10
  go_wp2
  go_ret
  exact ⟨rfl, Below.alloc (Below.refl _ _) (Nat.le_refl _) _⟩
theorem rName_7 (w : World) : Calls Tryd.prog 10 #[.int .i64 7] w fun e w' => e = .returned (.string (nameS 7)) ∧ Below w.heap.size w w' := by
  go_enter Tryd.func10, Tryd.ntmps10
  go_wp2
  go_ret
  exact ⟨rfl, Below.alloc (Below.refl _ _) (Nat.le_refl _) _⟩
theorem rName_8 (w : World) : Calls Tryd.prog 10 #[.int .i64 8] w fun e w' => e = .returned (.string (nameS 8)) ∧ Below w.heap.size w w' := by
  go_enter Tryd.func10, Tryd.ntmps10
  go_wp2
  go_ret
  exact ⟨rfl, Below.alloc (Below.refl _ _) (Nat.le_refl _) _⟩
theorem rName_9 (w : World) : Calls Tryd.prog 10 #[.int .i64 9] w fun e w' => e = .returned (.string (nameS 9)) ∧ Below w.heap.size w w' := by
  go_enter Tryd.func10, Tryd.ntmps10
  go_wp2
  go_ret
  exact ⟨rfl, Below.alloc (Below.refl _ _) (Nat.le_refl _) _⟩
theorem rName_10 (w : World) : Calls Tryd.prog 10 #[.int .i64 10] w fun e w' => e = .returned (.string (nameS 10)) ∧ Below w.heap.size w w' := by
  go_enter Tryd.func10, Tryd.ntmps10
  go_wp2
  go_ret
  exact ⟨rfl, Below.alloc (Below.refl _ _) (Nat.le_refl _) _⟩
theorem rName_11 (w : World) : Calls Tryd.prog 10 #[.int .i64 11] w fun e w' => e = .returned (.string (nameS 11)) ∧ Below w.heap.size w w' := by
  go_enter Tryd.func10, Tryd.ntmps10
  go_wp2
  go_ret
  exact ⟨rfl, Below.alloc (Below.refl _ _) (Nat.le_refl _) _⟩
theorem rName_12 (w : World) : Calls Tryd.prog 10 #[.int .i64 12] w fun e w' => e = .returned (.string (nameS 12)) ∧ Below w.heap.size w w' := by
  go_enter Tryd.func10, Tryd.ntmps10
  go_wp2
  go_ret
  exact ⟨rfl, Below.alloc (Below.refl _ _) (Nat.le_refl _) _⟩
theorem rName_13 (w : World) : Calls Tryd.prog 10 #[.int .i64 13] w fun e w' => e = .returned (.string (nameS 13)) ∧ Below w.heap.size w w' := by
  go_enter Tryd.func10, Tryd.ntmps10
  go_wp2
  go_ret
  exact ⟨rfl, Below.alloc (Below.refl _ _) (Nat.le_refl _) _⟩
theorem rName_14 (w : World) : Calls Tryd.prog 10 #[.int .i64 14] w fun e w' => e = .returned (.string (nameS 14)) ∧ Below w.heap.size w w' := by
  go_enter Tryd.func10, Tryd.ntmps10
  go_wp2
  go_ret
  exact ⟨rfl, Below.alloc (Below.refl _ _) (Nat.le_refl _) _⟩
theorem rName_c (c : Int) (w : World) : Calls Tryd.prog 10 #[.int .i64 c] w fun e w' => e = .returned (.string (nameS c)) ∧ Below w.heap.size w w' := by
  rcases (show (c < 0 ∨ 14 < c) ∨ (0 ≤ c ∧ c ≤ 14) by omega) with h | ⟨h, h'⟩
  · rw [nameS_out c h]
    rcases h with h | h
    · go_enter Tryd.func10, Tryd.ntmps10
      go_wp2
      go_ret
      exact ⟨rfl, Below.refl _ _⟩
    · go_enter Tryd.func10, Tryd.ntmps10
      go_wp2
      go_ret
      exact ⟨rfl, Below.refl _ _⟩
  · rcases upto14 c h h' with rfl | rfl | rfl | rfl | rfl | rfl | rfl | rfl | rfl | rfl | rfl | rfl | rfl | rfl | rfl
    · exact rName_0 w
    · exact rName_1 w
    · exact rName_2 w
    · exact rName_3 w
    · exact rName_4 w
    · exact rName_5 w
    · exact rName_6 w
    · exact rName_7 w
    · exact rName_8 w
    · exact rName_9 w
    · exact rName_10 w
    · exact rName_11 w
    · exact rName_12 w
    · exact rName_13 w
    · exact rName_14 w
theorem rHolds_c (c f : Int) (w : World) : Calls Tryd.prog 8 #[.int .i64 c, .int .i64 f] w fun e w' => e = .returned (.bool (flagsHold c f)) ∧ Below w.heap.size w w' := by
  unfold flagsHold bitS
  generalize h1 : (bits .and .i64 f 8 != 0) = n
  generalize h2 : (bits .and .i64 f 4 != 0) = z
  generalize h3 : (bits .and .i64 f 2 != 0) = k
  generalize h4 : (bits .and .i64 f 1 != 0) = v
  rcases (show (c < 0 ∨ 14 < c) ∨ (0 ≤ c ∧ c ≤ 14) by omega) with h | ⟨h, h'⟩
  · have e : holdsS c n z k v = false := by
      unfold holdsS
      rw [if_neg (by omega), if_neg (by omega), if_neg (by omega), if_neg (by omega), if_neg (by omega), if_neg (by omega), if_neg (by omega), if_neg (by omega), if_neg (by omega), if_neg (by omega), if_neg (by omega), if_neg (by omega), if_neg (by omega), if_neg (by omega)]
      simp; omega
    rw [e]
    rcases h with h | h
    · go_enter Tryd.func8, Tryd.ntmps8
      go_wp2
      go_ret
      exact ⟨rfl, Below.refl _ _⟩
    · go_enter Tryd.func8, Tryd.ntmps8
      go_wp2
      go_ret
      exact ⟨rfl, Below.refl _ _⟩
  · rcases upto14 c h h' with rfl | rfl | rfl | rfl | rfl | rfl | rfl | rfl | rfl | rfl | rfl | rfl | rfl | rfl | rfl
    · exact rHolds_0 f n z k v h1 h2 h3 h4 w
    · exact rHolds_1 f n z k v h1 h2 h3 h4 w
    · exact rHolds_2 f n z k v h1 h2 h3 h4 w
    · exact rHolds_3 f n z k v h1 h2 h3 h4 w
    · exact rHolds_4 f n z k v h1 h2 h3 h4 w
    · exact rHolds_5 f n z k v h1 h2 h3 h4 w
    · exact rHolds_6 f n z k v h1 h2 h3 h4 w
    · exact rHolds_7 f n z k v h1 h2 h3 h4 w
    · exact rHolds_8 f n z k v h1 h2 h3 h4 w
    · exact rHolds_9 f n z k v h1 h2 h3 h4 w
    · exact rHolds_10 f n z k v h1 h2 h3 h4 w
    · exact rHolds_11 f n z k v h1 h2 h3 h4 w
    · exact rHolds_12 f n z k v h1 h2 h3 h4 w
    · exact rHolds_13 f n z k v h1 h2 h3 h4 w
    · exact rHolds_14 f n z k v h1 h2 h3 h4 w
end Go.Proofs.YtmgnmoohfnaekaaDoor
