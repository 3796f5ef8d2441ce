/- Stage 8: sourdineseat.Half gives some word. -/
import Derived.Test.YtbbkiiabjhgpkaaDoorTh2b
namespace Go.Proofs.YtbbkiiabjhgpkaaDoor
open Go.ChangeShapes Go.WideShapes Go.ChangeAt Go.RowKit
set_option linter.unusedVariables false
set_option linter.unusedSimpArgs false

theorem b16 (op : BinOp) (a b : Int) : 0 ≤ bits op .u16 a b ∧ bits op .u16 a b ≤ 65535 := by
  have h : ∀ n : Int, 0 ≤ IntKind.u16.wrap n ∧ IntKind.u16.wrap n ≤ 65535 := fun n => by rw [IntKind.wrap_u16]; omega
  unfold bits
  split <;> exact h _
def Some16 (w : World) (e : Ending) (w' : World) : Prop := (∃ y : Int, e = .returned (.int .u16 y) ∧ 0 ≤ y ∧ y ≤ 65535) ∧ Below w.heap.size w w'
theorem func3_c (x : Int) (w : World) : Calls Tryd.prog 23 #[.int .u16 x] w fun e w' => (∃ y : Int, e = .returned (.int .u16 y) ∧ 0 ≤ y ∧ y ≤ 65535) ∧ w' = w := by
  cases hq : (bits .and .u16 x 48 == 48)
  all_goals
    go_enter Tryd.func23, Tryd.ntmps23
    go_wp2
    go_ret
    exact ⟨⟨_, rfl, (b16 _ _ _).1, (b16 _ _ _).2⟩, rfl⟩
end Go.Proofs.YtbbkiiabjhgpkaaDoor
namespace Go.Proofs.YtbbkiiabjhgpkaaDoor
open Go.ChangeShapes Go.WideShapes Go.ChangeAt Go.RowKit
set_option linter.unusedVariables false
set_option linter.unusedSimpArgs false

set_option maxRecDepth 100000 in
set_option maxHeartbeats 2000000 in
theorem half_0 (k x : Int) (k0 : 0 ≤ k) (x0 : 0 ≤ x) (x1 : x ≤ 65535) (hk : k % 40 = 0) (w : World) : Calls Tryd.prog 10 #[.int .u8 k, .int .u16 x] w fun e w' => Some16 w e w' := by
  have C3 : Hid (∀ w, Calls Tryd.prog 23 #[.int .u16 x] w fun e w' => (∃ y : Int, e = .returned (.int .u16 y) ∧ 0 ≤ y ∧ y ≤ 65535) ∧ w' = w) := fun w => func3_c x w
  go_enter Tryd.func10, Tryd.ntmps10
  go_wp2_with (go_at_call 23; with_reducible refine (C3.out _).mono ?_; rintro e wf ⟨⟨y3, rfl, y30, y31⟩, rfl⟩)
  go_ret
  first
    | exact ⟨⟨_, rfl, (b16 _ _ _).1, (b16 _ _ _).2⟩, Below.refl _ _⟩
    | exact ⟨⟨_, rfl, x0, x1⟩, Below.refl _ _⟩
    | exact ⟨⟨_, rfl, (b16 _ _ _).1, (b16 _ _ _).2⟩, (Below.refl _ _).alloc (Nat.le_refl _) _⟩
set_option maxRecDepth 100000 in
set_option maxHeartbeats 2000000 in
theorem half_1 (k x : Int) (k0 : 0 ≤ k) (x0 : 0 ≤ x) (x1 : x ≤ 65535) (hk : k % 40 = 1) (w : World) : Calls Tryd.prog 10 #[.int .u8 k, .int .u16 x] w fun e w' => Some16 w e w' := by
  have C3 : Hid (∀ w, Calls Tryd.prog 23 #[.int .u16 x] w fun e w' => (∃ y : Int, e = .returned (.int .u16 y) ∧ 0 ≤ y ∧ y ≤ 65535) ∧ w' = w) := fun w => func3_c x w
  go_enter Tryd.func10, Tryd.ntmps10
  go_wp2_with (go_at_call 23; with_reducible refine (C3.out _).mono ?_; rintro e wf ⟨⟨y3, rfl, y30, y31⟩, rfl⟩)
  go_ret
  first
    | exact ⟨⟨_, rfl, (b16 _ _ _).1, (b16 _ _ _).2⟩, Below.refl _ _⟩
    | exact ⟨⟨_, rfl, x0, x1⟩, Below.refl _ _⟩
    | exact ⟨⟨_, rfl, (b16 _ _ _).1, (b16 _ _ _).2⟩, (Below.refl _ _).alloc (Nat.le_refl _) _⟩
set_option maxRecDepth 100000 in
set_option maxHeartbeats 2000000 in
theorem half_2 (k x : Int) (k0 : 0 ≤ k) (x0 : 0 ≤ x) (x1 : x ≤ 65535) (hk : k % 40 = 2) (w : World) : Calls Tryd.prog 10 #[.int .u8 k, .int .u16 x] w fun e w' => Some16 w e w' := by
  have C3 : Hid (∀ w, Calls Tryd.prog 23 #[.int .u16 x] w fun e w' => (∃ y : Int, e = .returned (.int .u16 y) ∧ 0 ≤ y ∧ y ≤ 65535) ∧ w' = w) := fun w => func3_c x w
  go_enter Tryd.func10, Tryd.ntmps10
  go_wp2_with (go_at_call 23; with_reducible refine (C3.out _).mono ?_; rintro e wf ⟨⟨y3, rfl, y30, y31⟩, rfl⟩)
  go_ret
  first
    | exact ⟨⟨_, rfl, (b16 _ _ _).1, (b16 _ _ _).2⟩, Below.refl _ _⟩
    | exact ⟨⟨_, rfl, x0, x1⟩, Below.refl _ _⟩
    | exact ⟨⟨_, rfl, (b16 _ _ _).1, (b16 _ _ _).2⟩, (Below.refl _ _).alloc (Nat.le_refl _) _⟩
set_option maxRecDepth 100000 in
set_option maxHeartbeats 2000000 in
theorem half_3 (k x : Int) (k0 : 0 ≤ k) (x0 : 0 ≤ x) (x1 : x ≤ 65535) (hk : k % 40 = 3) (w : World) : Calls Tryd.prog 10 #[.int .u8 k, .int .u16 x] w fun e w' => Some16 w e w' := by
  have C3 : Hid (∀ w, Calls Tryd.prog 23 #[.int .u16 x] w fun e w' => (∃ y : Int, e = .returned (.int .u16 y) ∧ 0 ≤ y ∧ y ≤ 65535) ∧ w' = w) := fun w => func3_c x w
  go_enter Tryd.func10, Tryd.ntmps10
  go_wp2_with (go_at_call 23; with_reducible refine (C3.out _).mono ?_; rintro e wf ⟨⟨y3, rfl, y30, y31⟩, rfl⟩)
  go_ret
  first
    | exact ⟨⟨_, rfl, (b16 _ _ _).1, (b16 _ _ _).2⟩, Below.refl _ _⟩
    | exact ⟨⟨_, rfl, x0, x1⟩, Below.refl _ _⟩
    | exact ⟨⟨_, rfl, (b16 _ _ _).1, (b16 _ _ _).2⟩, (Below.refl _ _).alloc (Nat.le_refl _) _⟩
set_option maxRecDepth 100000 in
set_option maxHeartbeats 2000000 in
theorem half_4 (k x : Int) (k0 : 0 ≤ k) (x0 : 0 ≤ x) (x1 : x ≤ 65535) (hk : k % 40 = 4) (w : World) : Calls Tryd.prog 10 #[.int .u8 k, .int .u16 x] w fun e w' => Some16 w e w' := by
  have C3 : Hid (∀ w, Calls Tryd.prog 23 #[.int .u16 x] w fun e w' => (∃ y : Int, e = .returned (.int .u16 y) ∧ 0 ≤ y ∧ y ≤ 65535) ∧ w' = w) := fun w => func3_c x w
  go_enter Tryd.func10, Tryd.ntmps10
  go_wp2_with (go_at_call 23; with_reducible refine (C3.out _).mono ?_; rintro e wf ⟨⟨y3, rfl, y30, y31⟩, rfl⟩)
  go_ret
  first
    | exact ⟨⟨_, rfl, (b16 _ _ _).1, (b16 _ _ _).2⟩, Below.refl _ _⟩
    | exact ⟨⟨_, rfl, x0, x1⟩, Below.refl _ _⟩
    | exact ⟨⟨_, rfl, (b16 _ _ _).1, (b16 _ _ _).2⟩, (Below.refl _ _).alloc (Nat.le_refl _) _⟩
set_option maxRecDepth 100000 in
set_option maxHeartbeats 2000000 in
theorem half_5 (k x : Int) (k0 : 0 ≤ k) (x0 : 0 ≤ x) (x1 : x ≤ 65535) (hk : k % 40 = 5) (w : World) : Calls Tryd.prog 10 #[.int .u8 k, .int .u16 x] w fun e w' => Some16 w e w' := by
  have C3 : Hid (∀ w, Calls Tryd.prog 23 #[.int .u16 x] w fun e w' => (∃ y : Int, e = .returned (.int .u16 y) ∧ 0 ≤ y ∧ y ≤ 65535) ∧ w' = w) := fun w => func3_c x w
  go_enter Tryd.func10, Tryd.ntmps10
  go_wp2_with (go_at_call 23; with_reducible refine (C3.out _).mono ?_; rintro e wf ⟨⟨y3, rfl, y30, y31⟩, rfl⟩)
  go_ret
  first
    | exact ⟨⟨_, rfl, (b16 _ _ _).1, (b16 _ _ _).2⟩, Below.refl _ _⟩
    | exact ⟨⟨_, rfl, x0, x1⟩, Below.refl _ _⟩
    | exact ⟨⟨_, rfl, (b16 _ _ _).1, (b16 _ _ _).2⟩, (Below.refl _ _).alloc (Nat.le_refl _) _⟩
set_option maxRecDepth 100000 in
set_option maxHeartbeats 2000000 in
theorem half_6 (k x : Int) (k0 : 0 ≤ k) (x0 : 0 ≤ x) (x1 : x ≤ 65535) (hk : k % 40 = 6) (w : World) : Calls Tryd.prog 10 #[.int .u8 k, .int .u16 x] w fun e w' => Some16 w e w' := by
  have C3 : Hid (∀ w, Calls Tryd.prog 23 #[.int .u16 x] w fun e w' => (∃ y : Int, e = .returned (.int .u16 y) ∧ 0 ≤ y ∧ y ≤ 65535) ∧ w' = w) := fun w => func3_c x w
  go_enter Tryd.func10, Tryd.ntmps10
  go_wp2_with (go_at_call 23; with_reducible refine (C3.out _).mono ?_; rintro e wf ⟨⟨y3, rfl, y30, y31⟩, rfl⟩)
  go_ret
  first
    | exact ⟨⟨_, rfl, (b16 _ _ _).1, (b16 _ _ _).2⟩, Below.refl _ _⟩
    | exact ⟨⟨_, rfl, x0, x1⟩, Below.refl _ _⟩
    | exact ⟨⟨_, rfl, (b16 _ _ _).1, (b16 _ _ _).2⟩, (Below.refl _ _).alloc (Nat.le_refl _) _⟩
set_option maxRecDepth 100000 in
set_option maxHeartbeats 2000000 in
theorem half_7 (k x : Int) (k0 : 0 ≤ k) (x0 : 0 ≤ x) (x1 : x ≤ 65535) (hk : k % 40 = 7) (w : World) : Calls Tryd.prog 10 #[.int .u8 k, .int .u16 x] w fun e w' => Some16 w e w' := by
  have C3 : Hid (∀ w, Calls Tryd.prog 23 #[.int .u16 x] w fun e w' => (∃ y : Int, e = .returned (.int .u16 y) ∧ 0 ≤ y ∧ y ≤ 65535) ∧ w' = w) := fun w => func3_c x w
  go_enter Tryd.func10, Tryd.ntmps10
  go_wp2_with (go_at_call 23; with_reducible refine (C3.out _).mono ?_; rintro e wf ⟨⟨y3, rfl, y30, y31⟩, rfl⟩)
  go_ret
  first
    | exact ⟨⟨_, rfl, (b16 _ _ _).1, (b16 _ _ _).2⟩, Below.refl _ _⟩
    | exact ⟨⟨_, rfl, x0, x1⟩, Below.refl _ _⟩
    | exact ⟨⟨_, rfl, (b16 _ _ _).1, (b16 _ _ _).2⟩, (Below.refl _ _).alloc (Nat.le_refl _) _⟩
set_option maxRecDepth 100000 in
set_option maxHeartbeats 2000000 in
theorem half_8 (k x : Int) (k0 : 0 ≤ k) (x0 : 0 ≤ x) (x1 : x ≤ 65535) (hk : k % 40 = 8) (w : World) : Calls Tryd.prog 10 #[.int .u8 k, .int .u16 x] w fun e w' => Some16 w e w' := by
  have C3 : Hid (∀ w, Calls Tryd.prog 23 #[.int .u16 x] w fun e w' => (∃ y : Int, e = .returned (.int .u16 y) ∧ 0 ≤ y ∧ y ≤ 65535) ∧ w' = w) := fun w => func3_c x w
  go_enter Tryd.func10, Tryd.ntmps10
  go_wp2_with (go_at_call 23; with_reducible refine (C3.out _).mono ?_; rintro e wf ⟨⟨y3, rfl, y30, y31⟩, rfl⟩)
  go_ret
  first
    | exact ⟨⟨_, rfl, (b16 _ _ _).1, (b16 _ _ _).2⟩, Below.refl _ _⟩
    | exact ⟨⟨_, rfl, x0, x1⟩, Below.refl _ _⟩
    | exact ⟨⟨_, rfl, (b16 _ _ _).1, (b16 _ _ _).2⟩, (Below.refl _ _).alloc (Nat.le_refl _) _⟩
end Go.Proofs.YtbbkiiabjhgpkaaDoor
namespace Go.Proofs.YtbbkiiabjhgpkaaDoor
open Go.ChangeShapes Go.WideShapes Go.ChangeAt Go.RowKit
set_option linter.unusedVariables false
set_option linter.unusedSimpArgs false

set_option maxRecDepth 100000 in
set_option maxHeartbeats 2000000 in
theorem half_9 (k x : Int) (k0 : 0 ≤ k) (x0 : 0 ≤ x) (x1 : x ≤ 65535) (hk : k % 40 = 9) (w : World) : Calls Tryd.prog 10 #[.int .u8 k, .int .u16 x] w fun e w' => Some16 w e w' := by
  have C3 : Hid (∀ w, Calls Tryd.prog 23 #[.int .u16 x] w fun e w' => (∃ y : Int, e = .returned (.int .u16 y) ∧ 0 ≤ y ∧ y ≤ 65535) ∧ w' = w) := fun w => func3_c x w
  go_enter Tryd.func10, Tryd.ntmps10
  go_wp2_with (go_at_call 23; with_reducible refine (C3.out _).mono ?_; rintro e wf ⟨⟨y3, rfl, y30, y31⟩, rfl⟩)
  go_ret
  first
    | exact ⟨⟨_, rfl, (b16 _ _ _).1, (b16 _ _ _).2⟩, Below.refl _ _⟩
    | exact ⟨⟨_, rfl, x0, x1⟩, Below.refl _ _⟩
    | exact ⟨⟨_, rfl, (b16 _ _ _).1, (b16 _ _ _).2⟩, (Below.refl _ _).alloc (Nat.le_refl _) _⟩
set_option maxRecDepth 100000 in
set_option maxHeartbeats 2000000 in
theorem half_10 (k x : Int) (k0 : 0 ≤ k) (x0 : 0 ≤ x) (x1 : x ≤ 65535) (hk : k % 40 = 10) (w : World) : Calls Tryd.prog 10 #[.int .u8 k, .int .u16 x] w fun e w' => Some16 w e w' := by
  have C3 : Hid (∀ w, Calls Tryd.prog 23 #[.int .u16 x] w fun e w' => (∃ y : Int, e = .returned (.int .u16 y) ∧ 0 ≤ y ∧ y ≤ 65535) ∧ w' = w) := fun w => func3_c x w
  go_enter Tryd.func10, Tryd.ntmps10
  go_wp2_with (go_at_call 23; with_reducible refine (C3.out _).mono ?_; rintro e wf ⟨⟨y3, rfl, y30, y31⟩, rfl⟩)
  go_ret
  first
    | exact ⟨⟨_, rfl, (b16 _ _ _).1, (b16 _ _ _).2⟩, Below.refl _ _⟩
    | exact ⟨⟨_, rfl, x0, x1⟩, Below.refl _ _⟩
    | exact ⟨⟨_, rfl, (b16 _ _ _).1, (b16 _ _ _).2⟩, (Below.refl _ _).alloc (Nat.le_refl _) _⟩
set_option maxRecDepth 100000 in
set_option maxHeartbeats 2000000 in
theorem half_11 (k x : Int) (k0 : 0 ≤ k) (x0 : 0 ≤ x) (x1 : x ≤ 65535) (hk : k % 40 = 11) (w : World) : Calls Tryd.prog 10 #[.int .u8 k, .int .u16 x] w fun e w' => Some16 w e w' := by
  have C3 : Hid (∀ w, Calls Tryd.prog 23 #[.int .u16 x] w fun e w' => (∃ y : Int, e = .returned (.int .u16 y) ∧ 0 ≤ y ∧ y ≤ 65535) ∧ w' = w) := fun w => func3_c x w
  go_enter Tryd.func10, Tryd.ntmps10
  go_wp2_with (go_at_call 23; with_reducible refine (C3.out _).mono ?_; rintro e wf ⟨⟨y3, rfl, y30, y31⟩, rfl⟩)
  go_ret
  first
    | exact ⟨⟨_, rfl, (b16 _ _ _).1, (b16 _ _ _).2⟩, Below.refl _ _⟩
    | exact ⟨⟨_, rfl, x0, x1⟩, Below.refl _ _⟩
    | exact ⟨⟨_, rfl, (b16 _ _ _).1, (b16 _ _ _).2⟩, (Below.refl _ _).alloc (Nat.le_refl _) _⟩
set_option maxRecDepth 100000 in
set_option maxHeartbeats 2000000 in
theorem half_12 (k x : Int) (k0 : 0 ≤ k) (x0 : 0 ≤ x) (x1 : x ≤ 65535) (hk : k % 40 = 12) (w : World) : Calls Tryd.prog 10 #[.int .u8 k, .int .u16 x] w fun e w' => Some16 w e w' := by
  have C3 : Hid (∀ w, Calls Tryd.prog 23 #[.int .u16 x] w fun e w' => (∃ y : Int, e = .returned (.int .u16 y) ∧ 0 ≤ y ∧ y ≤ 65535) ∧ w' = w) := fun w => func3_c x w
  go_enter Tryd.func10, Tryd.ntmps10
  go_wp2_with (go_at_call 23; with_reducible refine (C3.out _).mono ?_; rintro e wf ⟨⟨y3, rfl, y30, y31⟩, rfl⟩)
  go_ret
  first
    | exact ⟨⟨_, rfl, (b16 _ _ _).1, (b16 _ _ _).2⟩, Below.refl _ _⟩
    | exact ⟨⟨_, rfl, x0, x1⟩, Below.refl _ _⟩
    | exact ⟨⟨_, rfl, (b16 _ _ _).1, (b16 _ _ _).2⟩, (Below.refl _ _).alloc (Nat.le_refl _) _⟩
set_option maxRecDepth 100000 in
set_option maxHeartbeats 2000000 in
theorem half_13 (k x : Int) (k0 : 0 ≤ k) (x0 : 0 ≤ x) (x1 : x ≤ 65535) (hk : k % 40 = 13) (w : World) : Calls Tryd.prog 10 #[.int .u8 k, .int .u16 x] w fun e w' => Some16 w e w' := by
  have C3 : Hid (∀ w, Calls Tryd.prog 23 #[.int .u16 x] w fun e w' => (∃ y : Int, e = .returned (.int .u16 y) ∧ 0 ≤ y ∧ y ≤ 65535) ∧ w' = w) := fun w => func3_c x w
  go_enter Tryd.func10, Tryd.ntmps10
  go_wp2_with (go_at_call 23; with_reducible refine (C3.out _).mono ?_; rintro e wf ⟨⟨y3, rfl, y30, y31⟩, rfl⟩)
  go_ret
  first
    | exact ⟨⟨_, rfl, (b16 _ _ _).1, (b16 _ _ _).2⟩, Below.refl _ _⟩
    | exact ⟨⟨_, rfl, x0, x1⟩, Below.refl _ _⟩
    | exact ⟨⟨_, rfl, (b16 _ _ _).1, (b16 _ _ _).2⟩, (Below.refl _ _).alloc (Nat.le_refl _) _⟩
set_option maxRecDepth 100000 in
set_option maxHeartbeats 2000000 in
theorem half_14 (k x : Int) (k0 : 0 ≤ k) (x0 : 0 ≤ x) (x1 : x ≤ 65535) (hk : k % 40 = 14) (w : World) : Calls Tryd.prog 10 #[.int .u8 k, .int .u16 x] w fun e w' => Some16 w e w' := by
  have C3 : Hid (∀ w, Calls Tryd.prog 23 #[.int .u16 x] w fun e w' => (∃ y : Int, e = .returned (.int .u16 y) ∧ 0 ≤ y ∧ y ≤ 65535) ∧ w' = w) := fun w => func3_c x w
  go_enter Tryd.func10, Tryd.ntmps10
  go_wp2_with (go_at_call 23; with_reducible refine (C3.out _).mono ?_; rintro e wf ⟨⟨y3, rfl, y30, y31⟩, rfl⟩)
  go_ret
  first
    | exact ⟨⟨_, rfl, (b16 _ _ _).1, (b16 _ _ _).2⟩, Below.refl _ _⟩
    | exact ⟨⟨_, rfl, x0, x1⟩, Below.refl _ _⟩
    | exact ⟨⟨_, rfl, (b16 _ _ _).1, (b16 _ _ _).2⟩, (Below.refl _ _).alloc (Nat.le_refl _) _⟩
set_option maxRecDepth 100000 in
set_option maxHeartbeats 2000000 in
theorem half_15 (k x : Int) (k0 : 0 ≤ k) (x0 : 0 ≤ x) (x1 : x ≤ 65535) (hk : k % 40 = 15) (w : World) : Calls Tryd.prog 10 #[.int .u8 k, .int .u16 x] w fun e w' => Some16 w e w' := by
  have C3 : Hid (∀ w, Calls Tryd.prog 23 #[.int .u16 x] w fun e w' => (∃ y : Int, e = .returned (.int .u16 y) ∧ 0 ≤ y ∧ y ≤ 65535) ∧ w' = w) := fun w => func3_c x w
  go_enter Tryd.func10, Tryd.ntmps10
  go_wp2_with (go_at_call 23; with_reducible refine (C3.out _).mono ?_; rintro e wf ⟨⟨y3, rfl, y30, y31⟩, rfl⟩)
  go_ret
  first
    | exact ⟨⟨_, rfl, (b16 _ _ _).1, (b16 _ _ _).2⟩, Below.refl _ _⟩
    | exact ⟨⟨_, rfl, x0, x1⟩, Below.refl _ _⟩
    | exact ⟨⟨_, rfl, (b16 _ _ _).1, (b16 _ _ _).2⟩, (Below.refl _ _).alloc (Nat.le_refl _) _⟩
set_option maxRecDepth 100000 in
set_option maxHeartbeats 2000000 in
theorem half_16 (k x : Int) (k0 : 0 ≤ k) (x0 : 0 ≤ x) (x1 : x ≤ 65535) (hk : k % 40 = 16) (w : World) : Calls Tryd.prog 10 #[.int .u8 k, .int .u16 x] w fun e w' => Some16 w e w' := by
  have C3 : Hid (∀ w, Calls Tryd.prog 23 #[.int .u16 x] w fun e w' => (∃ y : Int, e = .returned (.int .u16 y) ∧ 0 ≤ y ∧ y ≤ 65535) ∧ w' = w) := fun w => func3_c x w
  go_enter Tryd.func10, Tryd.ntmps10
  go_wp2_with (go_at_call 23; with_reducible refine (C3.out _).mono ?_; rintro e wf ⟨⟨y3, rfl, y30, y31⟩, rfl⟩)
  go_ret
  first
    | exact ⟨⟨_, rfl, (b16 _ _ _).1, (b16 _ _ _).2⟩, Below.refl _ _⟩
    | exact ⟨⟨_, rfl, x0, x1⟩, Below.refl _ _⟩
    | exact ⟨⟨_, rfl, (b16 _ _ _).1, (b16 _ _ _).2⟩, (Below.refl _ _).alloc (Nat.le_refl _) _⟩
set_option maxRecDepth 100000 in
set_option maxHeartbeats 2000000 in
theorem half_17 (k x : Int) (k0 : 0 ≤ k) (x0 : 0 ≤ x) (x1 : x ≤ 65535) (hk : k % 40 = 17) (w : World) : Calls Tryd.prog 10 #[.int .u8 k, .int .u16 x] w fun e w' => Some16 w e w' := by
  have C3 : Hid (∀ w, Calls Tryd.prog 23 #[.int .u16 x] w fun e w' => (∃ y : Int, e = .returned (.int .u16 y) ∧ 0 ≤ y ∧ y ≤ 65535) ∧ w' = w) := fun w => func3_c x w
  go_enter Tryd.func10, Tryd.ntmps10
  go_wp2_with (go_at_call 23; with_reducible refine (C3.out _).mono ?_; rintro e wf ⟨⟨y3, rfl, y30, y31⟩, rfl⟩)
  go_ret
  first
    | exact ⟨⟨_, rfl, (b16 _ _ _).1, (b16 _ _ _).2⟩, Below.refl _ _⟩
    | exact ⟨⟨_, rfl, x0, x1⟩, Below.refl _ _⟩
    | exact ⟨⟨_, rfl, (b16 _ _ _).1, (b16 _ _ _).2⟩, (Below.refl _ _).alloc (Nat.le_refl _) _⟩
end Go.Proofs.YtbbkiiabjhgpkaaDoor
namespace Go.Proofs.YtbbkiiabjhgpkaaDoor
open Go.ChangeShapes Go.WideShapes Go.ChangeAt Go.RowKit
set_option linter.unusedVariables false
set_option linter.unusedSimpArgs false

set_option maxRecDepth 100000 in
set_option maxHeartbeats 2000000 in
theorem half_18 (k x : Int) (k0 : 0 ≤ k) (x0 : 0 ≤ x) (x1 : x ≤ 65535) (hk : k % 40 = 18) (w : World) : Calls Tryd.prog 10 #[.int .u8 k, .int .u16 x] w fun e w' => Some16 w e w' := by
  have C3 : Hid (∀ w, Calls Tryd.prog 23 #[.int .u16 x] w fun e w' => (∃ y : Int, e = .returned (.int .u16 y) ∧ 0 ≤ y ∧ y ≤ 65535) ∧ w' = w) := fun w => func3_c x w
  go_enter Tryd.func10, Tryd.ntmps10
  go_wp2_with (go_at_call 23; with_reducible refine (C3.out _).mono ?_; rintro e wf ⟨⟨y3, rfl, y30, y31⟩, rfl⟩)
  go_ret
  first
    | exact ⟨⟨_, rfl, (b16 _ _ _).1, (b16 _ _ _).2⟩, Below.refl _ _⟩
    | exact ⟨⟨_, rfl, x0, x1⟩, Below.refl _ _⟩
    | exact ⟨⟨_, rfl, (b16 _ _ _).1, (b16 _ _ _).2⟩, (Below.refl _ _).alloc (Nat.le_refl _) _⟩
set_option maxRecDepth 100000 in
set_option maxHeartbeats 2000000 in
theorem half_19 (k x : Int) (k0 : 0 ≤ k) (x0 : 0 ≤ x) (x1 : x ≤ 65535) (hk : k % 40 = 19) (w : World) : Calls Tryd.prog 10 #[.int .u8 k, .int .u16 x] w fun e w' => Some16 w e w' := by
  have C3 : Hid (∀ w, Calls Tryd.prog 23 #[.int .u16 x] w fun e w' => (∃ y : Int, e = .returned (.int .u16 y) ∧ 0 ≤ y ∧ y ≤ 65535) ∧ w' = w) := fun w => func3_c x w
  go_enter Tryd.func10, Tryd.ntmps10
  go_wp2_with (go_at_call 23; with_reducible refine (C3.out _).mono ?_; rintro e wf ⟨⟨y3, rfl, y30, y31⟩, rfl⟩)
  go_ret
  first
    | exact ⟨⟨_, rfl, (b16 _ _ _).1, (b16 _ _ _).2⟩, Below.refl _ _⟩
    | exact ⟨⟨_, rfl, x0, x1⟩, Below.refl _ _⟩
    | exact ⟨⟨_, rfl, (b16 _ _ _).1, (b16 _ _ _).2⟩, (Below.refl _ _).alloc (Nat.le_refl _) _⟩
set_option maxRecDepth 100000 in
set_option maxHeartbeats 2000000 in
theorem half_20 (k x : Int) (k0 : 0 ≤ k) (x0 : 0 ≤ x) (x1 : x ≤ 65535) (hk : k % 40 = 20) (w : World) : Calls Tryd.prog 10 #[.int .u8 k, .int .u16 x] w fun e w' => Some16 w e w' := by
  have C3 : Hid (∀ w, Calls Tryd.prog 23 #[.int .u16 x] w fun e w' => (∃ y : Int, e = .returned (.int .u16 y) ∧ 0 ≤ y ∧ y ≤ 65535) ∧ w' = w) := fun w => func3_c x w
  go_enter Tryd.func10, Tryd.ntmps10
  go_wp2_with (go_at_call 23; with_reducible refine (C3.out _).mono ?_; rintro e wf ⟨⟨y3, rfl, y30, y31⟩, rfl⟩)
  go_ret
  first
    | exact ⟨⟨_, rfl, (b16 _ _ _).1, (b16 _ _ _).2⟩, Below.refl _ _⟩
    | exact ⟨⟨_, rfl, x0, x1⟩, Below.refl _ _⟩
    | exact ⟨⟨_, rfl, (b16 _ _ _).1, (b16 _ _ _).2⟩, (Below.refl _ _).alloc (Nat.le_refl _) _⟩
set_option maxRecDepth 100000 in
set_option maxHeartbeats 2000000 in
theorem half_21 (k x : Int) (k0 : 0 ≤ k) (x0 : 0 ≤ x) (x1 : x ≤ 65535) (hk : k % 40 = 21) (w : World) : Calls Tryd.prog 10 #[.int .u8 k, .int .u16 x] w fun e w' => Some16 w e w' := by
  have C3 : Hid (∀ w, Calls Tryd.prog 23 #[.int .u16 x] w fun e w' => (∃ y : Int, e = .returned (.int .u16 y) ∧ 0 ≤ y ∧ y ≤ 65535) ∧ w' = w) := fun w => func3_c x w
  go_enter Tryd.func10, Tryd.ntmps10
  go_wp2_with (go_at_call 23; with_reducible refine (C3.out _).mono ?_; rintro e wf ⟨⟨y3, rfl, y30, y31⟩, rfl⟩)
  go_ret
  first
    | exact ⟨⟨_, rfl, (b16 _ _ _).1, (b16 _ _ _).2⟩, Below.refl _ _⟩
    | exact ⟨⟨_, rfl, x0, x1⟩, Below.refl _ _⟩
    | exact ⟨⟨_, rfl, (b16 _ _ _).1, (b16 _ _ _).2⟩, (Below.refl _ _).alloc (Nat.le_refl _) _⟩
set_option maxRecDepth 100000 in
set_option maxHeartbeats 2000000 in
theorem half_22_0 (k x : Int) (k0 : 0 ≤ k) (x0 : 0 ≤ x) (x1 : x ≤ 65535) (hk : k % 40 = 22) (hi : x / 256 % 3 = 0) (w : World) : Calls Tryd.prog 10 #[.int .u8 k, .int .u16 x] w fun e w' => Some16 w e w' := by
  have C3 : Hid (∀ w, Calls Tryd.prog 23 #[.int .u16 x] w fun e w' => (∃ y : Int, e = .returned (.int .u16 y) ∧ 0 ≤ y ∧ y ≤ 65535) ∧ w' = w) := fun w => func3_c x w
  go_enter Tryd.func10, Tryd.ntmps10
  go_wp2_with (go_at_call 23; with_reducible refine (C3.out _).mono ?_; rintro e wf ⟨⟨y3, rfl, y30, y31⟩, rfl⟩)
  go_ret
  first
    | exact ⟨⟨_, rfl, (b16 _ _ _).1, (b16 _ _ _).2⟩, Below.refl _ _⟩
    | exact ⟨⟨_, rfl, x0, x1⟩, Below.refl _ _⟩
    | exact ⟨⟨_, rfl, (b16 _ _ _).1, (b16 _ _ _).2⟩, (Below.refl _ _).alloc (Nat.le_refl _) _⟩
set_option maxRecDepth 100000 in
set_option maxHeartbeats 2000000 in
theorem half_22_1 (k x : Int) (k0 : 0 ≤ k) (x0 : 0 ≤ x) (x1 : x ≤ 65535) (hk : k % 40 = 22) (hi : x / 256 % 3 = 1) (w : World) : Calls Tryd.prog 10 #[.int .u8 k, .int .u16 x] w fun e w' => Some16 w e w' := by
  have C3 : Hid (∀ w, Calls Tryd.prog 23 #[.int .u16 x] w fun e w' => (∃ y : Int, e = .returned (.int .u16 y) ∧ 0 ≤ y ∧ y ≤ 65535) ∧ w' = w) := fun w => func3_c x w
  go_enter Tryd.func10, Tryd.ntmps10
  go_wp2_with (go_at_call 23; with_reducible refine (C3.out _).mono ?_; rintro e wf ⟨⟨y3, rfl, y30, y31⟩, rfl⟩)
  go_ret
  first
    | exact ⟨⟨_, rfl, (b16 _ _ _).1, (b16 _ _ _).2⟩, Below.refl _ _⟩
    | exact ⟨⟨_, rfl, x0, x1⟩, Below.refl _ _⟩
    | exact ⟨⟨_, rfl, (b16 _ _ _).1, (b16 _ _ _).2⟩, (Below.refl _ _).alloc (Nat.le_refl _) _⟩
set_option maxRecDepth 100000 in
set_option maxHeartbeats 2000000 in
theorem half_22_2 (k x : Int) (k0 : 0 ≤ k) (x0 : 0 ≤ x) (x1 : x ≤ 65535) (hk : k % 40 = 22) (hi : x / 256 % 3 = 2) (w : World) : Calls Tryd.prog 10 #[.int .u8 k, .int .u16 x] w fun e w' => Some16 w e w' := by
  have C3 : Hid (∀ w, Calls Tryd.prog 23 #[.int .u16 x] w fun e w' => (∃ y : Int, e = .returned (.int .u16 y) ∧ 0 ≤ y ∧ y ≤ 65535) ∧ w' = w) := fun w => func3_c x w
  go_enter Tryd.func10, Tryd.ntmps10
  go_wp2_with (go_at_call 23; with_reducible refine (C3.out _).mono ?_; rintro e wf ⟨⟨y3, rfl, y30, y31⟩, rfl⟩)
  go_ret
  first
    | exact ⟨⟨_, rfl, (b16 _ _ _).1, (b16 _ _ _).2⟩, Below.refl _ _⟩
    | exact ⟨⟨_, rfl, x0, x1⟩, Below.refl _ _⟩
    | exact ⟨⟨_, rfl, (b16 _ _ _).1, (b16 _ _ _).2⟩, (Below.refl _ _).alloc (Nat.le_refl _) _⟩
set_option maxRecDepth 100000 in
set_option maxHeartbeats 2000000 in
theorem half_23_0 (k x : Int) (k0 : 0 ≤ k) (x0 : 0 ≤ x) (x1 : x ≤ 65535) (hk : k % 40 = 23) (hi : x / 256 % 6 = 0) (w : World) : Calls Tryd.prog 10 #[.int .u8 k, .int .u16 x] w fun e w' => Some16 w e w' := by
  have C3 : Hid (∀ w, Calls Tryd.prog 23 #[.int .u16 x] w fun e w' => (∃ y : Int, e = .returned (.int .u16 y) ∧ 0 ≤ y ∧ y ≤ 65535) ∧ w' = w) := fun w => func3_c x w
  go_enter Tryd.func10, Tryd.ntmps10
  go_wp2_with (go_at_call 23; with_reducible refine (C3.out _).mono ?_; rintro e wf ⟨⟨y3, rfl, y30, y31⟩, rfl⟩)
  go_ret
  first
    | exact ⟨⟨_, rfl, (b16 _ _ _).1, (b16 _ _ _).2⟩, Below.refl _ _⟩
    | exact ⟨⟨_, rfl, x0, x1⟩, Below.refl _ _⟩
    | exact ⟨⟨_, rfl, (b16 _ _ _).1, (b16 _ _ _).2⟩, (Below.refl _ _).alloc (Nat.le_refl _) _⟩
set_option maxRecDepth 100000 in
set_option maxHeartbeats 2000000 in
theorem half_23_1 (k x : Int) (k0 : 0 ≤ k) (x0 : 0 ≤ x) (x1 : x ≤ 65535) (hk : k % 40 = 23) (hi : x / 256 % 6 = 1) (w : World) : Calls Tryd.prog 10 #[.int .u8 k, .int .u16 x] w fun e w' => Some16 w e w' := by
  have C3 : Hid (∀ w, Calls Tryd.prog 23 #[.int .u16 x] w fun e w' => (∃ y : Int, e = .returned (.int .u16 y) ∧ 0 ≤ y ∧ y ≤ 65535) ∧ w' = w) := fun w => func3_c x w
  go_enter Tryd.func10, Tryd.ntmps10
  go_wp2_with (go_at_call 23; with_reducible refine (C3.out _).mono ?_; rintro e wf ⟨⟨y3, rfl, y30, y31⟩, rfl⟩)
  go_ret
  first
    | exact ⟨⟨_, rfl, (b16 _ _ _).1, (b16 _ _ _).2⟩, Below.refl _ _⟩
    | exact ⟨⟨_, rfl, x0, x1⟩, Below.refl _ _⟩
    | exact ⟨⟨_, rfl, (b16 _ _ _).1, (b16 _ _ _).2⟩, (Below.refl _ _).alloc (Nat.le_refl _) _⟩
end Go.Proofs.YtbbkiiabjhgpkaaDoor
