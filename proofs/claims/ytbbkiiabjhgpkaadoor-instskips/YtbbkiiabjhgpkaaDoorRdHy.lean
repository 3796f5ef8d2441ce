/- Stage 8: sourdineseat.Half gives some word. -/
import Derived.Test.YtbbkiiabjhgpkaaDoorRdHx
namespace Go.Proofs.YtbbkiiabjhgpkaaDoor
open Go.ChangeShapes Go.WideShapes Go.ChangeAt Go.RowKit
set_option linter.unusedVariables false
set_option linter.unusedSimpArgs false

set_option maxRecDepth 100000 in
set_option maxHeartbeats 2000000 in
theorem half_23_2 (k x : Int) (k0 : 0 ≤ k) (x0 : 0 ≤ x) (x1 : x ≤ 65535) (hk : k % 40 = 23) (hi : x / 256 % 6 = 2) (w : World) : Calls Tryd.prog 10 #[.int .u8 k, .int .u16 x] w fun e w' => Some16 w e w' := by
  have C3 : Hid (∀ w, Calls Tryd.prog 23 #[.int .u16 x] w fun e w' => (∃ y : Int, e = .returned (.int .u16 y) ∧ 0 ≤ y ∧ y ≤ 65535) ∧ w' = w) := fun w => func3_c x w
  go_enter Tryd.func10, Tryd.ntmps10
  go_wp2_with (go_at_call 23; with_reducible refine (C3.out _).mono ?_; rintro e wf ⟨⟨y3, rfl, y30, y31⟩, rfl⟩)
  go_ret
  first
    | exact ⟨⟨_, rfl, (b16 _ _ _).1, (b16 _ _ _).2⟩, Below.refl _ _⟩
    | exact ⟨⟨_, rfl, x0, x1⟩, Below.refl _ _⟩
    | exact ⟨⟨_, rfl, (b16 _ _ _).1, (b16 _ _ _).2⟩, (Below.refl _ _).alloc (Nat.le_refl _) _⟩
set_option maxRecDepth 100000 in
set_option maxHeartbeats 2000000 in
theorem half_23_3 (k x : Int) (k0 : 0 ≤ k) (x0 : 0 ≤ x) (x1 : x ≤ 65535) (hk : k % 40 = 23) (hi : x / 256 % 6 = 3) (w : World) : Calls Tryd.prog 10 #[.int .u8 k, .int .u16 x] w fun e w' => Some16 w e w' := by
  have C3 : Hid (∀ w, Calls Tryd.prog 23 #[.int .u16 x] w fun e w' => (∃ y : Int, e = .returned (.int .u16 y) ∧ 0 ≤ y ∧ y ≤ 65535) ∧ w' = w) := fun w => func3_c x w
  go_enter Tryd.func10, Tryd.ntmps10
  go_wp2_with (go_at_call 23; with_reducible refine (C3.out _).mono ?_; rintro e wf ⟨⟨y3, rfl, y30, y31⟩, rfl⟩)
  go_ret
  first
    | exact ⟨⟨_, rfl, (b16 _ _ _).1, (b16 _ _ _).2⟩, Below.refl _ _⟩
    | exact ⟨⟨_, rfl, x0, x1⟩, Below.refl _ _⟩
    | exact ⟨⟨_, rfl, (b16 _ _ _).1, (b16 _ _ _).2⟩, (Below.refl _ _).alloc (Nat.le_refl _) _⟩
set_option maxRecDepth 100000 in
set_option maxHeartbeats 2000000 in
theorem half_23_4 (k x : Int) (k0 : 0 ≤ k) (x0 : 0 ≤ x) (x1 : x ≤ 65535) (hk : k % 40 = 23) (hi : x / 256 % 6 = 4) (w : World) : Calls Tryd.prog 10 #[.int .u8 k, .int .u16 x] w fun e w' => Some16 w e w' := by
  have C3 : Hid (∀ w, Calls Tryd.prog 23 #[.int .u16 x] w fun e w' => (∃ y : Int, e = .returned (.int .u16 y) ∧ 0 ≤ y ∧ y ≤ 65535) ∧ w' = w) := fun w => func3_c x w
  go_enter Tryd.func10, Tryd.ntmps10
  go_wp2_with (go_at_call 23; with_reducible refine (C3.out _).mono ?_; rintro e wf ⟨⟨y3, rfl, y30, y31⟩, rfl⟩)
  go_ret
  first
    | exact ⟨⟨_, rfl, (b16 _ _ _).1, (b16 _ _ _).2⟩, Below.refl _ _⟩
    | exact ⟨⟨_, rfl, x0, x1⟩, Below.refl _ _⟩
    | exact ⟨⟨_, rfl, (b16 _ _ _).1, (b16 _ _ _).2⟩, (Below.refl _ _).alloc (Nat.le_refl _) _⟩
set_option maxRecDepth 100000 in
set_option maxHeartbeats 2000000 in
theorem half_23_5 (k x : Int) (k0 : 0 ≤ k) (x0 : 0 ≤ x) (x1 : x ≤ 65535) (hk : k % 40 = 23) (hi : x / 256 % 6 = 5) (w : World) : Calls Tryd.prog 10 #[.int .u8 k, .int .u16 x] w fun e w' => Some16 w e w' := by
  have C3 : Hid (∀ w, Calls Tryd.prog 23 #[.int .u16 x] w fun e w' => (∃ y : Int, e = .returned (.int .u16 y) ∧ 0 ≤ y ∧ y ≤ 65535) ∧ w' = w) := fun w => func3_c x w
  go_enter Tryd.func10, Tryd.ntmps10
  go_wp2_with (go_at_call 23; with_reducible refine (C3.out _).mono ?_; rintro e wf ⟨⟨y3, rfl, y30, y31⟩, rfl⟩)
  go_ret
  first
    | exact ⟨⟨_, rfl, (b16 _ _ _).1, (b16 _ _ _).2⟩, Below.refl _ _⟩
    | exact ⟨⟨_, rfl, x0, x1⟩, Below.refl _ _⟩
    | exact ⟨⟨_, rfl, (b16 _ _ _).1, (b16 _ _ _).2⟩, (Below.refl _ _).alloc (Nat.le_refl _) _⟩
set_option maxRecDepth 100000 in
set_option maxHeartbeats 2000000 in
theorem half_24_0 (k x : Int) (k0 : 0 ≤ k) (x0 : 0 ≤ x) (x1 : x ≤ 65535) (hk : k % 40 = 24) (hi : x / 256 % 6 = 0) (w : World) : Calls Tryd.prog 10 #[.int .u8 k, .int .u16 x] w fun e w' => Some16 w e w' := by
  have C3 : Hid (∀ w, Calls Tryd.prog 23 #[.int .u16 x] w fun e w' => (∃ y : Int, e = .returned (.int .u16 y) ∧ 0 ≤ y ∧ y ≤ 65535) ∧ w' = w) := fun w => func3_c x w
  go_enter Tryd.func10, Tryd.ntmps10
  go_wp2_with (go_at_call 23; with_reducible refine (C3.out _).mono ?_; rintro e wf ⟨⟨y3, rfl, y30, y31⟩, rfl⟩)
  go_ret
  first
    | exact ⟨⟨_, rfl, (b16 _ _ _).1, (b16 _ _ _).2⟩, Below.refl _ _⟩
    | exact ⟨⟨_, rfl, x0, x1⟩, Below.refl _ _⟩
    | exact ⟨⟨_, rfl, (b16 _ _ _).1, (b16 _ _ _).2⟩, (Below.refl _ _).alloc (Nat.le_refl _) _⟩
set_option maxRecDepth 100000 in
set_option maxHeartbeats 2000000 in
theorem half_24_1 (k x : Int) (k0 : 0 ≤ k) (x0 : 0 ≤ x) (x1 : x ≤ 65535) (hk : k % 40 = 24) (hi : x / 256 % 6 = 1) (w : World) : Calls Tryd.prog 10 #[.int .u8 k, .int .u16 x] w fun e w' => Some16 w e w' := by
  have C3 : Hid (∀ w, Calls Tryd.prog 23 #[.int .u16 x] w fun e w' => (∃ y : Int, e = .returned (.int .u16 y) ∧ 0 ≤ y ∧ y ≤ 65535) ∧ w' = w) := fun w => func3_c x w
  go_enter Tryd.func10, Tryd.ntmps10
  go_wp2_with (go_at_call 23; with_reducible refine (C3.out _).mono ?_; rintro e wf ⟨⟨y3, rfl, y30, y31⟩, rfl⟩)
  go_ret
  first
    | exact ⟨⟨_, rfl, (b16 _ _ _).1, (b16 _ _ _).2⟩, Below.refl _ _⟩
    | exact ⟨⟨_, rfl, x0, x1⟩, Below.refl _ _⟩
    | exact ⟨⟨_, rfl, (b16 _ _ _).1, (b16 _ _ _).2⟩, (Below.refl _ _).alloc (Nat.le_refl _) _⟩
set_option maxRecDepth 100000 in
set_option maxHeartbeats 2000000 in
theorem half_24_2 (k x : Int) (k0 : 0 ≤ k) (x0 : 0 ≤ x) (x1 : x ≤ 65535) (hk : k % 40 = 24) (hi : x / 256 % 6 = 2) (w : World) : Calls Tryd.prog 10 #[.int .u8 k, .int .u16 x] w fun e w' => Some16 w e w' := by
  have C3 : Hid (∀ w, Calls Tryd.prog 23 #[.int .u16 x] w fun e w' => (∃ y : Int, e = .returned (.int .u16 y) ∧ 0 ≤ y ∧ y ≤ 65535) ∧ w' = w) := fun w => func3_c x w
  go_enter Tryd.func10, Tryd.ntmps10
  go_wp2_with (go_at_call 23; with_reducible refine (C3.out _).mono ?_; rintro e wf ⟨⟨y3, rfl, y30, y31⟩, rfl⟩)
  go_ret
  first
    | exact ⟨⟨_, rfl, (b16 _ _ _).1, (b16 _ _ _).2⟩, Below.refl _ _⟩
    | exact ⟨⟨_, rfl, x0, x1⟩, Below.refl _ _⟩
    | exact ⟨⟨_, rfl, (b16 _ _ _).1, (b16 _ _ _).2⟩, (Below.refl _ _).alloc (Nat.le_refl _) _⟩
set_option maxRecDepth 100000 in
set_option maxHeartbeats 2000000 in
theorem half_24_3 (k x : Int) (k0 : 0 ≤ k) (x0 : 0 ≤ x) (x1 : x ≤ 65535) (hk : k % 40 = 24) (hi : x / 256 % 6 = 3) (w : World) : Calls Tryd.prog 10 #[.int .u8 k, .int .u16 x] w fun e w' => Some16 w e w' := by
  have C3 : Hid (∀ w, Calls Tryd.prog 23 #[.int .u16 x] w fun e w' => (∃ y : Int, e = .returned (.int .u16 y) ∧ 0 ≤ y ∧ y ≤ 65535) ∧ w' = w) := fun w => func3_c x w
  go_enter Tryd.func10, Tryd.ntmps10
  go_wp2_with (go_at_call 23; with_reducible refine (C3.out _).mono ?_; rintro e wf ⟨⟨y3, rfl, y30, y31⟩, rfl⟩)
  go_ret
  first
    | exact ⟨⟨_, rfl, (b16 _ _ _).1, (b16 _ _ _).2⟩, Below.refl _ _⟩
    | exact ⟨⟨_, rfl, x0, x1⟩, Below.refl _ _⟩
    | exact ⟨⟨_, rfl, (b16 _ _ _).1, (b16 _ _ _).2⟩, (Below.refl _ _).alloc (Nat.le_refl _) _⟩
set_option maxRecDepth 100000 in
set_option maxHeartbeats 2000000 in
theorem half_24_4 (k x : Int) (k0 : 0 ≤ k) (x0 : 0 ≤ x) (x1 : x ≤ 65535) (hk : k % 40 = 24) (hi : x / 256 % 6 = 4) (w : World) : Calls Tryd.prog 10 #[.int .u8 k, .int .u16 x] w fun e w' => Some16 w e w' := by
  have C3 : Hid (∀ w, Calls Tryd.prog 23 #[.int .u16 x] w fun e w' => (∃ y : Int, e = .returned (.int .u16 y) ∧ 0 ≤ y ∧ y ≤ 65535) ∧ w' = w) := fun w => func3_c x w
  go_enter Tryd.func10, Tryd.ntmps10
  go_wp2_with (go_at_call 23; with_reducible refine (C3.out _).mono ?_; rintro e wf ⟨⟨y3, rfl, y30, y31⟩, rfl⟩)
  go_ret
  first
    | exact ⟨⟨_, rfl, (b16 _ _ _).1, (b16 _ _ _).2⟩, Below.refl _ _⟩
    | exact ⟨⟨_, rfl, x0, x1⟩, Below.refl _ _⟩
    | exact ⟨⟨_, rfl, (b16 _ _ _).1, (b16 _ _ _).2⟩, (Below.refl _ _).alloc (Nat.le_refl _) _⟩
end Go.Proofs.YtbbkiiabjhgpkaaDoor
namespace Go.Proofs.YtbbkiiabjhgpkaaDoor
open Go.ChangeShapes Go.WideShapes Go.ChangeAt Go.RowKit
set_option linter.unusedVariables false
set_option linter.unusedSimpArgs false

set_option maxRecDepth 100000 in
set_option maxHeartbeats 2000000 in
theorem half_24_5 (k x : Int) (k0 : 0 ≤ k) (x0 : 0 ≤ x) (x1 : x ≤ 65535) (hk : k % 40 = 24) (hi : x / 256 % 6 = 5) (w : World) : Calls Tryd.prog 10 #[.int .u8 k, .int .u16 x] w fun e w' => Some16 w e w' := by
  have C3 : Hid (∀ w, Calls Tryd.prog 23 #[.int .u16 x] w fun e w' => (∃ y : Int, e = .returned (.int .u16 y) ∧ 0 ≤ y ∧ y ≤ 65535) ∧ w' = w) := fun w => func3_c x w
  go_enter Tryd.func10, Tryd.ntmps10
  go_wp2_with (go_at_call 23; with_reducible refine (C3.out _).mono ?_; rintro e wf ⟨⟨y3, rfl, y30, y31⟩, rfl⟩)
  go_ret
  first
    | exact ⟨⟨_, rfl, (b16 _ _ _).1, (b16 _ _ _).2⟩, Below.refl _ _⟩
    | exact ⟨⟨_, rfl, x0, x1⟩, Below.refl _ _⟩
    | exact ⟨⟨_, rfl, (b16 _ _ _).1, (b16 _ _ _).2⟩, (Below.refl _ _).alloc (Nat.le_refl _) _⟩
set_option maxRecDepth 100000 in
set_option maxHeartbeats 2000000 in
theorem half_25_0 (k x : Int) (k0 : 0 ≤ k) (x0 : 0 ≤ x) (x1 : x ≤ 65535) (hk : k % 40 = 25) (hi : bits .and .u16 (x / 256) 3 = 0) (w : World) : Calls Tryd.prog 10 #[.int .u8 k, .int .u16 x] w fun e w' => Some16 w e w' := by
  have C3 : Hid (∀ w, Calls Tryd.prog 23 #[.int .u16 x] w fun e w' => (∃ y : Int, e = .returned (.int .u16 y) ∧ 0 ≤ y ∧ y ≤ 65535) ∧ w' = w) := fun w => func3_c x w
  go_enter Tryd.func10, Tryd.ntmps10
  go_wp2_with (go_at_call 23; with_reducible refine (C3.out _).mono ?_; rintro e wf ⟨⟨y3, rfl, y30, y31⟩, rfl⟩)
  go_ret
  first
    | exact ⟨⟨_, rfl, (b16 _ _ _).1, (b16 _ _ _).2⟩, Below.refl _ _⟩
    | exact ⟨⟨_, rfl, x0, x1⟩, Below.refl _ _⟩
    | exact ⟨⟨_, rfl, (b16 _ _ _).1, (b16 _ _ _).2⟩, (Below.refl _ _).alloc (Nat.le_refl _) _⟩
set_option maxRecDepth 100000 in
set_option maxHeartbeats 2000000 in
theorem half_25_1 (k x : Int) (k0 : 0 ≤ k) (x0 : 0 ≤ x) (x1 : x ≤ 65535) (hk : k % 40 = 25) (hi : bits .and .u16 (x / 256) 3 = 1) (w : World) : Calls Tryd.prog 10 #[.int .u8 k, .int .u16 x] w fun e w' => Some16 w e w' := by
  have C3 : Hid (∀ w, Calls Tryd.prog 23 #[.int .u16 x] w fun e w' => (∃ y : Int, e = .returned (.int .u16 y) ∧ 0 ≤ y ∧ y ≤ 65535) ∧ w' = w) := fun w => func3_c x w
  go_enter Tryd.func10, Tryd.ntmps10
  go_wp2_with (go_at_call 23; with_reducible refine (C3.out _).mono ?_; rintro e wf ⟨⟨y3, rfl, y30, y31⟩, rfl⟩)
  go_ret
  first
    | exact ⟨⟨_, rfl, (b16 _ _ _).1, (b16 _ _ _).2⟩, Below.refl _ _⟩
    | exact ⟨⟨_, rfl, x0, x1⟩, Below.refl _ _⟩
    | exact ⟨⟨_, rfl, (b16 _ _ _).1, (b16 _ _ _).2⟩, (Below.refl _ _).alloc (Nat.le_refl _) _⟩
set_option maxRecDepth 100000 in
set_option maxHeartbeats 2000000 in
theorem half_25_2 (k x : Int) (k0 : 0 ≤ k) (x0 : 0 ≤ x) (x1 : x ≤ 65535) (hk : k % 40 = 25) (hi : bits .and .u16 (x / 256) 3 = 2) (w : World) : Calls Tryd.prog 10 #[.int .u8 k, .int .u16 x] w fun e w' => Some16 w e w' := by
  have C3 : Hid (∀ w, Calls Tryd.prog 23 #[.int .u16 x] w fun e w' => (∃ y : Int, e = .returned (.int .u16 y) ∧ 0 ≤ y ∧ y ≤ 65535) ∧ w' = w) := fun w => func3_c x w
  go_enter Tryd.func10, Tryd.ntmps10
  go_wp2_with (go_at_call 23; with_reducible refine (C3.out _).mono ?_; rintro e wf ⟨⟨y3, rfl, y30, y31⟩, rfl⟩)
  go_ret
  first
    | exact ⟨⟨_, rfl, (b16 _ _ _).1, (b16 _ _ _).2⟩, Below.refl _ _⟩
    | exact ⟨⟨_, rfl, x0, x1⟩, Below.refl _ _⟩
    | exact ⟨⟨_, rfl, (b16 _ _ _).1, (b16 _ _ _).2⟩, (Below.refl _ _).alloc (Nat.le_refl _) _⟩
set_option maxRecDepth 100000 in
set_option maxHeartbeats 2000000 in
theorem half_25_3 (k x : Int) (k0 : 0 ≤ k) (x0 : 0 ≤ x) (x1 : x ≤ 65535) (hk : k % 40 = 25) (hi : bits .and .u16 (x / 256) 3 = 3) (w : World) : Calls Tryd.prog 10 #[.int .u8 k, .int .u16 x] w fun e w' => Some16 w e w' := by
  have C3 : Hid (∀ w, Calls Tryd.prog 23 #[.int .u16 x] w fun e w' => (∃ y : Int, e = .returned (.int .u16 y) ∧ 0 ≤ y ∧ y ≤ 65535) ∧ w' = w) := fun w => func3_c x w
  go_enter Tryd.func10, Tryd.ntmps10
  go_wp2_with (go_at_call 23; with_reducible refine (C3.out _).mono ?_; rintro e wf ⟨⟨y3, rfl, y30, y31⟩, rfl⟩)
  go_ret
  first
    | exact ⟨⟨_, rfl, (b16 _ _ _).1, (b16 _ _ _).2⟩, Below.refl _ _⟩
    | exact ⟨⟨_, rfl, x0, x1⟩, Below.refl _ _⟩
    | exact ⟨⟨_, rfl, (b16 _ _ _).1, (b16 _ _ _).2⟩, (Below.refl _ _).alloc (Nat.le_refl _) _⟩
set_option maxRecDepth 100000 in
set_option maxHeartbeats 2000000 in
theorem half_26_0 (k x : Int) (k0 : 0 ≤ k) (x0 : 0 ≤ x) (x1 : x ≤ 65535) (hk : k % 40 = 26) (hi : bits .and .u16 (x / 256) 3 = 0) (w : World) : Calls Tryd.prog 10 #[.int .u8 k, .int .u16 x] w fun e w' => Some16 w e w' := by
  have C3 : Hid (∀ w, Calls Tryd.prog 23 #[.int .u16 x] w fun e w' => (∃ y : Int, e = .returned (.int .u16 y) ∧ 0 ≤ y ∧ y ≤ 65535) ∧ w' = w) := fun w => func3_c x w
  go_enter Tryd.func10, Tryd.ntmps10
  go_wp2_with (go_at_call 23; with_reducible refine (C3.out _).mono ?_; rintro e wf ⟨⟨y3, rfl, y30, y31⟩, rfl⟩)
  go_ret
  first
    | exact ⟨⟨_, rfl, (b16 _ _ _).1, (b16 _ _ _).2⟩, Below.refl _ _⟩
    | exact ⟨⟨_, rfl, x0, x1⟩, Below.refl _ _⟩
    | exact ⟨⟨_, rfl, (b16 _ _ _).1, (b16 _ _ _).2⟩, (Below.refl _ _).alloc (Nat.le_refl _) _⟩
set_option maxRecDepth 100000 in
set_option maxHeartbeats 2000000 in
theorem half_26_1 (k x : Int) (k0 : 0 ≤ k) (x0 : 0 ≤ x) (x1 : x ≤ 65535) (hk : k % 40 = 26) (hi : bits .and .u16 (x / 256) 3 = 1) (w : World) : Calls Tryd.prog 10 #[.int .u8 k, .int .u16 x] w fun e w' => Some16 w e w' := by
  have C3 : Hid (∀ w, Calls Tryd.prog 23 #[.int .u16 x] w fun e w' => (∃ y : Int, e = .returned (.int .u16 y) ∧ 0 ≤ y ∧ y ≤ 65535) ∧ w' = w) := fun w => func3_c x w
  go_enter Tryd.func10, Tryd.ntmps10
  go_wp2_with (go_at_call 23; with_reducible refine (C3.out _).mono ?_; rintro e wf ⟨⟨y3, rfl, y30, y31⟩, rfl⟩)
  go_ret
  first
    | exact ⟨⟨_, rfl, (b16 _ _ _).1, (b16 _ _ _).2⟩, Below.refl _ _⟩
    | exact ⟨⟨_, rfl, x0, x1⟩, Below.refl _ _⟩
    | exact ⟨⟨_, rfl, (b16 _ _ _).1, (b16 _ _ _).2⟩, (Below.refl _ _).alloc (Nat.le_refl _) _⟩
set_option maxRecDepth 100000 in
set_option maxHeartbeats 2000000 in
theorem half_26_2 (k x : Int) (k0 : 0 ≤ k) (x0 : 0 ≤ x) (x1 : x ≤ 65535) (hk : k % 40 = 26) (hi : bits .and .u16 (x / 256) 3 = 2) (w : World) : Calls Tryd.prog 10 #[.int .u8 k, .int .u16 x] w fun e w' => Some16 w e w' := by
  have C3 : Hid (∀ w, Calls Tryd.prog 23 #[.int .u16 x] w fun e w' => (∃ y : Int, e = .returned (.int .u16 y) ∧ 0 ≤ y ∧ y ≤ 65535) ∧ w' = w) := fun w => func3_c x w
  go_enter Tryd.func10, Tryd.ntmps10
  go_wp2_with (go_at_call 23; with_reducible refine (C3.out _).mono ?_; rintro e wf ⟨⟨y3, rfl, y30, y31⟩, rfl⟩)
  go_ret
  first
    | exact ⟨⟨_, rfl, (b16 _ _ _).1, (b16 _ _ _).2⟩, Below.refl _ _⟩
    | exact ⟨⟨_, rfl, x0, x1⟩, Below.refl _ _⟩
    | exact ⟨⟨_, rfl, (b16 _ _ _).1, (b16 _ _ _).2⟩, (Below.refl _ _).alloc (Nat.le_refl _) _⟩
set_option maxRecDepth 100000 in
set_option maxHeartbeats 2000000 in
theorem half_26_3 (k x : Int) (k0 : 0 ≤ k) (x0 : 0 ≤ x) (x1 : x ≤ 65535) (hk : k % 40 = 26) (hi : bits .and .u16 (x / 256) 3 = 3) (w : World) : Calls Tryd.prog 10 #[.int .u8 k, .int .u16 x] w fun e w' => Some16 w e w' := by
  have C3 : Hid (∀ w, Calls Tryd.prog 23 #[.int .u16 x] w fun e w' => (∃ y : Int, e = .returned (.int .u16 y) ∧ 0 ≤ y ∧ y ≤ 65535) ∧ w' = w) := fun w => func3_c x w
  go_enter Tryd.func10, Tryd.ntmps10
  go_wp2_with (go_at_call 23; with_reducible refine (C3.out _).mono ?_; rintro e wf ⟨⟨y3, rfl, y30, y31⟩, rfl⟩)
  go_ret
  first
    | exact ⟨⟨_, rfl, (b16 _ _ _).1, (b16 _ _ _).2⟩, Below.refl _ _⟩
    | exact ⟨⟨_, rfl, x0, x1⟩, Below.refl _ _⟩
    | exact ⟨⟨_, rfl, (b16 _ _ _).1, (b16 _ _ _).2⟩, (Below.refl _ _).alloc (Nat.le_refl _) _⟩
end Go.Proofs.YtbbkiiabjhgpkaaDoor
namespace Go.Proofs.YtbbkiiabjhgpkaaDoor
open Go.ChangeShapes Go.WideShapes Go.ChangeAt Go.RowKit
set_option linter.unusedVariables false
set_option linter.unusedSimpArgs false

set_option maxRecDepth 100000 in
set_option maxHeartbeats 2000000 in
theorem half_27_0 (k x : Int) (k0 : 0 ≤ k) (x0 : 0 ≤ x) (x1 : x ≤ 65535) (hk : k % 40 = 27) (hi : bits .and .u16 (x / 256) 1 = 0) (w : World) : Calls Tryd.prog 10 #[.int .u8 k, .int .u16 x] w fun e w' => Some16 w e w' := by
  have C3 : Hid (∀ w, Calls Tryd.prog 23 #[.int .u16 x] w fun e w' => (∃ y : Int, e = .returned (.int .u16 y) ∧ 0 ≤ y ∧ y ≤ 65535) ∧ w' = w) := fun w => func3_c x w
  go_enter Tryd.func10, Tryd.ntmps10
  go_wp2_with (go_at_call 23; with_reducible refine (C3.out _).mono ?_; rintro e wf ⟨⟨y3, rfl, y30, y31⟩, rfl⟩)
  go_ret
  first
    | exact ⟨⟨_, rfl, (b16 _ _ _).1, (b16 _ _ _).2⟩, Below.refl _ _⟩
    | exact ⟨⟨_, rfl, x0, x1⟩, Below.refl _ _⟩
    | exact ⟨⟨_, rfl, (b16 _ _ _).1, (b16 _ _ _).2⟩, (Below.refl _ _).alloc (Nat.le_refl _) _⟩
set_option maxRecDepth 100000 in
set_option maxHeartbeats 2000000 in
theorem half_27_1 (k x : Int) (k0 : 0 ≤ k) (x0 : 0 ≤ x) (x1 : x ≤ 65535) (hk : k % 40 = 27) (hi : bits .and .u16 (x / 256) 1 = 1) (w : World) : Calls Tryd.prog 10 #[.int .u8 k, .int .u16 x] w fun e w' => Some16 w e w' := by
  have C3 : Hid (∀ w, Calls Tryd.prog 23 #[.int .u16 x] w fun e w' => (∃ y : Int, e = .returned (.int .u16 y) ∧ 0 ≤ y ∧ y ≤ 65535) ∧ w' = w) := fun w => func3_c x w
  go_enter Tryd.func10, Tryd.ntmps10
  go_wp2_with (go_at_call 23; with_reducible refine (C3.out _).mono ?_; rintro e wf ⟨⟨y3, rfl, y30, y31⟩, rfl⟩)
  go_ret
  first
    | exact ⟨⟨_, rfl, (b16 _ _ _).1, (b16 _ _ _).2⟩, Below.refl _ _⟩
    | exact ⟨⟨_, rfl, x0, x1⟩, Below.refl _ _⟩
    | exact ⟨⟨_, rfl, (b16 _ _ _).1, (b16 _ _ _).2⟩, (Below.refl _ _).alloc (Nat.le_refl _) _⟩
set_option maxRecDepth 100000 in
set_option maxHeartbeats 2000000 in
theorem half_28 (k x : Int) (k0 : 0 ≤ k) (x0 : 0 ≤ x) (x1 : x ≤ 65535) (hk : k % 40 = 28) (w : World) : Calls Tryd.prog 10 #[.int .u8 k, .int .u16 x] w fun e w' => Some16 w e w' := by
  have C3 : Hid (∀ w, Calls Tryd.prog 23 #[.int .u16 x] w fun e w' => (∃ y : Int, e = .returned (.int .u16 y) ∧ 0 ≤ y ∧ y ≤ 65535) ∧ w' = w) := fun w => func3_c x w
  go_enter Tryd.func10, Tryd.ntmps10
  go_wp2_with (go_at_call 23; with_reducible refine (C3.out _).mono ?_; rintro e wf ⟨⟨y3, rfl, y30, y31⟩, rfl⟩)
  go_ret
  first
    | exact ⟨⟨_, rfl, (b16 _ _ _).1, (b16 _ _ _).2⟩, Below.refl _ _⟩
    | exact ⟨⟨_, rfl, x0, x1⟩, Below.refl _ _⟩
    | exact ⟨⟨_, rfl, (b16 _ _ _).1, (b16 _ _ _).2⟩, (Below.refl _ _).alloc (Nat.le_refl _) _⟩
set_option maxRecDepth 100000 in
set_option maxHeartbeats 2000000 in
theorem half_29 (k x : Int) (k0 : 0 ≤ k) (x0 : 0 ≤ x) (x1 : x ≤ 65535) (hk : k % 40 = 29) (w : World) : Calls Tryd.prog 10 #[.int .u8 k, .int .u16 x] w fun e w' => Some16 w e w' := by
  have C3 : Hid (∀ w, Calls Tryd.prog 23 #[.int .u16 x] w fun e w' => (∃ y : Int, e = .returned (.int .u16 y) ∧ 0 ≤ y ∧ y ≤ 65535) ∧ w' = w) := fun w => func3_c x w
  go_enter Tryd.func10, Tryd.ntmps10
  go_wp2_with (go_at_call 23; with_reducible refine (C3.out _).mono ?_; rintro e wf ⟨⟨y3, rfl, y30, y31⟩, rfl⟩)
  go_ret
  first
    | exact ⟨⟨_, rfl, (b16 _ _ _).1, (b16 _ _ _).2⟩, Below.refl _ _⟩
    | exact ⟨⟨_, rfl, x0, x1⟩, Below.refl _ _⟩
    | exact ⟨⟨_, rfl, (b16 _ _ _).1, (b16 _ _ _).2⟩, (Below.refl _ _).alloc (Nat.le_refl _) _⟩
set_option maxRecDepth 100000 in
set_option maxHeartbeats 2000000 in
theorem half_30 (k x : Int) (k0 : 0 ≤ k) (x0 : 0 ≤ x) (x1 : x ≤ 65535) (hk : k % 40 = 30) (w : World) : Calls Tryd.prog 10 #[.int .u8 k, .int .u16 x] w fun e w' => Some16 w e w' := by
  have C3 : Hid (∀ w, Calls Tryd.prog 23 #[.int .u16 x] w fun e w' => (∃ y : Int, e = .returned (.int .u16 y) ∧ 0 ≤ y ∧ y ≤ 65535) ∧ w' = w) := fun w => func3_c x w
  go_enter Tryd.func10, Tryd.ntmps10
  go_wp2_with (go_at_call 23; with_reducible refine (C3.out _).mono ?_; rintro e wf ⟨⟨y3, rfl, y30, y31⟩, rfl⟩)
  go_ret
  first
    | exact ⟨⟨_, rfl, (b16 _ _ _).1, (b16 _ _ _).2⟩, Below.refl _ _⟩
    | exact ⟨⟨_, rfl, x0, x1⟩, Below.refl _ _⟩
    | exact ⟨⟨_, rfl, (b16 _ _ _).1, (b16 _ _ _).2⟩, (Below.refl _ _).alloc (Nat.le_refl _) _⟩
set_option maxRecDepth 100000 in
set_option maxHeartbeats 2000000 in
theorem half_31 (k x : Int) (k0 : 0 ≤ k) (x0 : 0 ≤ x) (x1 : x ≤ 65535) (hk : k % 40 = 31) (w : World) : Calls Tryd.prog 10 #[.int .u8 k, .int .u16 x] w fun e w' => Some16 w e w' := by
  have C3 : Hid (∀ w, Calls Tryd.prog 23 #[.int .u16 x] w fun e w' => (∃ y : Int, e = .returned (.int .u16 y) ∧ 0 ≤ y ∧ y ≤ 65535) ∧ w' = w) := fun w => func3_c x w
  go_enter Tryd.func10, Tryd.ntmps10
  go_wp2_with (go_at_call 23; with_reducible refine (C3.out _).mono ?_; rintro e wf ⟨⟨y3, rfl, y30, y31⟩, rfl⟩)
  go_ret
  first
    | exact ⟨⟨_, rfl, (b16 _ _ _).1, (b16 _ _ _).2⟩, Below.refl _ _⟩
    | exact ⟨⟨_, rfl, x0, x1⟩, Below.refl _ _⟩
    | exact ⟨⟨_, rfl, (b16 _ _ _).1, (b16 _ _ _).2⟩, (Below.refl _ _).alloc (Nat.le_refl _) _⟩
set_option maxRecDepth 100000 in
set_option maxHeartbeats 2000000 in
theorem half_32 (k x : Int) (k0 : 0 ≤ k) (x0 : 0 ≤ x) (x1 : x ≤ 65535) (hk : k % 40 = 32) (w : World) : Calls Tryd.prog 10 #[.int .u8 k, .int .u16 x] w fun e w' => Some16 w e w' := by
  have C3 : Hid (∀ w, Calls Tryd.prog 23 #[.int .u16 x] w fun e w' => (∃ y : Int, e = .returned (.int .u16 y) ∧ 0 ≤ y ∧ y ≤ 65535) ∧ w' = w) := fun w => func3_c x w
  go_enter Tryd.func10, Tryd.ntmps10
  go_wp2_with (go_at_call 23; with_reducible refine (C3.out _).mono ?_; rintro e wf ⟨⟨y3, rfl, y30, y31⟩, rfl⟩)
  go_ret
  first
    | exact ⟨⟨_, rfl, (b16 _ _ _).1, (b16 _ _ _).2⟩, Below.refl _ _⟩
    | exact ⟨⟨_, rfl, x0, x1⟩, Below.refl _ _⟩
    | exact ⟨⟨_, rfl, (b16 _ _ _).1, (b16 _ _ _).2⟩, (Below.refl _ _).alloc (Nat.le_refl _) _⟩
set_option maxRecDepth 100000 in
set_option maxHeartbeats 2000000 in
theorem half_33 (k x : Int) (k0 : 0 ≤ k) (x0 : 0 ≤ x) (x1 : x ≤ 65535) (hk : k % 40 = 33) (w : World) : Calls Tryd.prog 10 #[.int .u8 k, .int .u16 x] w fun e w' => Some16 w e w' := by
  have C3 : Hid (∀ w, Calls Tryd.prog 23 #[.int .u16 x] w fun e w' => (∃ y : Int, e = .returned (.int .u16 y) ∧ 0 ≤ y ∧ y ≤ 65535) ∧ w' = w) := fun w => func3_c x w
  go_enter Tryd.func10, Tryd.ntmps10
  go_wp2_with (go_at_call 23; with_reducible refine (C3.out _).mono ?_; rintro e wf ⟨⟨y3, rfl, y30, y31⟩, rfl⟩)
  go_ret
  first
    | exact ⟨⟨_, rfl, (b16 _ _ _).1, (b16 _ _ _).2⟩, Below.refl _ _⟩
    | exact ⟨⟨_, rfl, x0, x1⟩, Below.refl _ _⟩
    | exact ⟨⟨_, rfl, (b16 _ _ _).1, (b16 _ _ _).2⟩, (Below.refl _ _).alloc (Nat.le_refl _) _⟩
set_option maxRecDepth 100000 in
set_option maxHeartbeats 2000000 in
theorem half_34 (k x : Int) (k0 : 0 ≤ k) (x0 : 0 ≤ x) (x1 : x ≤ 65535) (hk : k % 40 = 34) (w : World) : Calls Tryd.prog 10 #[.int .u8 k, .int .u16 x] w fun e w' => Some16 w e w' := by
  have C3 : Hid (∀ w, Calls Tryd.prog 23 #[.int .u16 x] w fun e w' => (∃ y : Int, e = .returned (.int .u16 y) ∧ 0 ≤ y ∧ y ≤ 65535) ∧ w' = w) := fun w => func3_c x w
  go_enter Tryd.func10, Tryd.ntmps10
  go_wp2_with (go_at_call 23; with_reducible refine (C3.out _).mono ?_; rintro e wf ⟨⟨y3, rfl, y30, y31⟩, rfl⟩)
  go_ret
  first
    | exact ⟨⟨_, rfl, (b16 _ _ _).1, (b16 _ _ _).2⟩, Below.refl _ _⟩
    | exact ⟨⟨_, rfl, x0, x1⟩, Below.refl _ _⟩
    | exact ⟨⟨_, rfl, (b16 _ _ _).1, (b16 _ _ _).2⟩, (Below.refl _ _).alloc (Nat.le_refl _) _⟩
end Go.Proofs.YtbbkiiabjhgpkaaDoor
namespace Go.Proofs.YtbbkiiabjhgpkaaDoor
open Go.ChangeShapes Go.WideShapes Go.ChangeAt Go.RowKit
set_option linter.unusedVariables false
set_option linter.unusedSimpArgs false

set_option maxRecDepth 100000 in
set_option maxHeartbeats 2000000 in
theorem half_35 (k x : Int) (k0 : 0 ≤ k) (x0 : 0 ≤ x) (x1 : x ≤ 65535) (hk : k % 40 = 35) (w : World) : Calls Tryd.prog 10 #[.int .u8 k, .int .u16 x] w fun e w' => Some16 w e w' := by
  have C3 : Hid (∀ w, Calls Tryd.prog 23 #[.int .u16 x] w fun e w' => (∃ y : Int, e = .returned (.int .u16 y) ∧ 0 ≤ y ∧ y ≤ 65535) ∧ w' = w) := fun w => func3_c x w
  go_enter Tryd.func10, Tryd.ntmps10
  go_wp2_with (go_at_call 23; with_reducible refine (C3.out _).mono ?_; rintro e wf ⟨⟨y3, rfl, y30, y31⟩, rfl⟩)
  go_ret
  first
    | exact ⟨⟨_, rfl, (b16 _ _ _).1, (b16 _ _ _).2⟩, Below.refl _ _⟩
    | exact ⟨⟨_, rfl, x0, x1⟩, Below.refl _ _⟩
    | exact ⟨⟨_, rfl, (b16 _ _ _).1, (b16 _ _ _).2⟩, (Below.refl _ _).alloc (Nat.le_refl _) _⟩
set_option maxRecDepth 100000 in
set_option maxHeartbeats 2000000 in
theorem half_36 (k x : Int) (k0 : 0 ≤ k) (x0 : 0 ≤ x) (x1 : x ≤ 65535) (hk : k % 40 = 36) (w : World) : Calls Tryd.prog 10 #[.int .u8 k, .int .u16 x] w fun e w' => Some16 w e w' := by
  have C3 : Hid (∀ w, Calls Tryd.prog 23 #[.int .u16 x] w fun e w' => (∃ y : Int, e = .returned (.int .u16 y) ∧ 0 ≤ y ∧ y ≤ 65535) ∧ w' = w) := fun w => func3_c x w
  go_enter Tryd.func10, Tryd.ntmps10
  go_wp2_with (go_at_call 23; with_reducible refine (C3.out _).mono ?_; rintro e wf ⟨⟨y3, rfl, y30, y31⟩, rfl⟩)
  go_ret
  first
    | exact ⟨⟨_, rfl, (b16 _ _ _).1, (b16 _ _ _).2⟩, Below.refl _ _⟩
    | exact ⟨⟨_, rfl, x0, x1⟩, Below.refl _ _⟩
    | exact ⟨⟨_, rfl, (b16 _ _ _).1, (b16 _ _ _).2⟩, (Below.refl _ _).alloc (Nat.le_refl _) _⟩
set_option maxRecDepth 100000 in
set_option maxHeartbeats 2000000 in
theorem half_37 (k x : Int) (k0 : 0 ≤ k) (x0 : 0 ≤ x) (x1 : x ≤ 65535) (hk : k % 40 = 37) (w : World) : Calls Tryd.prog 10 #[.int .u8 k, .int .u16 x] w fun e w' => Some16 w e w' := by
  have C3 : Hid (∀ w, Calls Tryd.prog 23 #[.int .u16 x] w fun e w' => (∃ y : Int, e = .returned (.int .u16 y) ∧ 0 ≤ y ∧ y ≤ 65535) ∧ w' = w) := fun w => func3_c x w
  go_enter Tryd.func10, Tryd.ntmps10
  go_wp2_with (go_at_call 23; with_reducible refine (C3.out _).mono ?_; rintro e wf ⟨⟨y3, rfl, y30, y31⟩, rfl⟩)
  go_ret
  first
    | exact ⟨⟨_, rfl, (b16 _ _ _).1, (b16 _ _ _).2⟩, Below.refl _ _⟩
    | exact ⟨⟨_, rfl, x0, x1⟩, Below.refl _ _⟩
    | exact ⟨⟨_, rfl, (b16 _ _ _).1, (b16 _ _ _).2⟩, (Below.refl _ _).alloc (Nat.le_refl _) _⟩
set_option maxRecDepth 100000 in
set_option maxHeartbeats 2000000 in
theorem half_38 (k x : Int) (k0 : 0 ≤ k) (x0 : 0 ≤ x) (x1 : x ≤ 65535) (hk : k % 40 = 38) (w : World) : Calls Tryd.prog 10 #[.int .u8 k, .int .u16 x] w fun e w' => Some16 w e w' := by
  have C3 : Hid (∀ w, Calls Tryd.prog 23 #[.int .u16 x] w fun e w' => (∃ y : Int, e = .returned (.int .u16 y) ∧ 0 ≤ y ∧ y ≤ 65535) ∧ w' = w) := fun w => func3_c x w
  go_enter Tryd.func10, Tryd.ntmps10
  go_wp2_with (go_at_call 23; with_reducible refine (C3.out _).mono ?_; rintro e wf ⟨⟨y3, rfl, y30, y31⟩, rfl⟩)
  go_ret
  first
    | exact ⟨⟨_, rfl, (b16 _ _ _).1, (b16 _ _ _).2⟩, Below.refl _ _⟩
    | exact ⟨⟨_, rfl, x0, x1⟩, Below.refl _ _⟩
    | exact ⟨⟨_, rfl, (b16 _ _ _).1, (b16 _ _ _).2⟩, (Below.refl _ _).alloc (Nat.le_refl _) _⟩
set_option maxRecDepth 100000 in
set_option maxHeartbeats 2000000 in
theorem half_39 (k x : Int) (k0 : 0 ≤ k) (x0 : 0 ≤ x) (x1 : x ≤ 65535) (hk : k % 40 = 39) (w : World) : Calls Tryd.prog 10 #[.int .u8 k, .int .u16 x] w fun e w' => Some16 w e w' := by
  have C3 : Hid (∀ w, Calls Tryd.prog 23 #[.int .u16 x] w fun e w' => (∃ y : Int, e = .returned (.int .u16 y) ∧ 0 ≤ y ∧ y ≤ 65535) ∧ w' = w) := fun w => func3_c x w
  go_enter Tryd.func10, Tryd.ntmps10
  go_wp2_with (go_at_call 23; with_reducible refine (C3.out _).mono ?_; rintro e wf ⟨⟨y3, rfl, y30, y31⟩, rfl⟩)
  go_ret
  first
    | exact ⟨⟨_, rfl, (b16 _ _ _).1, (b16 _ _ _).2⟩, Below.refl _ _⟩
    | exact ⟨⟨_, rfl, x0, x1⟩, Below.refl _ _⟩
    | exact ⟨⟨_, rfl, (b16 _ _ _).1, (b16 _ _ _).2⟩, (Below.refl _ _).alloc (Nat.le_refl _) _⟩
end Go.Proofs.YtbbkiiabjhgpkaaDoor
namespace Go.Proofs.YtbbkiiabjhgpkaaDoor
open Go.ChangeShapes Go.WideShapes Go.ChangeAt Go.RowKit
set_option linter.unusedVariables false
set_option linter.unusedSimpArgs false

theorem half_c (k x : Int) (k0 : 0 ≤ k) (x0 : 0 ≤ x) (x1 : x ≤ 65535) (w : World) : Calls Tryd.prog 10 #[.int .u8 k, .int .u16 x] w fun e w' => Some16 w e w' := by
  rcases (show k % 40 = 0 ∨ k % 40 = 1 ∨ k % 40 = 2 ∨ k % 40 = 3 ∨ k % 40 = 4 ∨ k % 40 = 5 ∨ k % 40 = 6 ∨ k % 40 = 7 ∨ k % 40 = 8 ∨ k % 40 = 9 ∨ k % 40 = 10 ∨ k % 40 = 11 ∨ k % 40 = 12 ∨ k % 40 = 13 ∨ k % 40 = 14 ∨ k % 40 = 15 ∨ k % 40 = 16 ∨ k % 40 = 17 ∨ k % 40 = 18 ∨ k % 40 = 19 ∨ k % 40 = 20 ∨ k % 40 = 21 ∨ k % 40 = 22 ∨ k % 40 = 23 ∨ k % 40 = 24 ∨ k % 40 = 25 ∨ k % 40 = 26 ∨ k % 40 = 27 ∨ k % 40 = 28 ∨ k % 40 = 29 ∨ k % 40 = 30 ∨ k % 40 = 31 ∨ k % 40 = 32 ∨ k % 40 = 33 ∨ k % 40 = 34 ∨ k % 40 = 35 ∨ k % 40 = 36 ∨ k % 40 = 37 ∨ k % 40 = 38 ∨ k % 40 = 39 by omega) with q | q | q | q | q | q | q | q | q | q | q | q | q | q | q | q | q | q | q | q | q | q | q | q | q | q | q | q | q | q | q | q | q | q | q | q | q | q | q | q
  · exact half_0 k x k0 x0 x1 q w
  · exact half_1 k x k0 x0 x1 q w
  · exact half_2 k x k0 x0 x1 q w
  · exact half_3 k x k0 x0 x1 q w
  · exact half_4 k x k0 x0 x1 q w
  · exact half_5 k x k0 x0 x1 q w
  · exact half_6 k x k0 x0 x1 q w
  · exact half_7 k x k0 x0 x1 q w
  · exact half_8 k x k0 x0 x1 q w
  · exact half_9 k x k0 x0 x1 q w
  · exact half_10 k x k0 x0 x1 q w
  · exact half_11 k x k0 x0 x1 q w
  · exact half_12 k x k0 x0 x1 q w
  · exact half_13 k x k0 x0 x1 q w
  · exact half_14 k x k0 x0 x1 q w
  · exact half_15 k x k0 x0 x1 q w
  · exact half_16 k x k0 x0 x1 q w
  · exact half_17 k x k0 x0 x1 q w
  · exact half_18 k x k0 x0 x1 q w
  · exact half_19 k x k0 x0 x1 q w
  · exact half_20 k x k0 x0 x1 q w
  · exact half_21 k x k0 x0 x1 q w
  · rcases (show x / 256 % 3 = 0 ∨ x / 256 % 3 = 1 ∨ x / 256 % 3 = 2 by omega) with p | p | p
    · exact half_22_0 k x k0 x0 x1 q p w
    · exact half_22_1 k x k0 x0 x1 q p w
    · exact half_22_2 k x k0 x0 x1 q p w
  · rcases (show x / 256 % 6 = 0 ∨ x / 256 % 6 = 1 ∨ x / 256 % 6 = 2 ∨ x / 256 % 6 = 3 ∨ x / 256 % 6 = 4 ∨ x / 256 % 6 = 5 by omega) with p | p | p | p | p | p
    · exact half_23_0 k x k0 x0 x1 q p w
    · exact half_23_1 k x k0 x0 x1 q p w
    · exact half_23_2 k x k0 x0 x1 q p w
    · exact half_23_3 k x k0 x0 x1 q p w
    · exact half_23_4 k x k0 x0 x1 q p w
    · exact half_23_5 k x k0 x0 x1 q p w
  · rcases (show x / 256 % 6 = 0 ∨ x / 256 % 6 = 1 ∨ x / 256 % 6 = 2 ∨ x / 256 % 6 = 3 ∨ x / 256 % 6 = 4 ∨ x / 256 % 6 = 5 by omega) with p | p | p | p | p | p
    · exact half_24_0 k x k0 x0 x1 q p w
    · exact half_24_1 k x k0 x0 x1 q p w
    · exact half_24_2 k x k0 x0 x1 q p w
    · exact half_24_3 k x k0 x0 x1 q p w
    · exact half_24_4 k x k0 x0 x1 q p w
    · exact half_24_5 k x k0 x0 x1 q p w
  · have hb : bits .and .u16 (x / 256) 3 = x / 256 % 4 := by
      obtain ⟨z, rfl⟩ := Int.eq_ofNat_of_zero_le x0
      have := fd_bits z 8 2 (by omega) (by decide) ((z : Int) / 256) 3 (by first | rfl | simp) rfl
      rw [this]
      simp [fd]
    rcases (show bits .and .u16 (x / 256) 3 = 0 ∨ bits .and .u16 (x / 256) 3 = 1 ∨ bits .and .u16 (x / 256) 3 = 2 ∨ bits .and .u16 (x / 256) 3 = 3 by rw [hb]; omega) with p | p | p | p
    · exact half_25_0 k x k0 x0 x1 q p w
    · exact half_25_1 k x k0 x0 x1 q p w
    · exact half_25_2 k x k0 x0 x1 q p w
    · exact half_25_3 k x k0 x0 x1 q p w
  · have hb : bits .and .u16 (x / 256) 3 = x / 256 % 4 := by
      obtain ⟨z, rfl⟩ := Int.eq_ofNat_of_zero_le x0
      have := fd_bits z 8 2 (by omega) (by decide) ((z : Int) / 256) 3 (by first | rfl | simp) rfl
      rw [this]
      simp [fd]
    rcases (show bits .and .u16 (x / 256) 3 = 0 ∨ bits .and .u16 (x / 256) 3 = 1 ∨ bits .and .u16 (x / 256) 3 = 2 ∨ bits .and .u16 (x / 256) 3 = 3 by rw [hb]; omega) with p | p | p | p
    · exact half_26_0 k x k0 x0 x1 q p w
    · exact half_26_1 k x k0 x0 x1 q p w
    · exact half_26_2 k x k0 x0 x1 q p w
    · exact half_26_3 k x k0 x0 x1 q p w
  · have hb : bits .and .u16 (x / 256) 1 = x / 256 % 2 := by
      obtain ⟨z, rfl⟩ := Int.eq_ofNat_of_zero_le x0
      have := fd_bits z 8 1 (by omega) (by decide) ((z : Int) / 256) 1 (by first | rfl | simp) rfl
      rw [this]
      simp [fd]
    rcases (show bits .and .u16 (x / 256) 1 = 0 ∨ bits .and .u16 (x / 256) 1 = 1 by rw [hb]; omega) with p | p
    · exact half_27_0 k x k0 x0 x1 q p w
    · exact half_27_1 k x k0 x0 x1 q p w
  · exact half_28 k x k0 x0 x1 q w
  · exact half_29 k x k0 x0 x1 q w
  · exact half_30 k x k0 x0 x1 q w
  · exact half_31 k x k0 x0 x1 q w
  · exact half_32 k x k0 x0 x1 q w
  · exact half_33 k x k0 x0 x1 q w
  · exact half_34 k x k0 x0 x1 q w
  · exact half_35 k x k0 x0 x1 q w
  · exact half_36 k x k0 x0 x1 q w
  · exact half_37 k x k0 x0 x1 q w
  · exact half_38 k x k0 x0 x1 q w
  · exact half_39 k x k0 x0 x1 q w
end Go.Proofs.YtbbkiiabjhgpkaaDoor
