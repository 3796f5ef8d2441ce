/- sourdineseat.Half: some word, whatever the numbers. -/
import Derived.Test.YtplhblhopaheeaaGreatDoorYf
namespace Go.Proofs.YtplhblhopaheeaaGreatDoor
open Go.ChangeShapes Go.WideShapes Go.ChangeAt Go.RowKit
set_option linter.unusedVariables false
set_option linter.unusedSimpArgs false
set_option maxHeartbeats 20000000
set_option maxRecDepth 100000

theorem b16 (op : BinOp) (a b : Int) : 0 ≤ bits op .u16 a b ∧ bits op .u16 a b ≤ 65535 := by
  have h : ∀ n : Int, 0 ≤ IntKind.u16.wrap n ∧ IntKind.u16.wrap n ≤ 65535 := fun n => by rw [IntKind.wrap_u16]; omega
  unfold bits
  split <;> exact h _
def Some16 (w : World) (e : Ending) (w' : World) : Prop := (∃ y : Int, e = .returned (.int .u16 y) ∧ 0 ≤ y ∧ y ≤ 65535) ∧ Below w.heap.size w w'
theorem func3_c (x : Int) (w : World) : Calls Tryz.prog 40 #[.int .u16 x] w fun e w' => (∃ y : Int, e = .returned (.int .u16 y) ∧ 0 ≤ y ∧ y ≤ 65535) ∧ w' = w := by
  cases hq : (bits .and .u16 x 48 == 48)
  all_goals
    go_enter Tryz.func40, Tryz.ntmps40
    go_wp2
    go_ret
    exact ⟨⟨_, rfl, (b16 _ _ _).1, (b16 _ _ _).2⟩, rfl⟩
theorem and3 (x : Int) (x0 : 0 ≤ x) (x1 : x ≤ 65535) : bits .and .u16 (x / 256) 3 = 0 ∨ bits .and .u16 (x / 256) 3 = 1 ∨ bits .and .u16 (x / 256) 3 = 2 ∨ bits .and .u16 (x / 256) 3 = 3 := by
  obtain ⟨n, rfl⟩ : ∃ n : Nat, x = n := ⟨x.toNat, by omega⟩
  rw [show ((n : Int) / 256) = ((n / 256 : Nat) : Int) by omega, show (3 : Int) = ((3 : Nat) : Int) from rfl, u16_and_nat _ _ (by omega) (by decide)]
  have : n / 256 &&& 3 ≤ 3 := Nat.and_le_right
  omega
theorem and1 (x : Int) (x0 : 0 ≤ x) (x1 : x ≤ 65535) : bits .and .u16 (x / 256) 1 = 0 ∨ bits .and .u16 (x / 256) 1 = 1 := by
  obtain ⟨n, rfl⟩ : ∃ n : Nat, x = n := ⟨x.toNat, by omega⟩
  rw [show ((n : Int) / 256) = ((n / 256 : Nat) : Int) by omega, show (1 : Int) = ((1 : Nat) : Int) from rfl, u16_and_nat _ _ (by omega) (by decide)]
  have : n / 256 &&& 1 ≤ 1 := Nat.and_le_right
  omega
theorem half_c (k x : Int) (k0 : 0 ≤ k) (x0 : 0 ≤ x) (x1 : x ≤ 65535) (w : World) : Calls Tryz.prog 9 #[.int .u8 k, .int .u16 x] w fun e w' => Some16 w e w' := by
  have C3 : Hid (∀ w, Calls Tryz.prog 40 #[.int .u16 x] w fun e w' => (∃ y : Int, e = .returned (.int .u16 y) ∧ 0 ≤ y ∧ y ≤ 65535) ∧ w' = w) := fun w => func3_c x w
  have a3 := and3 x x0 x1
  have a1 := and1 x x0 x1
  rcases (show k % 40 = 22 ∨ k % 40 = 23 ∨ k % 40 = 24 ∨ k % 40 = 25 ∨ k % 40 = 26 ∨ k % 40 = 27 ∨ k % 40 = 0 ∨ k % 40 = 1 ∨ k % 40 = 2 ∨ k % 40 = 3 ∨ k % 40 = 4 ∨ k % 40 = 5 ∨ k % 40 = 6 ∨ k % 40 = 7 ∨ k % 40 = 8 ∨ k % 40 = 9 ∨ k % 40 = 10 ∨ k % 40 = 11 ∨ k % 40 = 12 ∨ k % 40 = 13 ∨ k % 40 = 14 ∨ k % 40 = 15 ∨ k % 40 = 16 ∨ k % 40 = 17 ∨ k % 40 = 18 ∨ k % 40 = 19 ∨ k % 40 = 20 ∨ k % 40 = 21 ∨ k % 40 = 28 ∨ k % 40 = 29 ∨ k % 40 = 30 ∨ k % 40 = 31 ∨ k % 40 = 32 ∨ k % 40 = 33 ∨ k % 40 = 34 ∨ k % 40 = 35 ∨ k % 40 = 36 ∨ k % 40 = 37 ∨ k % 40 = 38 ∨ k % 40 = 39 by omega) with hk | hk | hk | hk | hk | hk | hk | hk | hk | hk | hk | hk | hk | hk | hk | hk | hk | hk | hk | hk | hk | hk | hk | hk | hk | hk | hk | hk | hk | hk | hk | hk | hk | hk | hk | hk | hk | hk | hk | hk
  rcases (show x / 256 % 3 = 0 ∨ x / 256 % 3 = 1 ∨ x / 256 % 3 = 2 by omega) with hi | hi | hi
  rotate_left 3
  rcases (show x / 256 % 6 = 0 ∨ x / 256 % 6 = 1 ∨ x / 256 % 6 = 2 ∨ x / 256 % 6 = 3 ∨ x / 256 % 6 = 4 ∨ x / 256 % 6 = 5 by omega) with hi | hi | hi | hi | hi | hi
  rotate_left 6
  rcases (show x / 256 % 6 = 0 ∨ x / 256 % 6 = 1 ∨ x / 256 % 6 = 2 ∨ x / 256 % 6 = 3 ∨ x / 256 % 6 = 4 ∨ x / 256 % 6 = 5 by omega) with hi | hi | hi | hi | hi | hi
  rotate_left 6
  iterate 2 (rcases a3 with hi | hi | hi | hi; rotate_left 4)
  rcases a1 with hi | hi
  all_goals
    (try clear a3)
    (try clear a1)
    go_enter Tryz.func9, Tryz.ntmps9
    go_wp2_with (go_at_call 40; with_reducible refine (C3.out _).mono ?_; rintro e wf ⟨⟨y3, rfl, y30, y31⟩, rfl⟩)
    go_ret
    first
      | exact ⟨⟨_, rfl, (b16 _ _ _).1, (b16 _ _ _).2⟩, Below.refl _ _⟩
      | exact ⟨⟨_, rfl, x0, x1⟩, Below.refl _ _⟩
      | exact ⟨⟨_, rfl, (b16 _ _ _).1, (b16 _ _ _).2⟩, (Below.refl _ _).alloc (Nat.le_refl _) _⟩
end Go.Proofs.YtplhblhopaheeaaGreatDoor
