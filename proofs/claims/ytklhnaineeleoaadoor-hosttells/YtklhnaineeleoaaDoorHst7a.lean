/- The names of the instructions, the document's, walked: a part. -/
import Derived.Test.YtklhnaineeleoaaDoorHst7
namespace Go.Proofs.YtklhnaineeleoaaDoor
open Go.ChangeShapes Go.WideShapes Go.ChangeAt Go.RowKit
set_option linter.unusedVariables false
set_option linter.unusedSimpArgs false

theorem rname_1 (w : World) : Calls Tryd.prog 22 #[.int .i64 1] w fun e w' => e = .returned (.string (nmS 1)) ∧ Below w.heap.size w w' := by
  rw [show nmS 1 = ⟨#[77, 111, 118, 73]⟩ by kernel_rfl]
  go_enter Tryd.func22, Tryd.ntmps22
  go_wp2
  go_ret
  exact ⟨rfl, (Below.refl _ _).alloc (Nat.le_refl _) _⟩
theorem rname_2 (w : World) : Calls Tryd.prog 22 #[.int .i64 2] w fun e w' => e = .returned (.string (nmS 2)) ∧ Below w.heap.size w w' := by
  rw [show nmS 2 = ⟨#[77, 111, 118]⟩ by kernel_rfl]
  go_enter Tryd.func22, Tryd.ntmps22
  go_wp2
  go_ret
  exact ⟨rfl, (Below.refl _ _).alloc (Nat.le_refl _) _⟩
theorem rname_3 (w : World) : Calls Tryd.prog 22 #[.int .i64 3] w fun e w' => e = .returned (.string (nmS 3)) ∧ Below w.heap.size w w' := by
  rw [show nmS 3 = ⟨#[65, 100, 100]⟩ by kernel_rfl]
  go_enter Tryd.func22, Tryd.ntmps22
  go_wp2
  go_ret
  exact ⟨rfl, (Below.refl _ _).alloc (Nat.le_refl _) _⟩
theorem rname_4 (w : World) : Calls Tryd.prog 22 #[.int .i64 4] w fun e w' => e = .returned (.string (nmS 4)) ∧ Below w.heap.size w w' := by
  rw [show nmS 4 = ⟨#[83, 117, 98]⟩ by kernel_rfl]
  go_enter Tryd.func22, Tryd.ntmps22
  go_wp2
  go_ret
  exact ⟨rfl, (Below.refl _ _).alloc (Nat.le_refl _) _⟩
theorem rname_5 (w : World) : Calls Tryd.prog 22 #[.int .i64 5] w fun e w' => e = .returned (.string (nmS 5)) ∧ Below w.heap.size w w' := by
  rw [show nmS 5 = ⟨#[65, 110, 100]⟩ by kernel_rfl]
  go_enter Tryd.func22, Tryd.ntmps22
  go_wp2
  go_ret
  exact ⟨rfl, (Below.refl _ _).alloc (Nat.le_refl _) _⟩
theorem rname_6 (w : World) : Calls Tryd.prog 22 #[.int .i64 6] w fun e w' => e = .returned (.string (nmS 6)) ∧ Below w.heap.size w w' := by
  rw [show nmS 6 = ⟨#[79, 114]⟩ by kernel_rfl]
  go_enter Tryd.func22, Tryd.ntmps22
  go_wp2
  go_ret
  exact ⟨rfl, (Below.refl _ _).alloc (Nat.le_refl _) _⟩
theorem rname_7 (w : World) : Calls Tryd.prog 22 #[.int .i64 7] w fun e w' => e = .returned (.string (nmS 7)) ∧ Below w.heap.size w w' := by
  rw [show nmS 7 = ⟨#[88, 111, 114]⟩ by kernel_rfl]
  go_enter Tryd.func22, Tryd.ntmps22
  go_wp2
  go_ret
  exact ⟨rfl, (Below.refl _ _).alloc (Nat.le_refl _) _⟩
theorem rname_8 (w : World) : Calls Tryd.prog 22 #[.int .i64 8] w fun e w' => e = .returned (.string (nmS 8)) ∧ Below w.heap.size w w' := by
  rw [show nmS 8 = ⟨#[83, 104, 108]⟩ by kernel_rfl]
  go_enter Tryd.func22, Tryd.ntmps22
  go_wp2
  go_ret
  exact ⟨rfl, (Below.refl _ _).alloc (Nat.le_refl _) _⟩
end Go.Proofs.YtklhnaineeleoaaDoor
