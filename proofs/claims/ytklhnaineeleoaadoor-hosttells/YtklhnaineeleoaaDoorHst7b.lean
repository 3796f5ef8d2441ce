/- The names of the instructions, the document's, walked: a part. -/
import Derived.Test.YtklhnaineeleoaaDoorHst7
namespace Go.Proofs.YtklhnaineeleoaaDoor
open Go.ChangeShapes Go.WideShapes Go.ChangeAt Go.RowKit
set_option linter.unusedVariables false
set_option linter.unusedSimpArgs false

theorem rname_9 (w : World) : Calls Tryd.prog 22 #[.int .i64 9] w fun e w' => e = .returned (.string (nmS 9)) ∧ Below w.heap.size w w' := by
  rw [show nmS 9 = ⟨#[83, 104, 114]⟩ by kernel_rfl]
  go_enter Tryd.func22, Tryd.ntmps22
  go_wp2
  go_ret
  exact ⟨rfl, (Below.refl _ _).alloc (Nat.le_refl _) _⟩
theorem rname_10 (w : World) : Calls Tryd.prog 22 #[.int .i64 10] w fun e w' => e = .returned (.string (nmS 10)) ∧ Below w.heap.size w w' := by
  rw [show nmS 10 = ⟨#[83, 97, 114]⟩ by kernel_rfl]
  go_enter Tryd.func22, Tryd.ntmps22
  go_wp2
  go_ret
  exact ⟨rfl, (Below.refl _ _).alloc (Nat.le_refl _) _⟩
theorem rname_11 (w : World) : Calls Tryd.prog 22 #[.int .i64 11] w fun e w' => e = .returned (.string (nmS 11)) ∧ Below w.heap.size w w' := by
  rw [show nmS 11 = ⟨#[82, 111, 114]⟩ by kernel_rfl]
  go_enter Tryd.func22, Tryd.ntmps22
  go_wp2
  go_ret
  exact ⟨rfl, (Below.refl _ _).alloc (Nat.le_refl _) _⟩
theorem rname_12 (w : World) : Calls Tryd.prog 22 #[.int .i64 12] w fun e w' => e = .returned (.string (nmS 12)) ∧ Below w.heap.size w w' := by
  rw [show nmS 12 = ⟨#[77, 117, 108]⟩ by kernel_rfl]
  go_enter Tryd.func22, Tryd.ntmps22
  go_wp2
  go_ret
  exact ⟨rfl, (Below.refl _ _).alloc (Nat.le_refl _) _⟩
theorem rname_13 (w : World) : Calls Tryd.prog 22 #[.int .i64 13] w fun e w' => e = .returned (.string (nmS 13)) ∧ Below w.heap.size w w' := by
  rw [show nmS 13 = ⟨#[77, 117, 108, 85]⟩ by kernel_rfl]
  go_enter Tryd.func22, Tryd.ntmps22
  go_wp2
  go_ret
  exact ⟨rfl, (Below.refl _ _).alloc (Nat.le_refl _) _⟩
theorem rname_14 (w : World) : Calls Tryd.prog 22 #[.int .i64 14] w fun e w' => e = .returned (.string (nmS 14)) ∧ Below w.heap.size w w' := by
  rw [show nmS 14 = ⟨#[77, 117, 108, 83]⟩ by kernel_rfl]
  go_enter Tryd.func22, Tryd.ntmps22
  go_wp2
  go_ret
  exact ⟨rfl, (Below.refl _ _).alloc (Nat.le_refl _) _⟩
theorem rname_15 (w : World) : Calls Tryd.prog 22 #[.int .i64 15] w fun e w' => e = .returned (.string (nmS 15)) ∧ Below w.heap.size w w' := by
  rw [show nmS 15 = ⟨#[68, 105, 118, 85]⟩ by kernel_rfl]
  go_enter Tryd.func22, Tryd.ntmps22
  go_wp2
  go_ret
  exact ⟨rfl, (Below.refl _ _).alloc (Nat.le_refl _) _⟩
theorem rname_16 (w : World) : Calls Tryd.prog 22 #[.int .i64 16] w fun e w' => e = .returned (.string (nmS 16)) ∧ Below w.heap.size w w' := by
  rw [show nmS 16 = ⟨#[68, 105, 118, 83]⟩ by kernel_rfl]
  go_enter Tryd.func22, Tryd.ntmps22
  go_wp2
  go_ret
  exact ⟨rfl, (Below.refl _ _).alloc (Nat.le_refl _) _⟩
end Go.Proofs.YtklhnaineeleoaaDoor
