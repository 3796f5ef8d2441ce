/- The names of the instructions, the document's, walked: a part. -/
import Derived.Test.YtklhnaineeleoaaDoorHst7
namespace Go.Proofs.YtklhnaineeleoaaDoor
open Go.ChangeShapes Go.WideShapes Go.ChangeAt Go.RowKit
set_option linter.unusedVariables false
set_option linter.unusedSimpArgs false

theorem rname_17 (w : World) : Calls Tryd.prog 22 #[.int .i64 17] w fun e w' => e = .returned (.string (nmS 17)) ∧ Below w.heap.size w w' := by
  rw [show nmS 17 = ⟨#[67, 108, 122]⟩ by kernel_rfl]
  go_enter Tryd.func22, Tryd.ntmps22
  go_wp2
  go_ret
  exact ⟨rfl, (Below.refl _ _).alloc (Nat.le_refl _) _⟩
theorem rname_18 (w : World) : Calls Tryd.prog 22 #[.int .i64 18] w fun e w' => e = .returned (.string (nmS 18)) ∧ Below w.heap.size w w' := by
  rw [show nmS 18 = ⟨#[76, 116, 85]⟩ by kernel_rfl]
  go_enter Tryd.func22, Tryd.ntmps22
  go_wp2
  go_ret
  exact ⟨rfl, (Below.refl _ _).alloc (Nat.le_refl _) _⟩
theorem rname_19 (w : World) : Calls Tryd.prog 22 #[.int .i64 19] w fun e w' => e = .returned (.string (nmS 19)) ∧ Below w.heap.size w w' := by
  rw [show nmS 19 = ⟨#[76, 116, 83]⟩ by kernel_rfl]
  go_enter Tryd.func22, Tryd.ntmps22
  go_wp2
  go_ret
  exact ⟨rfl, (Below.refl _ _).alloc (Nat.le_refl _) _⟩
theorem rname_20 (w : World) : Calls Tryd.prog 22 #[.int .i64 20] w fun e w' => e = .returned (.string (nmS 20)) ∧ Below w.heap.size w w' := by
  rw [show nmS 20 = ⟨#[69, 113]⟩ by kernel_rfl]
  go_enter Tryd.func22, Tryd.ntmps22
  go_wp2
  go_ret
  exact ⟨rfl, (Below.refl _ _).alloc (Nat.le_refl _) _⟩
theorem rname_21 (w : World) : Calls Tryd.prog 22 #[.int .i64 21] w fun e w' => e = .returned (.string (nmS 21)) ∧ Below w.heap.size w w' := by
  rw [show nmS 21 = ⟨#[83, 101, 108]⟩ by kernel_rfl]
  go_enter Tryd.func22, Tryd.ntmps22
  go_wp2
  go_ret
  exact ⟨rfl, (Below.refl _ _).alloc (Nat.le_refl _) _⟩
theorem rname_22 (w : World) : Calls Tryd.prog 22 #[.int .i64 22] w fun e w' => e = .returned (.string (nmS 22)) ∧ Below w.heap.size w w' := by
  rw [show nmS 22 = ⟨#[76, 100, 49]⟩ by kernel_rfl]
  go_enter Tryd.func22, Tryd.ntmps22
  go_wp2
  go_ret
  exact ⟨rfl, (Below.refl _ _).alloc (Nat.le_refl _) _⟩
theorem rname_23 (w : World) : Calls Tryd.prog 22 #[.int .i64 23] w fun e w' => e = .returned (.string (nmS 23)) ∧ Below w.heap.size w w' := by
  rw [show nmS 23 = ⟨#[76, 100, 50]⟩ by kernel_rfl]
  go_enter Tryd.func22, Tryd.ntmps22
  go_wp2
  go_ret
  exact ⟨rfl, (Below.refl _ _).alloc (Nat.le_refl _) _⟩
theorem rname_24 (w : World) : Calls Tryd.prog 22 #[.int .i64 24] w fun e w' => e = .returned (.string (nmS 24)) ∧ Below w.heap.size w w' := by
  rw [show nmS 24 = ⟨#[76, 100, 52]⟩ by kernel_rfl]
  go_enter Tryd.func22, Tryd.ntmps22
  go_wp2
  go_ret
  exact ⟨rfl, (Below.refl _ _).alloc (Nat.le_refl _) _⟩
end Go.Proofs.YtklhnaineeleoaaDoor
