/- The names of the instructions, the document's, walked: a part. -/
import Derived.Test.YtklhnaineeleoaaDoorHst7
namespace Go.Proofs.YtklhnaineeleoaaDoor
open Go.ChangeShapes Go.WideShapes Go.ChangeAt Go.RowKit
set_option linter.unusedVariables false
set_option linter.unusedSimpArgs false

theorem rname_25 (w : World) : Calls Tryd.prog 22 #[.int .i64 25] w fun e w' => e = .returned (.string (nmS 25)) ∧ Below w.heap.size w w' := by
  rw [show nmS 25 = ⟨#[83, 116, 49]⟩ by kernel_rfl]
  go_enter Tryd.func22, Tryd.ntmps22
  go_wp2
  go_ret
  exact ⟨rfl, (Below.refl _ _).alloc (Nat.le_refl _) _⟩
theorem rname_26 (w : World) : Calls Tryd.prog 22 #[.int .i64 26] w fun e w' => e = .returned (.string (nmS 26)) ∧ Below w.heap.size w w' := by
  rw [show nmS 26 = ⟨#[83, 116, 50]⟩ by kernel_rfl]
  go_enter Tryd.func22, Tryd.ntmps22
  go_wp2
  go_ret
  exact ⟨rfl, (Below.refl _ _).alloc (Nat.le_refl _) _⟩
theorem rname_27 (w : World) : Calls Tryd.prog 22 #[.int .i64 27] w fun e w' => e = .returned (.string (nmS 27)) ∧ Below w.heap.size w w' := by
  rw [show nmS 27 = ⟨#[83, 116, 52]⟩ by kernel_rfl]
  go_enter Tryd.func22, Tryd.ntmps22
  go_wp2
  go_ret
  exact ⟨rfl, (Below.refl _ _).alloc (Nat.le_refl _) _⟩
theorem rname_28 (w : World) : Calls Tryd.prog 22 #[.int .i64 28] w fun e w' => e = .returned (.string (nmS 28)) ∧ Below w.heap.size w w' := by
  rw [show nmS 28 = ⟨#[74, 109, 112]⟩ by kernel_rfl]
  go_enter Tryd.func22, Tryd.ntmps22
  go_wp2
  go_ret
  exact ⟨rfl, (Below.refl _ _).alloc (Nat.le_refl _) _⟩
theorem rname_29 (w : World) : Calls Tryd.prog 22 #[.int .i64 29] w fun e w' => e = .returned (.string (nmS 29)) ∧ Below w.heap.size w w' := by
  rw [show nmS 29 = ⟨#[74, 122]⟩ by kernel_rfl]
  go_enter Tryd.func22, Tryd.ntmps22
  go_wp2
  go_ret
  exact ⟨rfl, (Below.refl _ _).alloc (Nat.le_refl _) _⟩
theorem rname_30 (w : World) : Calls Tryd.prog 22 #[.int .i64 30] w fun e w' => e = .returned (.string (nmS 30)) ∧ Below w.heap.size w w' := by
  rw [show nmS 30 = ⟨#[69, 120, 105, 116]⟩ by kernel_rfl]
  go_enter Tryd.func22, Tryd.ntmps22
  go_wp2
  go_ret
  exact ⟨rfl, (Below.refl _ _).alloc (Nat.le_refl _) _⟩
theorem rname_31 (w : World) : Calls Tryd.prog 22 #[.int .i64 31] w fun e w' => e = .returned (.string (nmS 31)) ∧ Below w.heap.size w w' := by
  rw [show nmS 31 = ⟨#[84, 114, 97, 112]⟩ by kernel_rfl]
  go_enter Tryd.func22, Tryd.ntmps22
  go_wp2
  go_ret
  exact ⟨rfl, (Below.refl _ _).alloc (Nat.le_refl _) _⟩
theorem rname_lo (o : Int) (h : o < 1) (w : World) : Calls Tryd.prog 22 #[.int .i64 o] w fun e w' => e = .returned (.string (nmS o)) ∧ Below w.heap.size w w' := by
  have hi : isS o = false := by unfold isS; simp; omega
  have hn : nmS o = ⟨#[]⟩ := by unfold nmS; rw [hi]; rfl
  rw [hn]
  clear hi hn
  go_enter Tryd.func22, Tryd.ntmps22
  go_wp2
  go_ret
  exact ⟨rfl, (Below.refl _ _).alloc (Nat.le_refl _) _⟩
theorem rname_hi (o : Int) (h : 31 < o) (w : World) : Calls Tryd.prog 22 #[.int .i64 o] w fun e w' => e = .returned (.string (nmS o)) ∧ Below w.heap.size w w' := by
  have hi : isS o = false := by unfold isS; simp; omega
  have hn : nmS o = ⟨#[]⟩ := by unfold nmS; rw [hi]; rfl
  rw [hn]
  clear hi hn
  have h' : ¬ o < 1 := by omega
  go_enter Tryd.func22, Tryd.ntmps22
  go_wp2
  go_ret
  exact ⟨rfl, (Below.refl _ _).alloc (Nat.le_refl _) _⟩
end Go.Proofs.YtklhnaineeleoaaDoor
