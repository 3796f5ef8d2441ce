/- The names of the instructions, the program's, walked. -/
import Derived.Test.YtklhnaineeleoaaDoorHst1
import Derived.Test.YtklhnaineeleoaaDoorHLaid
namespace Go.Proofs.YtklhnaineeleoaaDoor
open Go.ChangeShapes Go.WideShapes Go.ChangeAt Go.RowKit
set_option linter.unusedVariables false
set_option linter.unusedSimpArgs false

def nmS (o : Int) : ByteArray := if isS o then nmT o.toNat else ⟨#[]⟩

theorem name_out (o : Int) (h : isS o = false) (w : World) : Calls Tryd.prog 18 #[.int .i64 o] w fun e w' => e = .returned (.string (nmS o)) ∧ w' = w := by
  have C : Hid _ := fun w => is_c o w
  rw [h] at C
  have hn : nmS o = ⟨#[]⟩ := by unfold nmS; rw [h]; rfl
  rw [hn]
  clear h hn
  go_enter Tryd.func18, Tryd.ntmps18
  go_wp2_with fail
  refine (C.out _).mono ?_
  rintro e _ ⟨rfl, rfl⟩
  go_wp2
  go_ret
  exact ⟨rfl, rfl⟩
theorem name_in (o : Int) (k : Nat) (ho : o = k) (h0 : isS o = true) (hk : k < 32) (w : World) (hc : w.cell? ⟨0, k, none⟩ = some (.string (nmT k))) : Calls Tryd.prog 18 #[.int .i64 o] w fun e w' => e = .returned (.string (nmS o)) ∧ w' = w := by
  have C : Hid _ := fun w => is_c o w
  rw [h0] at C
  have hn : nmS o = nmT k := by unfold nmS; rw [h0, ho]; rfl
  rw [hn]
  subst ho
  have k1 : (0 : Int) ≤ (k : Int) := by omega
  have k2 : (k : Int) < 32 := by omega
  generalize nmT k = s at *
  clear hn h0
  go_enter Tryd.func18, Tryd.ntmps18
  go_wp2_with fail
  refine (C.out _).mono ?_
  rintro e _ ⟨rfl, rfl⟩
  go_wp2
  go_ret
  exact ⟨rfl, rfl⟩
theorem name_c (o : Int) (w : World) (hT : LT w) : Calls Tryd.prog 18 #[.int .i64 o] w fun e w' => e = .returned (.string (nmS o)) ∧ w' = w := by
  cases hi : isS o
  · exact name_out o hi w
  · have h := hi
    unfold isS at h
    simp only [Bool.and_eq_true, decide_eq_true_eq] at h
    exact name_in o o.toNat (by omega) hi (by omega) w (hT.2 _ (by omega))

end Go.Proofs.YtklhnaineeleoaaDoor
