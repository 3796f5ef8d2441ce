/- The statements' helper 'known' returns true where the library's table holds 1 at its second place. -/
import Derived.Test.YtmgnmoohfnaekaaDoorCIt
namespace Go.Proofs.YtmgnmoohfnaekaaDoor
open Go.ChangeShapes Go.WideShapes Go.ChangeAt Go.RowKit
set_option linter.unusedVariables false
set_option linter.unusedSimpArgs false

theorem ck0 (w : World) : Calls Tryd.prog 7 #[.int .i64 0, .int .i64 4] w fun e w' => e = .returned (.bool true) ∧ w' = w := by
  have h := holds_c 0 4 w
  rw [show flagsHold 0 4 = true by decide +kernel] at h
  exact h
theorem ck1 (w : World) : Calls Tryd.prog 7 #[.int .i64 1, .int .i64 4] w fun e w' => e = .returned (.bool false) ∧ w' = w := by
  have h := holds_c 1 4 w
  rw [show flagsHold 1 4 = false by decide +kernel] at h
  exact h
theorem ck2 (w : World) : Calls Tryd.prog 7 #[.int .i64 14, .int .i64 0] w fun e w' => e = .returned (.bool true) ∧ w' = w := by
  have h := holds_c 14 0 w
  rw [show flagsHold 14 0 = true by decide +kernel] at h
  exact h
theorem ck3 (w : World) : Calls Tryd.prog 7 #[.int .i64 15, .int .i64 15] w fun e w' => e = .returned (.bool false) ∧ w' = w := by
  have h := holds_c 15 15 w
  rw [show flagsHold 15 15 = false by decide +kernel] at h
  exact h
theorem ck4 (w : World) : Calls Tryd.prog 15 #[.bool true, .bool false, .bool true, .bool false] w fun e w' => e = .returned (.int .i64 10) ∧ w' = w := by
  have h := of_c true false true false w
  rw [show ofS true false true false = 10 by decide +kernel] at h
  exact h
theorem ck5 (w : World) : Calls Tryd.prog 13 #[.int .u32 0, .bool true, .bool false] w fun e w' => e = .returned (.int .i64 6) ∧ w' = w := by
  have h := result_c 0 true false (by decide) (by decide) w
  rw [show resultS 0 true false = 6 by decide +kernel] at h
  exact h
theorem ck6 (w : World) : Calls Tryd.prog 11 #[.int .i64 0] w fun e w' => e = .returned (.int .i64 1) ∧ w' = w := by
  have h := not_c 0 w
  rw [show notS 0 = 1 by decide +kernel] at h
  exact h
theorem ck7 (w : World) : Calls Tryd.prog 11 #[.int .i64 14] w fun e w' => e = .returned (.int .i64 14) ∧ w' = w := by
  have h := not_c 14 w
  rw [show notS 14 = 14 by decide +kernel] at h
  exact h
theorem ck8 (w : World) : Calls Tryd.prog 9 #[.int .i64 13] w fun e w' => e = .returned (.string ⟨#[108, 101]⟩) ∧ w' = w := by
  have h := name_c 13 w
  exact h
theorem ck9 (w : World) : Calls Tryd.prog 9 #[.int .i64 (-1)] w fun e w' => e = .returned (.string ⟨#[63]⟩) ∧ w' = w := by
  have h := name_c (-1) w
  exact h

set_option maxHeartbeats 1000000 in
theorem known_true (w : World) (h1 : 1 < w.heap.size) (hT : w.cell? ⟨1, 1, none⟩ = some (.int .u8 1)) : Calls Tryd.prog 6 #[] w fun e w' => e = .returned (.bool true) ∧ Below w.heap.size w w' := by
  have I : Hid _ := it_6 w h1 hT
  clear h1 hT
  go_enter Tryd.func6, Tryd.ntmps6
  go_wp2_with fail
  refine Calls.mono I.out ?_
  rintro e w1 ⟨⟨g, cap, rfl, hc0, hc1, hc2⟩, hb⟩
  clear I
  have HB : Hid _ := hb
  clear hb
  go_wp2_with fail
  refine (it_15 _).mono ?_
  rintro e w2 ⟨rfl, hw2⟩
  replace hw2 := hw2.symm
  subst hw2
  go_wp2_with fail
  refine (ck0 _).mono ?_
  rintro e w2 ⟨rfl, hw2⟩
  replace hw2 := hw2.symm
  subst hw2
  go_wp2_with fail
  refine (ck1 _).mono ?_
  rintro e w2 ⟨rfl, hw2⟩
  replace hw2 := hw2.symm
  subst hw2
  go_wp2_with fail
  refine (ck2 _).mono ?_
  rintro e w2 ⟨rfl, hw2⟩
  replace hw2 := hw2.symm
  subst hw2
  go_wp2_with fail
  refine (ck3 _).mono ?_
  rintro e w2 ⟨rfl, hw2⟩
  replace hw2 := hw2.symm
  subst hw2
  go_wp2_with fail
  refine (ck4 _).mono ?_
  rintro e w2 ⟨rfl, hw2⟩
  replace hw2 := hw2.symm
  subst hw2
  go_wp2_with fail
  refine (ck5 _).mono ?_
  rintro e w2 ⟨rfl, hw2⟩
  replace hw2 := hw2.symm
  subst hw2
  go_wp2_with fail
  refine (ck6 _).mono ?_
  rintro e w2 ⟨rfl, hw2⟩
  replace hw2 := hw2.symm
  subst hw2
  go_wp2_with fail
  refine (ck7 _).mono ?_
  rintro e w2 ⟨rfl, hw2⟩
  replace hw2 := hw2.symm
  subst hw2
  go_wp2_with fail
  refine (ck8 _).mono ?_
  rintro e w2 ⟨rfl, hw2⟩
  replace hw2 := hw2.symm
  subst hw2
  go_wp2_with fail
  refine (ck9 _).mono ?_
  rintro e w2 ⟨rfl, hw2⟩
  replace hw2 := hw2.symm
  subst hw2
  go_wp2
  go_ret
  exact ⟨rfl, HB.out⟩
end Go.Proofs.YtmgnmoohfnaekaaDoor
