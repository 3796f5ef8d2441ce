/- The statements' helper 'known' returns true: the words that it asks for are as the plain arithmetic has them. -/
import Derived.Test.YtoidmnhghklicaaBits
namespace Go.Proofs.Ytoidmnhghklicaa
open Go.ChangeShapes Go.WideShapes Go.ChangeAt Go.RowKit
set_option linter.unusedVariables false
set_option linter.unusedSimpArgs false

theorem k0 (w : World) : Calls Try.prog 12 #[.int .u32 4294967295, .int .u32 1, .bool false] w fun e w' => e = .returned (.tuple #[.int .u32 0, .bool true, .bool false]) ∧ w' = w := by
  have h := addCarry_c 4294967295 1 false (by decide) (by decide) (by decide) (by decide) w
  rw [show addS 4294967295 1 false = 0 by decide +kernel, show outS 4294967295 1 false = true by decide +kernel, show overS 4294967295 1 false = false by decide +kernel] at h
  exact h
theorem k1 (w : World) : Calls Try.prog 10 #[.int .u32 2147483649, .int .i64 2, .int .i64 1, .bool false] w fun e w' => e = .returned (.tuple #[.int .u32 1073741824, .bool true]) ∧ ∃ m, w' = w.drewN m := by
  have h := shift_c 2147483649 2 1 false (by decide) (by decide) (by decide) (by decide) w
  rw [show shiftS 2147483649 2 1 false = (1073741824, true) by decide +kernel] at h
  exact h
theorem k2 (w : World) : Calls Try.prog 14 #[.int .u32 1279, .bool false] w fun e w' => e = .returned (.tuple #[.int .u32 2139095040, .bool false, .bool true]) ∧ w' = w := by
  have h := expand_c 1279 false (by decide) (by decide) w
  rw [show expandS 1279 false = (2139095040, false, true) by decide +kernel] at h
  exact h
theorem k3 (w : World) : Calls Try.prog 16 #[.int .u32 16711935] w fun e w' => e = .returned (.tuple #[.int .u32 511, .bool true]) ∧ w' = w := by
  have h := compress_c 16711935 (by decide) (by decide) w
  rw [show compressS 16711935 = (511, true) by decide +kernel] at h
  exact h
theorem k4 (w : World) : Calls Try.prog 32 #[.int .u32 4294967295, .int .u32 2, .bool true] w fun e w' => e = .returned (.tuple #[.int .u32 4294967294, .int .u32 4294967295]) ∧ w' = w := by
  have h := mul64_c 4294967295 2 true (by decide) (by decide) (by decide) (by decide) w
  rw [show mulS 4294967295 2 true = 18446744073709551614 by decide +kernel] at h
  exact h
theorem k5 (w : World) : Calls Try.prog 18 #[.int .u32 1] w fun e w' => e = .returned (.int .i64 31) ∧ w' = w := by
  have h := clz_c 1 (by decide) (by decide) w
  rw [show clzS 1 = 31 by decide +kernel] at h
  exact h
theorem k6 (w : World) : Calls Try.prog 20 #[.int .u32 1] w fun e w' => e = .returned (.int .u32 2147483648) ∧ w' = w := by
  have h := rbit_c 1 (by decide) (by decide) w
  rw [show ofB rbitB 1 = 2147483648 by decide +kernel] at h
  exact h
theorem k7 (w : World) : Calls Try.prog 22 #[.int .u32 1] w fun e w' => e = .returned (.int .u32 16777216) ∧ w' = w := by
  have h := rev_c 1 (by decide) (by decide) w
  rw [show ofB revB 1 = 16777216 by decide +kernel] at h
  exact h
theorem k8 (w : World) : Calls Try.prog 24 #[.int .u32 1] w fun e w' => e = .returned (.int .u32 256) ∧ w' = w := by
  have h := rev16_c 1 (by decide) (by decide) w
  rw [show ofB rev16B 1 = 256 by decide +kernel] at h
  exact h
theorem k9 (w : World) : Calls Try.prog 26 #[.int .u32 128] w fun e w' => e = .returned (.int .u32 4294934528) ∧ w' = w := by
  have h := revsh_c 128 (by decide) (by decide) w
  rw [show signS (ofB rev16B 128) 16 = 4294934528 by decide +kernel] at h
  exact h
theorem k10 (w : World) : Calls Try.prog 28 #[.int .u32 128, .int .i64 8] w fun e w' => e = .returned (.int .u32 4294967168) ∧ w' = w := by
  have h := sign_c 128 8 (by decide) (by decide) (by decide) (by decide) w
  rw [show signS 128 (clampW 8) = 4294967168 by decide +kernel] at h
  exact h
theorem k11 (w : World) : Calls Try.prog 30 #[.int .u32 511, .int .i64 8] w fun e w' => e = .returned (.int .u32 255) ∧ w' = w := by
  have h := zero_c 511 8 (by decide) (by decide) (by decide) (by decide) w
  rw [show zeroS 511 (clampW 8) = 255 by decide +kernel] at h
  exact h
theorem k12 (w : World) : Calls Try.prog 36 #[.int .u32 2147483648, .int .u32 4294967295] w fun e w' => e = .returned (.int .u32 2147483648) ∧ w' = w := by
  have h := divs_c 2147483648 4294967295 (by decide) (by decide) (by decide) (by decide) w
  rw [show divsS 2147483648 4294967295 = 2147483648 by decide +kernel] at h
  exact h
theorem k13 (w : World) : Calls Try.prog 34 #[.int .u32 7, .int .u32 2] w fun e w' => e = .returned (.int .u32 3) ∧ w' = w := by
  have h := divu_c 7 2 (by decide) (by decide) (by decide) (by decide) w
  rw [show divuS 7 2 = 3 by decide +kernel] at h
  exact h

set_option maxRecDepth 100000 in
set_option maxHeartbeats 2000000 in
theorem known_true (w : World) : Calls Try.prog 9 #[] w fun e w' => e = .returned (.bool true) ∧ ∃ m, w' = w.drewN m := by
  go_enter Try.func9, Try.ntmps9
  go_wp2_with fail
  refine (k0 _).mono ?_
  rintro e _ ⟨rfl, rfl⟩
  go_wp2_with fail
  refine (k1 _).mono ?_
  rintro e _ ⟨rfl, m, rfl⟩
  go_wp2_with fail
  refine (k2 _).mono ?_
  rintro e _ ⟨rfl, rfl⟩
  go_wp2_with fail
  refine (k3 _).mono ?_
  rintro e _ ⟨rfl, rfl⟩
  go_wp2_with fail
  refine (k4 _).mono ?_
  rintro e _ ⟨rfl, rfl⟩
  go_wp2_with fail
  refine (k5 _).mono ?_
  rintro e _ ⟨rfl, rfl⟩
  go_wp2_with fail
  refine (k6 _).mono ?_
  rintro e _ ⟨rfl, rfl⟩
  go_wp2_with fail
  refine (k7 _).mono ?_
  rintro e _ ⟨rfl, rfl⟩
  go_wp2_with fail
  refine (k8 _).mono ?_
  rintro e _ ⟨rfl, rfl⟩
  go_wp2_with fail
  refine (k9 _).mono ?_
  rintro e _ ⟨rfl, rfl⟩
  go_wp2_with fail
  refine (k10 _).mono ?_
  rintro e _ ⟨rfl, rfl⟩
  go_wp2_with fail
  refine (k11 _).mono ?_
  rintro e _ ⟨rfl, rfl⟩
  go_wp2_with fail
  refine (k12 _).mono ?_
  rintro e _ ⟨rfl, rfl⟩
  go_wp2_with fail
  refine (k13 _).mono ?_
  rintro e _ ⟨rfl, rfl⟩
  go_wp2
  go_ret
  exact ⟨rfl, _, rfl⟩
end Go.Proofs.Ytoidmnhghklicaa
