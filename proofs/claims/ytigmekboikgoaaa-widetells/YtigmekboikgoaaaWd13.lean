/- Stage 9: a Mov of nothing is told of no word. -/
import Derived.Test.YtigmekboikgoaaaWd12
namespace Go.Proofs.Ytigmekboikgoaaa
open Go.ChangeShapes Go.WideShapes Go.ChangeAt Go.RowKit
set_option linter.unusedVariables false
set_option linter.unusedSimpArgs false

set_option maxHeartbeats 4000000 in
set_option maxRecDepth 100000 in
theorem word0_c (w : World) : Calls Try.prog 17 #[zeroM.val] w fun e w' => e = .returned (.int .u32 3931045888) ∧ Below w.heap.size w w' := by
  have CC : Hid (∀ w1, Calls Try.prog 35 #[.int .i64 13] w1 fun e w' => e = .returned (.int .i64 1) ∧ w' = w1) := fun w1 => class_c 13 w1
  go_enter Try.func17, Try.ntmps17
  have S := SH.start w
  go_wp2_with (first
    | (go_at_call 35; refine (CC.out _).mono ?_; rintro e wf ⟨rfl, rfl⟩)
    | (go_at_call 36; refine (dataW0_c _).mono ?_; rintro e wf ⟨rfl, hbf⟩; replace S := S.below hbf; clear hbf)
    | ((with_reducible refine wpl_is ?_); first
      | (refine SH.box (L := []) S rfl 30 _ rfl (Cel.iv zeroM) rfl ?_; clear S; intro b2 w0 S)
      | (refine S.ld 3 _ rfl _ 0 rfl 0 (Cel.iv zeroM) rfl (.int .i64 13) rfl _ Try.underlying3 rfl rfl ?_)
      | (refine S.ldAll 30 _ rfl _ rfl 0 (Cel.iv zeroM) rfl _ Try.underlying30 rfl (szIV _) rfl ?_)))
  go_ret
  exact ⟨rfl, S.low⟩
set_option maxHeartbeats 4000000 in
set_option maxRecDepth 100000 in
theorem dataZ_c (w : World) : Calls Try.prog 49 #[.int .u32 3931045888] w fun e w' => Says w (startI 13 0 0) e w' := by
  unfold Says
  have F21 : Hid (∀ w, Calls Try.prog 46 #[.int .u32 3931045888, .int .i64 21, .int .i64 4] w fun e w' => e = .returned (.int .i64 2) ∧ Below w.heap.size w w') := fun w => by
    have h := field_21_4 3931045888 (by decide) w
    rw [show fd 3931045888 21 4 = 2 from rfl] at h
    exact h
  have F8 : Hid (∀ w, Calls Try.prog 46 #[.int .u32 3931045888, .int .i64 8, .int .i64 4] w fun e w' => e = .returned (.int .i64 0) ∧ Below w.heap.size w w') := fun w => by
    have h := field_8_4 3931045888 (by decide) w
    rw [show fd 3931045888 8 4 = 0 from rfl] at h
    exact h
  have F16 : Hid (∀ w, Calls Try.prog 46 #[.int .u32 3931045888, .int .i64 16, .int .i64 4] w fun e w' => e = .returned (.int .i64 15) ∧ Below w.heap.size w w') := fun w => by
    have h := field_16_4 3931045888 (by decide) w
    rw [show fd 3931045888 16 4 = 15 from rfl] at h
    exact h
  have k1 : bits .and .u32 3931045888 1048576 = 0 := by decide +kernel
  have Co2 : Hid (∀ w, Calls Try.prog 85 #[.int .i64 2] w fun e w' => e = .returned (.int .i64 12) ∧ w' = w) := fun w => dataOp_c 2 w
  have Cd12 : Hid (∀ w, Calls Try.prog 86 #[.int .i64 12] w fun e w' => e = .returned (.int .i64 12) ∧ w' = w) := fun w => withoutD_c 12 w
  have Cn12 : Hid (∀ w, Calls Try.prog 87 #[.int .i64 12] w fun e w' => e = .returned (.int .i64 13) ∧ w' = w) := fun w => withoutN_c 12 w
  have CST : Hid (∀ w, Calls Try.prog 45 #[.int .i64 12, .int .i64 0, .int .i64 15] w fun e w' => e = .returned (startI 12 0 15).val ∧ Below w.heap.size w w') := fun w => start_c 12 0 15 w
  go_enter Try.func49, Try.ntmps49
  have S := SH.start w
  go_wp2_with (first
    | (go_at_call 46; (first | with_reducible refine (F21.out _).mono ?_ | with_reducible refine (F8.out _).mono ?_ | with_reducible refine (F16.out _).mono ?_); rintro e wf ⟨rfl, hbf⟩; replace S := S.below hbf; clear hbf)
    | (go_at_call 85; refine (Co2.out _).mono ?_; rintro e wf ⟨rfl, rfl⟩)
    | (go_at_call 86; refine (Cd12.out _).mono ?_; rintro e wf ⟨rfl, rfl⟩)
    | (go_at_call 87; refine (Cn12.out _).mono ?_; rintro e wf ⟨rfl, rfl⟩)
    | (go_at_call 45; refine (CST.out _).mono ?_; rintro e wf ⟨rfl, hbf⟩; replace S := S.below hbf; clear hbf)
    | ((with_reducible refine wpl_isDst 2 ?_); (refine SH.alloc (L := []) S rfl 30 rfl (Cel.iv IV.zero) zeroIV ?_; clear S; intro b1 w1 S))
    | ((with_reducible refine wpl_isDst 3 ?_); (refine S.alloc rfl 30 rfl (Cel.iv IV.zero) zeroIV ?_; clear S; intro b3 w1 S))
    | ((with_reducible refine wpl_isDst 19 ?_); (refine S.ld 3 _ rfl b3 0 rfl 0 (Cel.iv (startI 12 0 15)) rfl (.int .i64 12) rfl _ Try.underlying3 rfl rfl ?_))
    | ((with_reducible refine wpl_isDst 23 ?_); (refine S.ld 3 _ rfl b3 0 rfl 0 (Cel.iv (startI 12 0 15)) rfl (.int .i64 12) rfl _ Try.underlying3 rfl rfl ?_))
    | ((with_reducible refine wpl_isDst 27 ?_); refine wpl_skip rfl ?_)
    | ((with_reducible refine wpl_isDst 31 ?_); refine wpl_skip rfl ?_)
    | ((with_reducible refine wpl_isDst 38 ?_); (refine S.ld 3 _ rfl b3 0 rfl 0 (Cel.iv (startI 12 0 15)) rfl (.int .i64 12) rfl _ Try.underlying3 rfl rfl ?_))
    | ((with_reducible refine wpl_isDst 42 ?_); (refine S.ld 3 _ rfl b3 0 rfl 0 (Cel.iv (startI 12 0 15)) rfl (.int .i64 12) rfl _ Try.underlying3 rfl rfl ?_))
    | ((with_reducible refine wpl_isDst 46 ?_); (refine S.ld 3 _ rfl b3 5 rfl 0 (Cel.iv (startI 12 0 15)) rfl (.int .i64 15) rfl _ Try.underlying3 rfl rfl ?_))
    | ((with_reducible refine wpl_isDst 52 ?_); (refine S.ldAll 30 _ rfl b3 rfl 0 (Cel.iv (startI 13 0 0)) rfl _ Try.underlying30 rfl (szIV _) rfl ?_))
    | ((with_reducible refine wpl_isStore ?_); first
      | (refine S.storeAll rfl 30 _ _ rfl b3 (Cel.iv (startI 12 0 15)) rfl rfl 0 _ rfl rfl (one_iv _) (szIV _) ?_; clear S; intro w2 S; simp only [List.set_cons_zero, List.set_cons_succ] at S)
      | (refine S.store1 rfl 4 _ _ rfl b3 2 (.bool false) rfl rfl 0 (Cel.iv (startI 12 0 15)) rfl rfl (by simp [Cel.cells, IV.cellsL, startI]) (Cel.iv (startI 12 0 15)) rfl (by kernel_rfl) ?_; clear S; intro w2 S; simp only [List.set_cons_zero, List.set_cons_succ] at S)
      | (refine S.store1 rfl 3 _ _ rfl b3 0 (.int .i64 13) rfl rfl 0 (Cel.iv (startI 12 0 15)) rfl rfl (by simp [Cel.cells, IV.cellsL, startI]) (Cel.iv (⟨13, true, false, 14, 0, 15, 0, 0, 0, false, 0, 0, 0, false, false⟩ : IV)) rfl (by kernel_rfl) ?_; clear S; intro w2 S; simp only [List.set_cons_zero, List.set_cons_succ] at S)
      | (refine S.store1 rfl 3 _ _ rfl b3 5 (.int .i64 0) rfl rfl 0 (Cel.iv (⟨13, true, false, 14, 0, 15, 0, 0, 0, false, 0, 0, 0, false, false⟩ : IV)) rfl rfl (by simp [Cel.cells, IV.cellsL, startI]) (Cel.iv (startI 13 0 0)) rfl (by kernel_rfl) ?_; clear S; intro w2 S; simp only [List.set_cons_zero, List.set_cons_succ] at S)
      | (refine S.storeAll rfl 30 _ _ rfl b1 (Cel.iv (startI 13 0 0)) rfl rfl 1 _ rfl rfl (one_iv _) (szIV _) ?_; clear S; intro w2 S; simp only [List.set_cons_zero, List.set_cons_succ] at S)))
  (try simp only [Exit.inBlock, Exit.then])
  refine bodyPost_ret (S.results rfl _ _ rfl 1 _ rfl _ Try.underlying30 rfl (szIV _)) rfl ⟨rfl, S.low⟩
set_option maxHeartbeats 4000000 in
set_option maxRecDepth 100000 in
theorem shiftedZ_c (w : World) : Calls Try.prog 21 #[.int .u32 3931045888] w fun e w' => Says w (startI 13 0 0) e w' := by
  unfold Says
  have F0 : Hid (∀ w, Calls Try.prog 46 #[.int .u32 3931045888, .int .i64 0, .int .i64 4] w fun e w' => e = .returned (.int .i64 0) ∧ Below w.heap.size w w') := fun w => by
    have h := field_0_4 3931045888 (by decide) w
    rw [show fd 3931045888 0 4 = 0 from rfl] at h
    exact h
  have F4 : Hid (∀ w, Calls Try.prog 46 #[.int .u32 3931045888, .int .i64 4, .int .i64 2] w fun e w' => e = .returned (.int .i64 0) ∧ Below w.heap.size w w') := fun w => by
    have h := field_4_2 3931045888 (by decide) w
    rw [show fd 3931045888 4 2 = 0 from rfl] at h
    exact h
  have F12 : Hid (∀ w, Calls Try.prog 46 #[.int .u32 3931045888, .int .i64 12, .int .i64 3] w fun e w' => e = .returned (.int .i64 0) ∧ Below w.heap.size w w') := fun w => by
    have h := field_12_3 3931045888 (by decide) w
    rw [show fd 3931045888 12 3 = 0 from rfl] at h
    exact h
  have F6 : Hid (∀ w, Calls Try.prog 46 #[.int .u32 3931045888, .int .i64 6, .int .i64 2] w fun e w' => e = .returned (.int .i64 0) ∧ Below w.heap.size w w') := fun w => by
    have h := field_6_2 3931045888 (by decide) w
    rw [show fd 3931045888 6 2 = 0 from rfl] at h
    exact h
  have k1 : bits .and .u32 119966 1 = 0 := by decide +kernel
  have o1 : bits .or .i64 0 0 = 0 := by decide +kernel
  have CD : Hid (∀ w, Calls Try.prog 49 #[.int .u32 3931045888] w fun e w' => e = .returned (startI 13 0 0).val ∧ Below w.heap.size w w') := dataZ_c
  have CK : Hid (∀ w, Calls Try.prog 47 #[(startI 13 0 0).val, .bool true, .int .u32 3931045888] w fun e w' => e = .returned (startI 13 0 0).val ∧ Below w.heap.size w w') := fun w => checked_c (startI 13 0 0) true 3931045888 (by decide) w
  go_enter Try.func21, Try.ntmps21
  have S := SH.start w
  go_wp2_with (first
    | (go_at_call 46; (first | with_reducible refine (F0.out _).mono ?_ | with_reducible refine (F4.out _).mono ?_ | with_reducible refine (F12.out _).mono ?_ | with_reducible refine (F6.out _).mono ?_); rintro e wf ⟨rfl, hbf⟩; replace S := S.below hbf; clear hbf)
    | (go_at_call 49; refine (CD.out _).mono ?_; rintro e wf ⟨rfl, hbf⟩; replace S := S.below hbf; clear hbf)
    | (go_at_call 47; refine (CK.out _).mono ?_; rintro e wf ⟨rfl, hbf⟩; replace S := S.below hbf; clear hbf)
    | (go_at_call 50; refine (shift0_c _).mono ?_; rintro e wf ⟨rfl, rfl⟩)
    | ((with_reducible refine wpl_isDst 2 ?_); (refine SH.alloc (L := []) S rfl 30 rfl (Cel.iv IV.zero) zeroIV ?_; clear S; intro b1 w1 S))
    | ((with_reducible refine wpl_isDst 3 ?_); (refine S.alloc rfl 30 rfl (Cel.iv IV.zero) zeroIV ?_; clear S; intro b3 w1 S))
    | ((with_reducible refine wpl_isDst 7 ?_); (refine S.ld 3 _ rfl b3 0 rfl 0 (Cel.iv (startI 13 0 0)) rfl (.int .i64 13) rfl _ Try.underlying3 rfl rfl ?_))
    | ((with_reducible refine wpl_isDst 34 ?_); (refine S.ldAll 30 _ rfl b3 rfl 0 (Cel.iv (startI 13 0 0)) rfl _ Try.underlying30 rfl (szIV _) rfl ?_))
    | ((with_reducible refine wpl_isStore ?_); first
      | (refine S.storeAll rfl 30 _ _ rfl b3 (Cel.iv (startI 13 0 0)) rfl rfl 0 _ rfl rfl (one_iv _) (szIV _) ?_; clear S; intro w2 S; simp only [List.set_cons_zero, List.set_cons_succ] at S)
      | (refine S.store1 rfl 3 _ _ rfl b3 6 (.int .i64 0) rfl rfl 0 (Cel.iv (startI 13 0 0)) rfl rfl (by simp [Cel.cells, IV.cellsL, startI]) (Cel.iv (startI 13 0 0)) rfl (by kernel_rfl) ?_; clear S; intro w2 S; simp only [List.set_cons_zero, List.set_cons_succ] at S)
      | (refine S.store1 rfl 3 _ _ rfl b3 10 (.int .i64 0) rfl rfl 0 (Cel.iv (startI 13 0 0)) rfl rfl (by simp [Cel.cells, IV.cellsL, startI]) (Cel.iv (startI 13 0 0)) rfl (by kernel_rfl) ?_; clear S; intro w2 S; simp only [List.set_cons_zero, List.set_cons_succ] at S)
      | (refine S.store1 rfl 3 _ _ rfl b3 11 (.int .i64 0) rfl rfl 0 (Cel.iv (startI 13 0 0)) rfl rfl (by simp [Cel.cells, IV.cellsL, startI]) (Cel.iv (startI 13 0 0)) rfl (by kernel_rfl) ?_; clear S; intro w2 S; simp only [List.set_cons_zero, List.set_cons_succ] at S)
      | (refine S.storeAll rfl 30 _ _ rfl b1 (Cel.iv (startI 13 0 0)) rfl rfl 1 _ rfl rfl (one_iv _) (szIV _) ?_; clear S; intro w2 S; simp only [List.set_cons_zero, List.set_cons_succ] at S)))
  (try simp only [Exit.inBlock, Exit.then])
  refine bodyPost_ret (S.results rfl _ _ rfl 1 _ rfl _ Try.underlying30 rfl (szIV _)) rfl ⟨rfl, S.low⟩
set_option maxHeartbeats 4000000 in
set_option maxRecDepth 100000 in
theorem aloneZ_c (w : World) : Calls Try.prog 12 #[.int .u32 3931045888] w fun e w' => Says w (startI 13 0 0) e w' := by
  unfold Says
  have k1 : bits .and .u32 3931045888 4160782336 = 3892314112 := by decide +kernel
  have k2 : bits .and .u32 3931045888 4261412864 = 3925868544 := by decide +kernel
  have CP : Hid (∀ w, Calls Try.prog 21 #[.int .u32 3931045888] w fun e w' => e = .returned (startI 13 0 0).val ∧ Below w.heap.size w w') := shiftedZ_c
  go_enter Try.func12, Try.ntmps12
  have S := SH.start w
  go_wp2_with (first
    | (go_at_call 21; refine (CP.out _).mono ?_; rintro e wf ⟨rfl, hbf⟩; replace S := S.below hbf; clear hbf)
    | ((with_reducible refine wpl_is ?_); first
      | (refine SH.alloc (L := []) S rfl 30 rfl (Cel.iv IV.zero) zeroIV ?_; clear S; intro b1 w1 S)
      | (refine S.storeAll rfl 30 _ _ rfl b1 (Cel.iv (startI 13 0 0)) rfl rfl 0 _ rfl rfl (one_iv _) (szIV _) ?_; clear S; intro w2 S; simp only [List.set_cons_zero] at S)))
  (try simp only [Exit.inBlock, Exit.then])
  refine bodyPost_ret (S.results rfl _ _ rfl 0 _ rfl _ Try.underlying30 rfl (szIV _)) rfl ⟨rfl, S.low⟩
end Go.Proofs.Ytigmekboikgoaaa
