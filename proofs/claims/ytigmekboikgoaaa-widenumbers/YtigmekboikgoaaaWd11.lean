/- Stage 9: a wide Mov of 5, and the word of ones. -/
import Derived.Test.YtigmekboikgoaaaWd10
namespace Go.Proofs.Ytigmekboikgoaaa
open Go.ChangeShapes Go.WideShapes Go.ChangeAt Go.RowKit
set_option linter.unusedVariables false
set_option linter.unusedSimpArgs false

def movI : IV := ⟨13, true, false, 14, 0, 0, 0, 2, 5, true, 0, 0, 0, false, false⟩
set_option maxHeartbeats 4000000 in
set_option maxRecDepth 100000 in
theorem aloneF_c (w : World) : Calls Try.prog 12 #[.int .u32 4294967295] w fun e w' => Says w (noneI 64 4294967295) e w' := by
  unfold Says
  have k1 : bits .and .u32 4294967295 4160782336 = 4160782336 := by decide +kernel
  have k2 : bits .and .u32 4294967295 4261412864 = 4261412864 := by decide +kernel
  have CN : Hid (∀ w, Calls Try.prog 13 #[.int .i64 64, .int .u32 4294967295] w fun e w' => e = .returned (noneI 64 4294967295).val ∧ Below w.heap.size w w') := fun w => none_c 64 4294967295 (by decide) w
  go_enter Try.func12, Try.ntmps12
  have S := SH.start w
  go_wp2_with (first
    | (go_at_call 13; refine (CN.out _).mono ?_; rintro e wf ⟨rfl, hbf⟩; replace S := S.below hbf; clear hbf)
    | ((with_reducible refine wpl_is ?_); first
      | (refine SH.alloc (L := []) S rfl 30 rfl (Cel.iv IV.zero) zeroIV ?_; clear S; intro b1 w1 S)
      | (refine S.storeAll rfl 30 _ _ rfl b1 (Cel.iv (noneI 64 4294967295)) rfl rfl 0 _ rfl rfl (one_iv _) (szIV _) ?_; clear S; intro w2 S; simp only [List.set_cons_zero] at S)))
  (try simp only [Exit.inBlock, Exit.then])
  refine bodyPost_ret (S.results rfl _ _ rfl 0 _ rfl _ Try.underlying30 rfl (szIV _)) rfl ⟨rfl, S.low⟩
set_option maxHeartbeats 4000000 in
set_option maxRecDepth 100000 in
theorem numX_c (w : World) : Calls Try.prog 51 #[.int .u32 4064280581] w fun e w' => e = .returned (.int .u32 5) ∧ Below w.heap.size w w' := by
  have F26 : Hid (∀ w, Calls Try.prog 46 #[.int .u32 4064280581, .int .i64 26, .int .i64 1] w fun e w' => e = .returned (.int .i64 0) ∧ Below w.heap.size w w') := fun w => by
    have h := field_26_1 4064280581 (by decide) w
    rw [show fd 4064280581 26 1 = 0 from rfl] at h
    exact h
  have F12 : Hid (∀ w, Calls Try.prog 46 #[.int .u32 4064280581, .int .i64 12, .int .i64 3] w fun e w' => e = .returned (.int .i64 0) ∧ Below w.heap.size w w') := fun w => by
    have h := field_12_3 4064280581 (by decide) w
    rw [show fd 4064280581 12 3 = 0 from rfl] at h
    exact h
  have F0 : Hid (∀ w, Calls Try.prog 46 #[.int .u32 4064280581, .int .i64 0, .int .i64 8] w fun e w' => e = .returned (.int .i64 5) ∧ Below w.heap.size w w') := fun w => by
    have h := field_0_8 4064280581 (by decide) w
    rw [show fd 4064280581 0 8 = 5 from rfl] at h
    exact h
  have o1 : bits .or .i64 0 0 = 0 := by decide +kernel
  have o2 : bits .or .i64 0 5 = 5 := by decide +kernel
  go_enter Try.func51, Try.ntmps51
  have S := SH.start w
  go_wp2_with (first
    | (go_at_call 46; (first | with_reducible refine (F26.out _).mono ?_ | with_reducible refine (F12.out _).mono ?_ | with_reducible refine (F0.out _).mono ?_); rintro e wf ⟨rfl, hbf⟩; replace S := S.below hbf; clear hbf))
  go_ret
  exact ⟨rfl, S.low⟩
set_option maxHeartbeats 4000000 in
set_option maxRecDepth 100000 in
theorem plainX_c (w : World) : Calls Try.prog 23 #[.int .u32 4064280581] w fun e w' => Says w movI e w' := by
  unfold Says
  have F8 : Hid (∀ w, Calls Try.prog 46 #[.int .u32 4064280581, .int .i64 8, .int .i64 4] w fun e w' => e = .returned (.int .i64 0) ∧ Below w.heap.size w w') := fun w => by
    have h := field_8_4 4064280581 (by decide) w
    rw [show fd 4064280581 8 4 = 0 from rfl] at h
    exact h
  have F16 : Hid (∀ w, Calls Try.prog 46 #[.int .u32 4064280581, .int .i64 16, .int .i64 4] w fun e w' => e = .returned (.int .i64 0) ∧ Below w.heap.size w w') := fun w => by
    have h := field_16_4 4064280581 (by decide) w
    rw [show fd 4064280581 16 4 = 0 from rfl] at h
    exact h
  have k1 : bits .and .u32 4064280581 32505856 = 4194304 := by decide +kernel
  have o1 : bits .or .u32 0 5 = 5 := by decide +kernel
  have CK : Hid (∀ w, Calls Try.prog 47 #[movI.val, .bool true, .int .u32 4064280581] w fun e w' => e = .returned movI.val ∧ Below w.heap.size w w') := fun w => checked_c movI true 4064280581 (by decide) w
  have CSEC : Hid (∀ w, Calls Try.prog 53 #[(startI 13 0 0).val, .int .u32 5, .int .i64 2] w fun e w' => e = .returned movI.val ∧ Below w.heap.size w w') := fun w => sec_c (startI 13 0 0) 5 2 w
  have CST : Hid (∀ w, Calls Try.prog 45 #[.int .i64 13, .int .i64 0, .int .i64 0] w fun e w' => e = .returned (startI 13 0 0).val ∧ Below w.heap.size w w') := fun w => start_c 13 0 0 w
  go_enter Try.func23, Try.ntmps23
  have S := SH.start w
  go_wp2_with (first
    | (go_at_call 46; (first | with_reducible refine (F8.out _).mono ?_ | with_reducible refine (F16.out _).mono ?_); rintro e wf ⟨rfl, hbf⟩; replace S := S.below hbf; clear hbf)
    | (go_at_call 51; refine (numX_c _).mono ?_; rintro e wf ⟨rfl, hbf⟩; replace S := S.below hbf; clear hbf)
    | (go_at_call 45; refine (CST.out _).mono ?_; rintro e wf ⟨rfl, hbf⟩; replace S := S.below hbf; clear hbf)
    | (go_at_call 53; refine (CSEC.out _).mono ?_; rintro e wf ⟨rfl, hbf⟩; replace S := S.below hbf; clear hbf)
    | (go_at_call 47; refine (CK.out _).mono ?_; rintro e wf ⟨rfl, hbf⟩; replace S := S.below hbf; clear hbf)
    | ((with_reducible refine wpl_is ?_); first
      | (refine SH.alloc (L := []) S rfl 30 rfl (Cel.iv IV.zero) zeroIV ?_; clear S; intro b1 w1 S)
      | (refine S.storeAll rfl 30 _ _ rfl b1 (Cel.iv movI) rfl rfl 0 _ rfl rfl (one_iv _) (szIV _) ?_; clear S; intro w2 S; simp only [List.set_cons_zero] at S)))
  (try simp only [Exit.inBlock, Exit.then])
  refine bodyPost_ret (S.results rfl _ _ rfl 0 _ rfl _ Try.underlying30 rfl (szIV _)) rfl ⟨rfl, S.low⟩
set_option maxHeartbeats 4000000 in
set_option maxRecDepth 100000 in
theorem aloneX_c (w : World) : Calls Try.prog 12 #[.int .u32 4064280581] w fun e w' => Says w movI e w' := by
  unfold Says
  have k1 : bits .and .u32 4064280581 4160782336 = 4026531840 := by decide +kernel
  have k2 : bits .and .u32 4064280581 4261412864 = 4060086272 := by decide +kernel
  have CP : Hid (∀ w, Calls Try.prog 23 #[.int .u32 4064280581] w fun e w' => e = .returned movI.val ∧ Below w.heap.size w w') := plainX_c
  go_enter Try.func12, Try.ntmps12
  have S := SH.start w
  go_wp2_with (first
    | (go_at_call 23; refine (CP.out _).mono ?_; rintro e wf ⟨rfl, hbf⟩; replace S := S.below hbf; clear hbf)
    | ((with_reducible refine wpl_is ?_); first
      | (refine SH.alloc (L := []) S rfl 30 rfl (Cel.iv IV.zero) zeroIV ?_; clear S; intro b1 w1 S)
      | (refine S.storeAll rfl 30 _ _ rfl b1 (Cel.iv movI) rfl rfl 0 _ rfl rfl (one_iv _) (szIV _) ?_; clear S; intro w2 S; simp only [List.set_cons_zero] at S)))
  (try simp only [Exit.inBlock, Exit.then])
  refine bodyPost_ret (S.results rfl _ _ rfl 0 _ rfl _ Try.underlying30 rfl (szIV _)) rfl ⟨rfl, S.low⟩
set_option maxHeartbeats 4000000 in
set_option maxRecDepth 100000 in
theorem four0_c (w : World) : Calls Try.prog 67 #[.int .i64 0, .int .i64 0, .int .i64 0, .int .i64 0] w fun e w' => e = .returned (.int .u32 0) ∧ w' = w := by
  have P8 : Hid (∀ w, Calls Try.prog 74 #[.int .i64 0, .int .i64 8, .int .i64 4] w fun e w' => e = .returned (.int .u32 0) ∧ w' = w) := fun w => by
    have h := put_8_4 0 (by decide) w
    rw [show 0 % 16 * 256 = 0 from rfl] at h
    exact h
  have P16 : Hid (∀ w, Calls Try.prog 74 #[.int .i64 0, .int .i64 16, .int .i64 4] w fun e w' => e = .returned (.int .u32 0) ∧ w' = w) := fun w => by
    have h := put_16_4 0 (by decide) w
    rw [show 0 % 16 * 65536 = 0 from rfl] at h
    exact h
  have P0 : Hid (∀ w, Calls Try.prog 74 #[.int .i64 0, .int .i64 0, .int .i64 4] w fun e w' => e = .returned (.int .u32 0) ∧ w' = w) := fun w => by
    have h := put_0_4 0 (by decide) w
    rw [show 0 % 16 * 1 = 0 from rfl] at h
    exact h
  have P12 : Hid (∀ w, Calls Try.prog 74 #[.int .i64 0, .int .i64 12, .int .i64 4] w fun e w' => e = .returned (.int .u32 0) ∧ w' = w) := fun w => by
    have h := put_12_4 0 (by decide) w
    rw [show 0 % 16 * 4096 = 0 from rfl] at h
    exact h
  have o1 : bits .or .u32 0 0 = 0 := by decide +kernel
  go_enter Try.func67, Try.ntmps67
  go_wp2_with (first
    | (go_at_call 74; (first | with_reducible refine (P8.out _).mono ?_ | with_reducible refine (P16.out _).mono ?_ | with_reducible refine (P0.out _).mono ?_ | with_reducible refine (P12.out _).mono ?_); rintro e wf ⟨rfl, rfl⟩))
  go_ret
  exact ⟨rfl, rfl⟩
set_option maxHeartbeats 4000000 in
set_option maxRecDepth 100000 in
theorem numB5_c (w : World) : Calls Try.prog 72 #[.int .i64 5] w fun e w' => e = .returned (.int .u32 5) ∧ w' = w := by
  have P26 : Hid (∀ w, Calls Try.prog 74 #[.int .i64 0, .int .i64 26, .int .i64 1] w fun e w' => e = .returned (.int .u32 0) ∧ w' = w) := fun w => by
    have h := put_26_1 0 (by decide) w
    rw [show 0 % 2 * 67108864 = 0 from rfl] at h
    exact h
  have P12 : Hid (∀ w, Calls Try.prog 74 #[.int .i64 0, .int .i64 12, .int .i64 3] w fun e w' => e = .returned (.int .u32 0) ∧ w' = w) := fun w => by
    have h := put_12_3 0 (by decide) w
    rw [show 0 % 8 * 4096 = 0 from rfl] at h
    exact h
  have P0 : Hid (∀ w, Calls Try.prog 74 #[.int .i64 5, .int .i64 0, .int .i64 8] w fun e w' => e = .returned (.int .u32 5) ∧ w' = w) := fun w => by
    have h := put_0_8 5 (by decide) w
    rw [show 5 % 256 * 1 = 5 from rfl] at h
    exact h
  have o1 : bits .or .u32 0 0 = 0 := by decide +kernel
  have o2 : bits .or .u32 0 5 = 5 := by decide +kernel
  go_enter Try.func72, Try.ntmps72
  go_wp2_with (first
    | (go_at_call 74; (first | with_reducible refine (P26.out _).mono ?_ | with_reducible refine (P12.out _).mono ?_ | with_reducible refine (P0.out _).mono ?_); rintro e wf ⟨rfl, rfl⟩))
  go_ret
  exact ⟨rfl, rfl⟩
set_option maxHeartbeats 4000000 in
set_option maxRecDepth 100000 in
theorem plainW_c (w : World) : Calls Try.prog 69 #[movI.val] w fun e w' => e = .returned (.int .u32 4064280581) ∧ Below w.heap.size w w' := by
  have o1 : bits .or .u32 4064280576 0 = 4064280576 := by decide +kernel
  have o2 : bits .or .u32 4064280576 5 = 4064280581 := by decide +kernel
  go_enter Try.func69, Try.ntmps69
  have S := SH.start w
  go_wp2_with (first
    | (go_at_call 67; refine (four0_c _).mono ?_; rintro e wf ⟨rfl, rfl⟩)
    | (go_at_call 72; refine (numB5_c _).mono ?_; rintro e wf ⟨rfl, rfl⟩)
    | ((with_reducible refine wpl_isDst 1 ?_); (refine SH.box (L := []) S rfl 30 _ rfl (Cel.iv movI) rfl ?_; clear S; intro b2 w0 S))
    | ((with_reducible refine wpl_isDst 5 ?_); (refine S.ld 28 _ rfl _ 8 rfl 0 (Cel.iv movI) rfl (.int .u32 5) rfl _ Try.underlying28 rfl rfl ?_))
    | ((with_reducible refine wpl_isDst 8 ?_); (refine S.ld 3 _ rfl _ 0 rfl 0 (Cel.iv movI) rfl (.int .i64 13) rfl _ Try.underlying3 rfl rfl ?_))
    | ((with_reducible refine wpl_isDst 34 ?_); (refine S.ld 3 _ rfl _ 4 rfl 0 (Cel.iv movI) rfl (.int .i64 0) rfl _ Try.underlying3 rfl rfl ?_)))
  go_ret
  exact ⟨rfl, S.low⟩
set_option maxHeartbeats 4000000 in
set_option maxRecDepth 100000 in
theorem dataWX_c (w : World) : Calls Try.prog 36 #[movI.val] w fun e w' => e = .returned (.int .u32 4064280581) ∧ Below w.heap.size w w' := by
  go_enter Try.func36, Try.ntmps36
  have S := SH.start w
  go_wp2_with (first
    | (go_at_call 69; refine (plainW_c _).mono ?_; rintro e wf ⟨rfl, hbf⟩; replace S := S.below hbf; clear hbf)
    | ((with_reducible refine wpl_is ?_); first
      | (refine SH.box (L := []) S rfl 30 _ rfl (Cel.iv movI) rfl ?_; clear S; intro b2 w0 S)
      | (refine S.ld 3 _ rfl _ 0 rfl 0 (Cel.iv movI) rfl (.int .i64 13) rfl _ Try.underlying3 rfl rfl ?_)
      | (refine S.ld 3 _ rfl _ 7 rfl 0 (Cel.iv movI) rfl (.int .i64 2) rfl _ Try.underlying3 rfl rfl ?_)
      | (refine S.ld 4 _ rfl _ 9 rfl 0 (Cel.iv movI) rfl (.bool true) rfl _ Try.underlying4 rfl rfl ?_)
      | (refine S.ldAll 30 _ rfl _ rfl 0 (Cel.iv movI) rfl _ Try.underlying30 rfl (szIV _) rfl ?_)))
  go_ret
  exact ⟨rfl, S.low⟩
set_option maxHeartbeats 4000000 in
set_option maxRecDepth 100000 in
theorem wordX_c (w : World) : Calls Try.prog 17 #[movI.val] w fun e w' => e = .returned (.int .u32 4064280581) ∧ Below w.heap.size w w' := by
  have CC : Hid (∀ w1, Calls Try.prog 35 #[.int .i64 13] w1 fun e w' => e = .returned (.int .i64 1) ∧ w' = w1) := fun w1 => class_c 13 w1
  go_enter Try.func17, Try.ntmps17
  have S := SH.start w
  go_wp2_with (first
    | (go_at_call 35; refine (CC.out _).mono ?_; rintro e wf ⟨rfl, rfl⟩)
    | (go_at_call 36; refine (dataWX_c _).mono ?_; rintro e wf ⟨rfl, hbf⟩; replace S := S.below hbf; clear hbf)
    | ((with_reducible refine wpl_is ?_); first
      | (refine SH.box (L := []) S rfl 30 _ rfl (Cel.iv movI) rfl ?_; clear S; intro b2 w0 S)
      | (refine S.ld 3 _ rfl _ 0 rfl 0 (Cel.iv movI) rfl (.int .i64 13) rfl _ Try.underlying3 rfl rfl ?_)
      | (refine S.ldAll 30 _ rfl _ rfl 0 (Cel.iv movI) rfl _ Try.underlying30 rfl (szIV _) rfl ?_)))
  go_ret
  exact ⟨rfl, S.low⟩
end Go.Proofs.Ytigmekboikgoaaa
