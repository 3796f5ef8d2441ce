/- Stage 9: the word that a Mov of nothing would have. -/
import Derived.Test.YtigmekboikgoaaaXd
namespace Go.Proofs.Ytigmekboikgoaaa
open Go.ChangeShapes Go.WideShapes Go.ChangeAt Go.RowKit
set_option linter.unusedVariables false
set_option linter.unusedSimpArgs false

def zeroM : IV := ⟨13, false, false, 0, 0, 0, 0, 0, 0, false, 0, 0, 0, false, false⟩
def loM (w : World) (b2 : Nat) (j : Value) (wr : World) : Prop := ∃ k : Nat, k ≤ 2 ∧ j = .int .i64 k ∧ SH noZ w wr [(b2, Cel.iv zeroM)]
theorem flag0_c (w : World) : Calls Try.prog 68 #[.bool false, .int .u32 1048576] w fun e w' => e = .returned (.int .u32 0) ∧ w' = w := by
  go_enter Try.func68, Try.ntmps68
  go_wp2
  go_ret
  exact ⟨rfl, rfl⟩
theorem shiftBits0_c (w : World) : Calls Try.prog 73 #[.int .i64 0, .int .i64 0] w fun e w' => e = .returned (.tuple #[.int .i64 0, .int .i64 0]) ∧ w' = w := by
  go_enter Try.func73, Try.ntmps73
  go_wp2
  go_ret2
  exact ⟨rfl, rfl⟩
theorem shift0_c (w : World) : Calls Try.prog 50 #[.int .i64 0, .int .i64 0] w fun e w' => e = .returned (.tuple #[.int .i64 0, .int .i64 0]) ∧ w' = w := by
  go_enter Try.func50, Try.ntmps50
  go_wp2
  go_ret2
  exact ⟨rfl, rfl⟩
theorem put_4_2 (v : Nat) (hv : v < 9223372036854775808) (w : World) : Calls Try.prog 74 #[.int .i64 v, .int .i64 4, .int .i64 2] w fun e w' => e = .returned (.int .u32 (v % 4 * 16 : Nat)) ∧ w' = w := by
  have h1 : bits .and .u32 ((v : Int) % 4294967296) 3 = ((v % 4 : Nat) : Int) := by
    have e0 : ((v : Int) % 4294967296) = ((v % 4294967296 : Nat) : Int) := by omega
    rw [e0, show (3 : Int) = ((3 : Nat) : Int) from rfl, u32_and_nat _ _ (by omega) (by decide), show (3 : Nat) = 2 ^ 2 - 1 from rfl, Nat.and_two_pow_sub_one_eq_mod]
    omega
  have hx : v % 4 < 4 := Nat.mod_lt _ (by decide)
  generalize v % 4 = x at *
  have he : ((x : Int) * 16) % 4294967296 = (x : Int) * 16 := by omega
  have he2 : (x : Int) % 4294967296 = (x : Int) := by omega
  go_enter Try.func74, Try.ntmps74
  go_wp2
  go_ret
  exact ⟨by first | rfl | (rw [Nat.mul_one]; rfl), rfl⟩
theorem put_6_2 (v : Nat) (hv : v < 9223372036854775808) (w : World) : Calls Try.prog 74 #[.int .i64 v, .int .i64 6, .int .i64 2] w fun e w' => e = .returned (.int .u32 (v % 4 * 64 : Nat)) ∧ w' = w := by
  have h1 : bits .and .u32 ((v : Int) % 4294967296) 3 = ((v % 4 : Nat) : Int) := by
    have e0 : ((v : Int) % 4294967296) = ((v % 4294967296 : Nat) : Int) := by omega
    rw [e0, show (3 : Int) = ((3 : Nat) : Int) from rfl, u32_and_nat _ _ (by omega) (by decide), show (3 : Nat) = 2 ^ 2 - 1 from rfl, Nat.and_two_pow_sub_one_eq_mod]
    omega
  have hx : v % 4 < 4 := Nat.mod_lt _ (by decide)
  generalize v % 4 = x at *
  have he : ((x : Int) * 64) % 4294967296 = (x : Int) * 64 := by omega
  have he2 : (x : Int) % 4294967296 = (x : Int) := by omega
  go_enter Try.func74, Try.ntmps74
  go_wp2
  go_ret
  exact ⟨by first | rfl | (rw [Nat.mul_one]; rfl), rfl⟩
set_option maxHeartbeats 4000000 in
set_option maxRecDepth 100000 in
theorem fourN_c (w : World) : Calls Try.prog 67 #[.int .i64 0, .int .i64 15, .int .i64 0, .int .i64 0] w fun e w' => e = .returned (.int .u32 983040) ∧ w' = w := by
  have P8 : Hid (∀ w, Calls Try.prog 74 #[.int .i64 0, .int .i64 8, .int .i64 4] w fun e w' => e = .returned (.int .u32 0) ∧ w' = w) := fun w => by
    have h := put_8_4 0 (by decide) w
    rw [show 0 % 16 * 256 = 0 from rfl] at h
    exact h
  have P16 : Hid (∀ w, Calls Try.prog 74 #[.int .i64 15, .int .i64 16, .int .i64 4] w fun e w' => e = .returned (.int .u32 983040) ∧ w' = w) := fun w => by
    have h := put_16_4 15 (by decide) w
    rw [show 15 % 16 * 65536 = 983040 from rfl] at h
    exact h
  have P0 : Hid (∀ w, Calls Try.prog 74 #[.int .i64 0, .int .i64 0, .int .i64 4] w fun e w' => e = .returned (.int .u32 0) ∧ w' = w) := fun w => by
    have h := put_0_4 0 (by decide) w
    rw [show 0 % 16 * 1 = 0 from rfl] at h
    exact h
  have P12 : Hid (∀ w, Calls Try.prog 74 #[.int .i64 0, .int .i64 12, .int .i64 4] w fun e w' => e = .returned (.int .u32 0) ∧ w' = w) := fun w => by
    have h := put_12_4 0 (by decide) w
    rw [show 0 % 16 * 4096 = 0 from rfl] at h
    exact h
  have o1 : bits .or .u32 0 983040 = 983040 := by decide +kernel
  have o2 : bits .or .u32 983040 0 = 983040 := by decide +kernel
  go_enter Try.func67, Try.ntmps67
  go_wp2_with (first
    | (go_at_call 74; (first | with_reducible refine (P8.out _).mono ?_ | with_reducible refine (P16.out _).mono ?_ | with_reducible refine (P0.out _).mono ?_ | with_reducible refine (P12.out _).mono ?_); rintro e wf ⟨rfl, rfl⟩))
  go_ret
  exact ⟨rfl, rfl⟩
set_option maxHeartbeats 4000000 in
set_option maxRecDepth 100000 in
theorem dataB0_c (w : World) : Calls Try.prog 71 #[zeroM.val] w fun e w' => e = .returned (.int .u32 5177344) ∧ Below w.heap.size w w' := by
  have Co0 : Hid (∀ w, Calls Try.prog 85 #[.int .i64 0] w fun e w' => e = .returned (.int .i64 1) ∧ w' = w) := fun w => dataOp_c 0 w
  have Co1 : Hid (∀ w, Calls Try.prog 85 #[.int .i64 1] w fun e w' => e = .returned (.int .i64 14) ∧ w' = w) := fun w => dataOp_c 1 w
  have Co2 : Hid (∀ w, Calls Try.prog 85 #[.int .i64 2] w fun e w' => e = .returned (.int .i64 12) ∧ w' = w) := fun w => dataOp_c 2 w
  have Cd1 : Hid (∀ w, Calls Try.prog 86 #[.int .i64 1] w fun e w' => e = .returned (.int .i64 8) ∧ w' = w) := fun w => withoutD_c 1 w
  have Cd14 : Hid (∀ w, Calls Try.prog 86 #[.int .i64 14] w fun e w' => e = .returned (.int .i64 14) ∧ w' = w) := fun w => withoutD_c 14 w
  have Cd12 : Hid (∀ w, Calls Try.prog 86 #[.int .i64 12] w fun e w' => e = .returned (.int .i64 12) ∧ w' = w) := fun w => withoutD_c 12 w
  have Cn1 : Hid (∀ w, Calls Try.prog 87 #[.int .i64 1] w fun e w' => e = .returned (.int .i64 1) ∧ w' = w) := fun w => withoutN_c 1 w
  have Cn14 : Hid (∀ w, Calls Try.prog 87 #[.int .i64 14] w fun e w' => e = .returned (.int .i64 14) ∧ w' = w) := fun w => withoutN_c 14 w
  have Cn12 : Hid (∀ w, Calls Try.prog 87 #[.int .i64 12] w fun e w' => e = .returned (.int .i64 13) ∧ w' = w) := fun w => withoutN_c 12 w
  have P21 : Hid (∀ w, Calls Try.prog 74 #[.int .i64 2, .int .i64 21, .int .i64 4] w fun e w' => e = .returned (.int .u32 4194304) ∧ w' = w) := fun w => by
    have h := put_21_4 2 (by decide) w
    rw [show 2 % 16 * 2097152 = 4194304 from rfl] at h
    exact h
  have o1 : bits .or .u32 4194304 0 = 4194304 := by decide +kernel
  have o2 : bits .or .u32 4194304 983040 = 5177344 := by decide +kernel
  go_enter Try.func71, Try.ntmps71
  have S := SH.start w
  go_wp2_with (first
    | (go_at_call 68; refine (flag0_c _).mono ?_; rintro e wf ⟨rfl, rfl⟩)
    | ((with_reducible refine wpl_isDst 1 ?_); (refine SH.box (L := []) S rfl 30 _ rfl (Cel.iv zeroM) rfl ?_; clear S; intro b2 w0 S))
    | ((with_reducible refine wpl_isDst 7 ?_); (refine S.ld 4 _ rfl _ 2 rfl 0 (Cel.iv zeroM) rfl (.bool false) rfl _ Try.underlying4 rfl rfl ?_)))
  have ST : Hid (loM w b2 (.int .i64 0) _) := ⟨0, by decide, rfl, S⟩
  clear S
  go_loopw [9] (fun j wr => loM w b2 j wr) (fun j _ => 16 - (intOf j).toNat)
  case atStart => exact ST.out
  case round =>
    clear ST
    obtain ⟨k, hk, rfl, S⟩ := hrel
    rcases (show k = 0 ∨ k = 1 ∨ k = 2 by omega) with rfl | rfl | rfl
    · go_wp2_with (first
        | (go_at_call 85; (first | with_reducible refine (Co0.out _).mono ?_ | with_reducible refine (Co1.out _).mono ?_ | with_reducible refine (Co2.out _).mono ?_); rintro e wf ⟨rfl, rfl⟩)
        | (go_at_call 86; (first | with_reducible refine (Cd1.out _).mono ?_ | with_reducible refine (Cd14.out _).mono ?_ | with_reducible refine (Cd12.out _).mono ?_); rintro e wf ⟨rfl, rfl⟩)
        | (go_at_call 87; (first | with_reducible refine (Cn1.out _).mono ?_ | with_reducible refine (Cn14.out _).mono ?_ | with_reducible refine (Cn12.out _).mono ?_); rintro e wf ⟨rfl, rfl⟩)
        | ((with_reducible refine wpl_isDst 15 ?_); (refine S.ld 3 _ rfl _ 0 rfl 0 (Cel.iv zeroM) rfl (.int .i64 13) rfl _ Try.underlying3 rfl rfl ?_)))
      go_roundw
      case rel => exact ⟨1, by decide, rfl, S⟩
      case measure => simp [intOf]
    · go_wp2_with (first
        | (go_at_call 85; (first | with_reducible refine (Co0.out _).mono ?_ | with_reducible refine (Co1.out _).mono ?_ | with_reducible refine (Co2.out _).mono ?_); rintro e wf ⟨rfl, rfl⟩)
        | (go_at_call 86; (first | with_reducible refine (Cd1.out _).mono ?_ | with_reducible refine (Cd14.out _).mono ?_ | with_reducible refine (Cd12.out _).mono ?_); rintro e wf ⟨rfl, rfl⟩)
        | (go_at_call 87; (first | with_reducible refine (Cn1.out _).mono ?_ | with_reducible refine (Cn14.out _).mono ?_ | with_reducible refine (Cn12.out _).mono ?_); rintro e wf ⟨rfl, rfl⟩)
        | ((with_reducible refine wpl_isDst 15 ?_); (refine S.ld 3 _ rfl _ 0 rfl 0 (Cel.iv zeroM) rfl (.int .i64 13) rfl _ Try.underlying3 rfl rfl ?_)))
      go_roundw
      case rel => exact ⟨2, by decide, rfl, S⟩
      case measure => simp [intOf]
    · go_wp2_with (first
        | (go_at_call 85; (first | with_reducible refine (Co0.out _).mono ?_ | with_reducible refine (Co1.out _).mono ?_ | with_reducible refine (Co2.out _).mono ?_); rintro e wf ⟨rfl, rfl⟩)
        | (go_at_call 86; (first | with_reducible refine (Cd1.out _).mono ?_ | with_reducible refine (Cd14.out _).mono ?_ | with_reducible refine (Cd12.out _).mono ?_); rintro e wf ⟨rfl, rfl⟩)
        | (go_at_call 87; (first | with_reducible refine (Cn1.out _).mono ?_ | with_reducible refine (Cn14.out _).mono ?_ | with_reducible refine (Cn12.out _).mono ?_); rintro e wf ⟨rfl, rfl⟩)
        | ((with_reducible refine wpl_isDst 15 ?_); (refine S.ld 3 _ rfl _ 0 rfl 0 (Cel.iv zeroM) rfl (.int .i64 13) rfl _ Try.underlying3 rfl rfl ?_)))
      refine wp_region_held_drew (S := fun w' => SH noZ w w' [(b2, Cel.iv zeroM)]) (by kernel_rfl) (by exact S.drew) (fun _ => ?_)
      replace S := S.drew
      refine wpAnyH_take (i := 0) (oi := { dst := some 45, op := Op.move (Operand.tmp 4), type := 3, pos := "encode.go:87", after := #[], guard := none }) (v := ?_) rfl (by kernel_rfl) (by kernel_rfl) (by kernel_rfl) (fun _ _ _ h => h) (Or.inl ⟨by rfl, ?_⟩) (by exact S) ?_
      rotate_left 1
      · intro w hSw
        clear hSw
        go_simp
        try with_reducible rfl
      simp only [Act.put, List.setIfInBounds_toArray, List.set_cons_zero, List.set_cons_succ]
      refine wpAnyH_take (i := 2) (oi := { dst := some 47, op := Op.move (Operand.tmp 3), type := 28, pos := "encode.go:87", after := #[], guard := none }) (v := ?_) rfl (by kernel_rfl) (by kernel_rfl) (by kernel_rfl) (fun _ _ _ h => h) (Or.inl ⟨by rfl, ?_⟩) (by exact S) ?_
      rotate_left 1
      · intro w hSw
        clear hSw
        go_simp
        try with_reducible rfl
      simp only [Act.put, List.setIfInBounds_toArray, List.set_cons_zero, List.set_cons_succ]
      refine wpAnyH_take (i := 4) (oi := { dst := some 49, op := Op.fieldAddr 30 (Operand.tmp 1) 4, type := 0, pos := "encode.go:87", after := #[], guard := none }) (v := ?_) rfl (by kernel_rfl) (by kernel_rfl) (by kernel_rfl) (fun _ _ _ h => h) (Or.inl ⟨by rfl, ?_⟩) (by exact S) ?_
      rotate_left 1
      · intro w hSw
        clear hSw
        go_simp
        try with_reducible rfl
      simp only [Act.put, List.setIfInBounds_toArray, List.set_cons_zero, List.set_cons_succ]
      refine wpAnyH_take (i := 5) (oi := { dst := some 50, op := Op.load 3 (Operand.tmp 49), type := 3, pos := "encode.go:87", after := #[{ on := 4, ground := Ground.data }], guard := none }) (v := _) rfl (by kernel_rfl) (by kernel_rfl) (by kernel_rfl) (fun _ _ _ h => h) (y_load1 (by rfl) _ _ rfl _ _ rfl 0 _ rfl _ rfl _ Try.underlying3 rfl) (by exact S) ?_
      simp only [Act.put, List.setIfInBounds_toArray, List.set_cons_zero, List.set_cons_succ]
      refine wpAnyH_ready (rs := [1]) (by kernel_rfl) (by simp) ?_
      refine AllReadyH.cons rfl (fun K hK => ?_) AllReadyH.nil
      go_simp
      go_wp2_with (go_at_call 74; refine (P21.out _).mono ?_; rintro e wf ⟨rfl, rfl⟩)
      refine hK.out _ _ (by exact S) (fun _ => ?_)
      clear hK K
      refine wpAnyH_take (i := 3) (oi := { dst := some 48, op := Op.binOp BinOp.or 28 (Operand.tmp 46) (Operand.tmp 47) 28, type := 28, pos := "encode.go:87", after := #[{ on := 1, ground := Ground.data }, { on := 2, ground := Ground.data }], guard := none }) (v := ?_) rfl (by kernel_rfl) (by kernel_rfl) (by kernel_rfl) (fun _ _ _ h => h) (Or.inl ⟨by rfl, ?_⟩) (by exact S) ?_
      rotate_left 1
      · intro w hSw
        clear hSw
        go_simp
        try with_reducible rfl
      simp only [Act.put, List.setIfInBounds_toArray, List.set_cons_zero, List.set_cons_succ]
      refine wpAnyH_ready (rs := [6]) (by kernel_rfl) (by simp) ?_
      refine AllReadyH.cons rfl (fun K hK => ?_) AllReadyH.nil
      go_simp
      go_wp2_with (go_at_call 67; refine (fourN_c _).mono ?_; rintro e wf ⟨rfl, rfl⟩)
      refine hK.out _ _ (by exact S) (fun _ => ?_)
      clear hK K
      refine wpAnyH_take (i := 7) (oi := { dst := some 52, op := Op.binOp BinOp.or 28 (Operand.tmp 48) (Operand.tmp 51) 28, type := 28, pos := "encode.go:87", after := #[{ on := 3, ground := Ground.data }, { on := 6, ground := Ground.data }], guard := none }) (v := ?_) rfl (by kernel_rfl) (by kernel_rfl) (by kernel_rfl) (fun _ _ _ h => h) (Or.inl ⟨by rfl, ?_⟩) (by exact S) ?_
      rotate_left 1
      · intro w hSw
        clear hSw
        go_simp
        try with_reducible rfl
      simp only [Act.put, List.setIfInBounds_toArray, List.set_cons_zero, List.set_cons_succ]
      refine wpAnyH_take (i := 8) (oi := { dst := some 2, op := Op.assign (Operand.tmp 52), type := 28, pos := "encode.go:87", after := #[{ on := 7, ground := Ground.data }, { on := 6, ground := Ground.chain }, { on := 0, ground := Ground.phase }, { on := 1, ground := Ground.phase }, { on := 2, ground := Ground.phase }, { on := 3, ground := Ground.phase }, { on := 4, ground := Ground.phase }, { on := 5, ground := Ground.phase }, { on := 6, ground := Ground.phase }, { on := 7, ground := Ground.phase }], guard := none }) (v := ?_) rfl (by kernel_rfl) (by kernel_rfl) (by kernel_rfl) (fun _ _ _ h => h) (Or.inl ⟨by rfl, ?_⟩) (by exact S) ?_
      rotate_left 1
      · intro w hSw
        clear hSw
        go_simp
        try with_reducible rfl
      simp only [Act.put, List.setIfInBounds_toArray, List.set_cons_zero, List.set_cons_succ]
      refine wpAnyH_done (by kernel_rfl) ?_ _
      go_wp2
      (try simp only [Exit.inBlock, Exit.then])
      go_ret
      exact ⟨rfl, S.low⟩
set_option maxHeartbeats 4000000 in
set_option maxRecDepth 100000 in
theorem dataW0_c (w : World) : Calls Try.prog 36 #[zeroM.val] w fun e w' => e = .returned (.int .u32 3931045888) ∧ Below w.heap.size w w' := by
  have P0 : Hid (∀ w, Calls Try.prog 74 #[.int .i64 0, .int .i64 0, .int .i64 4] w fun e w' => e = .returned (.int .u32 0) ∧ w' = w) := fun w => by
    have h := put_0_4 0 (by decide) w
    rw [show 0 % 16 * 1 = 0 from rfl] at h
    exact h
  have P4 : Hid (∀ w, Calls Try.prog 74 #[.int .i64 0, .int .i64 4, .int .i64 2] w fun e w' => e = .returned (.int .u32 0) ∧ w' = w) := fun w => by
    have h := put_4_2 0 (by decide) w
    rw [show 0 % 4 * 16 = 0 from rfl] at h
    exact h
  have P12 : Hid (∀ w, Calls Try.prog 74 #[.int .i64 0, .int .i64 12, .int .i64 3] w fun e w' => e = .returned (.int .u32 0) ∧ w' = w) := fun w => by
    have h := put_12_3 0 (by decide) w
    rw [show 0 % 8 * 4096 = 0 from rfl] at h
    exact h
  have P6 : Hid (∀ w, Calls Try.prog 74 #[.int .i64 0, .int .i64 6, .int .i64 2] w fun e w' => e = .returned (.int .u32 0) ∧ w' = w) := fun w => by
    have h := put_6_2 0 (by decide) w
    rw [show 0 % 4 * 64 = 0 from rfl] at h
    exact h
  have o1 : bits .or .u32 3925868544 5177344 = 3931045888 := by decide +kernel
  have o2 : bits .or .u32 3931045888 0 = 3931045888 := by decide +kernel
  go_enter Try.func36, Try.ntmps36
  have S := SH.start w
  go_wp2_with (first
    | (go_at_call 73; refine (shiftBits0_c _).mono ?_; rintro e wf ⟨rfl, rfl⟩)
    | ((with_reducible refine wpl_isDst 1 ?_); (refine SH.box (L := []) S rfl 30 _ rfl (Cel.iv zeroM) rfl ?_; clear S; intro b2 w0 S))
    | ((with_reducible refine wpl_isDst 8 ?_); (refine S.ld 3 _ rfl _ 0 rfl 0 (Cel.iv zeroM) rfl (.int .i64 13) rfl _ Try.underlying3 rfl rfl ?_))
    | ((with_reducible refine wpl_isDst 33 ?_); (refine S.ld 4 _ rfl _ 9 rfl 0 (Cel.iv zeroM) rfl (.bool false) rfl _ Try.underlying4 rfl rfl ?_))
    | ((with_reducible refine wpl_isDst 36 ?_); refine wpl_skip rfl ?_)
    | ((with_reducible refine wpl_isDst 43 ?_); (refine S.ld 4 _ rfl _ 9 rfl 0 (Cel.iv zeroM) rfl (.bool false) rfl _ Try.underlying4 rfl rfl ?_))
    | ((with_reducible refine wpl_isDst 59 ?_); (refine S.ld 3 _ rfl _ 10 rfl 0 (Cel.iv zeroM) rfl (.int .i64 0) rfl _ Try.underlying3 rfl rfl ?_))
    | ((with_reducible refine wpl_isDst 61 ?_); (refine S.ld 3 _ rfl _ 11 rfl 0 (Cel.iv zeroM) rfl (.int .i64 0) rfl _ Try.underlying3 rfl rfl ?_)))
  refine wp_region_held_drew (S := fun w' => SH noZ w w' [(b2, Cel.iv zeroM)]) (by kernel_rfl) (by exact S.drew) (fun _ => ?_)
  replace S := S.drew
  refine wpAnyH_take (i := 0) (oi := { dst := some 65, op := Op.load 30 (Operand.tmp 1), type := 30, pos := "encode.go:73", after := #[], guard := none }) (v := _) rfl (by kernel_rfl) (by kernel_rfl) (by kernel_rfl) (fun _ _ _ h => h) (y_loadAll (by rfl) _ _ rfl _ rfl 0 _ rfl _ Try.underlying30 rfl (szIV _)) (by exact S) ?_
  simp only [Act.put, List.setIfInBounds_toArray, List.set_cons_zero, List.set_cons_succ]
  refine wpAnyH_take (i := 3) (oi := { dst := some 68, op := Op.fieldAddr 30 (Operand.tmp 1) 6, type := 0, pos := "encode.go:73", after := #[], guard := none }) (v := ?_) rfl (by kernel_rfl) (by kernel_rfl) (by kernel_rfl) (fun _ _ _ h => h) (Or.inl ⟨by rfl, ?_⟩) (by exact S) ?_
  rotate_left 1
  · intro w hSw
    clear hSw
    go_simp
    try with_reducible rfl
  simp only [Act.put, List.setIfInBounds_toArray, List.set_cons_zero, List.set_cons_succ]
  refine wpAnyH_take (i := 4) (oi := { dst := some 69, op := Op.load 3 (Operand.tmp 68), type := 3, pos := "encode.go:73", after := #[{ on := 3, ground := Ground.data }], guard := none }) (v := _) rfl (by kernel_rfl) (by kernel_rfl) (by kernel_rfl) (fun _ _ _ h => h) (y_load1 (by rfl) _ _ rfl _ _ rfl 0 _ rfl _ rfl _ Try.underlying3 rfl) (by exact S) ?_
  simp only [Act.put, List.setIfInBounds_toArray, List.set_cons_zero, List.set_cons_succ]
  refine wpAnyH_take (i := 7) (oi := { dst := some 72, op := Op.move (Operand.tmp 5), type := 3, pos := "encode.go:73", after := #[], guard := none }) (v := ?_) rfl (by kernel_rfl) (by kernel_rfl) (by kernel_rfl) (fun _ _ _ h => h) (Or.inl ⟨by rfl, ?_⟩) (by exact S) ?_
  rotate_left 1
  · intro w hSw
    clear hSw
    go_simp
    try with_reducible rfl
  simp only [Act.put, List.setIfInBounds_toArray, List.set_cons_zero, List.set_cons_succ]
  refine wpAnyH_take (i := 10) (oi := { dst := some 75, op := Op.move (Operand.tmp 6), type := 3, pos := "encode.go:73", after := #[], guard := none }) (v := ?_) rfl (by kernel_rfl) (by kernel_rfl) (by kernel_rfl) (fun _ _ _ h => h) (Or.inl ⟨by rfl, ?_⟩) (by exact S) ?_
  rotate_left 1
  · intro w hSw
    clear hSw
    go_simp
    try with_reducible rfl
  simp only [Act.put, List.setIfInBounds_toArray, List.set_cons_zero, List.set_cons_succ]
  refine wpAnyH_take (i := 11) (oi := { dst := some 76, op := Op.binOp BinOp.shr 3 (Operand.tmp 75) (Operand.const (Value.int IntKind.u64 2)) 33, type := 3, pos := "encode.go:73", after := #[{ on := 10, ground := Ground.data }], guard := none }) (v := ?_) rfl (by kernel_rfl) (by kernel_rfl) (by kernel_rfl) (fun _ _ _ h => h) (Or.inl ⟨by rfl, ?_⟩) (by exact S) ?_
  rotate_left 1
  · intro w hSw
    clear hSw
    go_simp
    try with_reducible rfl
  simp only [Act.put, List.setIfInBounds_toArray, List.set_cons_zero, List.set_cons_succ]
  refine wpAnyH_take (i := 14) (oi := { dst := some 79, op := Op.move (Operand.tmp 6), type := 3, pos := "encode.go:73", after := #[], guard := none }) (v := ?_) rfl (by kernel_rfl) (by kernel_rfl) (by kernel_rfl) (fun _ _ _ h => h) (Or.inl ⟨by rfl, ?_⟩) (by exact S) ?_
  rotate_left 1
  · intro w hSw
    clear hSw
    go_simp
    try with_reducible rfl
  simp only [Act.put, List.setIfInBounds_toArray, List.set_cons_zero, List.set_cons_succ]
  refine wpAnyH_ready (rs := [1]) (by kernel_rfl) (by simp) ?_
  refine AllReadyH.cons rfl (fun K hK => ?_) AllReadyH.nil
  go_simp
  go_wp2_with (go_at_call 71; refine (dataB0_c _).mono ?_; rintro e wf ⟨rfl, hbf⟩)
  replace S := S.below hbf
  clear hbf
  refine hK.out _ _ (by exact S) (fun _ => ?_)
  clear hK K
  refine wpAnyH_take (i := 2) (oi := { dst := some 67, op := Op.binOp BinOp.or 28 (Operand.const (Value.int IntKind.u32 3925868544)) (Operand.tmp 66) 28, type := 28, pos := "encode.go:73", after := #[{ on := 1, ground := Ground.data }], guard := none }) (v := ?_) rfl (by kernel_rfl) (by kernel_rfl) (by kernel_rfl) (fun _ _ _ h => h) (Or.inl ⟨by rfl, ?_⟩) (by exact S) ?_
  rotate_left 1
  · intro w hSw
    clear hSw
    go_simp
    try with_reducible rfl
  simp only [Act.put, List.setIfInBounds_toArray, List.set_cons_zero, List.set_cons_succ]
  refine wpAnyH_ready (rs := [5]) (by kernel_rfl) (by simp) ?_
  refine AllReadyH.cons rfl (fun K hK => ?_) AllReadyH.nil
  go_simp
  go_wp2_with (go_at_call 74; refine (P0.out _).mono ?_; rintro e wf ⟨rfl, rfl⟩)
  refine hK.out _ _ (by exact S) (fun _ => ?_)
  clear hK K
  refine wpAnyH_take (i := 6) (oi := { dst := some 71, op := Op.binOp BinOp.or 28 (Operand.tmp 67) (Operand.tmp 70) 28, type := 28, pos := "encode.go:73", after := #[{ on := 2, ground := Ground.data }, { on := 5, ground := Ground.data }], guard := none }) (v := ?_) rfl (by kernel_rfl) (by kernel_rfl) (by kernel_rfl) (fun _ _ _ h => h) (Or.inl ⟨by rfl, ?_⟩) (by exact S) ?_
  rotate_left 1
  · intro w hSw
    clear hSw
    go_simp
    try with_reducible rfl
  simp only [Act.put, List.setIfInBounds_toArray, List.set_cons_zero, List.set_cons_succ]
  refine wpAnyH_ready (rs := [8]) (by kernel_rfl) (by simp) ?_
  refine AllReadyH.cons rfl (fun K hK => ?_) AllReadyH.nil
  go_simp
  go_wp2_with (go_at_call 74; refine (P4.out _).mono ?_; rintro e wf ⟨rfl, rfl⟩)
  refine hK.out _ _ (by exact S) (fun _ => ?_)
  clear hK K
  refine wpAnyH_take (i := 9) (oi := { dst := some 74, op := Op.binOp BinOp.or 28 (Operand.tmp 71) (Operand.tmp 73) 28, type := 28, pos := "encode.go:73", after := #[{ on := 6, ground := Ground.data }, { on := 8, ground := Ground.data }], guard := none }) (v := ?_) rfl (by kernel_rfl) (by kernel_rfl) (by kernel_rfl) (fun _ _ _ h => h) (Or.inl ⟨by rfl, ?_⟩) (by exact S) ?_
  rotate_left 1
  · intro w hSw
    clear hSw
    go_simp
    try with_reducible rfl
  simp only [Act.put, List.setIfInBounds_toArray, List.set_cons_zero, List.set_cons_succ]
  refine wpAnyH_ready (rs := [12]) (by kernel_rfl) (by simp) ?_
  refine AllReadyH.cons rfl (fun K hK => ?_) AllReadyH.nil
  go_simp
  go_wp2_with (go_at_call 74; refine (P12.out _).mono ?_; rintro e wf ⟨rfl, rfl⟩)
  refine hK.out _ _ (by exact S) (fun _ => ?_)
  clear hK K
  refine wpAnyH_take (i := 13) (oi := { dst := some 78, op := Op.binOp BinOp.or 28 (Operand.tmp 74) (Operand.tmp 77) 28, type := 28, pos := "encode.go:73", after := #[{ on := 9, ground := Ground.data }, { on := 12, ground := Ground.data }], guard := none }) (v := ?_) rfl (by kernel_rfl) (by kernel_rfl) (by kernel_rfl) (fun _ _ _ h => h) (Or.inl ⟨by rfl, ?_⟩) (by exact S) ?_
  rotate_left 1
  · intro w hSw
    clear hSw
    go_simp
    try with_reducible rfl
  simp only [Act.put, List.setIfInBounds_toArray, List.set_cons_zero, List.set_cons_succ]
  refine wpAnyH_ready (rs := [15]) (by kernel_rfl) (by simp) ?_
  refine AllReadyH.cons rfl (fun K hK => ?_) AllReadyH.nil
  go_simp
  go_wp2_with (go_at_call 74; refine (P6.out _).mono ?_; rintro e wf ⟨rfl, rfl⟩)
  refine hK.out _ _ (by exact S) (fun _ => ?_)
  clear hK K
  refine wpAnyH_take (i := 16) (oi := { dst := some 81, op := Op.binOp BinOp.or 28 (Operand.tmp 78) (Operand.tmp 80) 28, type := 28, pos := "encode.go:73", after := #[{ on := 13, ground := Ground.data }, { on := 15, ground := Ground.data }], guard := none }) (v := ?_) rfl (by kernel_rfl) (by kernel_rfl) (by kernel_rfl) (fun _ _ _ h => h) (Or.inl ⟨by rfl, ?_⟩) (by exact S) ?_
  rotate_left 1
  · intro w hSw
    clear hSw
    go_simp
    try with_reducible rfl
  simp only [Act.put, List.setIfInBounds_toArray, List.set_cons_zero, List.set_cons_succ]
  refine wpAnyH_take (i := 17) (oi := { dst := some 2, op := Op.assign (Operand.tmp 81), type := 28, pos := "encode.go:73", after := #[{ on := 16, ground := Ground.data }, { on := 15, ground := Ground.chain }, { on := 0, ground := Ground.phase }, { on := 1, ground := Ground.phase }, { on := 2, ground := Ground.phase }, { on := 3, ground := Ground.phase }, { on := 4, ground := Ground.phase }, { on := 5, ground := Ground.phase }, { on := 6, ground := Ground.phase }, { on := 7, ground := Ground.phase }, { on := 8, ground := Ground.phase }, { on := 9, ground := Ground.phase }, { on := 10, ground := Ground.phase }, { on := 11, ground := Ground.phase }, { on := 12, ground := Ground.phase }, { on := 13, ground := Ground.phase }, { on := 14, ground := Ground.phase }, { on := 15, ground := Ground.phase }, { on := 16, ground := Ground.phase }], guard := none }) (v := ?_) rfl (by kernel_rfl) (by kernel_rfl) (by kernel_rfl) (fun _ _ _ h => h) (Or.inl ⟨by rfl, ?_⟩) (by exact S) ?_
  rotate_left 1
  · intro w hSw
    clear hSw
    go_simp
    try with_reducible rfl
  simp only [Act.put, List.setIfInBounds_toArray, List.set_cons_zero, List.set_cons_succ]
  refine wpAnyH_done (by kernel_rfl) ?_ _
  go_wp2
  go_ret
  exact ⟨rfl, S.low⟩
end Go.Proofs.Ytigmekboikgoaaa
