/- Stage 9: the word of a Mov. -/
import Derived.Test.YtigmekboikgoaaaWf1
import Derived.Test.YtigmekboikgoaaaWd12
namespace Go.Proofs.Ytigmekboikgoaaa
open Go.ChangeShapes Go.WideShapes Go.ChangeAt Go.RowKit
set_option linter.unusedVariables false
set_option linter.unusedSimpArgs false

def movJ (s : Bool) (r v a : Nat) : IV := ⟨13, true, s, 14, (r : Nat), 0, 0, (a : Nat), (v : Nat), true, 0, 0, 0, false, false⟩
def loJ (s : Bool) (r v a : Nat) (w : World) (b2 : Nat) (j : Value) (wr : World) : Prop := ∃ k : Nat, k ≤ 2 ∧ j = .int .i64 k ∧ SH noZ w wr [(b2, Cel.iv (movJ s r v a))]
def sB (s : Bool) : Nat := bif s then 1048576 else 0
theorem sB_le (s : Bool) : sB s = 0 ∨ sB s = 1048576 := by cases s; exact .inl rfl; exact .inr rfl
theorem u32_join' (x y i : Nat) (hx : x % 2 ^ i = 0) (hx1 : x < 4294967296) (hy : y < 2 ^ i) (hy1 : y < 4294967296) : bits .or .u32 (x : Int) (y : Int) = ((x + y : Nat) : Int) := u32_join x y i hx hx1 hy hy1
set_option maxHeartbeats 20000000 in
set_option maxRecDepth 100000 in
theorem dataBM_c (s : Bool) (r v a : Nat) (hr : r < 16) (w : World) : Calls Try.prog 71 #[(movJ s r v a).val] w fun e w' => e = .returned (.int .u32 ((4194304 + sB s + (983040 + r * 256) : Nat) : Int)) ∧ Below w.heap.size w w' := by
  have Co0 : Hid (∀ w, Calls Try.prog 85 #[.int .i64 0] w fun e w' => e = .returned (.int .i64 1) ∧ w' = w) := fun w => dataOp_c 0 w
  have Co1 : Hid (∀ w, Calls Try.prog 85 #[.int .i64 1] w fun e w' => e = .returned (.int .i64 14) ∧ w' = w) := fun w => dataOp_c 1 w
  have Co2 : Hid (∀ w, Calls Try.prog 85 #[.int .i64 2] w fun e w' => e = .returned (.int .i64 12) ∧ w' = w) := fun w => dataOp_c 2 w
  have Cd1 : Hid (∀ w, Calls Try.prog 86 #[.int .i64 1] w fun e w' => e = .returned (.int .i64 8) ∧ w' = w) := fun w => withoutD_c 1 w
  have Cd14 : Hid (∀ w, Calls Try.prog 86 #[.int .i64 14] w fun e w' => e = .returned (.int .i64 14) ∧ w' = w) := fun w => withoutD_c 14 w
  have Cd12 : Hid (∀ w, Calls Try.prog 86 #[.int .i64 12] w fun e w' => e = .returned (.int .i64 12) ∧ w' = w) := fun w => withoutD_c 12 w
  have Cn1 : Hid (∀ w, Calls Try.prog 87 #[.int .i64 1] w fun e w' => e = .returned (.int .i64 1) ∧ w' = w) := fun w => withoutN_c 1 w
  have Cn14 : Hid (∀ w, Calls Try.prog 87 #[.int .i64 14] w fun e w' => e = .returned (.int .i64 14) ∧ w' = w) := fun w => withoutN_c 14 w
  have Cn12 : Hid (∀ w, Calls Try.prog 87 #[.int .i64 12] w fun e w' => e = .returned (.int .i64 13) ∧ w' = w) := fun w => withoutN_c 12 w
  have P21 : Hid (∀ w, Calls Try.prog 74 #[.int .i64 2, .int .i64 21, .int .i64 4] w fun e w' => e = .returned (.int .u32 4194304) ∧ w' = w) := fun w => by
    have h := put_21_4 2 (by decide) w
    rw [show 2 % 16 * 2097152 = 4194304 from rfl] at h
    exact h
  have hs := sB_le s
  have CF : Hid (∀ w, Calls Try.prog 68 #[.bool s, .int .u32 1048576] w fun e w' => e = .returned (.int .u32 (sB s : Nat)) ∧ w' = w) := fun w => by
    cases s
    · exact flag_c false 1048576 w
    · exact flag_c true 1048576 w
  have C4 : Hid (∀ w, Calls Try.prog 67 #[.int .i64 r, .int .i64 15, .int .i64 0, .int .i64 0] w fun e w' => e = .returned (.int .u32 ((983040 + r * 256 : Nat) : Int)) ∧ w' = w) := fun w => by
    have h := four_c r 15 0 0 (by omega) (by decide) (by decide) (by decide) w
    rw [show fourB r 15 0 0 = 983040 + r * 256 by unfold fourB; omega] at h
    exact h
  have o1 : bits .or .u32 4194304 (sB s : Nat) = ((4194304 + sB s : Nat) : Int) := u32_join' 4194304 (sB s) 22 (by decide) (by decide) (by omega) (by omega)
  have o2 : bits .or .u32 ((4194304 + sB s : Nat) : Int) ((983040 + r * 256 : Nat) : Int) = ((4194304 + sB s + (983040 + r * 256) : Nat) : Int) := u32_join _ _ 20 (by omega) (by omega) (by omega) (by omega)
  obtain ⟨q1, e1⟩ : ∃ q1, 4194304 + sB s = q1 := ⟨_, rfl⟩
  obtain ⟨q2, e2⟩ : ∃ q2, 983040 + r * 256 = q2 := ⟨_, rfl⟩
  rw [e1, e2] at o2
  rw [e1] at o1
  rw [e2] at C4
  rw [e1, e2]
  clear e1 e2 hs
  obtain ⟨q3, e3⟩ : ∃ q3, q1 + q2 = q3 := ⟨_, rfl⟩
  rw [e3] at o2
  rw [e3]
  clear e3
  obtain ⟨fs, e4⟩ : ∃ fs, sB s = fs := ⟨_, rfl⟩
  rw [e4] at o1 CF
  clear e4
  go_enter Try.func71, Try.ntmps71
  have S := SH.start w
  go_wp2_with (first
    | (go_at_call 68; refine (CF.out _).mono ?_; rintro e wf ⟨rfl, rfl⟩)
    | ((with_reducible refine wpl_isDst 1 ?_); (refine SH.box (L := []) S rfl 30 _ rfl (Cel.iv (movJ s r v a)) rfl ?_; clear S; intro b2 w0 S))
    | ((with_reducible refine wpl_isDst 7 ?_); (refine S.ld 4 _ rfl _ 2 rfl 0 (Cel.iv (movJ s r v a)) rfl (.bool s) rfl _ Try.underlying4 rfl rfl ?_)))
  have ST : Hid (loJ s r v a w b2 (.int .i64 0) _) := ⟨0, by decide, rfl, S⟩
  clear S
  go_loopw [9] (fun j wr => loJ s r v a w b2 j wr) (fun j _ => 16 - (intOf j).toNat)
  case atStart => exact ST.out
  case round =>
    clear ST
    obtain ⟨k, hk, rfl, S⟩ := hrel
    rcases (show k = 0 ∨ k = 1 ∨ k = 2 by omega) with rfl | rfl | rfl
    · go_wp2_with (first
        | (go_at_call 85; (first | with_reducible refine (Co0.out _).mono ?_ | with_reducible refine (Co1.out _).mono ?_ | with_reducible refine (Co2.out _).mono ?_); rintro e wf ⟨rfl, rfl⟩)
        | (go_at_call 86; (first | with_reducible refine (Cd1.out _).mono ?_ | with_reducible refine (Cd14.out _).mono ?_ | with_reducible refine (Cd12.out _).mono ?_); rintro e wf ⟨rfl, rfl⟩)
        | (go_at_call 87; (first | with_reducible refine (Cn1.out _).mono ?_ | with_reducible refine (Cn14.out _).mono ?_ | with_reducible refine (Cn12.out _).mono ?_); rintro e wf ⟨rfl, rfl⟩)
        | ((with_reducible refine wpl_isDst 15 ?_); (refine S.ld 3 _ rfl _ 0 rfl 0 (Cel.iv (movJ s r v a)) rfl (.int .i64 13) rfl _ Try.underlying3 rfl rfl ?_)))
      go_roundw
      case rel => exact ⟨1, by decide, rfl, S⟩
      case measure => simp [intOf]
    · go_wp2_with (first
        | (go_at_call 85; (first | with_reducible refine (Co0.out _).mono ?_ | with_reducible refine (Co1.out _).mono ?_ | with_reducible refine (Co2.out _).mono ?_); rintro e wf ⟨rfl, rfl⟩)
        | (go_at_call 86; (first | with_reducible refine (Cd1.out _).mono ?_ | with_reducible refine (Cd14.out _).mono ?_ | with_reducible refine (Cd12.out _).mono ?_); rintro e wf ⟨rfl, rfl⟩)
        | (go_at_call 87; (first | with_reducible refine (Cn1.out _).mono ?_ | with_reducible refine (Cn14.out _).mono ?_ | with_reducible refine (Cn12.out _).mono ?_); rintro e wf ⟨rfl, rfl⟩)
        | ((with_reducible refine wpl_isDst 15 ?_); (refine S.ld 3 _ rfl _ 0 rfl 0 (Cel.iv (movJ s r v a)) rfl (.int .i64 13) rfl _ Try.underlying3 rfl rfl ?_)))
      go_roundw
      case rel => exact ⟨2, by decide, rfl, S⟩
      case measure => simp [intOf]
    · go_wp2_with (first
        | (go_at_call 85; (first | with_reducible refine (Co0.out _).mono ?_ | with_reducible refine (Co1.out _).mono ?_ | with_reducible refine (Co2.out _).mono ?_); rintro e wf ⟨rfl, rfl⟩)
        | (go_at_call 86; (first | with_reducible refine (Cd1.out _).mono ?_ | with_reducible refine (Cd14.out _).mono ?_ | with_reducible refine (Cd12.out _).mono ?_); rintro e wf ⟨rfl, rfl⟩)
        | (go_at_call 87; (first | with_reducible refine (Cn1.out _).mono ?_ | with_reducible refine (Cn14.out _).mono ?_ | with_reducible refine (Cn12.out _).mono ?_); rintro e wf ⟨rfl, rfl⟩)
        | ((with_reducible refine wpl_isDst 15 ?_); (refine S.ld 3 _ rfl _ 0 rfl 0 (Cel.iv (movJ s r v a)) rfl (.int .i64 13) rfl _ Try.underlying3 rfl rfl ?_)))
      refine wp_region_held_drew (S := fun w' => SH noZ w w' [(b2, Cel.iv (movJ s r v a))]) (by kernel_rfl) (by exact S.drew) (fun _ => ?_)
      replace S := S.drew
      refine wpAnyH_take (i := 0) (oi := { dst := some 45, op := Op.move (Operand.tmp 4), type := 3, pos := "encode.go:87", after := #[], guard := none }) (v := ?_) rfl (by kernel_rfl) (by kernel_rfl) (by kernel_rfl) (fun _ _ _ h => h) (Or.inl ⟨by rfl, ?_⟩) (by exact S) ?_
      rotate_left 1
      · intro w hSw
        clear hSw
        go_simp
        try with_reducible rfl
      simp only [Act.put, List.setIfInBounds_toArray, List.set_cons_zero, List.set_cons_succ]
      refine wpAnyH_take (i := 2) (oi := { dst := some 47, op := Op.move (Operand.tmp 3), type := 28, pos := "encode.go:87", after := #[], guard := none }) (v := ?_) rfl (by kernel_rfl) (by kernel_rfl) (by kernel_rfl) (fun _ _ _ h => h) (Or.inl ⟨by rfl, ?_⟩) (by exact S) ?_
      rotate_left 1
      · intro w hSw
        clear hSw
        go_simp
        try with_reducible rfl
      simp only [Act.put, List.setIfInBounds_toArray, List.set_cons_zero, List.set_cons_succ]
      refine wpAnyH_take (i := 4) (oi := { dst := some 49, op := Op.fieldAddr 30 (Operand.tmp 1) 4, type := 0, pos := "encode.go:87", after := #[], guard := none }) (v := ?_) rfl (by kernel_rfl) (by kernel_rfl) (by kernel_rfl) (fun _ _ _ h => h) (Or.inl ⟨by rfl, ?_⟩) (by exact S) ?_
      rotate_left 1
      · intro w hSw
        clear hSw
        go_simp
        try with_reducible rfl
      simp only [Act.put, List.setIfInBounds_toArray, List.set_cons_zero, List.set_cons_succ]
      refine wpAnyH_take (i := 5) (oi := { dst := some 50, op := Op.load 3 (Operand.tmp 49), type := 3, pos := "encode.go:87", after := #[{ on := 4, ground := Ground.data }], guard := none }) (v := _) rfl (by kernel_rfl) (by kernel_rfl) (by kernel_rfl) (fun _ _ _ h => h) (y_load1 (by rfl) _ _ rfl _ _ rfl 0 _ rfl _ rfl _ Try.underlying3 rfl) (by exact S) ?_
      simp only [Act.put, List.setIfInBounds_toArray, List.set_cons_zero, List.set_cons_succ]
      refine wpAnyH_ready (rs := [1]) (by kernel_rfl) (by simp) ?_
      refine AllReadyH.cons rfl (fun K hK => ?_) AllReadyH.nil
      go_simp
      go_wp2_with (go_at_call 74; refine (P21.out _).mono ?_; rintro e wf ⟨rfl, rfl⟩)
      refine hK.out _ _ (by exact S) (fun _ => ?_)
      clear hK K
      refine wpAnyH_take (i := 3) (oi := { dst := some 48, op := Op.binOp BinOp.or 28 (Operand.tmp 46) (Operand.tmp 47) 28, type := 28, pos := "encode.go:87", after := #[{ on := 1, ground := Ground.data }, { on := 2, ground := Ground.data }], guard := none }) (v := ?_) rfl (by kernel_rfl) (by kernel_rfl) (by kernel_rfl) (fun _ _ _ h => h) (Or.inl ⟨by rfl, ?_⟩) (by exact S) ?_
      rotate_left 1
      · intro w hSw
        clear hSw
        go_simp
        try with_reducible rfl
      simp only [Act.put, List.setIfInBounds_toArray, List.set_cons_zero, List.set_cons_succ]
      refine wpAnyH_ready (rs := [6]) (by kernel_rfl) (by simp) ?_
      refine AllReadyH.cons rfl (fun K hK => ?_) AllReadyH.nil
      go_simp
      go_wp2_with (go_at_call 67; refine (C4.out _).mono ?_; rintro e wf ⟨rfl, rfl⟩)
      refine hK.out _ _ (by exact S) (fun _ => ?_)
      clear hK K
      refine wpAnyH_take (i := 7) (oi := { dst := some 52, op := Op.binOp BinOp.or 28 (Operand.tmp 48) (Operand.tmp 51) 28, type := 28, pos := "encode.go:87", after := #[{ on := 3, ground := Ground.data }, { on := 6, ground := Ground.data }], guard := none }) (v := ?_) rfl (by kernel_rfl) (by kernel_rfl) (by kernel_rfl) (fun _ _ _ h => h) (Or.inl ⟨by rfl, ?_⟩) (by exact S) ?_
      rotate_left 1
      · intro w hSw
        clear hSw
        go_simp
        try with_reducible rfl
      simp only [Act.put, List.setIfInBounds_toArray, List.set_cons_zero, List.set_cons_succ]
      refine wpAnyH_take (i := 8) (oi := { dst := some 2, op := Op.assign (Operand.tmp 52), type := 28, pos := "encode.go:87", after := #[{ on := 7, ground := Ground.data }, { on := 6, ground := Ground.chain }, { on := 0, ground := Ground.phase }, { on := 1, ground := Ground.phase }, { on := 2, ground := Ground.phase }, { on := 3, ground := Ground.phase }, { on := 4, ground := Ground.phase }, { on := 5, ground := Ground.phase }, { on := 6, ground := Ground.phase }, { on := 7, ground := Ground.phase }], guard := none }) (v := ?_) rfl (by kernel_rfl) (by kernel_rfl) (by kernel_rfl) (fun _ _ _ h => h) (Or.inl ⟨by rfl, ?_⟩) (by exact S) ?_
      rotate_left 1
      · intro w hSw
        clear hSw
        go_simp
        try with_reducible rfl
      simp only [Act.put, List.setIfInBounds_toArray, List.set_cons_zero, List.set_cons_succ]
      refine wpAnyH_done (by kernel_rfl) ?_ _
      go_wp2
      (try simp only [Exit.inBlock, Exit.then])
      go_ret
      exact ⟨rfl, S.low⟩
end Go.Proofs.Ytigmekboikgoaaa
