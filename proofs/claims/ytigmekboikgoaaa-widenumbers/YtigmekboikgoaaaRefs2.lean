/- The contracts of the reference's functions with loops (package sourdineref1, layer 1), walked. -/
import Derived.Test.YtigmekboikgoaaaRefs
import Derived.Test.YtigmekboikgoaaaTwelve
namespace Go.Proofs.Ytigmekboikgoaaa
open Go.ChangeShapes Go.WideShapes Go.ChangeAt Go.RowKit
set_option linter.unusedVariables false
set_option linter.unusedSimpArgs false

theorem div_u32 (v : Int) (n : Nat) (v0 : 0 ≤ v) (v1 : v < 4294967296) : 0 ≤ v / 2 ^ n ∧ v / 2 ^ n < 4294967296 := by
  have h0 : 0 ≤ v / 2 ^ n := Int.ediv_nonneg v0 (Int.le_of_lt (Int.pow_pos (by decide)))
  have h1 : v / 2 ^ n ≤ v := Int.ediv_le_self _ v0
  omega

theorem bit_c (v n : Int) (v0 : 0 ≤ v) (v1 : v < 4294967296) (n0 : 0 ≤ n) (n1 : n ≤ 31) (w : World) :
    Calls Try.prog 91 #[.int .u32 v, .int .i64 n] w fun e w' => e = .returned (.bool (v / 2 ^ n.toNat % 2 == 1)) ∧ w' = w := by
  have hb := div_u32 v n.toNat v0 v1
  have hm := and1_u32 _ hb.1 hb.2
  clear hb
  go_enter Try.func91, Try.ntmps91
  go_wp2
  go_ret
  exact ⟨rfl, rfl⟩

theorem bit0_c (v : Int) (v0 : 0 ≤ v) (v1 : v < 4294967296) (w : World) :
    Calls Try.prog 91 #[.int .u32 v, .int .i64 0] w fun e w' => e = .returned (.bool (v % 2 == 1)) ∧ w' = w := by
  have h := bit_c v 0 v0 v1 (by decide) (by decide) w
  rw [show v / 2 ^ (0 : Int).toNat = v by simp] at h
  exact h
theorem bit31_c (v : Int) (v0 : 0 ≤ v) (v1 : v < 4294967296) (w : World) :
    Calls Try.prog 91 #[.int .u32 v, .int .i64 31] w fun e w' => e = .returned (.bool (v / 2147483648 == 1)) ∧ w' = w := by
  have h := bit_c v 31 v0 v1 (by decide) (by decide) w
  rw [show v / 2 ^ (31 : Int).toNat % 2 = v / 2147483648 by show v / 2147483648 % 2 = _; omega] at h
  exact h

theorem one_c (v kind : Int) (c : Bool) (v0 : 0 ≤ v) (v1 : v < 4294967296) (k0 : 1 ≤ kind) (k1 : kind ≤ 5) (w : World) :
    Calls Try.prog 78 #[.int .u32 v, .int .i64 kind, .bool c] w fun e w' => e = .returned (.tuple #[.int .u32 (oneS kind (v, c)).1, .bool (oneS kind (v, c)).2]) ∧ w' = w := by
  have hb0 := bit0_c v v0 v1 w
  rcases (show kind = 1 ∨ kind = 2 ∨ kind = 3 ∨ kind = 4 ∨ kind = 5 by omega) with h | h | h | h | h <;> subst h
  · have hb := bit31_c v v0 v1 w
    clear hb0
    rw [show oneS 1 (v, c) = (v * 2 % 4294967296, v / 2147483648 == 1) from rfl]
    go_enter Try.func78, Try.ntmps78
    go_wp2_with (go_at_call 91; refine hb.mono ?_; rintro e w' ⟨rfl, rfl⟩)
    go_ret2
    exact ⟨rfl, rfl⟩
  · rw [show oneS 2 (v, c) = (v / 2, v % 2 == 1) from rfl]
    go_enter Try.func78, Try.ntmps78
    go_wp2_with (go_at_call 91; refine hb0.mono ?_; rintro e w' ⟨rfl, rfl⟩)
    go_ret2
    exact ⟨rfl, rfl⟩
  · rw [show oneS 3 (v, c) = (v / 2 + v / 2147483648 * 2147483648, v % 2 == 1) from rfl]
    have e1 := and_top v v0 v1
    have e2 := asr_one v v0 v1
    generalize hY : v / 2 + v / 2147483648 * 2147483648 = Y at *
    generalize v / 2147483648 * 2147483648 = Z at *
    clear hY
    go_enter Try.func78, Try.ntmps78
    go_wp2_with (go_at_call 91; refine hb0.mono ?_; rintro e w' ⟨rfl, rfl⟩)
    go_ret2
    exact ⟨rfl, rfl⟩
  · rw [show oneS 4 (v, c) = (v / 2 + v % 2 * 2147483648, v % 2 == 1) from rfl]
    have e2 := ror_one v v0 v1
    generalize v / 2 + v % 2 * 2147483648 = Y at *
    go_enter Try.func78, Try.ntmps78
    go_wp2_with (go_at_call 91; refine hb0.mono ?_; rintro e w' ⟨rfl, rfl⟩)
    go_ret2
    exact ⟨rfl, rfl⟩
  · have e3 : (oneS 5 (v, c)).2 = (v % 2 == 1) := rfl
    rw [e3]
    cases c
    · rw [← rrx_false v]
      go_enter Try.func78, Try.ntmps78
      go_wp2_with (go_at_call 91; refine hb0.mono ?_; rintro e w' ⟨rfl, rfl⟩)
      go_ret2
      exact ⟨rfl, rfl⟩
    · rw [← rrx_true v v0 v1]
      go_enter Try.func78, Try.ntmps78
      go_wp2_with (go_at_call 91; refine hb0.mono ?_; rintro e w' ⟨rfl, rfl⟩)
      go_ret2
      exact ⟨rfl, rfl⟩

/-! ### Shift: the loop -/
set_option maxHeartbeats 1000000 in
theorem rShift_mid (v kind n : Int) (c : Bool) (v0 : 0 ≤ v) (v1 : v < 4294967296) (k0 : 1 ≤ kind) (k1 : kind ≤ 4) (n0 : 0 ≤ n) (n1 : n ≤ 255) (w : World) :
    Calls Try.prog 42 #[.int .u32 v, .int .i64 kind, .int .i64 n, .bool c] w fun e w' => e = .returned (.tuple #[.int .u32 (iterS kind n.toNat (v, c)).1, .bool (iterS kind n.toNat (v, c)).2]) ∧ w' = w := by
  have k5 : (kind == 5) = false := by simp; omega
  go_enter Try.func42, Try.ntmps42
  go_wp2
  go_loop [0, 3, 10] (fun x b i => ∃ k : Nat, k ≤ n.toNat ∧ i = .int .i64 k ∧ x = .int .u32 (iterS kind k (v, c)).1 ∧ b = .bool (iterS kind k (v, c)).2) (fun _ _ i => n.toNat - (intOf i).toNat)
  case atStart => exact ⟨0, Nat.zero_le _, rfl, rfl, rfl⟩
  case round =>
    obtain ⟨k, hk, rfl, rfl, rfl⟩ := hrel
    have hb := iterS_bounds kind k (v, c) v0 v1
    have HS : Hid (iterS kind (k + 1) (v, c) = oneS kind (iterS kind k (v, c))) := rfl
    have HE : Hid (k = n.toNat → iterS kind n.toNat (v, c) = iterS kind k (v, c)) := fun h => by rw [h]
    generalize iterS kind k (v, c) = p at *
    obtain ⟨X, B⟩ := p
    have ho := one_c X kind B hb.1 hb.2 k0 (by omega) w
    generalize oneS kind (X, B) = q at *
    obtain ⟨X', B'⟩ := q
    clear hb
    by_cases hlt : (k : Int) < n
    · go_wp2_with (go_at_call 78; refine ho.mono ?_; rintro e w' ⟨rfl, rfl⟩)
      go_round
      case rel => exact ⟨k + 1, by omega, by go_num, by rw [HS.out], by rw [HS.out]⟩
      case measure => simp only [intOf]; omega
    · go_wp2
      go_ret2
      have hf := HE.out (by omega)
      exact ⟨ret2_eq (by rw [hf]) (by rw [hf]), rfl⟩

set_option maxHeartbeats 1000000 in
theorem rShift_high (v kind n : Int) (c : Bool) (v0 : 0 ≤ v) (v1 : v < 4294967296) (k0 : 1 ≤ kind) (k1 : kind ≤ 4) (n0 : 255 < n) (n1 : n ≤ 9223372036854775807) (w : World) :
    Calls Try.prog 42 #[.int .u32 v, .int .i64 kind, .int .i64 n, .bool c] w fun e w' => e = .returned (.tuple #[.int .u32 (iterS kind 255 (v, c)).1, .bool (iterS kind 255 (v, c)).2]) ∧ w' = w := by
  have k5 : (kind == 5) = false := by simp; omega
  go_enter Try.func42, Try.ntmps42
  go_wp2
  go_loop [0, 3, 10] (fun x b i => ∃ k : Nat, k ≤ 255 ∧ i = .int .i64 k ∧ x = .int .u32 (iterS kind k (v, c)).1 ∧ b = .bool (iterS kind k (v, c)).2) (fun _ _ i => 255 - (intOf i).toNat)
  case atStart => exact ⟨0, Nat.zero_le _, rfl, rfl, rfl⟩
  case round =>
    obtain ⟨k, hk, rfl, rfl, rfl⟩ := hrel
    have hb := iterS_bounds kind k (v, c) v0 v1
    have HS : Hid (iterS kind (k + 1) (v, c) = oneS kind (iterS kind k (v, c))) := rfl
    have HE : Hid (k = 255 → iterS kind 255 (v, c) = iterS kind k (v, c)) := fun h => by rw [h]
    generalize iterS kind k (v, c) = p at *
    obtain ⟨X, B⟩ := p
    have ho := one_c X kind B hb.1 hb.2 k0 (by omega) w
    generalize oneS kind (X, B) = q at *
    obtain ⟨X', B'⟩ := q
    clear hb
    by_cases hlt : (k : Int) < 255
    · go_wp2_with (go_at_call 78; refine ho.mono ?_; rintro e w' ⟨rfl, rfl⟩)
      go_round
      case rel => exact ⟨k + 1, by omega, by go_num, by rw [HS.out], by rw [HS.out]⟩
      case measure => simp only [intOf]; omega
    · go_wp2
      go_ret2
      have hf := HE.out (by omega)
      exact ⟨ret2_eq (by rw [hf]) (by rw [hf]), rfl⟩

theorem rShift_low (v kind n : Int) (c : Bool) (k0 : 1 ≤ kind) (k1 : kind ≤ 4) (n0 : n < 0) (n1 : -9223372036854775808 ≤ n) (w : World) :
    Calls Try.prog 42 #[.int .u32 v, .int .i64 kind, .int .i64 n, .bool c] w fun e w' => e = .returned (.tuple #[.int .u32 v, .bool c]) ∧ w' = w := by
  have k5 : (kind == 5) = false := by simp; omega
  go_enter Try.func42, Try.ntmps42
  go_wp2
  refine wp_loop_rounds 1 ?_
  rw [rounds_succ]
  go_wp2
  go_ret2
  exact ⟨rfl, rfl⟩
theorem rShift_other (v kind n : Int) (c : Bool) (hk : kind < 1 ∨ 5 < kind) (n0 : -9223372036854775808 ≤ n) (n1 : n ≤ 9223372036854775807) (w : World) :
    Calls Try.prog 42 #[.int .u32 v, .int .i64 kind, .int .i64 n, .bool c] w fun e w' => e = .returned (.tuple #[.int .u32 v, .bool c]) ∧ w' = w := by
  rcases hk with hk | hk
  · go_enter Try.func42, Try.ntmps42
    go_wp2
    all_goals (go_ret2; exact ⟨rfl, rfl⟩)
  · go_enter Try.func42, Try.ntmps42
    go_wp2
    all_goals (go_ret2; exact ⟨rfl, rfl⟩)
theorem rShift_rrx (v n : Int) (c : Bool) (v0 : 0 ≤ v) (v1 : v < 4294967296) (n0 : -9223372036854775808 ≤ n) (n1 : n ≤ 9223372036854775807) (w : World) :
    Calls Try.prog 42 #[.int .u32 v, .int .i64 5, .int .i64 n, .bool c] w fun e w' => e = .returned (.tuple #[.int .u32 (oneS 5 (v, c)).1, .bool (oneS 5 (v, c)).2]) ∧ w' = w := by
  have ho := one_c v 5 c v0 v1 (by decide) (by decide) w
  generalize oneS 5 (v, c) = q at *
  obtain ⟨X, B⟩ := q
  rcases (show n < 0 ∨ 255 < n ∨ (0 ≤ n ∧ n ≤ 255) by omega) with h | h | ⟨h, h'⟩
  · go_enter Try.func42, Try.ntmps42
    go_wp2_with (go_at_call 78; refine ho.mono ?_; rintro e w' ⟨rfl, rfl⟩)
    go_ret2
    exact ⟨rfl, rfl⟩
  · go_enter Try.func42, Try.ntmps42
    go_wp2_with (go_at_call 78; refine ho.mono ?_; rintro e w' ⟨rfl, rfl⟩)
    go_ret2
    exact ⟨rfl, rfl⟩
  · go_enter Try.func42, Try.ntmps42
    go_wp2_with (go_at_call 78; refine ho.mono ?_; rintro e w' ⟨rfl, rfl⟩)
    go_ret2
    exact ⟨rfl, rfl⟩

theorem rShift_c (v kind n : Int) (c : Bool) (v0 : 0 ≤ v) (v1 : v < 4294967296) (n0 : -9223372036854775808 ≤ n) (n1 : n ≤ 9223372036854775807) (w : World) :
    Calls Try.prog 42 #[.int .u32 v, .int .i64 kind, .int .i64 n, .bool c] w fun e w' => e = .returned (.tuple #[.int .u32 (shiftS v kind n c).1, .bool (shiftS v kind n c).2]) ∧ w' = w := by
  by_cases k5 : kind = 5
  · subst k5; exact rShift_rrx v n c v0 v1 n0 n1 w
  by_cases ko : kind < 1 ∨ 5 < kind
  · have e : shiftS v kind n c = (v, c) := by unfold shiftS; rw [if_neg k5, if_pos ko]
    rw [e]
    exact rShift_other v kind n c ko n0 n1 w
  rw [shiftS_of v kind n c (by omega) (by omega)]
  rcases (show n < 0 ∨ 255 < n ∨ (0 ≤ n ∧ n ≤ 255) by omega) with h | h | ⟨h, h'⟩
  · rw [countS_low n (by omega)]
    exact rShift_low v kind n c (by omega) (by omega) h n0 w
  · rw [countS_high n h]
    exact rShift_high v kind n c v0 v1 (by omega) (by omega) h n1 w
  · rw [countS_mid n h h']
    exact rShift_mid v kind n c v0 v1 (by omega) (by omega) h h' w
end Go.Proofs.Ytigmekboikgoaaa
