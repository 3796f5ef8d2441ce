/- WordSigns returns true for every word and every count: Sign and Zero keep the bits that they are told to. -/
import Derived.Test.YtoidmnhghklicabKnown
namespace Go.Proofs.Ytoidmnhghklicab
open Go.ChangeShapes Go.WideShapes Go.ChangeAt Go.RowKit
set_option linter.unusedVariables false
set_option linter.unusedSimpArgs false

/-! ### plain -/
theorem pow_le32 (k : Nat) (h : k ≤ 32) : (1 : Int) ≤ 2 ^ k ∧ (2 : Int) ^ k ≤ 4294967296 := by
  refine ⟨Int.pow_pos (by decide), ?_⟩
  rw [show (4294967296 : Int) = 2 ^ 32 by decide, pow_split 32 k h]
  have h1 : (1 : Int) ≤ 2 ^ (32 - k) := Int.pow_pos (by decide)
  have h2 : (0 : Int) < 2 ^ k := Int.pow_pos (by decide)
  have := Int.mul_le_mul_of_nonneg_right h1 (Int.le_of_lt h2)
  omega
theorem up_eq (k : Nat) (h : k ≤ 32) : IntKind.u64.wrap (IntKind.u64.wrap (2 ^ k) - 1) = 2 ^ k - 1 := by
  have := pow_le32 k h
  rw [IntKind.wrap_u64, IntKind.wrap_u64]
  omega
theorem mask_toNat (k : Nat) : ((2 : Int) ^ k - 1).toNat = 2 ^ k - 1 := by
  have e : (2 : Int) ^ k = ((2 ^ k : Nat) : Int) := by simp
  rw [e]
  omega
theorem and_mask_u64 (x : Int) (k : Nat) (x0 : 0 ≤ x) (x1 : x < 4294967296) (h : k ≤ 32) : bits .and .u64 x (2 ^ k - 1) = x % 2 ^ k := by
  have hp := pow_le32 k h
  rw [u64_and _ _ x0 (by omega) (by omega) (by omega), mask_toNat, Nat.and_two_pow_sub_one_eq_mod]
  obtain ⟨X, rfl⟩ := Int.eq_ofNat_of_zero_le x0
  simp
theorem or_mask_nat (x k : Nat) : x ||| (2 ^ k - 1) = x / 2 ^ k * 2 ^ k + (2 ^ k - 1) := by
  have hp : 0 < 2 ^ k := Nat.two_pow_pos k
  have h1 : (x ||| (2 ^ k - 1)) % 2 ^ k = x % 2 ^ k ||| (2 ^ k - 1) % 2 ^ k := Nat.or_mod_two_pow
  have h2 : (x ||| (2 ^ k - 1)) / 2 ^ k = x / 2 ^ k ||| (2 ^ k - 1) / 2 ^ k := Nat.or_div_two_pow
  rw [Nat.div_eq_of_lt (show 2 ^ k - 1 < 2 ^ k by omega), Nat.or_zero] at h2
  rw [Nat.mod_eq_of_lt (show 2 ^ k - 1 < 2 ^ k by omega)] at h1
  have h3 : x % 2 ^ k ||| (2 ^ k - 1) = 2 ^ k - 1 := by
    apply Nat.eq_of_testBit_eq
    intro i
    rw [Nat.testBit_or, Nat.testBit_two_pow_sub_one, Nat.testBit_mod_two_pow]
    by_cases hi : i < k <;> simp [hi]
  rw [h3] at h1
  have h4 := Nat.div_add_mod (x ||| (2 ^ k - 1)) (2 ^ k)
  rw [h1, h2, Nat.mul_comm] at h4
  omega
theorem or_mask_u64 (x : Int) (k : Nat) (x0 : 0 ≤ x) (x1 : x < 4294967296) (h : k ≤ 32) : bits .or .u64 x (2 ^ k - 1) = x / 2 ^ k * 2 ^ k + (2 ^ k - 1) := by
  have hp := pow_le32 k h
  rw [u64_or _ _ x0 (by omega) (by omega) (by omega), mask_toNat, or_mask_nat]
  obtain ⟨X, rfl⟩ := Int.eq_ofNat_of_zero_le x0
  have e : (2 : Int) ^ k = ((2 ^ k : Nat) : Int) := by simp
  have hk : 1 ≤ 2 ^ k := Nat.two_pow_pos k
  rw [e]
  simp only [Int.toNat_natCast]
  rw [Int.natCast_add, Int.natCast_mul, Int.natCast_ediv, Int.ofNat_sub hk]
  rfl

theorem signS_low (v : Int) (k : Nat) (v0 : 0 ≤ v) (v1 : v < 4294967296) (k0 : 1 ≤ k) (k1 : k ≤ 32) : signS v k % 2 ^ k = zeroS v k := by
  unfold signS zeroS
  rcases upto32 k k0 k1 with h | h | h | h | h | h | h | h | h | h | h | h | h | h | h | h | h | h | h | h | h | h | h | h | h | h | h | h | h | h | h | h <;> subst h <;> simp <;> (try split) <;> omega
theorem signS_again (v : Int) (k : Nat) (v0 : 0 ≤ v) (v1 : v < 4294967296) (k0 : 1 ≤ k) (k1 : k ≤ 32) : signS (signS v k) k = signS v k := by
  have h := signS_low v k v0 v1 k0 k1
  unfold zeroS at h
  have e : ∀ x : Int, x % 2 ^ k = v % 2 ^ k → signS x k = signS v k := by
    intro x hx
    unfold signS
    rw [hx]
  exact e _ h
theorem zeroS_again (v : Int) (k : Nat) : zeroS (zeroS v k) k = zeroS v k := by
  unfold zeroS
  exact Int.emod_emod_of_dvd _ (Int.dvd_refl _)
theorem high_iff (v : Int) (k : Nat) (v0 : 0 ≤ v) (v1 : v < 4294967296) (k0 : 1 ≤ k) (k1 : k ≤ 32) : v / 2 ^ (k - 1) % 2 = 1 ↔ ¬ v % 2 ^ k < 2 ^ (k - 1) := by
  rcases upto32 k k0 k1 with h | h | h | h | h | h | h | h | h | h | h | h | h | h | h | h | h | h | h | h | h | h | h | h | h | h | h | h | h | h | h | h <;> subst h <;> simp <;> omega
theorem sign_high (v : Int) (k : Nat) (v0 : 0 ≤ v) (v1 : v < 4294967296) (k0 : 1 ≤ k) (k1 : k ≤ 32) (h : ¬ v % 2 ^ k < 2 ^ (k - 1)) : signS v k / 2 ^ k = 2 ^ (32 - k) - 1 := by
  unfold signS
  rw [if_neg h]
  rcases upto32 k k0 k1 with h | h | h | h | h | h | h | h | h | h | h | h | h | h | h | h | h | h | h | h | h | h | h | h | h | h | h | h | h | h | h | h <;> subst h <;> simp <;> omega
theorem pow_parts (k : Nat) (k1 : k ≤ 32) : ((2 : Int) ^ (32 - k) - 1) * 2 ^ k + (2 ^ k - 1) = 4294967295 := by
  rw [Int.sub_mul, ← pow_split 32 k k1]
  simp
  omega

/-! ### the walks -/
set_option maxHeartbeats 1000000 in
set_option maxRecDepth 100000 in
theorem signs_low (a0 a1 s z U : Int) (v0 : 0 ≤ a0) (v1 : a0 < 4294967296) (n0 : 0 ≤ a1) (n1 : a1 < 256) (s0 : 0 ≤ s) (s1 : s < 4294967296) (z0 : 0 ≤ z) (z1 : z < 4294967296)
    (hs : ∀ w, Calls Try.prog 5 #[.int .u32 a0, .int .i64 (a1 % 32 + 1)] w fun e w' => e = .returned (.int .u32 s) ∧ w' = w)
    (hz : ∀ w, Calls Try.prog 6 #[.int .u32 a0, .int .i64 (a1 % 32 + 1)] w fun e w' => e = .returned (.int .u32 z) ∧ w' = w)
    (hs' : ∀ w, Calls Try.prog 5 #[.int .u32 s, .int .i64 (a1 % 32 + 1)] w fun e w' => e = .returned (.int .u32 s) ∧ w' = w)
    (hz' : ∀ w, Calls Try.prog 6 #[.int .u32 z, .int .i64 (a1 % 32 + 1)] w fun e w' => e = .returned (.int .u32 z) ∧ w' = w)
    (hup : IntKind.u64.wrap (IntKind.u64.wrap (2 ^ (a1 % 32 + 1).toNat) - 1) = U)
    (f1 : bits .and .u64 a0 U = z) (f2 : bits .and .u64 s U = z) (wz : IntKind.u64.wrap z = z) (ws : IntKind.u64.wrap s = s) (wa : IntKind.u64.wrap a0 = a0)
    (hh : (bits .and .u32 (a0 / 2 ^ (a1 % 32).toNat) 1 == 1) = false) (f3 : (s == z) = true) (w : World) :
    Calls Try.prog 3 #[.int .u32 a0, .int .u8 a1] w fun e w' => e = .returned (.bool true) ∧ ∃ m, w' = w.drewN m := by
  go_enter Try.func3, Try.ntmps3
  go_wp2_with fail
  refine (known_true _).mono ?_
  rintro e w1 ⟨rfl, hw1⟩
  go_wp2_with fail
  refine (hs _).mono ?_
  rintro e _ ⟨rfl, rfl⟩
  go_wp2_with fail
  refine (hz _).mono ?_
  rintro e _ ⟨rfl, rfl⟩
  go_wp2_with fail
  go_big_quiet (first | (go_at_call 5; refine Calls.quiet_of_same (hs' _)) | (go_at_call 6; refine Calls.quiet_of_same (hz' _)))
  go_wp2
  go_ret
  obtain ⟨m, rfl⟩ := hw1
  exact ⟨rfl, m + nq, by rw [World.drewN_drewN]⟩

set_option maxHeartbeats 1000000 in
set_option maxRecDepth 100000 in
theorem signs_top (a0 a1 s z U : Int) (v0 : 0 ≤ a0) (v1 : a0 < 4294967296) (n0 : 0 ≤ a1) (n1 : a1 < 256) (s0 : 0 ≤ s) (s1 : s < 4294967296) (z0 : 0 ≤ z) (z1 : z < 4294967296)
    (hs : ∀ w, Calls Try.prog 5 #[.int .u32 a0, .int .i64 (a1 % 32 + 1)] w fun e w' => e = .returned (.int .u32 s) ∧ w' = w)
    (hz : ∀ w, Calls Try.prog 6 #[.int .u32 a0, .int .i64 (a1 % 32 + 1)] w fun e w' => e = .returned (.int .u32 z) ∧ w' = w)
    (hs' : ∀ w, Calls Try.prog 5 #[.int .u32 s, .int .i64 (a1 % 32 + 1)] w fun e w' => e = .returned (.int .u32 s) ∧ w' = w)
    (hz' : ∀ w, Calls Try.prog 6 #[.int .u32 z, .int .i64 (a1 % 32 + 1)] w fun e w' => e = .returned (.int .u32 z) ∧ w' = w)
    (hup : IntKind.u64.wrap (IntKind.u64.wrap (2 ^ (a1 % 32 + 1).toNat) - 1) = U)
    (f1 : bits .and .u64 a0 U = z) (f2 : bits .and .u64 s U = z) (wz : IntKind.u64.wrap z = z) (ws : IntKind.u64.wrap s = s) (wa : IntKind.u64.wrap a0 = a0)
    (hh : (bits .and .u32 (a0 / 2 ^ (a1 % 32).toNat) 1 == 1) = true) (f4 : bits .or .u64 s U = 4294967295) (hk : (a1 % 32 + 1 == 32) = true) (w : World) :
    Calls Try.prog 3 #[.int .u32 a0, .int .u8 a1] w fun e w' => e = .returned (.bool true) ∧ ∃ m, w' = w.drewN m := by
  go_enter Try.func3, Try.ntmps3
  go_wp2_with fail
  refine (known_true _).mono ?_
  rintro e w1 ⟨rfl, hw1⟩
  go_wp2_with fail
  refine (hs _).mono ?_
  rintro e _ ⟨rfl, rfl⟩
  go_wp2_with fail
  refine (hz _).mono ?_
  rintro e _ ⟨rfl, rfl⟩
  go_wp2_with fail
  go_big_quiet (first | (go_at_call 5; refine Calls.quiet_of_same (hs' _)) | (go_at_call 6; refine Calls.quiet_of_same (hz' _)))
  go_wp2
  go_ret
  obtain ⟨m, rfl⟩ := hw1
  exact ⟨rfl, m + nq, by rw [World.drewN_drewN]⟩

set_option maxHeartbeats 1000000 in
set_option maxRecDepth 100000 in
theorem signs_high (a0 a1 s z U : Int) (v0 : 0 ≤ a0) (v1 : a0 < 4294967296) (n0 : 0 ≤ a1) (n1 : a1 < 256) (s0 : 0 ≤ s) (s1 : s < 4294967296) (z0 : 0 ≤ z) (z1 : z < 4294967296)
    (hs : ∀ w, Calls Try.prog 5 #[.int .u32 a0, .int .i64 (a1 % 32 + 1)] w fun e w' => e = .returned (.int .u32 s) ∧ w' = w)
    (hz : ∀ w, Calls Try.prog 6 #[.int .u32 a0, .int .i64 (a1 % 32 + 1)] w fun e w' => e = .returned (.int .u32 z) ∧ w' = w)
    (hs' : ∀ w, Calls Try.prog 5 #[.int .u32 s, .int .i64 (a1 % 32 + 1)] w fun e w' => e = .returned (.int .u32 s) ∧ w' = w)
    (hz' : ∀ w, Calls Try.prog 6 #[.int .u32 z, .int .i64 (a1 % 32 + 1)] w fun e w' => e = .returned (.int .u32 z) ∧ w' = w)
    (hup : IntKind.u64.wrap (IntKind.u64.wrap (2 ^ (a1 % 32 + 1).toNat) - 1) = U)
    (f1 : bits .and .u64 a0 U = z) (f2 : bits .and .u64 s U = z) (wz : IntKind.u64.wrap z = z) (ws : IntKind.u64.wrap s = s) (wa : IntKind.u64.wrap a0 = a0)
    (hh : (bits .and .u32 (a0 / 2 ^ (a1 % 32).toNat) 1 == 1) = true) (f4 : bits .or .u64 s U = 4294967295) (hk : (a1 % 32 + 1 == 32) = false) (kn : 0 ≤ a1 % 32 + 1) (t : Int) (t0 : 0 ≤ t) (ht : IntKind.i64.wrap (32 - (a1 % 32 + 1)) = t) (f5 : (s / 2 ^ (a1 % 32 + 1).toNat == (2 ^ min t.toNat 32 - 1) % 4294967296) = true) (w : World) :
    Calls Try.prog 3 #[.int .u32 a0, .int .u8 a1] w fun e w' => e = .returned (.bool true) ∧ ∃ m, w' = w.drewN m := by
  go_enter Try.func3, Try.ntmps3
  go_wp2_with fail
  refine (known_true _).mono ?_
  rintro e w1 ⟨rfl, hw1⟩
  go_wp2_with fail
  refine (hs _).mono ?_
  rintro e _ ⟨rfl, rfl⟩
  go_wp2_with fail
  refine (hz _).mono ?_
  rintro e _ ⟨rfl, rfl⟩
  go_wp2_with fail
  go_big_quiet (first | (go_at_call 5; refine Calls.quiet_of_same (hs' _)) | (go_at_call 6; refine Calls.quiet_of_same (hz' _)))
  go_wp2
  go_ret
  obtain ⟨m, rfl⟩ := hw1
  exact ⟨rfl, m + nq, by rw [World.drewN_drewN]⟩

theorem signs_walk (a0 a1 : Int) (v0 : 0 ≤ a0) (v1 : a0 < 4294967296) (n0 : 0 ≤ a1) (n1 : a1 < 256) (w : World) :
    Calls Try.prog 3 #[.int .u32 a0, .int .u8 a1] w fun e w' => e = .returned (.bool true) ∧ ∃ m, w' = w.drewN m := by
  have kc : clampW (a1 % 32 + 1) = (a1 % 32 + 1).toNat := clampW_mid _ (by omega) (by omega)
  have k0 : 1 ≤ (a1 % 32 + 1).toNat := by omega
  have k1 : (a1 % 32 + 1).toNat ≤ 32 := by omega
  have km : (a1 % 32 + 1).toNat - 1 = (a1 % 32).toNat := by omega
  have sb := signS_bounds a0 _ v0 v1 k0 k1
  have zb := zeroS_bounds a0 (a1 % 32 + 1).toNat v0 v1
  have hs := fun w => sign_c a0 (a1 % 32 + 1) (by omega) (by omega) v0 v1 w
  have hz := fun w => zero_c a0 (a1 % 32 + 1) (by omega) (by omega) v0 v1 w
  have hs' := fun w => sign_c (signS a0 (a1 % 32 + 1).toNat) (a1 % 32 + 1) (by omega) (by omega) sb.1 sb.2 w
  have hz' := fun w => zero_c (zeroS a0 (a1 % 32 + 1).toNat) (a1 % 32 + 1) (by omega) (by omega) zb.1 zb.2 w
  rw [kc] at hs hz hs' hz'
  rw [signS_again a0 _ v0 v1 k0 k1] at hs'
  rw [zeroS_again] at hz'
  have hup := up_eq _ k1
  have f1 := and_mask_u64 a0 _ v0 v1 k1
  have f2 := and_mask_u64 _ _ sb.1 sb.2 k1
  rw [signS_low a0 _ v0 v1 k0 k1] at f2
  have ww : ∀ x : Int, 0 ≤ x ∧ x < 4294967296 → IntKind.u64.wrap x = x := fun x hx => by rw [IntKind.wrap_u64]; omega
  have hi := high_iff a0 _ v0 v1 k0 k1
  rw [km] at hi
  have hq0 : 0 ≤ a0 / 2 ^ (a1 % 32).toNat := Int.ediv_nonneg v0 (Int.le_of_lt (Int.pow_pos (by decide)))
  have hq1 : a0 / 2 ^ (a1 % 32).toNat ≤ a0 := Int.ediv_le_self _ v0
  have hh := and1_u32 (a0 / 2 ^ (a1 % 32).toNat) hq0 (by omega)
  by_cases hb : a0 / 2 ^ (a1 % 32).toNat % 2 = 1
  · have hlow := hi.1 hb
    have sh := sign_high a0 _ v0 v1 k0 k1 (by rw [km]; exact hlow)
    have f4 := or_mask_u64 _ _ sb.1 sb.2 k1
    rw [sh, pow_parts _ k1] at f4
    by_cases hk : a1 % 32 = 31
    · exact signs_top a0 a1 _ _ _ v0 v1 n0 n1 sb.1 sb.2 zb.1 zb.2 hs hz hs' hz' hup f1 f2 (ww _ zb) (ww _ sb) (ww _ ⟨v0, v1⟩) (by rw [hh, hb]; rfl) f4 (by rw [hk]; rfl) w
    · have e31 : 32 - (a1 % 32 + 1).toNat = (31 - a1 % 32).toNat := by omega
      rw [e31] at sh
      have hp := pow_le32 (31 - a1 % 32).toNat (by omega)
      exact signs_high a0 a1 _ _ _ v0 v1 n0 n1 sb.1 sb.2 zb.1 zb.2 hs hz hs' hz' hup f1 f2 (ww _ zb) (ww _ sb) (ww _ ⟨v0, v1⟩) (by rw [hh, hb]; rfl) f4 (by simp; omega) (by omega) (31 - a1 % 32) (by omega)
        (by rw [IntKind.wrap_i64]; omega) (by rw [sh, Nat.min_eq_left (by omega)]; simp; omega) w
  · have hlow : a0 % 2 ^ (a1 % 32 + 1).toNat < 2 ^ ((a1 % 32 + 1).toNat - 1) := by
      rw [km]
      exact Classical.byContradiction fun h => hb (hi.2 h)
    have f3 : signS a0 (a1 % 32 + 1).toNat = zeroS a0 (a1 % 32 + 1).toNat := by
      unfold signS zeroS
      rw [if_pos hlow]
    exact signs_low a0 a1 _ _ _ v0 v1 n0 n1 sb.1 sb.2 zb.1 zb.2 hs hz hs' hz' hup f1 f2 (ww _ zb) (ww _ sb) (ww _ ⟨v0, v1⟩) (by rw [hh]; simpa using hb) (by simpa using f3) w
end Go.Proofs.Ytoidmnhghklicab
