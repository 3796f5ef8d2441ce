/- The contracts of the reference's Sign, Revsh, Clz, Rbit (package sourdineref1), walked. -/
import Derived.Test.YtigmekboikgoaaaRefs2
namespace Go.Proofs.Ytigmekboikgoaaa
open Go.ChangeShapes Go.WideShapes Go.ChangeAt Go.RowKit
set_option linter.unusedVariables false
set_option linter.unusedSimpArgs false

/-! ### Sign -/
theorem not64_eq (b : Int) (b0 : 0 ≤ b) (b1 : b < 18446744073709551616) : bits .xor .u64 IntKind.u64.max b = 18446744073709551615 - b := by
  rw [show IntKind.u64.max = 18446744073709551615 by decide]
  obtain ⟨B, rfl⟩ := Int.eq_ofNat_of_zero_le b0
  have h := u64_xor_nat 18446744073709551615 B (by omega) (by omega)
  rw [show (((18446744073709551615 : Nat)) : Int) = 18446744073709551615 from rfl] at h
  rw [h]
  have e : (BitVec.allOnes 64 ^^^ BitVec.ofNat 64 B).toNat = 18446744073709551615 ^^^ B := by
    rw [BitVec.toNat_xor, BitVec.toNat_ofNat, Nat.mod_eq_of_lt (by omega)]
    rfl
  rw [← e, BitVec.allOnes_xor, BitVec.toNat_not, BitVec.toNat_ofNat, Nat.mod_eq_of_lt (by omega)]
  omega
theorem sgn_or (z : Int) (n : Nat) (z0 : 0 ≤ z) (z1 : z < 2 ^ n) (hn : n ≤ 32) : bits .or .u64 z (18446744073709551615 - (2 ^ n - 1)) = z + (18446744073709551616 - 2 ^ n) := by
  have hp := pow_le32 n hn
  have e64 : (18446744073709551616 : Int) = 2 ^ (64 - n) * 2 ^ n := by rw [← pow_split 64 n (by omega)]; decide
  rw [show (18446744073709551615 : Int) - (2 ^ n - 1) = 18446744073709551616 - 2 ^ n by omega]
  rw [u64_or z _ z0 (by omega) (by omega) (by omega), Nat.or_comm]
  have hmod : (18446744073709551616 - (2 : Int) ^ n) % 2 ^ n = 0 := by
    rw [e64]
    have : (2 : Int) ^ (64 - n) * 2 ^ n - 2 ^ n = (2 ^ (64 - n) - 1) * 2 ^ n := by rw [Int.sub_mul]; simp
    rw [this]
    exact Int.mul_emod_left _ _
  obtain ⟨Z, rfl⟩ := Int.eq_ofNat_of_zero_le z0
  obtain ⟨M, hM⟩ := Int.eq_ofNat_of_zero_le (show 0 ≤ 18446744073709551616 - (2 : Int) ^ n by omega)
  rw [hM] at hmod ⊢
  have e : ((2 : Int) ^ n) = ((2 ^ n : Nat) : Int) := by simp
  rw [e] at z1 hmod
  simp only [Int.toNat_natCast]
  rw [nat_join n M Z (by exact_mod_cast hmod) (by exact_mod_cast z1)]
  simp
  omega
theorem sgn_high (v : Int) (n : Nat) (v0 : 0 ≤ v) (v1 : v < 4294967296) (k0 : 1 ≤ n) (k1 : n ≤ 32) (h : zeroS v n / 2 ^ (n - 1) % 2 = 1) :
    (zeroS v n + (18446744073709551616 - 2 ^ n)) % 4294967296 = signS v n := by
  unfold zeroS at h ⊢
  unfold signS
  rcases upto32 n k0 k1 with h' | h' | h' | h' | h' | h' | h' | h' | h' | h' | h' | h' | h' | h' | h' | h' | h' | h' | h' | h' | h' | h' | h' | h' | h' | h' | h' | h' | h' | h' | h' | h' <;> subst h' <;> simp at h ⊢ <;> (try rw [if_neg (by omega)]) <;> omega
theorem sgn_low (v : Int) (n : Nat) (v0 : 0 ≤ v) (v1 : v < 4294967296) (k0 : 1 ≤ n) (k1 : n ≤ 32) (h : ¬ zeroS v n / 2 ^ (n - 1) % 2 = 1) :
    zeroS v n = signS v n := by
  unfold zeroS at h ⊢
  unfold signS
  rcases upto32 n k0 k1 with h' | h' | h' | h' | h' | h' | h' | h' | h' | h' | h' | h' | h' | h' | h' | h' | h' | h' | h' | h' | h' | h' | h' | h' | h' | h' | h' | h' | h' | h' | h' | h' <;> subst h' <;> simp at h ⊢ <;> (try rw [if_pos (by omega)]) <;> (try omega)
theorem zeroS_lt (v : Int) (n : Nat) : zeroS v n < 2 ^ n := Int.emod_lt_of_pos _ (Int.pow_pos (by decide))

theorem rSign_mid (v k : Int) (h0 : 1 ≤ k) (h1 : k ≤ 32) (v0 : 0 ≤ v) (v1 : v < 4294967296) (w : World) :
    Calls Try.prog 64 #[.int .u32 v, .int .i64 k] w fun e w' => e = .returned (.int .u32 (signS v k.toNat)) ∧ w' = w := by
  have hz := rZero_c v k (by omega) (by omega) v0 v1 w
  rw [clampW_mid k h0 h1] at hz
  have zb := zeroS_bounds v k.toNat v0 v1
  have hbit := bit_c (zeroS v k.toNat) (k - 1) zb.1 zb.2 (by omega) (by omega) w
  have hp := pow_le32 k.toNat (by omega)
  have kn : 0 ≤ k := by omega
  rw [show (k - 1).toNat = k.toNat - 1 by omega] at hbit
  by_cases hb : zeroS v k.toNat / 2 ^ (k.toNat - 1) % 2 = 1
  · have hs := sgn_high v k.toNat v0 v1 (by omega) (by omega) hb
    have ho := sgn_or (zeroS v k.toNat) k.toNat zb.1 (zeroS_lt _ _) (by omega)
    have hm := mask32_u64 (zeroS v k.toNat + (18446744073709551616 - 2 ^ k.toNat)) (by omega) (by have := zeroS_lt v k.toNat; omega)
    rw [hs] at hm
    have hx := not64_eq (2 ^ k.toNat - 1) (by omega) (by omega)
    rw [← up_eq k.toNat (by omega)] at hx ho
    have sb := signS_bounds v k.toNat v0 v1 (by omega) (by omega)
    have ht : (zeroS v k.toNat / 2 ^ (k.toNat - 1) % 2 == 1) = true := by rw [hb]; rfl
    rw [ht] at hbit
    clear hs hb ht hp
    generalize zeroS v k.toNat + (18446744073709551616 - 2 ^ k.toNat) = zz at *
    generalize zeroS v k.toNat = z at *
    generalize signS v k.toNat = r at *
    generalize hU : IntKind.u64.wrap (IntKind.u64.wrap (2 ^ k.toNat) - 1) = U at *
    generalize 18446744073709551615 - U = NU at *
    obtain ⟨z0, z1⟩ := zb
    obtain ⟨s0, s1⟩ := sb
    go_enter Try.func64, Try.ntmps64
    go_wp2_with (first | (go_at_call 90; refine hz.mono ?_; rintro e w' ⟨rfl, rfl⟩) | (go_at_call 91; refine hbit.mono ?_; rintro e w' ⟨rfl, rfl⟩))
    go_ret
    exact ⟨congrArg (fun x => Ending.returned (Value.int IntKind.u32 x)) (Int.emod_eq_of_lt s0 s1), rfl⟩
  · have hs := sgn_low v k.toNat v0 v1 (by omega) (by omega) hb
    rw [← hs]
    have ht : (zeroS v k.toNat / 2 ^ (k.toNat - 1) % 2 == 1) = false := by simpa using hb
    rw [ht] at hbit
    clear hs hb ht hp
    generalize zeroS v k.toNat = z at *
    obtain ⟨z0, z1⟩ := zb
    go_enter Try.func64, Try.ntmps64
    go_wp2_with (first | (go_at_call 90; refine hz.mono ?_; rintro e w' ⟨rfl, rfl⟩) | (go_at_call 91; refine hbit.mono ?_; rintro e w' ⟨rfl, rfl⟩))
    go_ret
    exact ⟨rfl, rfl⟩

theorem rSign_low (v k : Int) (h0 : k < 1) (h1 : -9223372036854775808 ≤ k) (v0 : 0 ≤ v) (v1 : v < 4294967296) (w : World) :
    Calls Try.prog 64 #[.int .u32 v, .int .i64 k] w fun e w' => e = .returned (.int .u32 (signS v 1)) ∧ w' = w := by
  have hz := rZero_c v 1 (by decide) (by decide) v0 v1 w
  rw [clampW_mid 1 (by decide) (by decide), show (1 : Int).toNat = 1 from rfl] at hz
  have zb := zeroS_bounds v 1 v0 v1
  have hbit := bit0_c (zeroS v 1) zb.1 zb.2 w
  by_cases hb : zeroS v 1 % 2 = 1
  · have hs := sgn_high v 1 v0 v1 (by decide) (by decide) (by have := zeroS_lt v 1; simp at this ⊢; omega)
    have ho := sgn_or (zeroS v 1) 1 zb.1 (zeroS_lt _ _) (by decide)
    have hm := mask32_u64 (zeroS v 1 + (18446744073709551616 - 2 ^ 1)) (by omega) (by have := zeroS_lt v 1; omega)
    rw [hs] at hm
    rw [show (18446744073709551615 : Int) - (2 ^ 1 - 1) = 18446744073709551614 by decide] at ho
    have hx : bits .xor .u64 IntKind.u64.max 1 = 18446744073709551614 := not64_eq 1 (by decide) (by decide)
    have sb := signS_bounds v 1 v0 v1 (by decide) (by decide)
    have ht : (zeroS v 1 % 2 == 1) = true := by rw [hb]; rfl
    rw [ht] at hbit
    clear hs hb ht
    generalize zeroS v 1 + (18446744073709551616 - 2 ^ 1) = zz at *
    generalize zeroS v 1 = z at *
    generalize signS v 1 = r at *
    obtain ⟨z0, z1⟩ := zb
    obtain ⟨s0, s1⟩ := sb
    go_enter Try.func64, Try.ntmps64
    go_wp2_with (first | (go_at_call 90; refine hz.mono ?_; rintro e w' ⟨rfl, rfl⟩) | (go_at_call 91; refine hbit.mono ?_; rintro e w' ⟨rfl, rfl⟩))
    go_ret
    exact ⟨congrArg (fun x => Ending.returned (Value.int IntKind.u32 x)) (Int.emod_eq_of_lt s0 s1), rfl⟩
  · have hs := sgn_low v 1 v0 v1 (by decide) (by decide) (by have := zeroS_lt v 1; simp at this ⊢; omega)
    rw [← hs]
    have ht : (zeroS v 1 % 2 == 1) = false := by simpa using hb
    rw [ht] at hbit
    clear hs hb ht
    generalize zeroS v 1 = z at *
    obtain ⟨z0, z1⟩ := zb
    go_enter Try.func64, Try.ntmps64
    go_wp2_with (first | (go_at_call 90; refine hz.mono ?_; rintro e w' ⟨rfl, rfl⟩) | (go_at_call 91; refine hbit.mono ?_; rintro e w' ⟨rfl, rfl⟩))
    go_ret
    exact ⟨rfl, rfl⟩

theorem rSign_high (v k : Int) (h0 : 32 < k) (h1 : k ≤ 9223372036854775807) (v0 : 0 ≤ v) (v1 : v < 4294967296) (w : World) :
    Calls Try.prog 64 #[.int .u32 v, .int .i64 k] w fun e w' => e = .returned (.int .u32 (signS v 32)) ∧ w' = w := by
  have hz := rZero_c v 32 (by decide) (by decide) v0 v1 w
  rw [clampW_mid 32 (by decide) (by decide), show (32 : Int).toNat = 32 from rfl] at hz
  have zb := zeroS_bounds v 32 v0 v1
  have hbit := bit31_c (zeroS v 32) zb.1 zb.2 w
  by_cases hb : zeroS v 32 / 2147483648 = 1
  · have hs := sgn_high v 32 v0 v1 (by decide) (by decide) (by have := zeroS_lt v 32; simp at this ⊢; omega)
    have ho := sgn_or (zeroS v 32) 32 zb.1 (zeroS_lt _ _) (by decide)
    have hm := mask32_u64 (zeroS v 32 + (18446744073709551616 - 2 ^ 32)) (by omega) (by have := zeroS_lt v 32; omega)
    rw [hs] at hm
    rw [show (18446744073709551615 : Int) - (2 ^ 32 - 1) = 18446744069414584320 by decide] at ho
    have hx : bits .xor .u64 IntKind.u64.max 4294967295 = 18446744069414584320 := not64_eq 4294967295 (by decide) (by decide)
    have sb := signS_bounds v 32 v0 v1 (by decide) (by decide)
    have ht : (zeroS v 32 / 2147483648 == 1) = true := by rw [hb]; rfl
    rw [ht] at hbit
    clear hs hb ht
    generalize zeroS v 32 + (18446744073709551616 - 2 ^ 32) = zz at *
    generalize zeroS v 32 = z at *
    generalize signS v 32 = r at *
    obtain ⟨z0, z1⟩ := zb
    obtain ⟨s0, s1⟩ := sb
    go_enter Try.func64, Try.ntmps64
    go_wp2_with (first | (go_at_call 90; refine hz.mono ?_; rintro e w' ⟨rfl, rfl⟩) | (go_at_call 91; refine hbit.mono ?_; rintro e w' ⟨rfl, rfl⟩))
    go_ret
    exact ⟨congrArg (fun x => Ending.returned (Value.int IntKind.u32 x)) (Int.emod_eq_of_lt s0 s1), rfl⟩
  · have hs := sgn_low v 32 v0 v1 (by decide) (by decide) (by have := zeroS_lt v 32; simp at this ⊢; omega)
    rw [← hs]
    have ht : (zeroS v 32 / 2147483648 == 1) = false := by simpa using hb
    rw [ht] at hbit
    clear hs hb ht
    generalize zeroS v 32 = z at *
    obtain ⟨z0, z1⟩ := zb
    go_enter Try.func64, Try.ntmps64
    go_wp2_with (first | (go_at_call 90; refine hz.mono ?_; rintro e w' ⟨rfl, rfl⟩) | (go_at_call 91; refine hbit.mono ?_; rintro e w' ⟨rfl, rfl⟩))
    go_ret
    exact ⟨rfl, rfl⟩

theorem rSign_c (v k : Int) (h0 : -9223372036854775808 ≤ k) (h1 : k ≤ 9223372036854775807) (v0 : 0 ≤ v) (v1 : v < 4294967296) (w : World) :
    Calls Try.prog 64 #[.int .u32 v, .int .i64 k] w fun e w' => e = .returned (.int .u32 (signS v (clampW k))) ∧ w' = w := by
  rcases (show k < 1 ∨ 32 < k ∨ (1 ≤ k ∧ k ≤ 32) by omega) with c | c | ⟨c, c'⟩
  · rw [clampW_low k c]; exact rSign_low v k c h0 v0 v1 w
  · rw [clampW_high k c]; exact rSign_high v k c h1 v0 v1 w
  · rw [clampW_mid k c c']; exact rSign_mid v k c c' v0 v1 w

theorem clz_unique (v : Int) (k : Nat) (v0 : 0 ≤ v) (v1 : v < 4294967296) (hk : k ≤ 32) (h1 : v < 2 ^ (32 - k)) (h2 : k = 32 ∨ v / 2 ^ (31 - k) % 2 = 1) : clzS v = k := by
  unfold clzS
  rcases h2 with h2 | h2
  · subst h2
    have : v = 0 := by simp at h1; omega
    subst this
    rfl
  · by_cases k32 : k = 32
    · subst k32
      simp at h1 h2
      omega
    have hp : (0 : Int) < 2 ^ (31 - k) := Int.pow_pos (by decide)
    have hge : 2 ^ (31 - k) ≤ v := by
      apply Classical.byContradiction
      intro hlt
      rw [Int.ediv_eq_zero_of_lt v0 (by omega)] at h2
      simp at h2
    obtain ⟨V, rfl⟩ := Int.eq_ofNat_of_zero_le v0
    have hge' : 2 ^ (31 - k) ≤ V := by exact_mod_cast hge
    have hlt' : V < 2 ^ (32 - k) := by exact_mod_cast h1
    have hpn : 0 < 2 ^ (31 - k) := Nat.two_pow_pos _
    obtain ⟨a, b, c⟩ := bitLen_range 32 V (by omega) (by decide) (by omega)
    simp only [Int.toNat_natCast]
    have e : Lib.bitLen V = 32 - k := by
      apply Nat.le_antisymm
      · apply Classical.byContradiction
        intro hn
        have : 2 ^ (32 - k) ≤ 2 ^ (Lib.bitLen V - 1) := Nat.pow_le_pow_right (by decide) (by omega)
        omega
      · apply Classical.byContradiction
        intro hn
        have : 2 ^ Lib.bitLen V ≤ 2 ^ (31 - k) := Nat.pow_le_pow_right (by decide) (by omega)
        omega
    rw [e]
    omega
theorem clz_step (v : Int) (k : Nat) (v0 : 0 ≤ v) (hk : k < 32) (h1 : v < 2 ^ (32 - k)) (h2 : ¬ v / 2 ^ (31 - k) % 2 = 1) : v < 2 ^ (32 - (k + 1)) := by
  have e : (2 : Int) ^ (32 - k) = 2 ^ (31 - k) * 2 := by rw [← Int.pow_succ]; congr 1; omega
  rw [show 32 - (k + 1) = 31 - k by omega]
  have hp : (0 : Int) < 2 ^ (31 - k) := Int.pow_pos (by decide)
  rw [e] at h1
  have hm := Int.mul_ediv_add_emod v (2 ^ (31 - k))
  have hr := Int.emod_nonneg v (show (2 : Int) ^ (31 - k) ≠ 0 by omega)
  have hr' := Int.emod_lt_of_pos v hp
  have hq : 0 ≤ v / 2 ^ (31 - k) := Int.ediv_nonneg v0 (by omega)
  generalize v / 2 ^ (31 - k) = q at *
  generalize (2 : Int) ^ (31 - k) = p at *
  by_cases q2 : 2 ≤ q
  · have := Int.mul_le_mul_of_nonneg_left q2 (show 0 ≤ p by omega)
    omega
  · have q0 : q = 0 := by omega
    subst q0
    omega

def accR (v : Int) : Nat → Int
  | 0 => 0
  | n + 1 => accR v n * 2 + v / 2 ^ n % 2
theorem accR_bounds (v : Int) : ∀ n, 0 ≤ accR v n ∧ accR v n < 2 ^ n
  | 0 => by simp [accR]
  | n + 1 => by
    have := accR_bounds v n
    rw [Int.pow_succ]
    simp only [accR]
    omega
theorem accR_bit (v : Nat) : ∀ n i, i < n → (accR v n).toNat.testBit i = v.testBit (n - 1 - i)
  | 0, i, h => absurd h (Nat.not_lt_zero i)
  | n + 1, i, h => by
    have hb := accR_bounds v n
    have e : (accR (v : Int) (n + 1)).toNat = 2 * (accR (v : Int) n).toNat + v / 2 ^ n % 2 := by
      have e2 : ((v : Int) / 2 ^ n % 2) = ((v / 2 ^ n % 2 : Nat) : Int) := by simp
      show (accR (v : Int) n * 2 + (v : Int) / 2 ^ n % 2).toNat = _
      rw [e2]
      omega
    rw [e]
    cases i with
    | zero =>
      rw [Nat.testBit_zero, Nat.testBit_eq_decide_div_mod_eq]
      simp only [Nat.add_sub_cancel, Nat.sub_zero]
      congr 1
      rw [eq_iff_iff]
      omega
    | succ i =>
      rw [Nat.testBit_succ, show (2 * (accR (v : Int) n).toNat + v / 2 ^ n % 2) / 2 = (accR (v : Int) n).toNat by omega, accR_bit v n i (by omega)]
      congr 1
      omega
theorem accR_all (v : Int) (v0 : 0 ≤ v) (v1 : v < 4294967296) : accR v 32 = ofB rbitB v := by
  obtain ⟨b, rfl⟩ := bv_of v v0 v1
  rw [ofB_nat]
  have hb := accR_bounds (b.toNat : Int) 32
  have key : (accR (b.toNat : Int) 32).toNat = (rbitB b).toNat := by
    apply Nat.eq_of_testBit_eq
    intro i
    by_cases hi : i < 32
    · rw [accR_bit _ 32 i hi]
      have := rbitB_bit b i hi
      rw [BitVec.getLsbD, BitVec.getLsbD] at this
      rw [this]
    · rw [Nat.testBit_lt_two_pow (Nat.lt_of_lt_of_le (show (accR (b.toNat : Int) 32).toNat < 2 ^ 32 by simp at hb ⊢; omega) (Nat.pow_le_pow_right (by decide) (by omega))),
        Nat.testBit_lt_two_pow (Nat.lt_of_lt_of_le (rbitB b).isLt (Nat.pow_le_pow_right (by decide) (by omega)))]
  omega
theorem acc_or (x t : Int) (x0 : 0 ≤ x) (x1 : x < 2147483648) (t0 : 0 ≤ t) (t1 : t < 2) : bits .or .u32 (x * 2) t = x * 2 + t := by
  rw [or_join32 1 _ _ (by omega) (by omega) t0 (show x * 2 % 2 = 0 by omega) (show t < 2 from t1) (by omega)]

end Go.Proofs.Ytigmekboikgoaaa
