/- Plain: masks of so many ones. No Go in sight. -/
import Derived.Test.YtigmekboikgoaaaBits
namespace Go.Proofs.Ytigmekboikgoaaa
open Go.RowKit
set_option linter.unusedVariables false
set_option linter.unusedSimpArgs false

/-! ### plain -/
theorem pow_le32 (k : Nat) (h : k ≤ 32) : (1 : Int) ≤ 2 ^ k ∧ (2 : Int) ^ k ≤ 4294967296 := by
  refine ⟨Int.pow_pos (by decide), ?_⟩
  rw [show (4294967296 : Int) = 2 ^ 32 by decide, pow_split 32 k h]
  have h1 : (1 : Int) ≤ 2 ^ (32 - k) := Int.pow_pos (by decide)
  have h2 : (0 : Int) < 2 ^ k := Int.pow_pos (by decide)
  have := Int.mul_le_mul_of_nonneg_right h1 (Int.le_of_lt h2)
  omega
theorem up_eq (k : Nat) (h : k ≤ 32) : IntKind.u64.wrap (IntKind.u64.wrap (2 ^ k) - 1) = 2 ^ k - 1 := by
  have := pow_le32 k h
  rw [IntKind.wrap_u64, IntKind.wrap_u64]
  omega
theorem mask_toNat (k : Nat) : ((2 : Int) ^ k - 1).toNat = 2 ^ k - 1 := by
  have e : (2 : Int) ^ k = ((2 ^ k : Nat) : Int) := by simp
  rw [e]
  omega
theorem and_mask_u64 (x : Int) (k : Nat) (x0 : 0 ≤ x) (x1 : x < 4294967296) (h : k ≤ 32) : bits .and .u64 x (2 ^ k - 1) = x % 2 ^ k := by
  have hp := pow_le32 k h
  rw [u64_and _ _ x0 (by omega) (by omega) (by omega), mask_toNat, Nat.and_two_pow_sub_one_eq_mod]
  obtain ⟨X, rfl⟩ := Int.eq_ofNat_of_zero_le x0
  simp
theorem or_mask_nat (x k : Nat) : x ||| (2 ^ k - 1) = x / 2 ^ k * 2 ^ k + (2 ^ k - 1) := by
  have hp : 0 < 2 ^ k := Nat.two_pow_pos k
  have h1 : (x ||| (2 ^ k - 1)) % 2 ^ k = x % 2 ^ k ||| (2 ^ k - 1) % 2 ^ k := Nat.or_mod_two_pow
  have h2 : (x ||| (2 ^ k - 1)) / 2 ^ k = x / 2 ^ k ||| (2 ^ k - 1) / 2 ^ k := Nat.or_div_two_pow
  rw [Nat.div_eq_of_lt (show 2 ^ k - 1 < 2 ^ k by omega), Nat.or_zero] at h2
  rw [Nat.mod_eq_of_lt (show 2 ^ k - 1 < 2 ^ k by omega)] at h1
  have h3 : x % 2 ^ k ||| (2 ^ k - 1) = 2 ^ k - 1 := by
    apply Nat.eq_of_testBit_eq
    intro i
    rw [Nat.testBit_or, Nat.testBit_two_pow_sub_one, Nat.testBit_mod_two_pow]
    by_cases hi : i < k <;> simp [hi]
  rw [h3] at h1
  have h4 := Nat.div_add_mod (x ||| (2 ^ k - 1)) (2 ^ k)
  rw [h1, h2, Nat.mul_comm] at h4
  omega
theorem or_mask_u64 (x : Int) (k : Nat) (x0 : 0 ≤ x) (x1 : x < 4294967296) (h : k ≤ 32) : bits .or .u64 x (2 ^ k - 1) = x / 2 ^ k * 2 ^ k + (2 ^ k - 1) := by
  have hp := pow_le32 k h
  rw [u64_or _ _ x0 (by omega) (by omega) (by omega), mask_toNat, or_mask_nat]
  obtain ⟨X, rfl⟩ := Int.eq_ofNat_of_zero_le x0
  have e : (2 : Int) ^ k = ((2 ^ k : Nat) : Int) := by simp
  have hk : 1 ≤ 2 ^ k := Nat.two_pow_pos k
  rw [e]
  simp only [Int.toNat_natCast]
  rw [Int.natCast_add, Int.natCast_mul, Int.natCast_ediv, Int.ofNat_sub hk]
  rfl

theorem signS_low (v : Int) (k : Nat) (v0 : 0 ≤ v) (v1 : v < 4294967296) (k0 : 1 ≤ k) (k1 : k ≤ 32) : signS v k % 2 ^ k = zeroS v k := by
  unfold signS zeroS
  rcases upto32 k k0 k1 with h | h | h | h | h | h | h | h | h | h | h | h | h | h | h | h | h | h | h | h | h | h | h | h | h | h | h | h | h | h | h | h <;> subst h <;> simp <;> (try split) <;> omega
theorem signS_again (v : Int) (k : Nat) (v0 : 0 ≤ v) (v1 : v < 4294967296) (k0 : 1 ≤ k) (k1 : k ≤ 32) : signS (signS v k) k = signS v k := by
  have h := signS_low v k v0 v1 k0 k1
  unfold zeroS at h
  have e : ∀ x : Int, x % 2 ^ k = v % 2 ^ k → signS x k = signS v k := by
    intro x hx
    unfold signS
    rw [hx]
  exact e _ h
theorem zeroS_again (v : Int) (k : Nat) : zeroS (zeroS v k) k = zeroS v k := by
  unfold zeroS
  exact Int.emod_emod_of_dvd _ (Int.dvd_refl _)
theorem high_iff (v : Int) (k : Nat) (v0 : 0 ≤ v) (v1 : v < 4294967296) (k0 : 1 ≤ k) (k1 : k ≤ 32) : v / 2 ^ (k - 1) % 2 = 1 ↔ ¬ v % 2 ^ k < 2 ^ (k - 1) := by
  rcases upto32 k k0 k1 with h | h | h | h | h | h | h | h | h | h | h | h | h | h | h | h | h | h | h | h | h | h | h | h | h | h | h | h | h | h | h | h <;> subst h <;> simp <;> omega
theorem sign_high (v : Int) (k : Nat) (v0 : 0 ≤ v) (v1 : v < 4294967296) (k0 : 1 ≤ k) (k1 : k ≤ 32) (h : ¬ v % 2 ^ k < 2 ^ (k - 1)) : signS v k / 2 ^ k = 2 ^ (32 - k) - 1 := by
  unfold signS
  rw [if_neg h]
  rcases upto32 k k0 k1 with h | h | h | h | h | h | h | h | h | h | h | h | h | h | h | h | h | h | h | h | h | h | h | h | h | h | h | h | h | h | h | h <;> subst h <;> simp <;> omega
theorem pow_parts (k : Nat) (k1 : k ≤ 32) : ((2 : Int) ^ (32 - k) - 1) * 2 ^ k + (2 ^ k - 1) = 4294967295 := by
  rw [Int.sub_mul, ← pow_split 32 k k1]
  simp
  omega


theorem mask32_u64 (x : Int) (x0 : 0 ≤ x) (x1 : x < 18446744073709551616) : bits .and .u64 x 4294967295 = x % 4294967296 := by
  rw [u64_and _ _ x0 x1 (by omega) (by omega), show (4294967295 : Int).toNat = 4294967295 from rfl, nat_mask32]
  omega
theorem and_top (v : Int) (v0 : 0 ≤ v) (v1 : v < 4294967296) : bits .and .u32 v 2147483648 = v / 2147483648 * 2147483648 := by
  rw [u32_and _ _ v0 v1 (by omega) (by omega), show (2147483648 : Int).toNat = 2 ^ 31 from rfl, nat_bit]
  omega
theorem asr_one (v : Int) (v0 : 0 ≤ v) (v1 : v < 4294967296) : bits .or .u32 (v / 2) (v / 2147483648 * 2147483648) = v / 2 + v / 2147483648 * 2147483648 := by
  have h : v / 2147483648 = 0 ∨ v / 2147483648 = 1 := by omega
  rcases h with h | h
  · rw [h, u32_or _ _ (by omega) (by omega) (by omega) (by omega)]
    simp
    omega
  · rw [h]
    have e : bits .or .u32 (v / 2) (1 * 2147483648) = (oneS 5 (v, true)).1 := rrx_true v v0 v1
    rw [e]
    simp [oneS, carryN]
theorem ror_one (v : Int) (v0 : 0 ≤ v) (v1 : v < 4294967296) : bits .or .u32 (v / 2) (v * 2147483648 % 4294967296) = v / 2 + v % 2 * 2147483648 := by
  have e : v * 2147483648 % 4294967296 = v % 2 * 2147483648 := by omega
  rw [e]
  have h : v % 2 = 0 ∨ v % 2 = 1 := by omega
  rcases h with h | h
  · rw [h, u32_or _ _ (by omega) (by omega) (by omega) (by omega)]
    simp
    omega
  · rw [h]
    have e : bits .or .u32 (v / 2) (1 * 2147483648) = (oneS 5 (v, true)).1 := rrx_true v v0 v1
    rw [e]
    simp [oneS, carryN]
theorem ret3_eq {a a' : Int} {b b' c c' : Bool} (h1 : a = a') (h2 : b = b') (h3 : c = c') : Ending.returned (.tuple #[.int .u32 a, .bool b, .bool c]) = Ending.returned (.tuple #[.int .u32 a', .bool b', .bool c']) := by
  subst h1 h2 h3; rfl
theorem ret2_eq {a a' : Int} {b b' : Bool} (h1 : a = a') (h2 : b = b') : Ending.returned (.tuple #[.int .u32 a, .bool b]) = Ending.returned (.tuple #[.int .u32 a', .bool b']) := by
  subst h1 h2; rfl
theorem ret2i_eq {a a' : Int} {b b' : Int} (h1 : a = a') (h2 : b = b') : Ending.returned (.tuple #[.int .u32 a, .int .u32 b]) = Ending.returned (.tuple #[.int .u32 a', .int .u32 b']) := by
  subst h1 h2; rfl

/-- what the walk shows of the reference's Rev -/
theorem refRev_eq (a : Int) (a0 : 0 ≤ a) (a1 : a < 4294967296) :
    bits .or .u32 (bits .or .u32 (bits .or .u32 (a * 16777216 % 4294967296) (bits .and .u32 (a / 256) 255 * 65536 % 4294967296)) (bits .and .u32 (a / 65536) 255 * 256 % 4294967296)) (a / 16777216) = ofB revB a := by
  obtain ⟨b, rfl⟩ := bv_of a a0 a1
  rw [ofB_nat]
  rw [show (16777216 : Int) = 2 ^ 24 by decide, show (65536 : Int) = 2 ^ 16 by decide, show (256 : Int) = 2 ^ 8 by decide, show (255 : Int) = ((255 : Nat) : Int) from rfl]
  rw [bv_shl b 24, bv_shr b 8, bv_shr b 16, bv_shr b 24, bv_andl _ 255 (by decide), bv_andl _ 255 (by decide), bv_shl _ 16, bv_shl _ 8, bv_or, bv_or, bv_or]
  congr 2
  apply BitVec.eq_of_getLsbD_eq
  intro i hi
  rw [revB_bit b i hi]
  rcases upto32 (i + 1) (by omega) (by omega) with h | h | h | h | h | h | h | h | h | h | h | h | h | h | h | h | h | h | h | h | h | h | h | h | h | h | h | h | h | h | h | h <;>
    (have h' : i = _ := Nat.succ.inj h
     subst h'
     simp)
theorem refRev16_eq (a : Int) (a0 : 0 ≤ a) (a1 : a < 4294967296) :
    bits .or .u32 (bits .or .u32 (bits .or .u32 (bits .and .u32 a 255 * 256 % 4294967296) (bits .and .u32 (a / 256) 255)) (bits .and .u32 (a / 65536) 255 * 16777216 % 4294967296)) (a / 16777216 * 65536) = ofB rev16B a := by
  obtain ⟨b, rfl⟩ := bv_of a a0 a1
  rw [ofB_nat]
  have e : ((b.toNat : Int) / 16777216 * 65536) = (b.toNat : Int) / 16777216 * 65536 % 4294967296 := by
    have := b.isLt
    omega
  rw [e]
  rw [show (16777216 : Int) = 2 ^ 24 by decide, show (65536 : Int) = 2 ^ 16 by decide, show (256 : Int) = 2 ^ 8 by decide, show (255 : Int) = ((255 : Nat) : Int) from rfl]
  rw [bv_shr b 8, bv_shr b 16, bv_shr b 24, bv_andl _ 255 (by decide), bv_andl _ 255 (by decide), bv_andl _ 255 (by decide), bv_shl _ 8, bv_shl _ 24, bv_shl _ 16, bv_or, bv_or, bv_or]
  congr 2
  apply BitVec.eq_of_getLsbD_eq
  intro i hi
  rw [rev16B_bit b i hi]
  rcases upto32 (i + 1) (by omega) (by omega) with h | h | h | h | h | h | h | h | h | h | h | h | h | h | h | h | h | h | h | h | h | h | h | h | h | h | h | h | h | h | h | h <;>
    (have h' : i = _ := Nat.succ.inj h
     subst h'
     simp)
theorem signS_mod (x y : Int) (k : Nat) (h : x % 2 ^ k = y % 2 ^ k) : signS x k = signS y k := by
  unfold signS
  rw [h]
theorem refRevsh_low (a : Int) (a0 : 0 ≤ a) (a1 : a < 4294967296) :
    bits .or .u32 (bits .and .u32 a 255 * 256 % 4294967296) (bits .and .u32 (a / 256) 255) % 65536 = ofB rev16B a % 65536 := by
  obtain ⟨b, rfl⟩ := bv_of a a0 a1
  rw [ofB_nat]
  rw [show (256 : Int) = 2 ^ 8 by decide, show (255 : Int) = ((255 : Nat) : Int) from rfl]
  rw [bv_shr b 8, bv_andl _ 255 (by decide), bv_andl _ 255 (by decide), bv_shl _ 8, bv_or]
  have key : ∀ x y : BitVec 32, (∀ i, i < 16 → x.getLsbD i = y.getLsbD i) → (x.toNat : Int) % 65536 = (y.toNat : Int) % 65536 := by
    intro x y h
    have h2 : x.toNat % 2 ^ 16 = y.toNat % 2 ^ 16 := by
      apply Nat.eq_of_testBit_eq
      intro i
      rw [Nat.testBit_mod_two_pow, Nat.testBit_mod_two_pow]
      by_cases hi : i < 16
      · have := h i hi
        rw [BitVec.getLsbD, BitVec.getLsbD] at this
        rw [this]
      · simp [hi]
    omega
  apply key
  intro i hi
  rw [rev16B_bit b i (by omega)]
  rcases upto32 (i + 1) (by omega) (by omega) with h | h | h | h | h | h | h | h | h | h | h | h | h | h | h | h | h | h | h | h | h | h | h | h | h | h | h | h | h | h | h | h <;>
    (have h' : i = _ := Nat.succ.inj h
     subst h'
     first | (exfalso; omega) | simp)
end Go.Proofs.Ytigmekboikgoaaa
