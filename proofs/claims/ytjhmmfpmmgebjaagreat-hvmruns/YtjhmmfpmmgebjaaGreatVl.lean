/- Plain: masks of so many ones. No Go in sight. -/
import Derived.Test.YtjhmmfpmmgebjaaGreatVc
namespace Go.Proofs.YtjhmmfpmmgebjaaGreat
open Go.RowKit
set_option linter.unusedVariables false
set_option linter.unusedSimpArgs false

/-! ### plain -/
theorem pow_le32 (k : Nat) (h : k ≤ 32) : (1 : Int) ≤ 2 ^ k ∧ (2 : Int) ^ k ≤ 4294967296 := by
  refine ⟨Int.pow_pos (by decide), ?_⟩
  rw [show (4294967296 : Int) = 2 ^ 32 by decide, pow_split 32 k h]
  have h1 : (1 : Int) ≤ 2 ^ (32 - k) := Int.pow_pos (by decide)
  have h2 : (0 : Int) < 2 ^ k := Int.pow_pos (by decide)
  have := Int.mul_le_mul_of_nonneg_right h1 (Int.le_of_lt h2)
  omega
theorem up_eq (k : Nat) (h : k ≤ 32) : IntKind.u64.wrap (IntKind.u64.wrap (2 ^ k) - 1) = 2 ^ k - 1 := by
  have := pow_le32 k h
  rw [IntKind.wrap_u64, IntKind.wrap_u64]
  omega
theorem mask_toNat (k : Nat) : ((2 : Int) ^ k - 1).toNat = 2 ^ k - 1 := by
  have e : (2 : Int) ^ k = ((2 ^ k : Nat) : Int) := by simp
  rw [e]
  omega
theorem and_mask_u64 (x : Int) (k : Nat) (x0 : 0 ≤ x) (x1 : x < 4294967296) (h : k ≤ 32) : bits .and .u64 x (2 ^ k - 1) = x % 2 ^ k := by
  have hp := pow_le32 k h
  rw [u64_and _ _ x0 (by omega) (by omega) (by omega), mask_toNat, Nat.and_two_pow_sub_one_eq_mod]
  obtain ⟨X, rfl⟩ := Int.eq_ofNat_of_zero_le x0
  simp
theorem or_mask_nat (x k : Nat) : x ||| (2 ^ k - 1) = x / 2 ^ k * 2 ^ k + (2 ^ k - 1) := by
  have hp : 0 < 2 ^ k := Nat.two_pow_pos k
  have h1 : (x ||| (2 ^ k - 1)) % 2 ^ k = x % 2 ^ k ||| (2 ^ k - 1) % 2 ^ k := Nat.or_mod_two_pow
  have h2 : (x ||| (2 ^ k - 1)) / 2 ^ k = x / 2 ^ k ||| (2 ^ k - 1) / 2 ^ k := Nat.or_div_two_pow
  rw [Nat.div_eq_of_lt (show 2 ^ k - 1 < 2 ^ k by omega), Nat.or_zero] at h2
  rw [Nat.mod_eq_of_lt (show 2 ^ k - 1 < 2 ^ k by omega)] at h1
  have h3 : x % 2 ^ k ||| (2 ^ k - 1) = 2 ^ k - 1 := by
    apply Nat.eq_of_testBit_eq
    intro i
    rw [Nat.testBit_or, Nat.testBit_two_pow_sub_one, Nat.testBit_mod_two_pow]
    by_cases hi : i < k <;> simp [hi]
  rw [h3] at h1
  have h4 := Nat.div_add_mod (x ||| (2 ^ k - 1)) (2 ^ k)
  rw [h1, h2, Nat.mul_comm] at h4
  omega
theorem or_mask_u64 (x : Int) (k : Nat) (x0 : 0 ≤ x) (x1 : x < 4294967296) (h : k ≤ 32) : bits .or .u64 x (2 ^ k - 1) = x / 2 ^ k * 2 ^ k + (2 ^ k - 1) := by
  have hp := pow_le32 k h
  rw [u64_or _ _ x0 (by omega) (by omega) (by omega), mask_toNat, or_mask_nat]
  obtain ⟨X, rfl⟩ := Int.eq_ofNat_of_zero_le x0
  have e : (2 : Int) ^ k = ((2 ^ k : Nat) : Int) := by simp
  have hk : 1 ≤ 2 ^ k := Nat.two_pow_pos k
  rw [e]
  simp only [Int.toNat_natCast]
  rw [Int.natCast_add, Int.natCast_mul, Int.natCast_ediv, Int.ofNat_sub hk]
  rfl

theorem signS_low (v : Int) (k : Nat) (v0 : 0 ≤ v) (v1 : v < 4294967296) (k0 : 1 ≤ k) (k1 : k ≤ 32) : signS v k % 2 ^ k = zeroS v k := by
  unfold signS zeroS
  rcases upto32 k k0 k1 with h | h | h | h | h | h | h | h | h | h | h | h | h | h | h | h | h | h | h | h | h | h | h | h | h | h | h | h | h | h | h | h <;> subst h <;> simp <;> (try split) <;> omega
theorem signS_again (v : Int) (k : Nat) (v0 : 0 ≤ v) (v1 : v < 4294967296) (k0 : 1 ≤ k) (k1 : k ≤ 32) : signS (signS v k) k = signS v k := by
  have h := signS_low v k v0 v1 k0 k1
  unfold zeroS at h
  have e : ∀ x : Int, x % 2 ^ k = v % 2 ^ k → signS x k = signS v k := by
    intro x hx
    unfold signS
    rw [hx]
  exact e _ h
theorem zeroS_again (v : Int) (k : Nat) : zeroS (zeroS v k) k = zeroS v k := by
  unfold zeroS
  exact Int.emod_emod_of_dvd _ (Int.dvd_refl _)
theorem high_iff (v : Int) (k : Nat) (v0 : 0 ≤ v) (v1 : v < 4294967296) (k0 : 1 ≤ k) (k1 : k ≤ 32) : v / 2 ^ (k - 1) % 2 = 1 ↔ ¬ v % 2 ^ k < 2 ^ (k - 1) := by
  rcases upto32 k k0 k1 with h | h | h | h | h | h | h | h | h | h | h | h | h | h | h | h | h | h | h | h | h | h | h | h | h | h | h | h | h | h | h | h <;> subst h <;> simp <;> omega
theorem sign_high (v : Int) (k : Nat) (v0 : 0 ≤ v) (v1 : v < 4294967296) (k0 : 1 ≤ k) (k1 : k ≤ 32) (h : ¬ v % 2 ^ k < 2 ^ (k - 1)) : signS v k / 2 ^ k = 2 ^ (32 - k) - 1 := by
  unfold signS
  rw [if_neg h]
  rcases upto32 k k0 k1 with h | h | h | h | h | h | h | h | h | h | h | h | h | h | h | h | h | h | h | h | h | h | h | h | h | h | h | h | h | h | h | h <;> subst h <;> simp <;> omega
theorem pow_parts (k : Nat) (k1 : k ≤ 32) : ((2 : Int) ^ (32 - k) - 1) * 2 ^ k + (2 ^ k - 1) = 4294967295 := by
  rw [Int.sub_mul, ← pow_split 32 k k1]
  simp
  omega


theorem mask32_u64 (x : Int) (x0 : 0 ≤ x) (x1 : x < 18446744073709551616) : bits .and .u64 x 4294967295 = x % 4294967296 := by
  rw [u64_and _ _ x0 x1 (by omega) (by omega), show (4294967295 : Int).toNat = 4294967295 from rfl, nat_mask32]
  omega
theorem and_top (v : Int) (v0 : 0 ≤ v) (v1 : v < 4294967296) : bits .and .u32 v 2147483648 = v / 2147483648 * 2147483648 := by
  rw [u32_and _ _ v0 v1 (by omega) (by omega), show (2147483648 : Int).toNat = 2 ^ 31 from rfl, nat_bit]
  omega
theorem asr_one (v : Int) (v0 : 0 ≤ v) (v1 : v < 4294967296) : bits .or .u32 (v / 2) (v / 2147483648 * 2147483648) = v / 2 + v / 2147483648 * 2147483648 := by
  have h : v / 2147483648 = 0 ∨ v / 2147483648 = 1 := by omega
  rcases h with h | h
  · rw [h, u32_or _ _ (by omega) (by omega) (by omega) (by omega)]
    simp
    omega
  · rw [h]
    have e : bits .or .u32 (v / 2) (1 * 2147483648) = (oneS 5 (v, true)).1 := rrx_true v v0 v1
    rw [e]
    simp [oneS, carryN]
theorem ror_one (v : Int) (v0 : 0 ≤ v) (v1 : v < 4294967296) : bits .or .u32 (v / 2) (v * 2147483648 % 4294967296) = v / 2 + v % 2 * 2147483648 := by
  have e : v * 2147483648 % 4294967296 = v % 2 * 2147483648 := by omega
  rw [e]
  have h : v % 2 = 0 ∨ v % 2 = 1 := by omega
  rcases h with h | h
  · rw [h, u32_or _ _ (by omega) (by omega) (by omega) (by omega)]
    simp
    omega
  · rw [h]
    have e : bits .or .u32 (v / 2) (1 * 2147483648) = (oneS 5 (v, true)).1 := rrx_true v v0 v1
    rw [e]
    simp [oneS, carryN]
theorem ret3_eq {a a' : Int} {b b' c c' : Bool} (h1 : a = a') (h2 : b = b') (h3 : c = c') : Ending.returned (.tuple #[.int .u32 a, .bool b, .bool c]) = Ending.returned (.tuple #[.int .u32 a', .bool b', .bool c']) := by
  subst h1 h2 h3; rfl
theorem ret2_eq {a a' : Int} {b b' : Bool} (h1 : a = a') (h2 : b = b') : Ending.returned (.tuple #[.int .u32 a, .bool b]) = Ending.returned (.tuple #[.int .u32 a', .bool b']) := by
  subst h1 h2; rfl
theorem ret2i_eq {a a' : Int} {b b' : Int} (h1 : a = a') (h2 : b = b') : Ending.returned (.tuple #[.int .u32 a, .int .u32 b]) = Ending.returned (.tuple #[.int .u32 a', .int .u32 b']) := by
  subst h1 h2; rfl

/-- what the walk shows of the reference's Rev -/
theorem refRev_eq (a : Int) (a0 : 0 ≤ a) (a1 : a < 4294967296) :
    bits .or .u32 (bits .or .u32 (bits .or .u32 (a * 16777216 % 4294967296) (bits .and .u32 (a / 256) 255 * 65536 % 4294967296)) (bits .and .u32 (a / 65536) 255 * 256 % 4294967296)) (a / 16777216) = ofB revB a := by
  obtain ⟨b, rfl⟩ := bv_of a a0 a1
  rw [ofB_nat]
  rw [show (16777216 : Int) = 2 ^ 24 by decide, show (65536 : Int) = 2 ^ 16 by decide, show (256 : Int) = 2 ^ 8 by decide, show (255 : Int) = ((255 : Nat) : Int) from rfl]
  rw [bv_shl b 24, bv_shr b 8, bv_shr b 16, bv_shr b 24, bv_andl _ 255 (by decide), bv_andl _ 255 (by decide), bv_shl _ 16, bv_shl _ 8, bv_or, bv_or, bv_or]
  congr 2
  apply BitVec.eq_of_getLsbD_eq
  intro i hi
  rw [revB_bit b i hi]
  rcases upto32 (i + 1) (by omega) (by omega) with h | h | h | h | h | h | h | h | h | h | h | h | h | h | h | h | h | h | h | h | h | h | h | h | h | h | h | h | h | h | h | h <;>
    (have h' : i = _ := Nat.succ.inj h
     subst h'
     simp)
theorem refRev16_eq (a : Int) (a0 : 0 ≤ a) (a1 : a < 4294967296) :
    bits .or .u32 (bits .or .u32 (bits .or .u32 (bits .and .u32 a 255 * 256 % 4294967296) (bits .and .u32 (a / 256) 255)) (bits .and .u32 (a / 65536) 255 * 16777216 % 4294967296)) (a / 16777216 * 65536) = ofB rev16B a := by
  obtain ⟨b, rfl⟩ := bv_of a a0 a1
  rw [ofB_nat]
  have e : ((b.toNat : Int) / 16777216 * 65536) = (b.toNat : Int) / 16777216 * 65536 % 4294967296 := by
    have := b.isLt
    omega
  rw [e]
  rw [show (16777216 : Int) = 2 ^ 24 by decide, show (65536 : Int) = 2 ^ 16 by decide, show (256 : Int) = 2 ^ 8 by decide, show (255 : Int) = ((255 : Nat) : Int) from rfl]
  rw [bv_shr b 8, bv_shr b 16, bv_shr b 24, bv_andl _ 255 (by decide), bv_andl _ 255 (by decide), bv_andl _ 255 (by decide), bv_shl _ 8, bv_shl _ 24, bv_shl _ 16, bv_or, bv_or, bv_or]
  congr 2
  apply BitVec.eq_of_getLsbD_eq
  intro i hi
  rw [rev16B_bit b i hi]
  rcases upto32 (i + 1) (by omega) (by omega) with h | h | h | h | h | h | h | h | h | h | h | h | h | h | h | h | h | h | h | h | h | h | h | h | h | h | h | h | h | h | h | h <;>
    (have h' : i = _ := Nat.succ.inj h
     subst h'
     simp)
theorem signS_mod (x y : Int) (k : Nat) (h : x % 2 ^ k = y % 2 ^ k) : signS x k = signS y k := by
  unfold signS
  rw [h]
theorem refRevsh_low (a : Int) (a0 : 0 ≤ a) (a1 : a < 4294967296) :
    bits .or .u32 (bits .and .u32 a 255 * 256 % 4294967296) (bits .and .u32 (a / 256) 255) % 65536 = ofB rev16B a % 65536 := by
  obtain ⟨b, rfl⟩ := bv_of a a0 a1
  rw [ofB_nat]
  rw [show (256 : Int) = 2 ^ 8 by decide, show (255 : Int) = ((255 : Nat) : Int) from rfl]
  rw [bv_shr b 8, bv_andl _ 255 (by decide), bv_andl _ 255 (by decide), bv_shl _ 8, bv_or]
  have key : ∀ x y : BitVec 32, (∀ i, i < 16 → x.getLsbD i = y.getLsbD i) → (x.toNat : Int) % 65536 = (y.toNat : Int) % 65536 := by
    intro x y h
    have h2 : x.toNat % 2 ^ 16 = y.toNat % 2 ^ 16 := by
      apply Nat.eq_of_testBit_eq
      intro i
      rw [Nat.testBit_mod_two_pow, Nat.testBit_mod_two_pow]
      by_cases hi : i < 16
      · have := h i hi
        rw [BitVec.getLsbD, BitVec.getLsbD] at this
        rw [this]
      · simp [hi]
    omega
  apply key
  intro i hi
  rw [rev16B_bit b i (by omega)]
  rcases upto32 (i + 1) (by omega) (by omega) with h | h | h | h | h | h | h | h | h | h | h | h | h | h | h | h | h | h | h | h | h | h | h | h | h | h | h | h | h | h | h | h <;>
    (have h' : i = _ := Nat.succ.inj h
     subst h'
     first | (exfalso; omega) | simp)
end Go.Proofs.YtjhmmfpmmgebjaaGreat
namespace Go.Proofs.YtjhmmfpmmgebjaaGreat
open Go.ChangeShapes Go.WideShapes Go.ChangeAt Go.RowKit
set_option linter.unusedVariables false
set_option linter.unusedSimpArgs false

theorem rMul_c (a b : Int) (s : Bool) (a0 : 0 ≤ a) (a1 : a < 4294967296) (b0 : 0 ≤ b) (b1 : b < 4294967296) (w : World) :
    Calls Tryz.prog 81 #[.int .u32 a, .int .u32 b, .bool s] w fun e w' => e = .returned (.tuple #[.int .u32 (mulS a b s % 4294967296), .int .u32 (mulS a b s / 4294967296 % 4294967296)]) ∧ w' = w := by
  cases s
  · have hq := mul_u a b
    have hm := mask32_u64 (mulS a b false) (by rw [← hq, IntKind.wrap_u64]; omega) (by rw [← hq, IntKind.wrap_u64]; omega)
    generalize mulS a b false = r at *
    go_enter Tryz.func81, Tryz.ntmps81
    go_wp2
    go_ret2
    refine ⟨ret2i_eq ?_ ?_, rfl⟩ <;> first | rfl | omega
  · have hq := mul_s a b
    have hm := mask32_u64 (mulS a b true) (by rw [← hq, IntKind.wrap_u64]; omega) (by rw [← hq, IntKind.wrap_u64]; omega)
    generalize mulS a b true = r at *
    go_enter Tryz.func81, Tryz.ntmps81
    go_wp2
    go_ret2
    refine ⟨ret2i_eq ?_ ?_, rfl⟩ <;> first | rfl | omega
theorem rDivu_c (a b : Int) (a0 : 0 ≤ a) (a1 : a < 4294967296) (b0 : 0 ≤ b) (b1 : b < 4294967296) (w : World) :
    Calls Tryz.prog 82 #[.int .u32 a, .int .u32 b] w fun e w' => e = .returned (.int .u32 (divuS a b)) ∧ w' = w := by
  by_cases hb : b = 0
  · subst hb
    go_enter Tryz.func82, Tryz.ntmps82
    go_wp2
    go_ret
    exact ⟨rfl, rfl⟩
  · have hb' : (b == 0) = false := by simpa using hb
    have hd : a / b = divuS a b := by unfold divuS; rw [if_neg hb]
    rw [← hd]
    clear hd
    go_enter Tryz.func82, Tryz.ntmps82
    go_wp2
    go_ret
    exact ⟨rfl, rfl⟩
theorem rDivs_c (a b : Int) (a0 : 0 ≤ a) (a1 : a < 4294967296) (b0 : 0 ≤ b) (b1 : b < 4294967296) (w : World) :
    Calls Tryz.prog 83 #[.int .u32 a, .int .u32 b] w fun e w' => e = .returned (.int .u32 (divsS a b)) ∧ w' = w := by
  by_cases hb : b = 0
  · subst hb
    go_enter Tryz.func83, Tryz.ntmps83
    go_wp2
    go_ret
    exact ⟨rfl, rfl⟩
  · have hb' : (b == 0) = false := by simpa using hb
    have hz : ¬ wrap64 (wrap32 b) = 0 := by unfold wrap64 wrap32; omega
    have hd := divs_eq a b hb
    have hm := mask32_i64 (wrap64 ((wrap64 (wrap32 a)).tdiv (wrap64 (wrap32 b))))
    rw [hd] at hm
    have hs := divsS_bounds a b
    clear hd
    generalize divsS a b = r at *
    obtain ⟨r0, r1⟩ := hs
    go_enter Tryz.func83, Tryz.ntmps83
    go_wp2
    go_ret
    exact ⟨rfl, rfl⟩
end Go.Proofs.YtjhmmfpmmgebjaaGreat
namespace Go.Proofs.YtjhmmfpmmgebjaaGreat
open Go.RowKit
set_option linter.unusedVariables false
set_option linter.unusedSimpArgs false

theorem bitLen_range : ∀ (k x : Nat), x < 2 ^ k → k ≤ 64 → x ≠ 0 → 2 ^ (Lib.bitLen x - 1) ≤ x ∧ x < 2 ^ Lib.bitLen x ∧ 1 ≤ Lib.bitLen x
  | 0, x, h, _, hx => absurd (by simpa using h) hx
  | k + 1, x, h, hk, hx => by
    have hx64 : x < 2 ^ 64 := Nat.lt_of_lt_of_le h (Nat.pow_le_pow_right (by decide) hk)
    have hh := Lib.bitLen_half x hx hx64
    by_cases h1 : x / 2 = 0
    · have e : x = 1 := by omega
      subst e
      decide
    · have ih := bitLen_range k (x / 2) (by rw [Nat.pow_succ] at h; omega) (by omega) h1
      rw [hh, Nat.add_comm 1, Nat.pow_succ]
      obtain ⟨a, b, c⟩ := ih
      have e : 2 ^ (Lib.bitLen (x / 2) + 1 - 1) = 2 ^ (Lib.bitLen (x / 2) - 1) * 2 := by
        rw [← Nat.pow_succ]
        congr 1
        omega
      rw [e]
      omega

theorem turned_parts (v : Int) (L : Nat) (v0 : 256 ≤ v) (v1 : v < 4294967296) (L9 : 9 ≤ L) (L32 : L ≤ 32) (r1 : 2 ^ (L - 1) ≤ v.toNat) (r2 : v.toNat < 2 ^ L) (hl : rorS v (L - 8) ≤ 255) :
    v % 2 ^ (L - 8) = 0 ∧ 128 ≤ v / 2 ^ (L - 8) ∧ v / 2 ^ (L - 8) ≤ 255 := by
  unfold rorS at hl
  rcases upto32 L (by omega) L32 with h | h | h | h | h | h | h | h | h | h | h | h | h | h | h | h | h | h | h | h | h | h | h | h | h | h | h | h | h | h | h | h <;> subst h <;> simp at hl r1 r2 ⊢ <;> omega

theorem turned_back (v : Int) (v0 : 256 ≤ v) (v1 : v < 4294967296) (hl : lowT v ≤ 255) :
    (turnS v * 128 + lowT v % 128) / 1024 % 4 ≠ 0 ∧ 8 ≤ turnS v ∧ turnS v < 32 ∧ rorS (lowT v % 128 + 128) (turnS v).toNat = v ∧ 128 ≤ lowT v := by
  have hr := bitLen_range 32 v.toNat (by omega) (by omega) (by omega)
  have hL := bitLen_le32 v (by omega) v1
  revert hl
  unfold lowT turnS clzS
  generalize Lib.bitLen v.toNat = L at *
  obtain ⟨r1, r2, r3⟩ := hr
  have L9 : 9 ≤ L := by
    apply Classical.byContradiction
    intro h
    have : 2 ^ L ≤ 2 ^ 8 := Nat.pow_le_pow_right (by decide) (by omega)
    omega
  intro hl
  have e1 : (32 - ((32 - (L : Int) + 8) % 32).toNat) % 32 = L - 8 := by omega
  rw [e1] at hl ⊢
  have e2 : (32 - (L : Int) + 8).toNat = 40 - L := by omega
  rw [e2]
  obtain ⟨p1, p2, p3⟩ := turned_parts v L v0 v1 L9 hL r1 r2 hl
  have e3 : rorS v (L - 8) = v / 2 ^ (L - 8) := by
    unfold rorS
    rw [p1]
    simp
  rw [e3]
  have e4 : v = v / 2 ^ (L - 8) * 2 ^ (L - 8) := by
    have := Int.mul_ediv_add_emod v (2 ^ (L - 8))
    rw [p1, Int.mul_comm] at this
    omega
  have e5 : (256 : Int) ≤ 2 ^ (40 - L) := by
    rw [pow_split (40 - L) 8 (by omega)]
    have : (1 : Int) ≤ 2 ^ (40 - L - 8) := Int.pow_pos (by decide)
    omega
  generalize hq : v / 2 ^ (L - 8) = q at *
  refine ⟨by omega, by omega, by omega, ?_, p2⟩
  unfold rorS
  rw [show q % 128 + 128 = q by omega, Int.ediv_eq_zero_of_lt (by omega) (by omega), Int.emod_eq_of_lt (by omega) (by omega), show 32 - (40 - L) = L - 8 by omega]
  omega

theorem compress_back (v : Int) (c : Bool) (v0 : 0 ≤ v) (v1 : v < 4294967296) (h : (compressS v).2 = true) :
    0 ≤ (compressS v).1 ∧ (compressS v).1 < 4096 ∧ (expandS (compressS v).1 c).1 = v ∧ (expandS (compressS v).1 c).2.2 = true := by
  revert h
  unfold compressS
  by_cases c0 : v = v % 256
  · rw [if_pos c0]
    intro _
    refine ⟨by simp; omega, by simp; omega, ?_⟩
    show (expandS (v % 256) c).1 = v ∧ _
    unfold expandS
    rw [if_pos (by omega)]
    have e : v % 256 / 256 % 4 = 0 := by omega
    simp only [e]
    refine ⟨?_, by simp⟩
    show spreadS (v % 256 % 256) 0 = v
    rw [show spreadS (v % 256 % 256) 0 = v % 256 % 256 from rfl]
    omega
  rw [if_neg c0]
  by_cases c1 : v = spreadS (v % 256) 1
  · rw [if_pos c1]
    intro _
    refine ⟨by simp; omega, by simp; omega, ?_⟩
    show (expandS (256 + v % 256) c).1 = v ∧ (expandS (256 + v % 256) c).2.2 = true
    unfold expandS
    rw [if_pos (by omega)]
    have e : (256 + v % 256) / 256 % 4 = 1 := by omega
    have e2 : (256 + v % 256) % 256 = v % 256 := by omega
    simp only [e, e2]
    refine ⟨c1.symm, ?_⟩
    have : v % 256 ≠ 0 := by
      intro hz
      rw [hz] at c1
      have : spreadS 0 1 = 0 := rfl
      omega
    simp [this]
  rw [if_neg c1]
  by_cases c2 : v = spreadS (v / 256 % 256) 2
  · rw [if_pos c2]
    intro _
    refine ⟨by simp; omega, by simp; omega, ?_⟩
    show (expandS (512 + v / 256 % 256) c).1 = v ∧ (expandS (512 + v / 256 % 256) c).2.2 = true
    unfold expandS
    rw [if_pos (by omega)]
    have e : (512 + v / 256 % 256) / 256 % 4 = 2 := by omega
    have e2 : (512 + v / 256 % 256) % 256 = v / 256 % 256 := by omega
    simp only [e, e2]
    refine ⟨c2.symm, ?_⟩
    have : v / 256 % 256 ≠ 0 := by
      intro hz
      rw [hz] at c2
      have : spreadS 0 2 = 0 := rfl
      omega
    simp [this]
  rw [if_neg c2]
  by_cases c3 : v = spreadS (v % 256) 3
  · rw [if_pos c3]
    intro _
    refine ⟨by simp; omega, by simp; omega, ?_⟩
    show (expandS (768 + v % 256) c).1 = v ∧ (expandS (768 + v % 256) c).2.2 = true
    unfold expandS
    rw [if_pos (by omega)]
    have e : (768 + v % 256) / 256 % 4 = 3 := by omega
    have e2 : (768 + v % 256) % 256 = v % 256 := by omega
    simp only [e, e2]
    refine ⟨c3.symm, ?_⟩
    have : v % 256 ≠ 0 := by
      intro hz
      rw [hz] at c3
      have : spreadS 0 3 = 0 := rfl
      omega
    simp [this]
  rw [if_neg c3]
  unfold turnedS
  by_cases hl : 255 < lowT v
  · rw [if_pos hl]
    intro h
    cases h
  · rw [if_neg hl]
    intro _
    obtain ⟨a, b, d, e, f⟩ := turned_back v (by omega) v1 (by omega)
    have hl0 := lowT_bounds v v0 v1
    refine ⟨by simp; omega, by simp; omega, ?_⟩
    show (expandS (turnS v * 128 + lowT v % 128) c).1 = v ∧ (expandS (turnS v * 128 + lowT v % 128) c).2.2 = true
    unfold expandS
    rw [if_neg a]
    have e1 : (turnS v * 128 + lowT v % 128) % 128 = lowT v % 128 := by omega
    have e2 : (turnS v * 128 + lowT v % 128) / 128 % 32 = turnS v := by omega
    simp only [e1, e2]
    exact ⟨e, trivial⟩
end Go.Proofs.YtjhmmfpmmgebjaaGreat
namespace Go.Proofs.YtjhmmfpmmgebjaaGreat
open Go.ChangeShapes Go.WideShapes Go.ChangeAt Go.RowKit
set_option linter.unusedVariables false
set_option linter.unusedSimpArgs false

theorem div_u32 (v : Int) (n : Nat) (v0 : 0 ≤ v) (v1 : v < 4294967296) : 0 ≤ v / 2 ^ n ∧ v / 2 ^ n < 4294967296 := by
  have h0 : 0 ≤ v / 2 ^ n := Int.ediv_nonneg v0 (Int.le_of_lt (Int.pow_pos (by decide)))
  have h1 : v / 2 ^ n ≤ v := Int.ediv_le_self _ v0
  omega

theorem bit_c (v n : Int) (v0 : 0 ≤ v) (v1 : v < 4294967296) (n0 : 0 ≤ n) (n1 : n ≤ 31) (w : World) :
    Calls Tryz.prog 96 #[.int .u32 v, .int .i64 n] w fun e w' => e = .returned (.bool (v / 2 ^ n.toNat % 2 == 1)) ∧ w' = w := by
  have hb := div_u32 v n.toNat v0 v1
  have hm := and1_u32 _ hb.1 hb.2
  clear hb
  go_enter Tryz.func96, Tryz.ntmps96
  go_wp2
  go_ret
  exact ⟨rfl, rfl⟩

theorem bit0_c (v : Int) (v0 : 0 ≤ v) (v1 : v < 4294967296) (w : World) :
    Calls Tryz.prog 96 #[.int .u32 v, .int .i64 0] w fun e w' => e = .returned (.bool (v % 2 == 1)) ∧ w' = w := by
  have h := bit_c v 0 v0 v1 (by decide) (by decide) w
  rw [show v / 2 ^ (0 : Int).toNat = v by simp] at h
  exact h
theorem bit31_c (v : Int) (v0 : 0 ≤ v) (v1 : v < 4294967296) (w : World) :
    Calls Tryz.prog 96 #[.int .u32 v, .int .i64 31] w fun e w' => e = .returned (.bool (v / 2147483648 == 1)) ∧ w' = w := by
  have h := bit_c v 31 v0 v1 (by decide) (by decide) w
  rw [show v / 2 ^ (31 : Int).toNat % 2 = v / 2147483648 by show v / 2147483648 % 2 = _; omega] at h
  exact h

theorem one_c (v kind : Int) (c : Bool) (v0 : 0 ≤ v) (v1 : v < 4294967296) (k0 : 1 ≤ kind) (k1 : kind ≤ 5) (w : World) :
    Calls Tryz.prog 95 #[.int .u32 v, .int .i64 kind, .bool c] w fun e w' => e = .returned (.tuple #[.int .u32 (oneS kind (v, c)).1, .bool (oneS kind (v, c)).2]) ∧ w' = w := by
  have hb0 := bit0_c v v0 v1 w
  rcases (show kind = 1 ∨ kind = 2 ∨ kind = 3 ∨ kind = 4 ∨ kind = 5 by omega) with h | h | h | h | h <;> subst h
  · have hb := bit31_c v v0 v1 w
    clear hb0
    rw [show oneS 1 (v, c) = (v * 2 % 4294967296, v / 2147483648 == 1) from rfl]
    go_enter Tryz.func95, Tryz.ntmps95
    go_wp2_with (go_at_call 96; refine hb.mono ?_; rintro e w' ⟨rfl, rfl⟩)
    go_ret2
    exact ⟨rfl, rfl⟩
  · rw [show oneS 2 (v, c) = (v / 2, v % 2 == 1) from rfl]
    go_enter Tryz.func95, Tryz.ntmps95
    go_wp2_with (go_at_call 96; refine hb0.mono ?_; rintro e w' ⟨rfl, rfl⟩)
    go_ret2
    exact ⟨rfl, rfl⟩
  · rw [show oneS 3 (v, c) = (v / 2 + v / 2147483648 * 2147483648, v % 2 == 1) from rfl]
    have e1 := and_top v v0 v1
    have e2 := asr_one v v0 v1
    generalize hY : v / 2 + v / 2147483648 * 2147483648 = Y at *
    generalize v / 2147483648 * 2147483648 = Z at *
    clear hY
    go_enter Tryz.func95, Tryz.ntmps95
    go_wp2_with (go_at_call 96; refine hb0.mono ?_; rintro e w' ⟨rfl, rfl⟩)
    go_ret2
    exact ⟨rfl, rfl⟩
  · rw [show oneS 4 (v, c) = (v / 2 + v % 2 * 2147483648, v % 2 == 1) from rfl]
    have e2 := ror_one v v0 v1
    generalize v / 2 + v % 2 * 2147483648 = Y at *
    go_enter Tryz.func95, Tryz.ntmps95
    go_wp2_with (go_at_call 96; refine hb0.mono ?_; rintro e w' ⟨rfl, rfl⟩)
    go_ret2
    exact ⟨rfl, rfl⟩
  · have e3 : (oneS 5 (v, c)).2 = (v % 2 == 1) := rfl
    rw [e3]
    cases c
    · rw [← rrx_false v]
      go_enter Tryz.func95, Tryz.ntmps95
      go_wp2_with (go_at_call 96; refine hb0.mono ?_; rintro e w' ⟨rfl, rfl⟩)
      go_ret2
      exact ⟨rfl, rfl⟩
    · rw [← rrx_true v v0 v1]
      go_enter Tryz.func95, Tryz.ntmps95
      go_wp2_with (go_at_call 96; refine hb0.mono ?_; rintro e w' ⟨rfl, rfl⟩)
      go_ret2
      exact ⟨rfl, rfl⟩

/-! ### Shift: the loop -/
set_option maxHeartbeats 1000000 in
theorem rShift_mid (v kind n : Int) (c : Bool) (v0 : 0 ≤ v) (v1 : v < 4294967296) (k0 : 1 ≤ kind) (k1 : kind ≤ 4) (n0 : 0 ≤ n) (n1 : n ≤ 255) (w : World) :
    Calls Tryz.prog 80 #[.int .u32 v, .int .i64 kind, .int .i64 n, .bool c] w fun e w' => e = .returned (.tuple #[.int .u32 (iterS kind n.toNat (v, c)).1, .bool (iterS kind n.toNat (v, c)).2]) ∧ w' = w := by
  have k5 : (kind == 5) = false := by simp; omega
  go_enter Tryz.func80, Tryz.ntmps80
  go_wp2
  go_loop [0, 3, 10] (fun x b i => ∃ k : Nat, k ≤ n.toNat ∧ i = .int .i64 k ∧ x = .int .u32 (iterS kind k (v, c)).1 ∧ b = .bool (iterS kind k (v, c)).2) (fun _ _ i => n.toNat - (intOf i).toNat)
  case atStart => exact ⟨0, Nat.zero_le _, rfl, rfl, rfl⟩
  case round =>
    obtain ⟨k, hk, rfl, rfl, rfl⟩ := hrel
    have hb := iterS_bounds kind k (v, c) v0 v1
    have HS : Hid (iterS kind (k + 1) (v, c) = oneS kind (iterS kind k (v, c))) := rfl
    have HE : Hid (k = n.toNat → iterS kind n.toNat (v, c) = iterS kind k (v, c)) := fun h => by rw [h]
    generalize iterS kind k (v, c) = p at *
    obtain ⟨X, B⟩ := p
    have ho := one_c X kind B hb.1 hb.2 k0 (by omega) w
    generalize oneS kind (X, B) = q at *
    obtain ⟨X', B'⟩ := q
    clear hb
    by_cases hlt : (k : Int) < n
    · go_wp2_with (go_at_call 95; refine ho.mono ?_; rintro e w' ⟨rfl, rfl⟩)
      go_round
      case rel => exact ⟨k + 1, by omega, by go_num, by rw [HS.out], by rw [HS.out]⟩
      case measure => simp only [intOf]; omega
    · go_wp2
      go_ret2
      have hf := HE.out (by omega)
      exact ⟨ret2_eq (by rw [hf]) (by rw [hf]), rfl⟩

set_option maxHeartbeats 1000000 in
theorem rShift_high (v kind n : Int) (c : Bool) (v0 : 0 ≤ v) (v1 : v < 4294967296) (k0 : 1 ≤ kind) (k1 : kind ≤ 4) (n0 : 255 < n) (n1 : n ≤ 9223372036854775807) (w : World) :
    Calls Tryz.prog 80 #[.int .u32 v, .int .i64 kind, .int .i64 n, .bool c] w fun e w' => e = .returned (.tuple #[.int .u32 (iterS kind 255 (v, c)).1, .bool (iterS kind 255 (v, c)).2]) ∧ w' = w := by
  have k5 : (kind == 5) = false := by simp; omega
  go_enter Tryz.func80, Tryz.ntmps80
  go_wp2
  go_loop [0, 3, 10] (fun x b i => ∃ k : Nat, k ≤ 255 ∧ i = .int .i64 k ∧ x = .int .u32 (iterS kind k (v, c)).1 ∧ b = .bool (iterS kind k (v, c)).2) (fun _ _ i => 255 - (intOf i).toNat)
  case atStart => exact ⟨0, Nat.zero_le _, rfl, rfl, rfl⟩
  case round =>
    obtain ⟨k, hk, rfl, rfl, rfl⟩ := hrel
    have hb := iterS_bounds kind k (v, c) v0 v1
    have HS : Hid (iterS kind (k + 1) (v, c) = oneS kind (iterS kind k (v, c))) := rfl
    have HE : Hid (k = 255 → iterS kind 255 (v, c) = iterS kind k (v, c)) := fun h => by rw [h]
    generalize iterS kind k (v, c) = p at *
    obtain ⟨X, B⟩ := p
    have ho := one_c X kind B hb.1 hb.2 k0 (by omega) w
    generalize oneS kind (X, B) = q at *
    obtain ⟨X', B'⟩ := q
    clear hb
    by_cases hlt : (k : Int) < 255
    · go_wp2_with (go_at_call 95; refine ho.mono ?_; rintro e w' ⟨rfl, rfl⟩)
      go_round
      case rel => exact ⟨k + 1, by omega, by go_num, by rw [HS.out], by rw [HS.out]⟩
      case measure => simp only [intOf]; omega
    · go_wp2
      go_ret2
      have hf := HE.out (by omega)
      exact ⟨ret2_eq (by rw [hf]) (by rw [hf]), rfl⟩

theorem rShift_low (v kind n : Int) (c : Bool) (k0 : 1 ≤ kind) (k1 : kind ≤ 4) (n0 : n < 0) (n1 : -9223372036854775808 ≤ n) (w : World) :
    Calls Tryz.prog 80 #[.int .u32 v, .int .i64 kind, .int .i64 n, .bool c] w fun e w' => e = .returned (.tuple #[.int .u32 v, .bool c]) ∧ w' = w := by
  have k5 : (kind == 5) = false := by simp; omega
  go_enter Tryz.func80, Tryz.ntmps80
  go_wp2
  refine wp_loop_rounds 1 ?_
  rw [rounds_succ]
  go_wp2
  go_ret2
  exact ⟨rfl, rfl⟩
theorem rShift_other (v kind n : Int) (c : Bool) (hk : kind < 1 ∨ 5 < kind) (n0 : -9223372036854775808 ≤ n) (n1 : n ≤ 9223372036854775807) (w : World) :
    Calls Tryz.prog 80 #[.int .u32 v, .int .i64 kind, .int .i64 n, .bool c] w fun e w' => e = .returned (.tuple #[.int .u32 v, .bool c]) ∧ w' = w := by
  rcases hk with hk | hk
  · go_enter Tryz.func80, Tryz.ntmps80
    go_wp2
    all_goals (go_ret2; exact ⟨rfl, rfl⟩)
  · go_enter Tryz.func80, Tryz.ntmps80
    go_wp2
    all_goals (go_ret2; exact ⟨rfl, rfl⟩)
theorem rShift_rrx (v n : Int) (c : Bool) (v0 : 0 ≤ v) (v1 : v < 4294967296) (n0 : -9223372036854775808 ≤ n) (n1 : n ≤ 9223372036854775807) (w : World) :
    Calls Tryz.prog 80 #[.int .u32 v, .int .i64 5, .int .i64 n, .bool c] w fun e w' => e = .returned (.tuple #[.int .u32 (oneS 5 (v, c)).1, .bool (oneS 5 (v, c)).2]) ∧ w' = w := by
  have ho := one_c v 5 c v0 v1 (by decide) (by decide) w
  generalize oneS 5 (v, c) = q at *
  obtain ⟨X, B⟩ := q
  rcases (show n < 0 ∨ 255 < n ∨ (0 ≤ n ∧ n ≤ 255) by omega) with h | h | ⟨h, h'⟩
  · go_enter Tryz.func80, Tryz.ntmps80
    go_wp2_with (go_at_call 95; refine ho.mono ?_; rintro e w' ⟨rfl, rfl⟩)
    go_ret2
    exact ⟨rfl, rfl⟩
  · go_enter Tryz.func80, Tryz.ntmps80
    go_wp2_with (go_at_call 95; refine ho.mono ?_; rintro e w' ⟨rfl, rfl⟩)
    go_ret2
    exact ⟨rfl, rfl⟩
  · go_enter Tryz.func80, Tryz.ntmps80
    go_wp2_with (go_at_call 95; refine ho.mono ?_; rintro e w' ⟨rfl, rfl⟩)
    go_ret2
    exact ⟨rfl, rfl⟩

theorem rShift_c (v kind n : Int) (c : Bool) (v0 : 0 ≤ v) (v1 : v < 4294967296) (n0 : -9223372036854775808 ≤ n) (n1 : n ≤ 9223372036854775807) (w : World) :
    Calls Tryz.prog 80 #[.int .u32 v, .int .i64 kind, .int .i64 n, .bool c] w fun e w' => e = .returned (.tuple #[.int .u32 (shiftS v kind n c).1, .bool (shiftS v kind n c).2]) ∧ w' = w := by
  by_cases k5 : kind = 5
  · subst k5; exact rShift_rrx v n c v0 v1 n0 n1 w
  by_cases ko : kind < 1 ∨ 5 < kind
  · have e : shiftS v kind n c = (v, c) := by unfold shiftS; rw [if_neg k5, if_pos ko]
    rw [e]
    exact rShift_other v kind n c ko n0 n1 w
  rw [shiftS_of v kind n c (by omega) (by omega)]
  rcases (show n < 0 ∨ 255 < n ∨ (0 ≤ n ∧ n ≤ 255) by omega) with h | h | ⟨h, h'⟩
  · rw [countS_low n (by omega)]
    exact rShift_low v kind n c (by omega) (by omega) h n0 w
  · rw [countS_high n h]
    exact rShift_high v kind n c v0 v1 (by omega) (by omega) h n1 w
  · rw [countS_mid n h h']
    exact rShift_mid v kind n c v0 v1 (by omega) (by omega) h h' w
end Go.Proofs.YtjhmmfpmmgebjaaGreat
namespace Go.Proofs.YtjhmmfpmmgebjaaGreat
open Go.ChangeShapes Go.WideShapes Go.ChangeAt Go.RowKit
set_option linter.unusedVariables false
set_option linter.unusedSimpArgs false

/-! ### Sign -/
theorem not64_eq (b : Int) (b0 : 0 ≤ b) (b1 : b < 18446744073709551616) : bits .xor .u64 IntKind.u64.max b = 18446744073709551615 - b := by
  rw [show IntKind.u64.max = 18446744073709551615 by decide]
  obtain ⟨B, rfl⟩ := Int.eq_ofNat_of_zero_le b0
  have h := u64_xor_nat 18446744073709551615 B (by omega) (by omega)
  rw [show (((18446744073709551615 : Nat)) : Int) = 18446744073709551615 from rfl] at h
  rw [h]
  have e : (BitVec.allOnes 64 ^^^ BitVec.ofNat 64 B).toNat = 18446744073709551615 ^^^ B := by
    rw [BitVec.toNat_xor, BitVec.toNat_ofNat, Nat.mod_eq_of_lt (by omega)]
    rfl
  rw [← e, BitVec.allOnes_xor, BitVec.toNat_not, BitVec.toNat_ofNat, Nat.mod_eq_of_lt (by omega)]
  omega
theorem sgn_or (z : Int) (n : Nat) (z0 : 0 ≤ z) (z1 : z < 2 ^ n) (hn : n ≤ 32) : bits .or .u64 z (18446744073709551615 - (2 ^ n - 1)) = z + (18446744073709551616 - 2 ^ n) := by
  have hp := pow_le32 n hn
  have e64 : (18446744073709551616 : Int) = 2 ^ (64 - n) * 2 ^ n := by rw [← pow_split 64 n (by omega)]; decide
  rw [show (18446744073709551615 : Int) - (2 ^ n - 1) = 18446744073709551616 - 2 ^ n by omega]
  rw [u64_or z _ z0 (by omega) (by omega) (by omega), Nat.or_comm]
  have hmod : (18446744073709551616 - (2 : Int) ^ n) % 2 ^ n = 0 := by
    rw [e64]
    have : (2 : Int) ^ (64 - n) * 2 ^ n - 2 ^ n = (2 ^ (64 - n) - 1) * 2 ^ n := by rw [Int.sub_mul]; simp
    rw [this]
    exact Int.mul_emod_left _ _
  obtain ⟨Z, rfl⟩ := Int.eq_ofNat_of_zero_le z0
  obtain ⟨M, hM⟩ := Int.eq_ofNat_of_zero_le (show 0 ≤ 18446744073709551616 - (2 : Int) ^ n by omega)
  rw [hM] at hmod ⊢
  have e : ((2 : Int) ^ n) = ((2 ^ n : Nat) : Int) := by simp
  rw [e] at z1 hmod
  simp only [Int.toNat_natCast]
  rw [nat_join n M Z (by exact_mod_cast hmod) (by exact_mod_cast z1)]
  simp
  omega
theorem sgn_high (v : Int) (n : Nat) (v0 : 0 ≤ v) (v1 : v < 4294967296) (k0 : 1 ≤ n) (k1 : n ≤ 32) (h : zeroS v n / 2 ^ (n - 1) % 2 = 1) :
    (zeroS v n + (18446744073709551616 - 2 ^ n)) % 4294967296 = signS v n := by
  unfold zeroS at h ⊢
  unfold signS
  rcases upto32 n k0 k1 with h' | h' | h' | h' | h' | h' | h' | h' | h' | h' | h' | h' | h' | h' | h' | h' | h' | h' | h' | h' | h' | h' | h' | h' | h' | h' | h' | h' | h' | h' | h' | h' <;> subst h' <;> simp at h ⊢ <;> (try rw [if_neg (by omega)]) <;> omega
theorem sgn_low (v : Int) (n : Nat) (v0 : 0 ≤ v) (v1 : v < 4294967296) (k0 : 1 ≤ n) (k1 : n ≤ 32) (h : ¬ zeroS v n / 2 ^ (n - 1) % 2 = 1) :
    zeroS v n = signS v n := by
  unfold zeroS at h ⊢
  unfold signS
  rcases upto32 n k0 k1 with h' | h' | h' | h' | h' | h' | h' | h' | h' | h' | h' | h' | h' | h' | h' | h' | h' | h' | h' | h' | h' | h' | h' | h' | h' | h' | h' | h' | h' | h' | h' | h' <;> subst h' <;> simp at h ⊢ <;> (try rw [if_pos (by omega)]) <;> (try omega)
theorem zeroS_lt (v : Int) (n : Nat) : zeroS v n < 2 ^ n := Int.emod_lt_of_pos _ (Int.pow_pos (by decide))

theorem clz_unique (v : Int) (k : Nat) (v0 : 0 ≤ v) (v1 : v < 4294967296) (hk : k ≤ 32) (h1 : v < 2 ^ (32 - k)) (h2 : k = 32 ∨ v / 2 ^ (31 - k) % 2 = 1) : clzS v = k := by
  unfold clzS
  rcases h2 with h2 | h2
  · subst h2
    have : v = 0 := by simp at h1; omega
    subst this
    rfl
  · by_cases k32 : k = 32
    · subst k32
      simp at h1 h2
      omega
    have hp : (0 : Int) < 2 ^ (31 - k) := Int.pow_pos (by decide)
    have hge : 2 ^ (31 - k) ≤ v := by
      apply Classical.byContradiction
      intro hlt
      rw [Int.ediv_eq_zero_of_lt v0 (by omega)] at h2
      simp at h2
    obtain ⟨V, rfl⟩ := Int.eq_ofNat_of_zero_le v0
    have hge' : 2 ^ (31 - k) ≤ V := by exact_mod_cast hge
    have hlt' : V < 2 ^ (32 - k) := by exact_mod_cast h1
    have hpn : 0 < 2 ^ (31 - k) := Nat.two_pow_pos _
    obtain ⟨a, b, c⟩ := bitLen_range 32 V (by omega) (by decide) (by omega)
    simp only [Int.toNat_natCast]
    have e : Lib.bitLen V = 32 - k := by
      apply Nat.le_antisymm
      · apply Classical.byContradiction
        intro hn
        have : 2 ^ (32 - k) ≤ 2 ^ (Lib.bitLen V - 1) := Nat.pow_le_pow_right (by decide) (by omega)
        omega
      · apply Classical.byContradiction
        intro hn
        have : 2 ^ Lib.bitLen V ≤ 2 ^ (31 - k) := Nat.pow_le_pow_right (by decide) (by omega)
        omega
    rw [e]
    omega
theorem clz_step (v : Int) (k : Nat) (v0 : 0 ≤ v) (hk : k < 32) (h1 : v < 2 ^ (32 - k)) (h2 : ¬ v / 2 ^ (31 - k) % 2 = 1) : v < 2 ^ (32 - (k + 1)) := by
  have e : (2 : Int) ^ (32 - k) = 2 ^ (31 - k) * 2 := by rw [← Int.pow_succ]; congr 1; omega
  rw [show 32 - (k + 1) = 31 - k by omega]
  have hp : (0 : Int) < 2 ^ (31 - k) := Int.pow_pos (by decide)
  rw [e] at h1
  have hm := Int.mul_ediv_add_emod v (2 ^ (31 - k))
  have hr := Int.emod_nonneg v (show (2 : Int) ^ (31 - k) ≠ 0 by omega)
  have hr' := Int.emod_lt_of_pos v hp
  have hq : 0 ≤ v / 2 ^ (31 - k) := Int.ediv_nonneg v0 (by omega)
  generalize v / 2 ^ (31 - k) = q at *
  generalize (2 : Int) ^ (31 - k) = p at *
  by_cases q2 : 2 ≤ q
  · have := Int.mul_le_mul_of_nonneg_left q2 (show 0 ≤ p by omega)
    omega
  · have q0 : q = 0 := by omega
    subst q0
    omega

theorem rClz_c (v : Int) (v0 : 0 ≤ v) (v1 : v < 4294967296) (w : World) :
    Calls Tryz.prog 84 #[.int .u32 v] w fun e w' => e = .returned (.int .i64 (clzS v)) ∧ w' = w := by
  go_enter Tryz.func84, Tryz.ntmps84
  go_wp2
  go_loop [3] (fun i => ∃ k : Nat, k ≤ 32 ∧ i = .int .i64 k ∧ Hid (v < 2 ^ (32 - k))) (fun i => 32 - (intOf i).toNat)
  case atStart => exact ⟨0, by decide, rfl, v1⟩
  case round =>
    obtain ⟨k, hk, rfl, hv⟩ := hrel
    by_cases hk32 : k < 32
    · have hb := bit_c v (31 - k) v0 v1 (by omega) (by omega) w
      rw [show (31 - (k : Int)).toNat = 31 - k by omega] at hb
      have hlt : (k : Int) < 32 := by omega
      by_cases hbit : v / 2 ^ (31 - k) % 2 = 1
      · have HE : Hid (clzS v = k) := clz_unique v k v0 v1 hk hv.out (Or.inr hbit)
        rw [show (v / 2 ^ (31 - k) % 2 == 1) = true by rw [hbit]; rfl] at hb
        clear hbit
        go_wp2_with (go_at_call 96; refine hb.mono ?_; rintro e w' ⟨rfl, rfl⟩)
        go_ret
        rw [HE.out]
        exact ⟨rfl, rfl⟩
      · have HN : Hid (v < 2 ^ (32 - (k + 1))) := clz_step v k v0 hk32 hv.out hbit
        rw [show (v / 2 ^ (31 - k) % 2 == 1) = false by simpa using hbit] at hb
        clear hbit
        go_wp2_with (go_at_call 96; refine hb.mono ?_; rintro e w' ⟨rfl, rfl⟩)
        go_round
        case rel => exact ⟨k + 1, by omega, by go_num, HN⟩
        case measure => simp only [intOf]; omega
    · have k32 : k = 32 := by omega
      subst k32
      have HE : Hid (clzS v = 32) := clz_unique v 32 v0 v1 hk hv.out (Or.inl rfl)
      go_wp2
      go_ret
      rw [HE.out]
      exact ⟨rfl, rfl⟩

/-! ### Rbit: the loop -/
def accR (v : Int) : Nat → Int
  | 0 => 0
  | n + 1 => accR v n * 2 + v / 2 ^ n % 2
theorem accR_bounds (v : Int) : ∀ n, 0 ≤ accR v n ∧ accR v n < 2 ^ n
  | 0 => by simp [accR]
  | n + 1 => by
    have := accR_bounds v n
    rw [Int.pow_succ]
    simp only [accR]
    omega
theorem accR_bit (v : Nat) : ∀ n i, i < n → (accR v n).toNat.testBit i = v.testBit (n - 1 - i)
  | 0, i, h => absurd h (Nat.not_lt_zero i)
  | n + 1, i, h => by
    have hb := accR_bounds v n
    have e : (accR (v : Int) (n + 1)).toNat = 2 * (accR (v : Int) n).toNat + v / 2 ^ n % 2 := by
      have e2 : ((v : Int) / 2 ^ n % 2) = ((v / 2 ^ n % 2 : Nat) : Int) := by simp
      show (accR (v : Int) n * 2 + (v : Int) / 2 ^ n % 2).toNat = _
      rw [e2]
      omega
    rw [e]
    cases i with
    | zero =>
      rw [Nat.testBit_zero, Nat.testBit_eq_decide_div_mod_eq]
      simp only [Nat.add_sub_cancel, Nat.sub_zero]
      congr 1
      rw [eq_iff_iff]
      omega
    | succ i =>
      rw [Nat.testBit_succ, show (2 * (accR (v : Int) n).toNat + v / 2 ^ n % 2) / 2 = (accR (v : Int) n).toNat by omega, accR_bit v n i (by omega)]
      congr 1
      omega
theorem accR_all (v : Int) (v0 : 0 ≤ v) (v1 : v < 4294967296) : accR v 32 = ofB rbitB v := by
  obtain ⟨b, rfl⟩ := bv_of v v0 v1
  rw [ofB_nat]
  have hb := accR_bounds (b.toNat : Int) 32
  have key : (accR (b.toNat : Int) 32).toNat = (rbitB b).toNat := by
    apply Nat.eq_of_testBit_eq
    intro i
    by_cases hi : i < 32
    · rw [accR_bit _ 32 i hi]
      have := rbitB_bit b i hi
      rw [BitVec.getLsbD, BitVec.getLsbD] at this
      rw [this]
    · rw [Nat.testBit_lt_two_pow (Nat.lt_of_lt_of_le (show (accR (b.toNat : Int) 32).toNat < 2 ^ 32 by simp at hb ⊢; omega) (Nat.pow_le_pow_right (by decide) (by omega))),
        Nat.testBit_lt_two_pow (Nat.lt_of_lt_of_le (rbitB b).isLt (Nat.pow_le_pow_right (by decide) (by omega)))]
  omega
theorem acc_or (x t : Int) (x0 : 0 ≤ x) (x1 : x < 2147483648) (t0 : 0 ≤ t) (t1 : t < 2) : bits .or .u32 (x * 2) t = x * 2 + t := by
  rw [or_join32 1 _ _ (by omega) (by omega) t0 (show x * 2 % 2 = 0 by omega) (show t < 2 from t1) (by omega)]

end Go.Proofs.YtjhmmfpmmgebjaaGreat
