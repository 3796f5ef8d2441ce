/- Plain arithmetic: turning words, masks. No Go in sight. -/
import Derived.Test.YtigmekboikgoaaaPure2
namespace Go.Proofs.Ytigmekboikgoaaa
open Go.RowKit
set_option linter.unusedVariables false
set_option linter.unusedSimpArgs false

theorem mask31 (k : Int) : bits .and .u64 (IntKind.u64.wrap k) 31 = k % 32 := by
  rw [IntKind.wrap_u64, u64_and _ _ (by omega) (by omega) (by omega) (by omega)]
  rw [show (31 : Int).toNat = 31 from rfl, nat_mask5]
  omega

theorem or_join32 (i : Nat) (x y : Int) (x0 : 0 ≤ x) (x1 : x < 4294967296) (y0 : 0 ≤ y) (hx : x % 2 ^ i = 0) (hy : y < 2 ^ i) (y1 : y < 4294967296) : bits .or .u32 x y = x + y := by
  rw [u32_or x y x0 x1 y0 y1]
  obtain ⟨X, rfl⟩ := Int.eq_ofNat_of_zero_le x0
  obtain ⟨Y, rfl⟩ := Int.eq_ofNat_of_zero_le y0
  simp only [Int.toNat_natCast]
  have e : ((2 : Int) ^ i) = ((2 ^ i : Nat) : Int) := by simp
  rw [e] at hx hy
  rw [nat_join i X Y (by exact_mod_cast hx) (by exact_mod_cast hy)]
  simp

theorem rotl_parts (x : Int) (s : Nat) (x0 : 0 ≤ x) (x1 : x < 4294967296) (hs : s < 32) :
    x * 2 ^ s % 4294967296 % 2 ^ s = 0 ∧ x / 2 ^ (32 - s) < 2 ^ s ∧ 0 ≤ x / 2 ^ (32 - s) ∧ x / 2 ^ (32 - s) < 4294967296 ∧ x * 2 ^ s % 4294967296 + x / 2 ^ (32 - s) = rorS x ((32 - s) % 32) := by
  unfold rorS
  rcases upto32 (s + 1) (by omega) (by omega) with h | h | h | h | h | h | h | h | h | h | h | h | h | h | h | h | h | h | h | h | h | h | h | h | h | h | h | h | h | h | h | h <;>
    (have h' : s = _ := Nat.succ.inj h
     subst h'
     simp
     omega)
theorem rotl_eq (x : Int) (s : Nat) (x0 : 0 ≤ x) (x1 : x < 4294967296) (hs : s < 32) :
    bits .or .u32 (x * 2 ^ s % 4294967296) (x / 2 ^ (32 - s)) = rorS x ((32 - s) % 32) := by
  obtain ⟨a, b, c, d, e⟩ := rotl_parts x s x0 x1 hs
  rw [or_join32 s _ _ (by omega) (by omega) c a b d, e]

theorem and1_u64 (x : Int) (x0 : 0 ≤ x) (x1 : x < 18446744073709551616) : bits .and .u64 x 1 = x % 2 := by
  rw [u64_and _ _ x0 x1 (by omega) (by omega), show (1 : Int).toNat = 1 from rfl, nat_mask1]; omega
theorem and1_u32 (x : Int) (x0 : 0 ≤ x) (x1 : x < 4294967296) : bits .and .u32 x 1 = x % 2 := by
  rw [u32_and _ _ x0 x1 (by omega) (by omega), show (1 : Int).toNat = 1 from rfl, nat_mask1]; omega
theorem and1_i32 (x : Int) : bits .and .i32 x 1 = x % 2 := by
  show IntKind.i32.wrap ((BitVec.ofInt 32 x &&& BitVec.ofInt 32 1).toNat : Int) = _
  rw [BitVec.toNat_and, BitVec.toNat_ofInt, show (BitVec.ofInt 32 1).toNat = 1 by decide, nat_mask1, IntKind.wrap_i32]
  omega
theorem mask32_i64 (x : Int) : bits .and .i64 x 4294967295 = x % 4294967296 := by
  show IntKind.i64.wrap ((BitVec.ofInt 64 x &&& BitVec.ofInt 64 4294967295).toNat : Int) = _
  rw [BitVec.toNat_and, BitVec.toNat_ofInt, show (BitVec.ofInt 64 4294967295).toNat = 4294967295 by decide, nat_mask32, IntKind.wrap_i64]
  omega

theorem countS_mid (n : Int) (n0 : 0 ≤ n) (n1 : n ≤ 255) : countS n = n.toNat := by unfold countS; rw [if_neg (by omega), if_neg (by omega)]
theorem countS_high (n : Int) (n0 : 255 < n) : countS n = 255 := by unfold countS; rw [if_neg (by omega), if_pos n0]; rfl
theorem countS_low (n : Int) (n0 : n ≤ 0) : countS n = 0 := by unfold countS; split <;> (try split) <;> omega
theorem shiftS_of (v kind n : Int) (c : Bool) (k0 : 1 ≤ kind) (k1 : kind ≤ 4) : shiftS v kind n c = iterS kind (countS n) (v, c) := by
  unfold shiftS; rw [if_neg (by omega), if_neg (by omega)]

theorem pow_split (m k : Nat) (h : k ≤ m) : (2 : Int) ^ m = 2 ^ (m - k) * 2 ^ k := by rw [← Int.pow_add]; congr 1; omega

theorem lsl_low (v : Int) (m : Nat) (v0 : 0 ≤ v) (v1 : v < 4294967296) (m0 : 1 ≤ m) (c : Bool) :
    IntKind.u64.wrap (v * 2 ^ min m 64) % 4294967296 = (iterS 1 m (v, c)).1 ∧ (bits .and .u64 (IntKind.u64.wrap (v * 2 ^ min m 64) / 4294967296) 1 == 1) = (iterS 1 m (v, c)).2 := by
  obtain ⟨j, rfl⟩ : ∃ j, m = j + 1 := ⟨m - 1, by omega⟩
  rw [lsl_iter v c v0 v1 j, IntKind.wrap_u64, and1_u64 _ (by omega) (by omega)]
  by_cases h : j + 1 ≤ 64
  · rw [Nat.min_eq_left h, Int.pow_succ, ← Int.mul_assoc]
    generalize v * 2 ^ j = X
    refine ⟨by omega, ?_⟩
    rw [Bool.eq_iff_iff]
    simp
    omega
  · rw [Nat.min_eq_right (by omega), pow_split (j + 1) 32 (by omega), pow_split j 32 (by omega), ← Int.mul_assoc, ← Int.mul_assoc]
    generalize v * 2 ^ (j + 1 - 32) = X
    generalize v * 2 ^ (j - 32) = Y
    refine ⟨by omega, ?_⟩
    rw [Bool.eq_iff_iff]
    simp

theorem div_pow_small (x : Int) (k : Nat) (h0 : 0 ≤ x) (h1 : x < 2 ^ k) : x / 2 ^ k = 0 := Int.ediv_eq_zero_of_lt h0 h1
theorem pow_mono32 (m : Nat) (h : 32 ≤ m) : (4294967296 : Int) ≤ 2 ^ m := by
  rw [pow_split m 32 h]
  have : (1 : Int) ≤ 2 ^ (m - 32) := Int.pow_pos (by decide)
  omega
theorem min_shift (v : Int) (m : Nat) (v0 : 0 ≤ v) (v1 : v < 4294967296) : v / 2 ^ min m 32 = v / 2 ^ m := by
  by_cases h : m ≤ 32
  · rw [Nat.min_eq_left h]
  · rw [Nat.min_eq_right (by omega), div_pow_small v m v0 (by have := pow_mono32 m (by omega); omega)]
    simp
    omega
theorem div_neg_one (x p : Int) (h0 : -p ≤ x) (h1 : x < 0) : x / p = -1 := by
  have hp : 0 < p := by omega
  have hm := Int.mul_ediv_add_emod x p
  have hr := Int.emod_nonneg x (show p ≠ 0 by omega)
  have hr' := Int.emod_lt_of_pos x hp
  generalize x / p = q at *
  generalize x % p = r at *
  by_cases a : 0 ≤ q
  · have := Int.mul_nonneg (Int.le_of_lt hp) a
    omega
  · by_cases b : q ≤ -2
    · have := Int.mul_le_mul_of_nonneg_left b (Int.le_of_lt hp)
      omega
    · omega
theorem min_shift_s (x : Int) (m : Nat) (x0 : -2147483648 ≤ x) (x1 : x < 2147483648) : x / 2 ^ min m 32 = x / 2 ^ m := by
  by_cases h : m ≤ 32
  · rw [Nat.min_eq_left h]
  · have hb := pow_mono32 m (by omega)
    rw [Nat.min_eq_right (by omega)]
    by_cases g : 0 ≤ x
    · rw [div_pow_small x m g (by omega)]
      simp
      omega
    · rw [div_neg_one x (2 ^ m) (by omega) (by omega)]
      exact div_neg_one x _ (by omega) (by omega)

theorem lsr_low (v : Int) (m : Nat) (v0 : 0 ≤ v) (v1 : v < 4294967296) (m0 : 1 ≤ m) (c : Bool) :
    v / 2 ^ min m 32 = (iterS 2 m (v, c)).1 ∧ (bits .and .u32 (v / 2 ^ min (m - 1) 32) 1 == 1) = (iterS 2 m (v, c)).2 := by
  obtain ⟨j, rfl⟩ : ∃ j, m = j + 1 := ⟨m - 1, by omega⟩
  rw [lsr_iter v c j, Nat.add_sub_cancel, min_shift v _ v0 v1, min_shift v _ v0 v1]
  have h := zeroS_bounds v 0 v0 v1
  have h0 : 0 ≤ v / 2 ^ j := Int.ediv_nonneg v0 (Int.le_of_lt (Int.pow_pos (by decide)))
  have h1 : v / 2 ^ j ≤ v := Int.ediv_le_self _ v0
  rw [and1_u32 _ h0 (by omega)]
  exact ⟨rfl, rfl⟩

theorem wrap32_bounds (v : Int) : -2147483648 ≤ wrap32 v ∧ wrap32 v < 2147483648 := by unfold wrap32; omega
theorem asr_low (v : Int) (m : Nat) (v0 : 0 ≤ v) (v1 : v < 4294967296) (m0 : 1 ≤ m) (c : Bool) :
    wrap32 v / 2 ^ min m 32 % 4294967296 = (iterS 3 m (v, c)).1 ∧ (bits .and .i32 (wrap32 v / 2 ^ min (m - 1) 32) 1 == 1) = (iterS 3 m (v, c)).2 := by
  obtain ⟨j, rfl⟩ : ∃ j, m = j + 1 := ⟨m - 1, by omega⟩
  have hw := wrap32_bounds v
  rw [asr_iter v c v0 v1 j, Nat.add_sub_cancel, min_shift_s _ _ hw.1 hw.2, min_shift_s _ _ hw.1 hw.2, and1_i32]
  exact ⟨rfl, rfl⟩

theorem ror_low (v : Int) (m : Nat) (v0 : 0 ≤ v) (v1 : v < 4294967296) (m0 : 1 ≤ m) (c : Bool) :
    rorS v ((32 - (-(m : Int) % 32).toNat) % 32) = (iterS 4 m (v, c)).1 ∧ (rorS v ((32 - (-(m : Int) % 32).toNat) % 32) / 2147483648 == 1) = (iterS 4 m (v, c)).2 := by
  obtain ⟨j, rfl⟩ : ∃ j, m = j + 1 := ⟨m - 1, by omega⟩
  rw [ror_iter v c v0 v1 j, show (32 - (-((j + 1 : Nat) : Int) % 32).toNat) % 32 = (j + 1) % 32 by omega]
  exact ⟨rfl, rfl⟩

theorem rrx_true (v : Int) (v0 : 0 ≤ v) (v1 : v < 4294967296) : bits .or .u32 (v / 2) 2147483648 = (oneS 5 (v, true)).1 := by
  have h : bits .or .u32 (v / 2) 2147483648 = 2147483648 + v / 2 := by
    rw [u32_or _ _ (by omega) (by omega) (by omega) (by omega), Nat.or_comm, nat_join 31 _ _ (by decide) (by omega)]
    omega
  rw [h]
  simp [oneS, carryN]
  omega
theorem rrx_false (v : Int) : v / 2 = (oneS 5 (v, false)).1 := by simp [oneS, carryN]
theorem rrx_out (v : Int) (c : Bool) (v0 : 0 ≤ v) (v1 : v < 4294967296) : (bits .and .u32 v 1 == 1) = (oneS 5 (v, c)).2 := by
  rw [and1_u32 v v0 v1]; simp [oneS]
end Go.Proofs.Ytigmekboikgoaaa
