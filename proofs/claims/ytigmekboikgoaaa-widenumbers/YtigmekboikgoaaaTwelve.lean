/- Plain: which words twelve bits say: what Compress finds, Expand says. No Go in sight (but for the definitions). -/
import Derived.Test.YtigmekboikgoaaaBits
namespace Go.Proofs.Ytigmekboikgoaaa
open Go.RowKit
set_option linter.unusedVariables false
set_option linter.unusedSimpArgs false

theorem bitLen_range : ∀ (k x : Nat), x < 2 ^ k → k ≤ 64 → x ≠ 0 → 2 ^ (Lib.bitLen x - 1) ≤ x ∧ x < 2 ^ Lib.bitLen x ∧ 1 ≤ Lib.bitLen x
  | 0, x, h, _, hx => absurd (by simpa using h) hx
  | k + 1, x, h, hk, hx => by
    have hx64 : x < 2 ^ 64 := Nat.lt_of_lt_of_le h (Nat.pow_le_pow_right (by decide) hk)
    have hh := Lib.bitLen_half x hx hx64
    by_cases h1 : x / 2 = 0
    · have e : x = 1 := by omega
      subst e
      decide
    · have ih := bitLen_range k (x / 2) (by rw [Nat.pow_succ] at h; omega) (by omega) h1
      rw [hh, Nat.add_comm 1, Nat.pow_succ]
      obtain ⟨a, b, c⟩ := ih
      have e : 2 ^ (Lib.bitLen (x / 2) + 1 - 1) = 2 ^ (Lib.bitLen (x / 2) - 1) * 2 := by
        rw [← Nat.pow_succ]
        congr 1
        omega
      rw [e]
      omega

theorem turned_parts (v : Int) (L : Nat) (v0 : 256 ≤ v) (v1 : v < 4294967296) (L9 : 9 ≤ L) (L32 : L ≤ 32) (r1 : 2 ^ (L - 1) ≤ v.toNat) (r2 : v.toNat < 2 ^ L) (hl : rorS v (L - 8) ≤ 255) :
    v % 2 ^ (L - 8) = 0 ∧ 128 ≤ v / 2 ^ (L - 8) ∧ v / 2 ^ (L - 8) ≤ 255 := by
  unfold rorS at hl
  rcases upto32 L (by omega) L32 with h | h | h | h | h | h | h | h | h | h | h | h | h | h | h | h | h | h | h | h | h | h | h | h | h | h | h | h | h | h | h | h <;> subst h <;> simp at hl r1 r2 ⊢ <;> omega

theorem turned_back (v : Int) (v0 : 256 ≤ v) (v1 : v < 4294967296) (hl : lowT v ≤ 255) :
    (turnS v * 128 + lowT v % 128) / 1024 % 4 ≠ 0 ∧ 8 ≤ turnS v ∧ turnS v < 32 ∧ rorS (lowT v % 128 + 128) (turnS v).toNat = v ∧ 128 ≤ lowT v := by
  have hr := bitLen_range 32 v.toNat (by omega) (by omega) (by omega)
  have hL := bitLen_le32 v (by omega) v1
  revert hl
  unfold lowT turnS clzS
  generalize Lib.bitLen v.toNat = L at *
  obtain ⟨r1, r2, r3⟩ := hr
  have L9 : 9 ≤ L := by
    apply Classical.byContradiction
    intro h
    have : 2 ^ L ≤ 2 ^ 8 := Nat.pow_le_pow_right (by decide) (by omega)
    omega
  intro hl
  have e1 : (32 - ((32 - (L : Int) + 8) % 32).toNat) % 32 = L - 8 := by omega
  rw [e1] at hl ⊢
  have e2 : (32 - (L : Int) + 8).toNat = 40 - L := by omega
  rw [e2]
  obtain ⟨p1, p2, p3⟩ := turned_parts v L v0 v1 L9 hL r1 r2 hl
  have e3 : rorS v (L - 8) = v / 2 ^ (L - 8) := by
    unfold rorS
    rw [p1]
    simp
  rw [e3]
  have e4 : v = v / 2 ^ (L - 8) * 2 ^ (L - 8) := by
    have := Int.mul_ediv_add_emod v (2 ^ (L - 8))
    rw [p1, Int.mul_comm] at this
    omega
  have e5 : (256 : Int) ≤ 2 ^ (40 - L) := by
    rw [pow_split (40 - L) 8 (by omega)]
    have : (1 : Int) ≤ 2 ^ (40 - L - 8) := Int.pow_pos (by decide)
    omega
  generalize hq : v / 2 ^ (L - 8) = q at *
  refine ⟨by omega, by omega, by omega, ?_, p2⟩
  unfold rorS
  rw [show q % 128 + 128 = q by omega, Int.ediv_eq_zero_of_lt (by omega) (by omega), Int.emod_eq_of_lt (by omega) (by omega), show 32 - (40 - L) = L - 8 by omega]
  omega

theorem compress_back (v : Int) (c : Bool) (v0 : 0 ≤ v) (v1 : v < 4294967296) (h : (compressS v).2 = true) :
    0 ≤ (compressS v).1 ∧ (compressS v).1 < 4096 ∧ (expandS (compressS v).1 c).1 = v ∧ (expandS (compressS v).1 c).2.2 = true := by
  revert h
  unfold compressS
  by_cases c0 : v = v % 256
  · rw [if_pos c0]
    intro _
    refine ⟨by simp; omega, by simp; omega, ?_⟩
    show (expandS (v % 256) c).1 = v ∧ _
    unfold expandS
    rw [if_pos (by omega)]
    have e : v % 256 / 256 % 4 = 0 := by omega
    simp only [e]
    refine ⟨?_, by simp⟩
    show spreadS (v % 256 % 256) 0 = v
    rw [show spreadS (v % 256 % 256) 0 = v % 256 % 256 from rfl]
    omega
  rw [if_neg c0]
  by_cases c1 : v = spreadS (v % 256) 1
  · rw [if_pos c1]
    intro _
    refine ⟨by simp; omega, by simp; omega, ?_⟩
    show (expandS (256 + v % 256) c).1 = v ∧ (expandS (256 + v % 256) c).2.2 = true
    unfold expandS
    rw [if_pos (by omega)]
    have e : (256 + v % 256) / 256 % 4 = 1 := by omega
    have e2 : (256 + v % 256) % 256 = v % 256 := by omega
    simp only [e, e2]
    refine ⟨c1.symm, ?_⟩
    have : v % 256 ≠ 0 := by
      intro hz
      rw [hz] at c1
      have : spreadS 0 1 = 0 := rfl
      omega
    simp [this]
  rw [if_neg c1]
  by_cases c2 : v = spreadS (v / 256 % 256) 2
  · rw [if_pos c2]
    intro _
    refine ⟨by simp; omega, by simp; omega, ?_⟩
    show (expandS (512 + v / 256 % 256) c).1 = v ∧ (expandS (512 + v / 256 % 256) c).2.2 = true
    unfold expandS
    rw [if_pos (by omega)]
    have e : (512 + v / 256 % 256) / 256 % 4 = 2 := by omega
    have e2 : (512 + v / 256 % 256) % 256 = v / 256 % 256 := by omega
    simp only [e, e2]
    refine ⟨c2.symm, ?_⟩
    have : v / 256 % 256 ≠ 0 := by
      intro hz
      rw [hz] at c2
      have : spreadS 0 2 = 0 := rfl
      omega
    simp [this]
  rw [if_neg c2]
  by_cases c3 : v = spreadS (v % 256) 3
  · rw [if_pos c3]
    intro _
    refine ⟨by simp; omega, by simp; omega, ?_⟩
    show (expandS (768 + v % 256) c).1 = v ∧ (expandS (768 + v % 256) c).2.2 = true
    unfold expandS
    rw [if_pos (by omega)]
    have e : (768 + v % 256) / 256 % 4 = 3 := by omega
    have e2 : (768 + v % 256) % 256 = v % 256 := by omega
    simp only [e, e2]
    refine ⟨c3.symm, ?_⟩
    have : v % 256 ≠ 0 := by
      intro hz
      rw [hz] at c3
      have : spreadS 0 3 = 0 := rfl
      omega
    simp [this]
  rw [if_neg c3]
  unfold turnedS
  by_cases hl : 255 < lowT v
  · rw [if_pos hl]
    intro h
    cases h
  · rw [if_neg hl]
    intro _
    obtain ⟨a, b, d, e, f⟩ := turned_back v (by omega) v1 (by omega)
    have hl0 := lowT_bounds v v0 v1
    refine ⟨by simp; omega, by simp; omega, ?_⟩
    show (expandS (turnS v * 128 + lowT v % 128) c).1 = v ∧ (expandS (turnS v * 128 + lowT v % 128) c).2.2 = true
    unfold expandS
    rw [if_neg a]
    have e1 : (turnS v * 128 + lowT v % 128) % 128 = lowT v % 128 := by omega
    have e2 : (turnS v * 128 + lowT v % 128) / 128 % 32 = turnS v := by omega
    simp only [e1, e2]
    exact ⟨e, trivial⟩
end Go.Proofs.Ytigmekboikgoaaa
