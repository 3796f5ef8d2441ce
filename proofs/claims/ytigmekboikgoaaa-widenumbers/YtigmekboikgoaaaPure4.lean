/- Plain bits: a word's bits and bytes the other way about. No Go in sight. -/
import Derived.Test.YtigmekboikgoaaaPure3
namespace Go.Proofs.Ytigmekboikgoaaa
open Go.RowKit
set_option linter.unusedVariables false
set_option linter.unusedSimpArgs false

/-! ### from numbers to bit vectors and back -/
theorem bv_of (x : Int) (x0 : 0 ≤ x) (x1 : x < 4294967296) : ∃ b : BitVec 32, x = (b.toNat : Int) :=
  ⟨BitVec.ofInt 32 x, by rw [BitVec.toNat_ofInt]; omega⟩
theorem bv_and (x y : BitVec 32) : bits .and .u32 (x.toNat : Int) (y.toNat : Int) = ((x &&& y).toNat : Int) := by
  rw [u32_and_nat _ _ (by have := x.isLt; omega) (by have := y.isLt; omega), BitVec.toNat_and]
theorem bv_or (x y : BitVec 32) : bits .or .u32 (x.toNat : Int) (y.toNat : Int) = ((x ||| y).toNat : Int) := by
  rw [u32_or_nat _ _ (by have := x.isLt; omega) (by have := y.isLt; omega), BitVec.toNat_or]
theorem bv_xor (x y : BitVec 32) : bits .xor .u32 (x.toNat : Int) (y.toNat : Int) = ((x ^^^ y).toNat : Int) := by
  rw [u32_xor_nat _ _ (by have := x.isLt; omega) (by have := y.isLt; omega), BitVec.toNat_xor]
theorem bv_andl (x : BitVec 32) (n : Nat) (h : n < 4294967296) : bits .and .u32 (x.toNat : Int) (n : Int) = ((x &&& BitVec.ofNat 32 n).toNat : Int) := by
  rw [← bv_and, BitVec.toNat_ofNat, Nat.mod_eq_of_lt (by omega)]
theorem bv_orl (x : BitVec 32) (n : Nat) (h : n < 4294967296) : bits .or .u32 (x.toNat : Int) (n : Int) = ((x ||| BitVec.ofNat 32 n).toNat : Int) := by
  rw [← bv_or, BitVec.toNat_ofNat, Nat.mod_eq_of_lt (by omega)]
theorem bv_shr (x : BitVec 32) (k : Nat) : (x.toNat : Int) / 2 ^ k = ((x >>> k).toNat : Int) := by
  rw [BitVec.toNat_ushiftRight, Nat.shiftRight_eq_div_pow]; simp
theorem bv_shl (x : BitVec 32) (k : Nat) : (x.toNat : Int) * 2 ^ k % 4294967296 = ((x <<< k).toNat : Int) := by
  rw [BitVec.toNat_shiftLeft, Nat.shiftLeft_eq]; simp
theorem bv_swap (x : BitVec 32) (k n : Nat) (h : n < 4294967296) :
    bits .or .u32 (bits .and .u32 ((x.toNat : Int) / 2 ^ k) (n : Int)) (bits .and .u32 (x.toNat : Int) (n : Int) * 2 ^ k % 4294967296)
      = ((((x >>> k) &&& BitVec.ofNat 32 n) ||| ((x &&& BitVec.ofNat 32 n) <<< k)).toNat : Int) := by
  rw [bv_shr, bv_andl _ n h, bv_andl _ n h, bv_shl, bv_or]

def swapB (k n : Nat) (x : BitVec 32) : BitVec 32 := ((x >>> k) &&& BitVec.ofNat 32 n) ||| ((x &&& BitVec.ofNat 32 n) <<< k)
def revB (x : BitVec 32) : BitVec 32 := let y := swapB 8 16711935 x; (y >>> 16) ||| (y <<< 16)
def rbitB (x : BitVec 32) : BitVec 32 := revB (swapB 4 252645135 (swapB 2 858993459 (swapB 1 1431655765 x)))

theorem cases32 {p : Nat → Prop} (h : ∀ i : Fin 32, p i.val) (i : Nat) (hi : i < 32) : p i := h ⟨i, hi⟩

theorem revB_bit (x : BitVec 32) (i : Nat) (hi : i < 32) : (revB x).getLsbD i = x.getLsbD ((3 - i / 8) * 8 + i % 8) := by
  rcases upto32 (i + 1) (by omega) (by omega) with h | h | h | h | h | h | h | h | h | h | h | h | h | h | h | h | h | h | h | h | h | h | h | h | h | h | h | h | h | h | h | h <;>
    (have h' : i = _ := Nat.succ.inj h
     subst h'
     simp [revB, swapB])
theorem rbitB_bit (x : BitVec 32) (i : Nat) (hi : i < 32) : (rbitB x).getLsbD i = x.getLsbD (31 - i) := by
  unfold rbitB
  rw [revB_bit _ i hi]
  rcases upto32 (i + 1) (by omega) (by omega) with h | h | h | h | h | h | h | h | h | h | h | h | h | h | h | h | h | h | h | h | h | h | h | h | h | h | h | h | h | h | h | h <;>
    (have h' : i = _ := Nat.succ.inj h
     subst h'
     simp [swapB])

def rev16B (x : BitVec 32) : BitVec 32 := ((x >>> 8) &&& BitVec.ofNat 32 16711935) ||| ((x <<< 8) &&& BitVec.ofNat 32 4278255360)
theorem rev16B_bit (x : BitVec 32) (i : Nat) (hi : i < 32) : (rev16B x).getLsbD i = x.getLsbD (i / 16 * 16 + (i + 8) % 16) := by
  rcases upto32 (i + 1) (by omega) (by omega) with h | h | h | h | h | h | h | h | h | h | h | h | h | h | h | h | h | h | h | h | h | h | h | h | h | h | h | h | h | h | h | h <;>
    (have h' : i = _ := Nat.succ.inj h
     subst h'
     simp [rev16B])

theorem revB_revB (x : BitVec 32) : revB (revB x) = x := by
  apply BitVec.eq_of_getLsbD_eq
  intro i hi
  rw [revB_bit _ i hi, revB_bit _ _ (by omega)]
  congr 1
  omega
theorem rbitB_rbitB (x : BitVec 32) : rbitB (rbitB x) = x := by
  apply BitVec.eq_of_getLsbD_eq
  intro i hi
  rw [rbitB_bit _ i hi, rbitB_bit _ _ (by omega)]
  congr 1
  omega
theorem rev16B_rev16B (x : BitVec 32) : rev16B (rev16B x) = x := by
  apply BitVec.eq_of_getLsbD_eq
  intro i hi
  rw [rev16B_bit _ i hi, rev16B_bit _ _ (by omega)]
  congr 1
  omega
theorem revB_rbitB (x : BitVec 32) : revB (rbitB x) = rbitB (revB x) := by
  apply BitVec.eq_of_getLsbD_eq
  intro i hi
  rw [revB_bit _ i hi, rbitB_bit _ _ (by omega), rbitB_bit _ i hi, revB_bit _ _ (by omega)]
  congr 1
  omega

def ofB (f : BitVec 32 → BitVec 32) (x : Int) : Int := ((f (BitVec.ofInt 32 x)).toNat : Int)
theorem ofB_bounds (f : BitVec 32 → BitVec 32) (x : Int) : 0 ≤ ofB f x ∧ ofB f x < 4294967296 := by
  unfold ofB
  have := (f (BitVec.ofInt 32 x)).isLt
  omega
theorem ofB_nat (f : BitVec 32 → BitVec 32) (b : BitVec 32) : ofB f (b.toNat : Int) = ((f b).toNat : Int) := by
  unfold ofB
  rw [BitVec.ofInt_natCast, BitVec.ofNat_toNat, BitVec.setWidth_eq]
theorem ofB_ofB (f g : BitVec 32 → BitVec 32) (x : Int) : ofB f (ofB g x) = ofB (fun b => f (g b)) x := by
  rw [show ofB g x = ((g (BitVec.ofInt 32 x)).toNat : Int) from rfl, ofB_nat]
  rfl
theorem ofB_id (f : BitVec 32 → BitVec 32) (h : ∀ b, f b = b) (x : Int) (x0 : 0 ≤ x) (x1 : x < 4294967296) : ofB f x = x := by
  obtain ⟨b, rfl⟩ := bv_of x x0 x1
  rw [ofB_nat, h]

theorem bits_u32_bounds (op : BinOp) (a b : Int) : 0 ≤ bits op .u32 a b ∧ bits op .u32 a b < 4294967296 := by
  unfold bits
  rw [IntKind.wrap_u32']
  omega

/-- what the walk shows of bits.ReverseBytes32 -/
theorem revBytes_eq (x : Int) (x0 : 0 ≤ x) (x1 : x < 4294967296) :
    bits .or .u32 (bits .or .u32 (bits .and .u32 (x / 256) 16711935) (bits .and .u32 x 16711935 * 256 % 4294967296) / 65536)
      (bits .or .u32 (bits .and .u32 (x / 256) 16711935) (bits .and .u32 x 16711935 * 256 % 4294967296) * 65536 % 4294967296) = ofB revB x := by
  obtain ⟨b, rfl⟩ := bv_of x x0 x1
  rw [ofB_nat]
  have h := bv_swap b 8 16711935 (by omega)
  have e8 : (2 : Int) ^ 8 = 256 := by decide
  have e16 : (2 : Int) ^ 16 = 65536 := by decide
  rw [e8] at h
  rw [show ((16711935 : Nat) : Int) = 16711935 from rfl] at h
  rw [h, ← e16, bv_shr, bv_shl, bv_or]
  rfl
theorem swap_eq (x p n : Int) (k m : Nat) (hp : (2 : Int) ^ k = p) (hn : (m : Int) = n) (hm : m < 4294967296) (x0 : 0 ≤ x) (x1 : x < 4294967296) :
    bits .or .u32 (bits .and .u32 (x / p) n) (bits .and .u32 x n * p % 4294967296) = ofB (swapB k m) x := by
  obtain ⟨b, rfl⟩ := bv_of x x0 x1
  subst hp hn
  rw [ofB_nat, bv_swap b k m hm]
  rfl
theorem rev16_eq (x : Int) (x0 : 0 ≤ x) (x1 : x < 4294967296) :
    bits .or .u32 (bits .and .u32 (x / 256) 16711935) (bits .and .u32 (x * 256 % 4294967296) 4278255360) = ofB rev16B x := by
  obtain ⟨b, rfl⟩ := bv_of x x0 x1
  have e8 : (256 : Int) = 2 ^ 8 := by decide
  rw [ofB_nat, e8, bv_shr, bv_shl, show (16711935 : Int) = ((16711935 : Nat) : Int) from rfl, show (4278255360 : Int) = ((4278255360 : Nat) : Int) from rfl, bv_andl _ _ (by omega), bv_andl _ _ (by omega), bv_or]
  rfl
end Go.Proofs.Ytigmekboikgoaaa
