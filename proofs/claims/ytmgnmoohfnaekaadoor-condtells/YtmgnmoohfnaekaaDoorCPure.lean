/- Plain arithmetic of flags and conditions: what package cond's functions answer; of no program. -/
import Derived.Test.YtmgnmoohfnaekaaDoorRows
import Derived.WalkKit
namespace Go.Proofs.YtmgnmoohfnaekaaDoor
set_option linter.unusedVariables false

def holdsS (c : Int) (n z k v : Bool) : Bool :=
  if c = 0 then z else if c = 1 then !z else if c = 2 then k else if c = 3 then !k else if c = 4 then n else if c = 5 then !n else if c = 6 then v else if c = 7 then !v
  else if c = 8 then k && !z else if c = 9 then !(k && !z) else if c = 10 then n == v else if c = 11 then !(n == v) else if c = 12 then !z && n == v else if c = 13 then !(!z && n == v) else c == 14
def bitS (f b : Int) : Bool := bits .and .i64 f b != 0
def flagsHold (c f : Int) : Bool := holdsS c (bitS f 8) (bitS f 4) (bitS f 2) (bitS f 1)
def flagS (b : Bool) (x : Int) : Int := if b then x else 0
def ofS (n z k v : Bool) : Int := flagS n 8 + flagS z 4 + flagS k 2 + flagS v 1
def notS (c : Int) : Int := if c < 0 then c else if 13 < c then c else bits .xor .i64 c 1
def topS (v : Int) : Bool := decide (2147483648 ≤ v)
def resultS (v : Int) (k o : Bool) : Int := ofS (topS v) (v == 0) k o

def nameS (c : Int) : ByteArray := if c = 0 then ⟨#[101, 113]⟩ else if c = 1 then ⟨#[110, 101]⟩ else if c = 2 then ⟨#[99, 115]⟩ else if c = 3 then ⟨#[99, 99]⟩ else if c = 4 then ⟨#[109, 105]⟩ else if c = 5 then ⟨#[112, 108]⟩ else if c = 6 then ⟨#[118, 115]⟩ else if c = 7 then ⟨#[118, 99]⟩ else if c = 8 then ⟨#[104, 105]⟩ else if c = 9 then ⟨#[108, 115]⟩ else if c = 10 then ⟨#[103, 101]⟩ else if c = 11 then ⟨#[108, 116]⟩ else if c = 12 then ⟨#[103, 116]⟩ else if c = 13 then ⟨#[108, 101]⟩ else if c = 14 then ⟨#[97, 108]⟩ else ⟨#[63]⟩

theorem of_or (n z k v : Bool) : bits .or .i64 (bits .or .i64 (bits .or .i64 (flagS n 8) (flagS z 4)) (flagS k 2)) (flagS v 1) = ofS n z k v := by
  revert n z k v; decide +kernel
theorem of_bits (n z k v : Bool) : bitS (ofS n z k v) 8 = n ∧ bitS (ofS n z k v) 4 = z ∧ bitS (ofS n z k v) 2 = k ∧ bitS (ofS n z k v) 1 = v := by
  revert n z k v; decide +kernel
theorem of_more (n z k v : Bool) : bitS (bits .or .i64 (ofS n z k v) 16) 8 = n ∧ bitS (bits .or .i64 (ofS n z k v) 16) 4 = z ∧ bitS (bits .or .i64 (ofS n z k v) 16) 2 = k ∧ bitS (bits .or .i64 (ofS n z k v) 16) 1 = v := by
  revert n z k v; decide +kernel
theorem of_holds (c : Int) (n z k v : Bool) : flagsHold c (ofS n z k v) = holdsS c n z k v := by
  obtain ⟨h1, h2, h3, h4⟩ := of_bits n z k v
  unfold flagsHold; rw [h1, h2, h3, h4]
theorem more_holds (c : Int) (n z k v : Bool) : flagsHold c (bits .or .i64 (ofS n z k v) 16) = holdsS c n z k v := by
  obtain ⟨h1, h2, h3, h4⟩ := of_more n z k v
  unfold flagsHold; rw [h1, h2, h3, h4]
theorem nameS_out (c : Int) (h : c < 0 ∨ 14 < c) : nameS c = ⟨#[63]⟩ := by
  unfold nameS
  rw [if_neg (by omega), if_neg (by omega), if_neg (by omega), if_neg (by omega), if_neg (by omega), if_neg (by omega), if_neg (by omega), if_neg (by omega), if_neg (by omega), if_neg (by omega), if_neg (by omega), if_neg (by omega), if_neg (by omega), if_neg (by omega), if_neg (by omega)]
theorem upto14 (c : Int) (h0 : 0 ≤ c) (h1 : c ≤ 14) : c = 0 ∨ c = 1 ∨ c = 2 ∨ c = 3 ∨ c = 4 ∨ c = 5 ∨ c = 6 ∨ c = 7 ∨ c = 8 ∨ c = 9 ∨ c = 10 ∨ c = 11 ∨ c = 12 ∨ c = 13 ∨ c = 14 := by omega
theorem notS_at (k : Nat) (h : k < 14) : notS k = (if k % 2 = 0 then k + 1 else k - 1 : Nat) := by
  revert k; decide +kernel
theorem notS_twice (k : Nat) (h : k < 14) : notS (notS k) = k := by
  revert k; decide +kernel
theorem other_holds (k : Nat) (h : k < 14) (n z c v : Bool) : holdsS (notS k) n z c v = !holdsS k n z c v := by
  revert k; revert n z c v; decide +kernel
theorem and15 (c : Int) : 0 ≤ bits .and .i64 c 15 ∧ bits .and .i64 c 15 ≤ 15 := by
  have hle : (BitVec.ofInt 64 c &&& BitVec.ofInt 64 15).toNat ≤ 15 := by
    rw [BitVec.toNat_and]
    exact Nat.le_trans Nat.and_le_right (by decide)
  show 0 ≤ IntKind.i64.wrap ((BitVec.ofInt 64 c &&& BitVec.ofInt 64 15).toNat : Nat) ∧ IntKind.i64.wrap ((BitVec.ofInt 64 c &&& BitVec.ofInt 64 15).toNat : Nat) ≤ 15
  rw [IntKind.wrap_i64]
  omega
end Go.Proofs.YtmgnmoohfnaekaaDoor
