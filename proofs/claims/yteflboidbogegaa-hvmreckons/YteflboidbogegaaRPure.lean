/- Plain words of regions: what the program's and the document's functions come to, on a list of regions given by an index. No Go in sight. -/
import Derived.Test.YteflboidbogegaaRows
import Derived.WalkKit
import Derived.ProofKit
import Derived.OpenShut
import Derived.Deep.QuietTactic
import Derived.BigQuiet
namespace Go.Proofs.Yteflboidbogegaa
open Go.ChangeShapes Go.WideShapes Go.ChangeAt Go.RowKit
set_option linter.unusedVariables false

structure Reg where
  fr : Int
  ln : Int
  rd : Bool
  wr : Bool
  ex : Bool
  se : Bool
  ba : Option Addr
  bl : Nat
  bc : Nat
def noReg : Reg := ⟨0, 0, false, false, false, false, none, 0, 0⟩

def Reg.wf (r : Reg) : Prop := 0 ≤ r.fr ∧ r.fr ≤ 4294967295 ∧ 0 ≤ r.ln ∧ r.ln ≤ 4294967295 ∧ (r.bl : Int) ≤ 9223372036854775807
def Reg.val (r : Reg) : Value := .agg #[.int .u32 r.fr, .int .u32 r.ln, .bool r.rd, .bool r.wr, .bool r.ex, .bool r.se, .slice r.ba r.bl r.bc]

def endS (r : Reg) : Int := r.fr + r.ln
def mayBeS (r : Reg) : Bool := decide (r.fr % 4 = 0) && decide (r.ln % 4 = 0) && decide (r.ln ≠ 0) && decide (r.fr + r.ln ≤ 4294963200) && decide ((r.bl : Int) ≤ r.ln) && !(r.ex && r.se)
def sumS (R : Nat → Reg) : Nat → Int
  | 0 => 0
  | n + 1 => sumS R n + (R n).ln
def freeS (R : Nat → Reg) : Nat → Int
  | 0 => 0
  | n + 1 => endS (R n)
def goodS (R : Nat → Reg) : Nat → Bool
  | 0 => true
  | n + 1 => goodS R n && (decide (freeS R n ≤ (R n).fr) && mayBeS (R n))
def tooS (R : Nat → Reg) (n : Nat) : Bool := decide (8 < n) || decide (65536 < sumS R n)
def checkS (R : Nat → Reg) (n : Nat) : Int := if tooS R n then 22 else if goodS R n then 0 else 23
def widthS (s : Int) : Int := if s = 1 ∨ s = 2 then s else 4
def hitS (r : Reg) (a s : Int) : Bool := decide (r.fr ≤ a) && decide (a + s ≤ r.fr + r.ln)
def firstS (R : Nat → Reg) (a s : Int) : Nat → Option Nat
  | 0 => none
  | n + 1 => match firstS R a s n with
    | some i => some i
    | none => if hitS (R n) a s then some n else none
def findS (R : Nat → Reg) (n : Nat) (a s : Int) : Option Nat := if checkS R n = 0 then firstS R a (widthS s) n else none
def regS (R : Nat → Reg) : Option Nat → Reg
  | none => noReg
  | some i => R i
def mayS (R : Nat → Reg) (n : Nat) (a s : Int) (w : Bool) : Int :=
  if checkS R n ≠ 0 then 24 else if a % widthS s ≠ 0 then 25 else
  if (findS R n a s).isSome && (if w then (regS R (findS R n a s)).wr else (regS R (findS R n a s)).rd) then 0 else 24
def execS (R : Nat → Reg) (n : Nat) (a : Int) : Int := if decide (a % 2 = 0) && (findS R n a 2).isSome && (regS R (findS R n a 2)).ex then 0 else 26
def secretS (R : Nat → Reg) (n : Nat) (a s : Int) : Bool := (findS R n a s).isSome && (regS R (findS R n a s)).se
def fixedS (R : Nat → Reg) (n : Nat) (a s : Int) : Bool := (findS R n a s).isSome && (regS R (findS R n a s)).rd && !(regS R (findS R n a s)).wr && !(regS R (findS R n a s)).se

theorem sumS_bounds (R : Nat → Reg) (n : Nat) (h : ∀ i, i < n → (R i).wf) : 0 ≤ sumS R n ∧ sumS R n ≤ 4294967295 * n := by
  induction n with
  | zero => simp [sumS]
  | succ n ih =>
    have h1 := ih (fun i hi => h i (by omega))
    have h2 := h n (by omega)
    unfold Reg.wf at h2
    simp only [sumS]
    push_cast
    omega
theorem goodS_le (R : Nat → Reg) {k n : Nat} (hk : k ≤ n) (h : goodS R n = true) : goodS R k = true := by
  induction n with
  | zero => have : k = 0 := by omega
            subst this; exact h
  | succ n ih =>
    rcases Nat.lt_or_ge n k with h1 | h1
    · have : k = n + 1 := by omega
      subst this; exact h
    · simp only [goodS, Bool.and_eq_true] at h
      exact ih h1 h.1
theorem goodS_bad (R : Nat → Reg) {k n : Nat} (hk : k < n) (h : (decide (freeS R k ≤ (R k).fr) && mayBeS (R k)) = false) : goodS R n = false := by
  cases hg : goodS R n with
  | false => rfl
  | true =>
    have := goodS_le R (k := k + 1) hk hg
    simp [goodS, h] at this
theorem firstS_le (R : Nat → Reg) (a s : Int) {k n i : Nat} (hk : k ≤ n) (h : firstS R a s k = some i) : firstS R a s n = some i := by
  induction n with
  | zero => have : k = 0 := by omega
            subst this; exact h
  | succ n ih =>
    rcases Nat.lt_or_ge n k with h1 | h1
    · have : k = n + 1 := by omega
      subst this; exact h
    · simp only [firstS, ih h1]
theorem firstS_hit (R : Nat → Reg) (a s : Int) {k n : Nat} (hk : k < n) (h0 : firstS R a s k = none) (h : hitS (R k) a s = true) : firstS R a s n = some k :=
  firstS_le R a s (k := k + 1) hk (by simp [firstS, h0, h])
theorem firstS_lt (R : Nat → Reg) (a s : Int) {n i : Nat} (h : firstS R a s n = some i) : i < n ∧ hitS (R i) a s = true := by
  induction n with
  | zero => cases h
  | succ n ih =>
    simp only [firstS] at h
    cases hf : firstS R a s n with
    | some j => rw [hf] at h; cases h; exact ⟨by have := (ih hf).1; omega, (ih hf).2⟩
    | none =>
      rw [hf] at h
      by_cases hh : hitS (R n) a s = true
      · simp [hh] at h; subst h; exact ⟨by omega, hh⟩
      · simp [hh] at h
theorem findS_lt (R : Nat → Reg) {n i : Nat} {a s : Int} (h : findS R n a s = some i) : i < n := by
  unfold findS at h
  split at h
  · exact (firstS_lt R _ _ h).1
  · cases h
end Go.Proofs.Yteflboidbogegaa
