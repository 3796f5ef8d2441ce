/- The host machine in plain words: what an instruction makes of a state, what a run comes to. No Go in sight. -/
import Derived.Test.YteflboidbogegaaHv2
import Derived.Test.YteflboidbogegaaBits
namespace Go.Proofs.Yteflboidbogegaa
open Go.ChangeShapes Go.WideShapes Go.ChangeAt Go.RowKit
set_option linter.unusedVariables false
set_option linter.unusedSimpArgs false

def okU (x : Int) : Prop := 0 ≤ x ∧ x < 4294967296
def okR (R : List Int) : Prop := R.length = 32 ∧ ∀ x ∈ R, okU x
def regv (R : List Int) (i : Int) : Int := R.getD i.toNat 0
def HOk (h : HV) : Prop := (0 ≤ h.d ∧ h.d < 32) ∧ (0 ≤ h.a ∧ h.a < 32) ∧ (0 ≤ h.b ∧ h.b < 32) ∧ (0 ≤ h.c ∧ h.c < 32) ∧ okU h.im
def reckS (o a b c im : Int) : Int :=
  if o = 1 then im else if o = 2 then a else if o = 3 then (a + b) % 4294967296 else if o = 4 then (a - b) % 4294967296 else if o = 5 then bits .and .u32 a b else if o = 6 then bits .or .u32 a b else if o = 7 then bits .xor .u32 a b
  else if o = 8 then (shiftS a 1 (b % 32) false).1 else if o = 9 then (shiftS a 2 (b % 32) false).1 else if o = 10 then (shiftS a 3 (b % 32) false).1 else if o = 11 then (shiftS a 4 (b % 32) false).1
  else if o = 12 then a * b % 4294967296 else if o = 13 then mulS a b false / 4294967296 % 4294967296 else if o = 14 then mulS a b true / 4294967296 % 4294967296 else if o = 15 then divuS a b else if o = 16 then divsS a b
  else if o = 17 then clzS a else if o = 18 then (if a < b then 1 else 0) else if o = 19 then (if wrap32 a < wrap32 b then 1 else 0) else if o = 20 then (if a = b then 1 else 0) else (if c ≠ 0 then a else b)

theorem regv_at {R : List Int} (hR : okR R) {i : Int} (h0 : 0 ≤ i) (h1 : i < 32) : R[i.toNat]? = some (regv R i) ∧ okU (regv R i) := by
  have hi : i.toNat < R.length := by rw [hR.1]; omega
  have : regv R i = R[i.toNat] := by simp [regv, List.getD, hi]
  rw [this]
  exact ⟨List.getElem?_eq_getElem hi, hR.2 _ (List.getElem_mem hi)⟩
theorem okR_set {R : List Int} (hR : okR R) (i : Nat) {x : Int} (hx : okU x) : okR (R.set i x) := by
  refine ⟨by simp [hR.1], fun y hy => ?_⟩
  rcases List.mem_or_eq_of_mem_set hy with h | h
  · exact hR.2 y h
  · rw [h]; exact hx
theorem right_ok {h : HV} (hw : h.wf) (hr : rightS h = true) : HOk h ∧ 1 ≤ h.op ∧ h.op ≤ 31 := by
  have key : ∀ r u, regOk r u = true → 0 ≤ r ∧ r < 32 := by
    intro r u hu
    unfold regOk at hu
    cases u
    · simp at hu; omega
    · simp at hu; omega
  simp only [rightS, Bool.and_eq_true] at hr
  obtain ⟨h0, h1, h2, h3, h4, _⟩ := hr
  simp only [isS, Bool.and_eq_true, decide_eq_true_eq] at h0
  unfold HV.wf at hw
  exact ⟨⟨key _ _ h1, key _ _ h2, key _ _ h3, key _ _ h4, by unfold okU; omega⟩, by omega, by omega⟩
end Go.Proofs.Yteflboidbogegaa
