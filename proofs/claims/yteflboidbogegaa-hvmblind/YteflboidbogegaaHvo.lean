/- HvmBlind: code without jumps and memory in plain words; the document's SameEvents. -/
import Derived.Test.YteflboidbogegaaHvl
namespace Go.Proofs.Yteflboidbogegaa
open Go.ChangeShapes Go.WideShapes Go.ChangeAt Go.RowKit
set_option linter.unusedVariables false
set_option linter.unusedSimpArgs false

def recOk (C : List HV) : Prop := ∀ h ∈ C, h.op ≤ 21 ∧ rightS h = true ∧ h.wf
def evs (at' : Int) : Int → List HV → List HEv
  | _, [] => []
  | p, h :: t => ⟨at' + p, 0, costS h.op⟩ :: evs at' (p + 1) t
theorem evs_length (at' p : Int) (C : List HV) : (evs at' p C).length = C.length := by
  induction C generalizing p with
  | nil => rfl
  | cons h t ih => simp [evs, ih]
def sumC : List HV → Int
  | [] => 0
  | h :: t => costS h.op + sumC t
theorem evs_sum (at' p : Int) (C : List HV) : sumCo (evs at' p C) = sumC C := by
  induction C generalizing p with
  | nil => rfl
  | cons h t ih => simp [evs, sumCo, sumC, ih]
theorem sumC_snoc (C : List HV) (h : HV) : sumC (C ++ [h]) = sumC C + costS h.op := by
  induction C with
  | nil => simp [sumC]
  | cons a t ih => simp only [List.cons_append, sumC, ih]; omega
theorem cost_b (o : Int) : 0 ≤ costS o ∧ costS o ≤ 100 := by unfold costS; (repeat' split) <;> omega
theorem evs_ok (at' p : Int) (C : List HV) : okE (evs at' p C) := by
  induction C generalizing p with
  | nil => intro e he; cases he
  | cons h t ih =>
    intro e he
    simp only [evs, List.mem_cons] at he
    rcases he with rfl | he
    · exact cost_b h.op
    · exact ih _ e he
theorem sumC_b (C : List HV) : 0 ≤ sumC C ∧ sumC C ≤ 100 * C.length := by
  have h := sumCo_bounds (evs_ok 0 0 C)
  rw [evs_sum, evs_length] at h
  exact h
theorem blind_run (at' : Int) (C : List HV) (hC : recOk C) : ∀ (S P : List HV) (k : Nat) (R : List Int) (E : List HEv), C = P ++ S →
    ∃ R', runS at' [] (C ++ [mExit]) (S.length + 1 + k) ⟨R, E, P.length, []⟩ = (⟨R', E ++ evs at' P.length (S ++ [mExit]), C.length, []⟩, 0) := by
  intro S
  induction S with
  | nil =>
    intro P k R E hP
    rw [List.append_nil] at hP
    subst hP
    have hc : codeAt (C ++ [mExit]) C.length = mExit := by simp [codeAt, List.getD]
    have ho : okPc (C ++ [mExit]) C.length = true := by
      have h1 : (C ++ [mExit])[((C.length : Nat) : Int).toNat]? = some mExit := by simp
      simp only [okPc, h1]
      simp
      rfl
    refine ⟨R, ?_⟩
    rw [show ([] : List HV).length + 1 + k = k + 1 by simp; omega]
    refine run_end (s := ⟨R, E, C.length, []⟩) ho ?_
    simp only [hc]
    rfl
  | cons h t ih =>
    intro P k R E hP
    have hh : h ∈ C := by rw [hP]; simp
    obtain ⟨ho, hr, _⟩ := hC h hh
    have hg : (C ++ [mExit])[((P.length : Nat) : Int).toNat]? = some h := by rw [hP]; simp
    have hc : codeAt (C ++ [mExit]) P.length = h := by simp only [codeAt, List.getD, hg]; rfl
    have hok : okPc (C ++ [mExit]) P.length = true := by
      simp only [okPc, hg, hr]
      simp
    have hadd : addrS h R = 0 := by
      have h1 : loadsS h.op = 0 := by unfold loadsS; rw [if_neg (by omega), if_neg (by omega), if_neg (by omega)]
      have h2 : storesS h.op = 0 := by unfold storesS; rw [if_neg (by omega), if_neg (by omega), if_neg (by omega)]
      simp [addrS, h1, h2]
    obtain ⟨R', hi⟩ := ih (P ++ [h]) k (R.set h.d.toNat (reckS h.op (regv R h.a) (regv R h.b) (regv R h.c) h.im)) (E ++ [⟨at' + P.length, 0, costS h.op⟩]) (by rw [hP]; simp)
    refine ⟨R', ?_⟩
    rw [show (h :: t).length + 1 + k = (t.length + 1 + k) + 1 by simp; omega]
    rw [run_step (s := ⟨R, E, P.length, []⟩) (s' := ⟨R.set h.d.toNat (reckS h.op (regv R h.a) (regv R h.b) (regv R h.c) h.im), E ++ [⟨at' + P.length, 0, costS h.op⟩], P.length + 1, []⟩) hok (by
      simp only [hc, stepS, evS, hadd, actS, ho, if_true])]
    have e1 : (((P ++ [h]).length : Nat) : Int) = (P.length : Int) + 1 := by simp
    rw [e1] at hi
    rw [hi]
    simp [evs]
theorem blind_all (at' : Int) (C : List HV) (hC : recOk C) (hl : C.length ≤ 40) (R : List Int) : ∃ R', runS at' [] (C ++ [mExit]) 100 ⟨R, [], 0, []⟩ = (⟨R', evs at' 0 (C ++ [mExit]), C.length, []⟩, 0) := by
  obtain ⟨R', h⟩ := blind_run at' C hC C [] (99 - C.length) R [] rfl
  rw [show C.length + 1 + (99 - C.length) = 100 by omega] at h
  exact ⟨R', h⟩
end Go.Proofs.Yteflboidbogegaa
