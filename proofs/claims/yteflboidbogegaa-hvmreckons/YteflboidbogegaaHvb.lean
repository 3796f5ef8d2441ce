/- touch in one contract; what a round keeps. -/
import Derived.Test.YteflboidbogegaaHva
namespace Go.Proofs.Yteflboidbogegaa
open Go.ChangeShapes Go.WideShapes Go.ChangeAt Go.RowKit
set_option linter.unusedVariables false
set_option linter.unusedSimpArgs false

theorem touch_c (s : HSt) (v : Value) (h : HV) (o1 : 22 ≤ h.op) (o2 : h.op ≤ 31) (ho : HOk h) (hR : okR s.R) (hv : v.oneCell' = true) (p0 : -4611686018427387904 ≤ s.p) (p1 : s.p ≤ 4611686018427387904)
    {pm l0 lo hi : Nat} {Bs : List Reg} {G : List (List Int)} {q : Nat → Nat} (w : World) (hM : MemAt w pm l0 lo hi Bs G s.D q) (hl0 : l0 ≤ w.heap.size) :
    Calls Try.prog 23 #[(Cel.res s.R v 0 s.p).val, (Cel.host h).val, .pointer (some ⟨pm, 0, none⟩)] w fun en w' =>
      en = .returned (.tuple #[(Cel.res (actS Bs h s).1.R v (actS Bs h s).2.1 (actS Bs h s).1.p).val, .bool (actS Bs h s).2.2]) ∧ MemAt w' pm l0 lo hi Bs G (actS Bs h s).1.D q ∧ Mid lo hi w w' := by
  have hc : h.op = 22 ∨ h.op = 23 ∨ h.op = 24 ∨ h.op = 25 ∨ h.op = 26 ∨ h.op = 27 ∨ h.op = 28 ∨ h.op = 29 ∨ h.op = 30 ∨ h.op = 31 := by omega
  rcases hc with e | e | e | e | e | e | e | e | e | e
  · by_cases hz : ldErr Bs h s.R = 0
    · rw [show actS Bs h s = (⟨s.R.set h.d.toNat (ldGot Bs s.D h s.R), s.E, s.p + 1, s.D⟩, 0, true) by simp [actS, e, hz]]
      exact touch_22a s.R v s.p h e ho hR hv p0 p1 w hM hl0 hz
    · rw [show actS Bs h s = (s, ldErr Bs h s.R, false) by simp [actS, e, hz]]
      exact touch_22b s.R v s.p h e ho hR hv p0 p1 w hM hl0 _ rfl hz
  · by_cases hz : ldErr Bs h s.R = 0
    · rw [show actS Bs h s = (⟨s.R.set h.d.toNat (ldGot Bs s.D h s.R), s.E, s.p + 1, s.D⟩, 0, true) by simp [actS, e, hz]]
      exact touch_23a s.R v s.p h e ho hR hv p0 p1 w hM hl0 hz
    · rw [show actS Bs h s = (s, ldErr Bs h s.R, false) by simp [actS, e, hz]]
      exact touch_23b s.R v s.p h e ho hR hv p0 p1 w hM hl0 _ rfl hz
  · by_cases hz : ldErr Bs h s.R = 0
    · rw [show actS Bs h s = (⟨s.R.set h.d.toNat (ldGot Bs s.D h s.R), s.E, s.p + 1, s.D⟩, 0, true) by simp [actS, e, hz]]
      exact touch_24a s.R v s.p h e ho hR hv p0 p1 w hM hl0 hz
    · rw [show actS Bs h s = (s, ldErr Bs h s.R, false) by simp [actS, e, hz]]
      exact touch_24b s.R v s.p h e ho hR hv p0 p1 w hM hl0 _ rfl hz
  · by_cases hz : stErr Bs h s.R = 0
    · rw [show actS Bs h s = (⟨s.R, s.E, s.p + 1, stDat Bs s.D h s.R⟩, 0, true) by simp [actS, e, hz]]
      exact touch_25a s.R v s.p h e ho hR hv p0 p1 w hM hl0 hz
    · rw [show actS Bs h s = (⟨s.R, s.E, s.p, stDat Bs s.D h s.R⟩, stErr Bs h s.R, false) by simp [actS, e, hz]]
      exact touch_25b s.R v s.p h e ho hR hv p0 p1 w hM hl0 _ rfl hz
  · by_cases hz : stErr Bs h s.R = 0
    · rw [show actS Bs h s = (⟨s.R, s.E, s.p + 1, stDat Bs s.D h s.R⟩, 0, true) by simp [actS, e, hz]]
      exact touch_26a s.R v s.p h e ho hR hv p0 p1 w hM hl0 hz
    · rw [show actS Bs h s = (⟨s.R, s.E, s.p, stDat Bs s.D h s.R⟩, stErr Bs h s.R, false) by simp [actS, e, hz]]
      exact touch_26b s.R v s.p h e ho hR hv p0 p1 w hM hl0 _ rfl hz
  · by_cases hz : stErr Bs h s.R = 0
    · rw [show actS Bs h s = (⟨s.R, s.E, s.p + 1, stDat Bs s.D h s.R⟩, 0, true) by simp [actS, e, hz]]
      exact touch_27a s.R v s.p h e ho hR hv p0 p1 w hM hl0 hz
    · rw [show actS Bs h s = (⟨s.R, s.E, s.p, stDat Bs s.D h s.R⟩, stErr Bs h s.R, false) by simp [actS, e, hz]]
      exact touch_27b s.R v s.p h e ho hR hv p0 p1 w hM hl0 _ rfl hz
  · rw [show actS Bs h s = (⟨s.R, s.E, s.p + wrap32 h.im, s.D⟩, 0, true) by simp [actS, e]]
    exact touch_28 s.R v s.p h e ho hR hv p0 p1 w hM hl0
  · by_cases hz : regv s.R h.a = 0
    · rw [show actS Bs h s = (⟨s.R, s.E, s.p + wrap32 h.im, s.D⟩, 0, true) by simp [actS, e, hz]]
      exact touch_29a s.R v s.p h e ho hR hv p0 p1 w hM hl0 hz
    · rw [show actS Bs h s = (⟨s.R, s.E, s.p + 1, s.D⟩, 0, true) by simp [actS, e, hz]]
      exact touch_29b s.R v s.p h e ho hR hv p0 p1 w hM hl0 hz
  · rw [show actS Bs h s = (s, 0, false) by simp [actS, e]]
    exact touch_30 s.R v s.p h e ho hR hv p0 p1 w hM hl0
  · rw [show actS Bs h s = (s, h.im, false) by simp [actS, e]]
    exact touch_31 s.R v s.p h e ho hR hv p0 p1 w hM hl0

theorem actS_E (Bs : List Reg) (h : HV) (s : HSt) : (actS Bs h s).1.E = s.E := by unfold actS; (repeat' split) <;> rfl
theorem actS_go (Bs : List Reg) (h : HV) (s : HSt) (hg : (actS Bs h s).2.2 = true) : (actS Bs h s).2.1 = 0 := by
  revert hg
  unfold actS
  (repeat' split) <;> simp
theorem actS_R {w : World} {p l0 lo hi : Nat} {Bs : List Reg} {G : List (List Int)} {q : Nat → Nat} {s : HSt} {h : HV} (hM : MemAt w p l0 lo hi Bs G s.D q) (ho : HOk h) (hR : okR s.R) : okR (actS Bs h s).1.R := by
  have hA := (regv_at hR ho.2.1.1 ho.2.1.2).2
  have hB := (regv_at hR ho.2.2.1.1 ho.2.2.1.2).2
  have hC := (regv_at hR ho.2.2.2.1.1 ho.2.2.2.1.2).2
  unfold actS
  (repeat' split) <;> first | exact okR_set hR _ (reckS_ok hA hB hC ho.2.2.2.2) | exact okR_set hR _ (got_ok hM _ _) | exact hR
theorem actS_p {Bs : List Reg} {s : HSt} {h : HV} (p0 : 0 ≤ s.p) (p1 : s.p ≤ 1000000) : -8589934592 ≤ (actS Bs h s).1.p ∧ (actS Bs h s).1.p ≤ 8589934592 := by
  have hw := wrap32_bounds h.im
  unfold actS
  (repeat' split) <;> (simp only []) <;> (try split) <;> omega
theorem CL.mid {w w' : World} {A : Option Addr} {code : List HV} {lo hi : Nat} (h : CL w A code) (hA : ∀ b o, A = some ⟨b, o, none⟩ → b < lo ∨ hi ≤ b) (hm : Mid lo hi w w') : CL w' A code :=
  h.kept fun b o ha hb => hm.block b hb (hA b o ha)

def evLen (w : World) (b : Nat) : Nat := match w.cell? ⟨b, 32, none⟩ with | some (.slice _ n _) => n | _ => 0
def runMeas (N b : Nat) (g : Value) (w : World) : Nat := match g with | .bool true => N + 1 - evLen w b | _ => 0
theorem evLen_of {M : Zn} {w0 w : World} {L : List (Nat × Cel)} (S : SH M w0 w L) {i b : Nat} {R : List Int} {A : Option Addr} {n c : Nat} {e p : Int} (hL : L[i]? = some (b, .res R (.slice A n c) e p)) (hR : R.length = 32) : evLen w b = n := by
  unfold evLen
  rw [(S.at hL).1.cell 32, res_32 hR]

/-- A round's relation. -/
def runRel (w0 : World) (pm l0 lo hi : Nat) (Bs : List Reg) (G : List (List Int)) (q : Nat → Nat) (base b7 b10 b11 b12 : Nat) (R0 : List Int) (code : List HV) (at' : Int) (N : Nat) (fin : HSt × Int) (g : Value) (wr : World) : Prop :=
  ∃ (s : HSt) (er : Int) (go : Bool) (A : Option Addr) (c k : Nat), g = .bool go ∧
    SH (runZ pm l0 lo hi Bs G q base (.slice A s.E.length c) s.E s.D) w0 wr [(b12, Cel.res s.R (.slice A s.E.length c) er s.p), (b11, Cel.any tabC), (b10, Cel.res (List.replicate 32 0) (.slice none 0 0) 0 0), (b7, Cel.regs R0)] ∧
    okR s.R ∧ (-8589934592 ≤ s.p ∧ s.p ≤ 8589934592) ∧ s.E.length + k = N ∧ (if go then er = 0 ∧ runS at' Bs code k s = fin else fin = (s, er))
def RunPost (w : World) (pm l0 lo hi : Nat) (Bs : List Reg) (G : List (List Int)) (q : Nat → Nat) (fin : HSt × Int) (e : Ending) (w' : World) : Prop :=
  ∃ A c base, e = .returned (Cel.res fin.1.R (.slice A fin.1.E.length c) fin.2 fin.1.p).val ∧ EvRow w' base (.slice A fin.1.E.length c) fin.1.E ∧ w.heap.size ≤ base ∧ hi ≤ base ∧ MemAt w' pm l0 lo hi Bs G fin.1.D q ∧ Mid lo hi w w' ∧ okR fin.1.R
theorem okPc_at {code : List HV} {p : Int} (h : okPc code p = true) : 0 ≤ p ∧ p.toNat < code.length ∧ code[p.toNat]? = some (codeAt code p) ∧ rightS (codeAt code p) = true := by
  unfold okPc at h
  simp only [Bool.and_eq_true, decide_eq_true_eq] at h
  obtain ⟨h0, h1⟩ := h
  cases hc : code[p.toNat]? with
  | none => rw [hc] at h1; cases h1
  | some x =>
    rw [hc] at h1
    have : codeAt code p = x := by simp [codeAt, List.getD, hc]
    exact ⟨h0, (List.getElem?_eq_some_iff.1 hc).1, by rw [this], by rw [this]; exact h1⟩
theorem zeroHost : (Try.prog.info? 25).map (fun i => i.zero) = some (some (Cel.host noHV).val) := by kernel_rfl
theorem one_host (h : HV) : ∀ u ∈ (Cel.host h).cells, u.oneCell' = true := by
  intro u hu
  simp only [Cel.cells, List.mem_cons, List.not_mem_nil, or_false] at hu
  rcases hu with rfl | rfl | rfl | rfl | rfl | rfl <;> rfl
theorem code_range {w w' : World} {b o : Nat} {code : List HV} {lo hi i : Nat} {h : HV} (hC : CL w (some ⟨b, o, none⟩) code) (hA : ∀ b' o', some (⟨b, o, none⟩ : Addr) = some ⟨b', o', none⟩ → b' < lo ∨ hi ≤ b') (hm : Mid lo hi w w') (hi' : code[i]? = some h) : w'.rangeAt b (o + i * 6) (Cel.host h).cells := by
  obtain ⟨_, b', o', he, c0, c1, c2, c3, c4, c5⟩ := (hC.mid hA hm).2 i h hi'
  cases he
  intro j u hu
  match j, hu with
  | 0, hu => cases hu; exact c0
  | 1, hu => cases hu; exact c1
  | 2, hu => cases hu; exact c2
  | 3, hu => cases hu; exact c3
  | 4, hu => cases hu; exact c4
  | 5, hu => cases hu; exact c5
  | j + 6, hu => simp [Cel.cells] at hu
theorem szEvs : (Try.prog.info? 29).map (·.size) = some 1 := by kernel_rfl
end Go.Proofs.Yteflboidbogegaa
