/- HvmMemory in plain words: what its two runs come to. -/
import Derived.Test.YtjhmmfpmmgebjaaGreatHvf
import Derived.Test.YtjhmmfpmmgebjaaGreatVd
import Derived.Test.YtjhmmfpmmgebjaaGreatVh
import Derived.ChangeKeysEq
namespace Go.Proofs.YtjhmmfpmmgebjaaGreat
open Go.ChangeShapes Go.WideShapes Go.ChangeAt Go.RowKit
set_option linter.unusedVariables false
set_option linter.unusedSimpArgs false

theorem run_step {at' : Int} {Bs : List Reg} {code : List HV} {k : Nat} {s s' : HSt} (h : okPc code s.p = true) (hs : stepS at' Bs (codeAt code s.p) s = (s', 0, true)) : runS at' Bs code (k + 1) s = runS at' Bs code k s' := by
  simp only [runS, h, if_true, hs]
theorem run_end {at' : Int} {Bs : List Reg} {code : List HV} {k : Nat} {s s' : HSt} {e : Int} (h : okPc code s.p = true) (hs : stepS at' Bs (codeAt code s.p) s = (s', e, false)) : runS at' Bs code (k + 1) s = (s', e) := by
  simp only [runS, h, if_true, hs]
  rfl
def mSt4 : HV := ⟨27, 0, 1, 2, 0, 0⟩
def mLd1 : HV := ⟨22, 3, 1, 0, 0, 1⟩
def mLd2 : HV := ⟨23, 4, 1, 0, 0, 2⟩
def mSt1 : HV := ⟨25, 0, 1, 3, 0, 0⟩
def mLd4 : HV := ⟨24, 5, 1, 0, 0, 0⟩
def mExit : HV := ⟨30, 0, 0, 0, 0, 0⟩
def mCode : List HV := [mSt4, mLd1, mLd2, mSt1, mLd4, mExit]
/-- The registers as the run goes on. -/
def mR (a v x y z : Int) : List Int := ((((zR.set 1 a).set 2 v).set 3 x).set 4 y).set 5 z
theorem st_go {at' : Int} {Bs : List Reg} {h : HV} {R : List Int} {E : List HEv} {p a : Int} {D D' : List (List Int)} (o1 : 25 ≤ h.op) (o2 : h.op ≤ 27) (ha : addrS h R = a) (he : stErr Bs h R = 0) (hd : stDat Bs D h R = D') (hco : costS h.op = 2) :
    stepS at' Bs h ⟨R, E, p, D⟩ = (⟨R, E ++ [⟨at' + p, a, 2⟩], p + 1, D'⟩, 0, true) := by
  simp only [stepS, evS, ha, hco, actS]
  rw [if_neg (by omega), if_neg (by omega), if_pos o2, if_pos he, hd]
theorem ld_go {at' : Int} {Bs : List Reg} {h : HV} {R : List Int} {E : List HEv} {p a x : Int} {D : List (List Int)} (o1 : 22 ≤ h.op) (o2 : h.op ≤ 24) (ha : addrS h R = a) (he : ldErr Bs h R = 0) (hg : ldGot Bs D h R = x) (hco : costS h.op = 2) :
    stepS at' Bs h ⟨R, E, p, D⟩ = (⟨R.set h.d.toNat x, E ++ [⟨at' + p, a, 2⟩], p + 1, D⟩, 0, true) := by
  simp only [stepS, evS, ha, hco, actS]
  rw [if_neg (by omega), if_pos o2, if_pos he, hg]
theorem ld_bad {at' : Int} {Bs : List Reg} {h : HV} {R : List Int} {E : List HEv} {p a e : Int} {D : List (List Int)} (o1 : 22 ≤ h.op) (o2 : h.op ≤ 24) (ha : addrS h R = a) (he : ldErr Bs h R = e) (hne : e ≠ 0) (hco : costS h.op = 2) :
    stepS at' Bs h ⟨R, E, p, D⟩ = (⟨R, E ++ [⟨at' + p, a, 2⟩], p, D⟩, e, false) := by
  simp only [stepS, evS, ha, hco, actS]
  rw [if_neg (by omega), if_pos o2, if_neg (by rw [he]; exact hne), he]

theorem mem_run1 (f : Nat) (v : Int) (v0 : 0 ≤ v) (v1 : v < 4294967296) (hf : f ≤ 236) (hf4 : (f : Int) % 4 = 0) (D : List (List Int)) (d : List Int) (hd : D[1]? = some d) (hdl : d.length = 256) :
    ∃ D2, runS 7 (seatBs 0 0 0 0) mCode 50 ⟨mR (536870912 + f) v 0 0 0, [], 0, D⟩ = (⟨mR (536870912 + f) v (v / 256 % 256) (v / 65536) (v / 256 * 256 + v / 256 % 256), [⟨7, 536870912 + f, 2⟩, ⟨8, 536870912 + f + 1, 2⟩, ⟨9, 536870912 + f + 2, 2⟩, ⟨10, 536870912 + f, 2⟩, ⟨11, 536870912 + f, 2⟩, ⟨12, 0, 4⟩], 5, D2⟩, 0) := by
  have hc : checkS (regAt (seatBs 0 0 0 0)) (seatBs 0 0 0 0).length = 0 := seat_check (by decide) (by decide) (by decide) (by decide)
  generalize hB : seatBs 0 0 0 0 = Bs at hc ⊢
  have m1 : ∀ x : Int, 0 ≤ x → x < 4294967296 → x % 4294967296 = x := fun x h0 h1 => Int.emod_eq_of_lt h0 h1
  have hD1 : D.length > 1 := (List.getElem?_eq_some_iff.1 hd).1
  -- 1: the word
  have a1 : addrS mSt4 (mR (536870912 + f) v 0 0 0) = 536870912 + f := by
    have h : addrS mSt4 (mR (536870912 + f) v 0 0 0) = (536870912 + (f : Int) + 0) % 4294967296 := by kernel_rfl
    rw [h]; omega
  have e1 : stErr Bs mSt4 (mR (536870912 + f) v 0 0 0) = 0 := by
    have h : stErr Bs mSt4 (mR (536870912 + f) v 0 0 0) = mayS (regAt Bs) Bs.length ((536870912 + (f : Int) + 0) % 4294967296) 4 true := by kernel_rfl
    rw [h, show (536870912 + (f : Int) + 0) % 4294967296 = 536870912 + (f : Int) by omega, ← hB]
    exact seat_ram_may (hB ▸ hc) (by rw [show widthS 4 = 4 from rfl]; omega) (by rw [show widthS 4 = 4 from rfl]; exact hf4) true
  have s1 : stDat Bs D mSt4 (mR (536870912 + f) v 0 0 0) = D.set 1 (putS d f v 4) := by
    have h : stDat Bs D mSt4 (mR (536870912 + f) v 0 0 0) = storeS Bs D ((536870912 + (f : Int) + 0) % 4294967296) 4 v := by kernel_rfl
    rw [h, show (536870912 + (f : Int) + 0) % 4294967296 = 536870912 + (f : Int) by omega, ← hB]
    exact storeS_ram (hB ▸ hc) hd (by rw [show widthS 4 = 4 from rfl]; omega) (by rw [show widthS 4 = 4 from rfl]; exact hf4) v
  have hd1 : (D.set 1 (putS d f v 4))[1]? = some (putS d f v 4) := by simp [hD1]
  have hl1 : (putS d f v 4).length = 256 := by rw [putS_length, hdl]
  have p0 := putS_at d f v 4 0 (by decide) (by omega)
  have p1 := putS_at d f v 4 1 (by decide) (by omega)
  have p2 := putS_at d f v 4 2 (by decide) (by omega)
  have p3 := putS_at d f v 4 3 (by decide) (by omega)
  generalize putS d f v 4 = d1 at *
  generalize D.set 1 d1 = D1 at *
  -- 2: a byte
  have a2 : addrS mLd1 (mR (536870912 + f) v 0 0 0) = 536870912 + f + 1 := by
    have h : addrS mLd1 (mR (536870912 + f) v 0 0 0) = (536870912 + (f : Int) + 1) % 4294967296 := by kernel_rfl
    rw [h]; omega
  have e2 : ldErr Bs mLd1 (mR (536870912 + f) v 0 0 0) = 0 := by
    have h : ldErr Bs mLd1 (mR (536870912 + f) v 0 0 0) = mayS (regAt Bs) Bs.length ((536870912 + (f : Int) + 1) % 4294967296) 1 false := by kernel_rfl
    rw [h, show (536870912 + (f : Int) + 1) % 4294967296 = 536870912 + ((f + 1 : Nat) : Int) by push_cast; omega, ← hB]
    exact seat_ram_may (hB ▸ hc) (by rw [show widthS 1 = 1 from rfl]; push_cast; omega) (by rw [show widthS 1 = 1 from rfl]; omega) false
  have g2 : ldGot Bs D1 mLd1 (mR (536870912 + f) v 0 0 0) = v / 256 % 256 := by
    have h : ldGot Bs D1 mLd1 (mR (536870912 + f) v 0 0 0) = gotS Bs D1 ((536870912 + (f : Int) + 1) % 4294967296) 1 := by kernel_rfl
    rw [h, show (536870912 + (f : Int) + 1) % 4294967296 = 536870912 + ((f + 1 : Nat) : Int) by push_cast; omega, ← hB, gotS_ram (hB ▸ hc) hd1 (by rw [show widthS 1 = 1 from rfl]; push_cast; omega) (by rw [show widthS 1 = 1 from rfl]; omega)]
    rw [show (widthS 1).toNat = 1 from rfl, num1 p1]
    simp
  -- 3: a half
  have a3 : addrS mLd2 (mR (536870912 + f) v (v / 256 % 256) 0 0) = 536870912 + f + 2 := by
    have h : addrS mLd2 (mR (536870912 + f) v (v / 256 % 256) 0 0) = (536870912 + (f : Int) + 2) % 4294967296 := by kernel_rfl
    rw [h]; omega
  have e3 : ldErr Bs mLd2 (mR (536870912 + f) v (v / 256 % 256) 0 0) = 0 := by
    have h : ldErr Bs mLd2 (mR (536870912 + f) v (v / 256 % 256) 0 0) = mayS (regAt Bs) Bs.length ((536870912 + (f : Int) + 2) % 4294967296) 2 false := by kernel_rfl
    rw [h, show (536870912 + (f : Int) + 2) % 4294967296 = 536870912 + ((f + 2 : Nat) : Int) by push_cast; omega, ← hB]
    exact seat_ram_may (hB ▸ hc) (by rw [show widthS 2 = 2 from rfl]; push_cast; omega) (by rw [show widthS 2 = 2 from rfl]; push_cast; omega) false
  have g3 : ldGot Bs D1 mLd2 (mR (536870912 + f) v (v / 256 % 256) 0 0) = v / 65536 := by
    have h : ldGot Bs D1 mLd2 (mR (536870912 + f) v (v / 256 % 256) 0 0) = gotS Bs D1 ((536870912 + (f : Int) + 2) % 4294967296) 2 := by kernel_rfl
    rw [h, show (536870912 + (f : Int) + 2) % 4294967296 = 536870912 + ((f + 2 : Nat) : Int) by push_cast; omega, ← hB, gotS_ram (hB ▸ hc) hd1 (by rw [show widthS 2 = 2 from rfl]; push_cast; omega) (by rw [show widthS 2 = 2 from rfl]; push_cast; omega)]
    rw [show (widthS 2).toNat = 2 from rfl, num2 p2 p3]
    simp
    omega
  -- 4: a byte stored
  have a4 : addrS mSt1 (mR (536870912 + f) v (v / 256 % 256) (v / 65536) 0) = 536870912 + f := by
    have h : addrS mSt1 (mR (536870912 + f) v (v / 256 % 256) (v / 65536) 0) = (536870912 + (f : Int) + 0) % 4294967296 := by kernel_rfl
    rw [h]; omega
  have e4 : stErr Bs mSt1 (mR (536870912 + f) v (v / 256 % 256) (v / 65536) 0) = 0 := by
    have h : stErr Bs mSt1 (mR (536870912 + f) v (v / 256 % 256) (v / 65536) 0) = mayS (regAt Bs) Bs.length ((536870912 + (f : Int) + 0) % 4294967296) 1 true := by kernel_rfl
    rw [h, show (536870912 + (f : Int) + 0) % 4294967296 = 536870912 + (f : Int) by omega, ← hB]
    exact seat_ram_may (hB ▸ hc) (by rw [show widthS 1 = 1 from rfl]; omega) (by rw [show widthS 1 = 1 from rfl]; omega) true
  have s4 : stDat Bs D1 mSt1 (mR (536870912 + f) v (v / 256 % 256) (v / 65536) 0) = D1.set 1 (putS d1 f (v / 256 % 256) 1) := by
    have h : stDat Bs D1 mSt1 (mR (536870912 + f) v (v / 256 % 256) (v / 65536) 0) = storeS Bs D1 ((536870912 + (f : Int) + 0) % 4294967296) 1 (v / 256 % 256) := by kernel_rfl
    rw [h, show (536870912 + (f : Int) + 0) % 4294967296 = 536870912 + (f : Int) by omega, ← hB]
    exact storeS_ram (hB ▸ hc) hd1 (by rw [show widthS 1 = 1 from rfl]; omega) (by rw [show widthS 1 = 1 from rfl]; omega) _
  have hd2 : (D1.set 1 (putS d1 f (v / 256 % 256) 1))[1]? = some (putS d1 f (v / 256 % 256) 1) := by
    have := (List.getElem?_eq_some_iff.1 hd1).1
    simp [this]
  have r0 := putS_at d1 f (v / 256 % 256) 1 0 (by decide) (by omega)
  rw [Nat.add_zero] at r0
  have r1 := (putS_off d1 f (v / 256 % 256) 1 (f + 1) (by omega)).trans p1
  have r2 := (putS_off d1 f (v / 256 % 256) 1 (f + 2) (by omega)).trans p2
  have r3 := (putS_off d1 f (v / 256 % 256) 1 (f + 3) (by omega)).trans p3
  generalize putS d1 f (v / 256 % 256) 1 = d2 at *
  generalize D1.set 1 d2 = D2 at *
  -- 5: the word again
  have a5 : addrS mLd4 (mR (536870912 + f) v (v / 256 % 256) (v / 65536) 0) = 536870912 + f := by
    have h : addrS mLd4 (mR (536870912 + f) v (v / 256 % 256) (v / 65536) 0) = (536870912 + (f : Int) + 0) % 4294967296 := by kernel_rfl
    rw [h]; omega
  have e5 : ldErr Bs mLd4 (mR (536870912 + f) v (v / 256 % 256) (v / 65536) 0) = 0 := by
    have h : ldErr Bs mLd4 (mR (536870912 + f) v (v / 256 % 256) (v / 65536) 0) = mayS (regAt Bs) Bs.length ((536870912 + (f : Int) + 0) % 4294967296) 4 false := by kernel_rfl
    rw [h, show (536870912 + (f : Int) + 0) % 4294967296 = 536870912 + (f : Int) by omega, ← hB]
    exact seat_ram_may (hB ▸ hc) (by rw [show widthS 4 = 4 from rfl]; omega) (by rw [show widthS 4 = 4 from rfl]; exact hf4) false
  have g5 : ldGot Bs D2 mLd4 (mR (536870912 + f) v (v / 256 % 256) (v / 65536) 0) = v / 256 * 256 + v / 256 % 256 := by
    have h : ldGot Bs D2 mLd4 (mR (536870912 + f) v (v / 256 % 256) (v / 65536) 0) = gotS Bs D2 ((536870912 + (f : Int) + 0) % 4294967296) 4 := by kernel_rfl
    rw [h, show (536870912 + (f : Int) + 0) % 4294967296 = 536870912 + (f : Int) by omega, ← hB, gotS_ram (hB ▸ hc) hd2 (by rw [show widthS 4 = 4 from rfl]; omega) (by rw [show widthS 4 = 4 from rfl]; exact hf4)]
    rw [show (widthS 4).toNat = 4 from rfl, num4 r0 r1 r2 r3]
    simp
    omega
  refine ⟨D2, ?_⟩
  rw [run_step (s' := ⟨mR (536870912 + f) v 0 0 0, [⟨7, 536870912 + f, 2⟩], 1, D1⟩) (by kernel_rfl) (st_go (h := mSt4) (by decide) (by decide) a1 e1 s1 rfl)]
  rw [run_step (s' := ⟨mR (536870912 + f) v (v / 256 % 256) 0 0, [⟨7, 536870912 + f, 2⟩, ⟨8, 536870912 + f + 1, 2⟩], 2, D1⟩) (by kernel_rfl) (ld_go (h := mLd1) (by decide) (by decide) a2 e2 g2 rfl)]
  rw [run_step (s' := ⟨mR (536870912 + f) v (v / 256 % 256) (v / 65536) 0, [⟨7, 536870912 + f, 2⟩, ⟨8, 536870912 + f + 1, 2⟩, ⟨9, 536870912 + f + 2, 2⟩], 3, D1⟩) (by kernel_rfl) (ld_go (h := mLd2) (by decide) (by decide) a3 e3 g3 rfl)]
  rw [run_step (s' := ⟨mR (536870912 + f) v (v / 256 % 256) (v / 65536) 0, [⟨7, 536870912 + f, 2⟩, ⟨8, 536870912 + f + 1, 2⟩, ⟨9, 536870912 + f + 2, 2⟩, ⟨10, 536870912 + f, 2⟩], 4, D2⟩) (by kernel_rfl) (st_go (h := mSt1) (by decide) (by decide) a4 e4 s4 rfl)]
  rw [run_step (s' := ⟨mR (536870912 + f) v (v / 256 % 256) (v / 65536) (v / 256 * 256 + v / 256 % 256), [⟨7, 536870912 + f, 2⟩, ⟨8, 536870912 + f + 1, 2⟩, ⟨9, 536870912 + f + 2, 2⟩, ⟨10, 536870912 + f, 2⟩, ⟨11, 536870912 + f, 2⟩], 5, D2⟩) (by kernel_rfl) (ld_go (h := mLd4) (by decide) (by decide) a5 e5 g5 rfl)]
  exact run_end (by kernel_rfl) rfl
end Go.Proofs.YtjhmmfpmmgebjaaGreat
namespace Go.Proofs.YtjhmmfpmmgebjaaGreat
open Go.ChangeShapes Go.WideShapes Go.ChangeAt Go.RowKit
set_option linter.unusedVariables false
set_option linter.unusedSimpArgs false

def recOk (C : List HV) : Prop := ∀ h ∈ C, h.op ≤ 21 ∧ rightS h = true ∧ h.wf
def evs (at' : Int) : Int → List HV → List HEv
  | _, [] => []
  | p, h :: t => ⟨at' + p, 0, costS h.op⟩ :: evs at' (p + 1) t
theorem evs_length (at' p : Int) (C : List HV) : (evs at' p C).length = C.length := by
  induction C generalizing p with
  | nil => rfl
  | cons h t ih => simp [evs, ih]
def sumC : List HV → Int
  | [] => 0
  | h :: t => costS h.op + sumC t
theorem evs_sum (at' p : Int) (C : List HV) : sumCo (evs at' p C) = sumC C := by
  induction C generalizing p with
  | nil => rfl
  | cons h t ih => simp [evs, sumCo, sumC, ih]
theorem sumC_snoc (C : List HV) (h : HV) : sumC (C ++ [h]) = sumC C + costS h.op := by
  induction C with
  | nil => simp [sumC]
  | cons a t ih => simp only [List.cons_append, sumC, ih]; omega
theorem cost_b (o : Int) : 0 ≤ costS o ∧ costS o ≤ 100 := by unfold costS; (repeat' split) <;> omega
theorem evs_ok (at' p : Int) (C : List HV) : okE (evs at' p C) := by
  induction C generalizing p with
  | nil => intro e he; cases he
  | cons h t ih =>
    intro e he
    simp only [evs, List.mem_cons] at he
    rcases he with rfl | he
    · exact cost_b h.op
    · exact ih _ e he
theorem sumC_b (C : List HV) : 0 ≤ sumC C ∧ sumC C ≤ 100 * C.length := by
  have h := sumCo_bounds (evs_ok 0 0 C)
  rw [evs_sum, evs_length] at h
  exact h
theorem blind_run (at' : Int) (C : List HV) (hC : recOk C) : ∀ (S P : List HV) (k : Nat) (R : List Int) (E : List HEv), C = P ++ S →
    ∃ R', runS at' [] (C ++ [mExit]) (S.length + 1 + k) ⟨R, E, P.length, []⟩ = (⟨R', E ++ evs at' P.length (S ++ [mExit]), C.length, []⟩, 0) := by
  intro S
  induction S with
  | nil =>
    intro P k R E hP
    rw [List.append_nil] at hP
    subst hP
    have hc : codeAt (C ++ [mExit]) C.length = mExit := by simp [codeAt, List.getD]
    have ho : okPc (C ++ [mExit]) C.length = true := by
      have h1 : (C ++ [mExit])[((C.length : Nat) : Int).toNat]? = some mExit := by simp
      simp only [okPc, h1]
      simp
      rfl
    refine ⟨R, ?_⟩
    rw [show ([] : List HV).length + 1 + k = k + 1 by simp; omega]
    refine run_end (s := ⟨R, E, C.length, []⟩) ho ?_
    simp only [hc]
    rfl
  | cons h t ih =>
    intro P k R E hP
    have hh : h ∈ C := by rw [hP]; simp
    obtain ⟨ho, hr, _⟩ := hC h hh
    have hg : (C ++ [mExit])[((P.length : Nat) : Int).toNat]? = some h := by rw [hP]; simp
    have hc : codeAt (C ++ [mExit]) P.length = h := by simp only [codeAt, List.getD, hg]; rfl
    have hok : okPc (C ++ [mExit]) P.length = true := by
      simp only [okPc, hg, hr]
      simp
    have hadd : addrS h R = 0 := by
      have h1 : loadsS h.op = 0 := by unfold loadsS; rw [if_neg (by omega), if_neg (by omega), if_neg (by omega)]
      have h2 : storesS h.op = 0 := by unfold storesS; rw [if_neg (by omega), if_neg (by omega), if_neg (by omega)]
      simp [addrS, h1, h2]
    obtain ⟨R', hi⟩ := ih (P ++ [h]) k (R.set h.d.toNat (reckS h.op (regv R h.a) (regv R h.b) (regv R h.c) h.im)) (E ++ [⟨at' + P.length, 0, costS h.op⟩]) (by rw [hP]; simp)
    refine ⟨R', ?_⟩
    rw [show (h :: t).length + 1 + k = (t.length + 1 + k) + 1 by simp; omega]
    rw [run_step (s := ⟨R, E, P.length, []⟩) (s' := ⟨R.set h.d.toNat (reckS h.op (regv R h.a) (regv R h.b) (regv R h.c) h.im), E ++ [⟨at' + P.length, 0, costS h.op⟩], P.length + 1, []⟩) hok (by
      simp only [hc, stepS, evS, hadd, actS, ho, if_true])]
    have e1 : (((P ++ [h]).length : Nat) : Int) = (P.length : Int) + 1 := by simp
    rw [e1] at hi
    rw [hi]
    simp [evs]
theorem blind_all (at' : Int) (C : List HV) (hC : recOk C) (hl : C.length ≤ 40) (R : List Int) : ∃ R', runS at' [] (C ++ [mExit]) 100 ⟨R, [], 0, []⟩ = (⟨R', evs at' 0 (C ++ [mExit]), C.length, []⟩, 0) := by
  obtain ⟨R', h⟩ := blind_run at' C hC C [] (99 - C.length) R [] rfl
  rw [show C.length + 1 + (99 - C.length) = 100 by omega] at h
  exact ⟨R', h⟩
end Go.Proofs.YtjhmmfpmmgebjaaGreat
namespace Go.Proofs.YtjhmmfpmmgebjaaGreat
open Go.ChangeShapes Go.WideShapes Go.ChangeAt Go.RowKit
set_option linter.unusedVariables false
set_option linter.unusedSimpArgs false

theorem infoHo : (Tryz.prog.info? 31).map (fun i => (i.zero, i.size, i.bytes)) = some (some (Cel.host noHV).val, 6, 48) := by kernel_rfl
theorem ho_info : ∃ i : TypeInfo, Tryz.prog.info? 31 = some i ∧ i.zero = some (Cel.host noHV).val ∧ i.size = 6 ∧ i.bytes = 48 := by
  have h := infoHo
  cases hq : Tryz.prog.info? 31 with
  | none => rw [hq] at h; cases h
  | some i =>
    rw [hq] at h
    simp only [Option.map_some, Option.some.injEq, Prod.mk.injEq] at h
    exact ⟨i, rfl, h.1, h.2.1, h.2.2⟩
theorem codeC_length (C : List HV) : (codeC C).length = C.length * 6 := by
  induction C with
  | nil => rfl
  | cons h t ih =>
    have e : codeC (h :: t) = (Cel.host h).cells ++ codeC t := rfl
    rw [e, List.length_append, ih]
    simp [Cel.cells]
    omega
theorem codeC_snoc (C : List HV) (h : HV) : codeC (C ++ [h]) = codeC C ++ (Cel.host h).cells := by simp [codeC]
def HRow (w : World) (base : Nat) (v : Value) (C : List HV) : Prop := w.ownsRow base 31 6 v C.length (codeC C)
theorem HRow.kept {w w' : World} {base : Nat} {v : Value} {C : List HV} (h : HRow w base v C) (hb : ∀ g, v.ownBlock = some g → w'.heap[g]? = w.heap[g]?) : HRow w' base v C := by
  refine ⟨h.1, ?_⟩
  rcases h.2 with h2 | ⟨g, cap, cur, h2, h3⟩
  · exact .inl h2
  · refine .inr ⟨g, cap, cur, h2, ?_⟩
    rw [hb g (by rw [h2]; rfl)]
    exact h3
def codeZ (base : Nat) (v : Value) (C : List HV) : Zn := ⟨fun k => v.ownBlock = some k, fun w => HRow w base v C ∧ base ≤ w.heap.size, 0, 0⟩
theorem codeZ_ok (base : Nat) (v : Value) (C : List HV) : (codeZ base v C).ok :=
  ⟨fun w w' h hs hk => ⟨h.1.kept fun g hg => hk g hg (World.ownsRow.lt h.1 g hg).2, Nat.le_trans h.2 hs⟩, fun k h1 h2 => by simp only [codeZ] at h2; omega⟩
section
variable {w0 w w1 : World} {L : List (Nat × Cel)} {base : Nat} {v : Value} {C : List HV}
theorem SH.toCode (S : SH noZ w0 w L) (hb : base ≤ w.heap.size) : SH (codeZ base (.slice none 0 0) []) w0 w L :=
  S.turn (codeZ_ok _ _ _) ⟨World.ownsRow_nil w base _ _, hb⟩ (fun k hk => by simp [codeZ, Value.ownBlock] at hk) S.mid (fun _ _ => rfl) (fun p hp hz => by simp [codeZ, Value.ownBlock] at hz)
theorem SH.appendedC (S : SH (codeZ base v C) w0 w L) (hb0 : w0.heap.size ≤ base) {v' : Value} {C' : List HV} (hn : HRow w1 base v' C') (hg : w.grownBy w1 v.ownBlock) (hat : ∀ g, v'.ownBlock = some g → v.ownBlock = some g ∨ g = w.heap.size) :
    SH (codeZ base v' C') w0 w1 L := by
  have hv : ∀ k, v.ownBlock = some k → base ≤ k := fun k hk => (World.ownsRow.lt S.inv.1 k hk).1
  have hmid : Mid 0 0 w0 w1 := ⟨hg.os.trans S.mid.os, hg.tape.trans S.mid.tape, hg.output.trans S.mid.output, Nat.le_trans S.mid.size hg.size, fun k hk hk2 => (hg.block k (Nat.lt_of_lt_of_le hk S.mid.size) (fun e => by have := hv k e.symm; omega)).trans (S.mid.block k hk hk2)⟩
  have hk : ∀ p ∈ L, w1.heap[p.1]? = w.heap[p.1]? := fun p hp => hg.block _ (S.blk p hp).lt (fun e => (S.out p hp).2 e.symm)
  refine S.turn (codeZ_ok _ _ _) ⟨hn, Nat.le_trans S.inv.2 hg.size⟩ (fun k hk => (World.ownsRow.lt hn k hk).2) hmid hk (fun p hp hz => ?_)
  rcases hat _ hz with h | h
  · exact (S.out p hp).2 h
  · have := (S.blk p hp).lt
    omega
theorem SH.dropC {Z : Nat → Prop} {J : World → Prop} (S : SH ((codeZ base v C).add Z J) w0 w L) : SH (codeZ base v C) w0 w L :=
  S.turn (codeZ_ok _ _ _) S.inv.1 (fun k hk => S.zb k (.inl hk)) S.mid (fun _ _ => rfl) (fun p hp h => (S.out p hp).2 (.inl h))
end
/-- One instruction, as a slice of its own. -/
theorem SH.sliceH {M : Zn} {w0 w : World} {L : List (Nat × Cel)} {ops : Array Oper} {rest : List Oper} {o : Oper} {a : Act} {Q : Exit → Act → World → Prop} (S : SH M w0 w L) (hgd : o.guard = none) (x : Operand) (ho : o.op = .buildSlice 22 1 #[(0, x)]) (h : HV) (hx : a.eval x = (Cel.host h).val)
    (hn : ∀ w1, SH (M.add (fun k => k = w.heap.size) (fun w2 => ∀ j u, (Cel.host h).cells[j]? = some u → w2.cell? ((⟨w.heap.size, 0, none⟩ : Addr).add j) = some u)) w0 w1 L → wpList Tryz.prog ops Q rest (a.put o.dst (.slice (some ⟨w.heap.size, 0, none⟩) 1 1)) w1) : wpList Tryz.prog ops Q (o :: rest) a w :=
  wpList_plain hgd fun K hK => by
    obtain ⟨op, d, a', b, c, im⟩ := h
    have hr : (Instr.buildSlice 22 1 #[(0, .agg #[.int .i64 op, .int .i64 d, .int .i64 a', .int .i64 b, .int .i64 c, .int .u32 im])]).run Tryz.prog w = .ok (.slice (some ⟨w.heap.size, 0, none⟩) 1 1) (w.alloc (Obj.cells #[.int .i64 op, .int .i64 d, .int .i64 a', .int .i64 b, .int .i64 c, .int .u32 im] 31)) := by kernel_rfl
    unfold Oper.wp execOp
    have hx' : a.eval x = .agg #[.int .i64 op, .int .i64 d, .int .i64 a', .int .i64 b, .int .i64 c, .int .u32 im] := hx
    simp only [ho, List.map_toArray, List.map_cons, List.map_nil, hx', Sem.run_bind, hr, Result.andThen_ok, Sem.run_pure]
    have hblk : Blk (w.alloc (Obj.cells #[.int .i64 op, .int .i64 d, .int .i64 a', .int .i64 b, .int .i64 c, .int .u32 im] 31)) w.heap.size (Cel.host ⟨op, d, a', b, c, im⟩).cells := Blk.new w _ _
    refine hK _ _ (hn _ (S.gain ((Below.refl _ _).alloc (Nat.le_refl _) _) (fun w1 w2 hj hs hk j u hu => ?_) (fun j u hu => ?_) (fun k hk => ?_)))
    · have q := hj j u hu
      rw [Addr.add_mid] at q ⊢
      exact (World.cell?_of_block (w := w1) (a := ⟨w.heap.size, 0 + j, none⟩) (hk _ rfl (World.block_lt_of_cell? w1 _ q))).trans q
    · rw [Addr.add_mid, Nat.zero_add, hblk.cell]
      exact hu
    · subst hk
      exact ⟨Nat.le_refl _, by rw [alloc_size']; omega⟩
theorem HRow.form {w : World} {base : Nat} {A : Option Addr} {n c : Nat} {C : List HV} (h : HRow w base (.slice A n c) C) (hC : 0 < C.length) : ∃ g, A = some ⟨g, 0, none⟩ ∧ n = C.length := by
  obtain ⟨g, cap, hf, _⟩ := World.ownsRow.form h hC
  simp only [Value.slice.injEq] at hf
  exact ⟨g, hf.1, hf.2.1⟩
theorem HRow.cl {w : World} {base g c : Nat} {C : List HV} (h : HRow w base (.slice (some ⟨g, 0, none⟩) C.length c) C) (hw : ∀ x ∈ C, x.wf) (hl : C.length ≤ 100000) : CL w (some ⟨g, 0, none⟩) C := by
  refine ⟨by omega, fun i x hx => ?_⟩
  have hlt := (List.getElem?_eq_some_iff.1 hx).1
  have key : ∀ j, j < 6 → w.cell? ⟨g, i * 6 + j, none⟩ = (Cel.host x).cells[j]? := fun j hj => by
    rw [World.ownsRow.cellAt h (i * 6 + j) (by omega)]
    exact codeC_at hx j hj
  refine ⟨hw x (List.mem_of_getElem? hx), g, 0, rfl, ?_⟩
  have z : ∀ k, 0 + i * 6 + k = i * 6 + k := fun k => by omega
  refine ⟨?_, ?_, ?_, ?_, ?_, ?_⟩
  · have := key 0 (by decide); simpa [Cel.cells] using this
  · have := key 1 (by decide); simpa [Cel.cells] using this
  · have := key 2 (by decide); simpa [Cel.cells] using this
  · have := key 3 (by decide); simpa [Cel.cells] using this
  · have := key 4 (by decide); simpa [Cel.cells] using this
  · have := key 5 (by decide); simpa [Cel.cells] using this
end Go.Proofs.YtjhmmfpmmgebjaaGreat
namespace Go.Proofs.YtjhmmfpmmgebjaaGreat
open Go.ChangeShapes Go.WideShapes Go.ChangeAt Go.RowKit
set_option linter.unusedVariables false
set_option linter.unusedSimpArgs false

theorem SH.newMemB {w0 w w1 : World} {L : List (Nat × Cel)} {pm hi : Nat} {Bs : List Reg} {G D : List (List Int)} {q : Nat → Nat} (S : SH noZ w0 w L) (hb : Below w.heap.size w w1) (hm : MemAt w1 pm 0 w.heap.size hi Bs G D q) : SH (memZ pm 0 w.heap.size hi Bs G D q) w0 w1 L := by
  have S1 := S.below hb
  refine S1.turn (memZ_ok _ _ _ _ _ _ _ _) hm (fun k hk => ?_) ⟨S1.mid.os, S1.mid.tape, S1.mid.output, S1.mid.size, fun k hk _ => S1.mid.block k hk (.inr (Nat.zero_le _))⟩ (fun _ _ => rfl) (fun p hp hz => ?_)
  · have := hm.top
    rcases hk with hk | hk <;> omega
  · have := (S.blk p hp).lt
    rcases hz with hz | hz <;> omega
theorem stb_run (pm lo hi : Nat) (Bs : List Reg) (G D : List (List Int)) (q : Nat → Nat) (base : Nat) (v : Value) (E : List HEv) : Stb (fun k => Zone 0 lo hi k ∨ v.ownBlock = some k) (fun w => MemAt w pm 0 lo hi Bs G D q ∧ EvRow w base v E) :=
  fun w w' h hs hk => ⟨(memZ_ok pm 0 lo hi Bs G D q).st w w' h.1 hs (fun k hz hl => hk k (.inl hz) hl), stb_ev base v E w w' h.2 hs (fun k hz hl => hk k (.inr hz) hl)⟩
/-- A run over the memory. -/
theorem SH.ran {M : Zn} {w0 w w1 : World} {L : List (Nat × Cel)} {pm lo hi : Nat} {Bs : List Reg} {G D : List (List Int)} {q : Nat → Nat} {A : Option Addr} {n c base : Nat} {E : List HEv} (S : SH M w0 w L) (hlo : M.lo = lo) (hhi : M.hi = hi)
    (hev : EvRow w1 base (.slice A n c) E) (hb1 : w.heap.size ≤ base) (hm : MemAt w1 pm 0 lo hi Bs G D q) (hmid : Mid lo hi w w1) :
    SH (M.free.add (fun k => Zone 0 lo hi k ∨ (Value.slice A n c).ownBlock = some k) (fun w => MemAt w pm 0 lo hi Bs G D q ∧ EvRow w base (.slice A n c) E)) w0 w1 L := by
  subst hlo hhi
  have F := S.toFree.freeMid hmid
  refine F.turn (add_ok (free_ok S.ok) (stb_run _ _ _ _ _ _ _ _ _ _)) ⟨trivial, hm, hev⟩ (fun k hk => ?_) F.mid (fun _ _ => rfl) (fun p hp h => ?_)
  · rcases hk with hk | (hk | hk) | hk
    · exact F.zb k hk
    · omega
    · have := hm.top
      omega
    · exact (World.ownsRow.lt hev k hk).2
  · rcases h with h | (h | h) | h
    · exact (F.out p hp).2 h
    · omega
    · exact (S.out p hp).2 (S.ok.zz _ h.1 h.2)
    · have := (S.blk p hp).lt
      have := (World.ownsRow.lt hev _ h).1
      omega
theorem SH.lowB {M : Zn} {w0 w : World} {L : List (Nat × Cel)} (S : SH M w0 w L) (h : w0.heap.size ≤ M.lo) : Below w0.heap.size w0 w :=
  ⟨S.mid.os, S.mid.tape, S.mid.output, S.mid.size, fun k hk => S.mid.block k hk (.inl (by omega))⟩

/-- Code laid behind a memory. -/
theorem SH.codeM {P : Program} {M : Zn} {w0 w : World} {L : List (Nat × Cel)} {ops : Array Oper} {rest : List Oper} {o : Oper} {a : Act} {Q : Exit → Act → World → Prop} (S : SH M w0 w L) (hgd : o.guard = none) (ty n : Nat) (xs : Array (Nat × Operand)) (ho : o.op = .buildSlice ty n xs) (code : List HV) (e : TypeId)
    (hr : (execOp a.eval o).run P w = .ok (.value (.slice (some ⟨w.heap.size, 0, none⟩) n n)) (w.alloc (.cells (codeC code).toArray e))) (hw : ∀ x ∈ code, x.wf) (hl : (code.length : Int) ≤ 1000000)
    (h : ∀ g w1, w.heap.size ≤ g → SH (M.add (fun k => k = g) (fun w => CL w (some ⟨g, 0, none⟩) code)) w0 w1 L → wpList P ops Q rest (a.put o.dst (.slice (some ⟨g, 0, none⟩) n n)) w1) : wpList P ops Q (o :: rest) a w :=
  wpList_plain hgd fun K hK => by
    unfold Oper.wp
    rw [hr]
    refine hK _ _ (h w.heap.size _ (Nat.le_refl _) (S.gain ((Below.refl _ _).alloc (Nat.le_refl _) _) (stb_cl _ _) (CL.ofBlk (Blk.new w (codeC code) e) hw hl) (fun k hk => ?_)))
    subst hk
    exact ⟨Nat.le_refl _, by rw [alloc_size']; omega⟩
def nMov : HV := ⟨1, 9, 0, 0, 0, 3⟩
def nLd4 : HV := ⟨24, 3, 1, 0, 0, 0⟩
def nCode : List HV := [nMov, nLd4, mExit]
def nR (b v : Int) : List Int := (zR.set 1 b).set 2 v
theorem mem_run2 (b v : Int) (b0 : 0 ≤ b) (b1 : b < 4294967296) (hb : b % 4 = 1) (D : List (List Int)) :
    runS 0 (seatBs 0 0 0 0) nCode 50 ⟨nR b v, [], 0, D⟩ = (⟨(nR b v).set 9 3, [⟨0, 0, 1⟩, ⟨1, b, 2⟩], 1, D⟩, 25) := by
  have hc : checkS (regAt (seatBs 0 0 0 0)) (seatBs 0 0 0 0).length = 0 := seat_check (by decide) (by decide) (by decide) (by decide)
  generalize seatBs 0 0 0 0 = Bs at hc ⊢
  have a1 : addrS nLd4 ((nR b v).set 9 3) = b := by
    have h : addrS nLd4 ((nR b v).set 9 3) = (b + 0) % 4294967296 := by kernel_rfl
    rw [h]; omega
  have e1 : ldErr Bs nLd4 ((nR b v).set 9 3) = 25 := by
    have h : ldErr Bs nLd4 ((nR b v).set 9 3) = mayS (regAt Bs) Bs.length ((b + 0) % 4294967296) 4 false := by kernel_rfl
    rw [h, show (b + 0) % 4294967296 = b by omega, mayS, if_neg (by rw [hc]; decide), if_pos (by rw [show widthS 4 = 4 from rfl]; omega)]
  rw [run_step (s' := ⟨(nR b v).set 9 3, [⟨0, 0, 1⟩], 1, D⟩) (by kernel_rfl) (by kernel_rfl)]
  exact run_end (by kernel_rfl) (ld_bad (h := nLd4) (by decide) (by decide) a1 e1 (by decide) rfl)
end Go.Proofs.YtjhmmfpmmgebjaaGreat
namespace Go.Proofs.YtjhmmfpmmgebjaaGreat
open Go.ChangeShapes Go.WideShapes Go.ChangeAt Go.RowKit
set_option linter.unusedVariables false
set_option linter.unusedSimpArgs false

theorem stepS_E (at' : Int) (Bs : List Reg) (h : HV) (s : HSt) : (stepS at' Bs h s).1.E = s.E ++ [evS at' h s] := by
  unfold stepS
  exact actS_E _ _ _
theorem run_okE (at' : Int) (Bs : List Reg) (code : List HV) : ∀ (k : Nat) (s : HSt), okE s.E → okE (runS at' Bs code k s).1.E ∧ (runS at' Bs code k s).1.E.length ≤ s.E.length + k := by
  intro k
  induction k with
  | zero =>
    intro s hs
    simp only [runS]
    split <;> exact ⟨hs, by simp⟩
  | succ k ih =>
    intro s hs
    simp only [runS]
    split
    · have h1 : okE (stepS at' Bs (codeAt code s.p) s).1.E := by
        rw [stepS_E]
        intro e he
        rw [List.mem_append, List.mem_singleton] at he
        rcases he with he | rfl
        · exact hs e he
        · exact cost_b _
      have h2 : (stepS at' Bs (codeAt code s.p) s).1.E.length = s.E.length + 1 := by rw [stepS_E]; simp
      split
      · have := ih _ h1
        exact ⟨this.1, by omega⟩
      · exact ⟨h1, by simp only []; omega⟩
    · exact ⟨hs, by simp⟩
theorem Mid.wide {lo hi lo' hi' : Nat} {w w' : World} (h : Mid lo hi w w') (h1 : lo' ≤ lo) (h2 : hi ≤ hi') : Mid lo' hi' w w' :=
  ⟨h.os, h.tape, h.output, h.size, fun k hk hk2 => h.block k hk (by omega)⟩
/-- A run over a memory that lies within the zone; what is told behind it is given anew. -/
theorem SH.ranG {M M' : Zn} {w0 w w1 : World} {L : List (Nat × Cel)} {lo hi : Nat} (S : SH M w0 w L) (hlo : M.lo ≤ lo) (hhi : hi ≤ M.hi) (hmid : Mid lo hi w w1) (ok : M'.ok) (hJ : M'.J w1) (e1 : M'.lo = M.lo) (e2 : M'.hi = M.hi)
    (hz : ∀ k, M'.Z k → M.Z k ∨ (w.heap.size ≤ k ∧ k < w1.heap.size)) : SH M' w0 w1 L := by
  have hw := hmid.wide hlo hhi
  have F := S.toFree.freeMid hw
  refine F.turn ok hJ (fun k hk => ?_) (by rw [e1, e2]; exact F.mid) (fun _ _ => rfl) (fun p hp h => ?_)
  · rcases hz k hk with h | h
    · exact F.zb k h
    · exact h.2
  · rcases hz _ h with h | h
    · exact (F.out p hp).2 h
    · have := (S.blk p hp).lt
      omega
end Go.Proofs.YtjhmmfpmmgebjaaGreat
namespace Go.Proofs.YtjhmmfpmmgebjaaGreat
open Go.ChangeShapes Go.WideShapes Go.ChangeAt Go.RowKit
set_option linter.unusedVariables false
set_option linter.unusedSimpArgs false

theorem infoU : (Tryz.prog.info? 26).map (·.size) = some 1 := by kernel_rfl
theorem eqU (d : Nat) (x : Int) (w : World) : (Op.equalIn (d + 1) 26 (.int .u32 x) (.int .u32 x)).run Tryz.prog w = .ok true w := by
  simp [Op.equalIn, Sem.run_bind, run_underlying Tryz.underlying26]
theorem eqItems_self (R : List Int) (d : Nat) (w : World) : ∀ js : List Nat, (∀ j ∈ js, j < R.length) → (Op.eqItems (d + 1) 26 1 (rc R).toArray (rc R).toArray js).run Tryz.prog w = .ok true w := by
  intro js
  induction js with
  | nil => intro _; simp [Op.eqItems]
  | cons j js ih =>
    intro h
    have hj := h j (by simp)
    have hp : (part 26 (rc R).toArray (j * 1)).run Tryz.prog w = .ok (.int .u32 R[j]) w := by
      refine run_part_plain w (by kernel_rfl) ?_
      rw [Nat.mul_one]
      simp [rc, hj]
    simp only [Op.eqItems, Sem.run_bind, hp, Result.andThen_ok, eqU]
    rw [if_neg (by decide)]
    exact ih (fun k hk => h k (by simp [hk]))
theorem infoU2 : ∃ i, Tryz.prog.info? 26 = some i := by
  have h := infoU
  cases hq : Tryz.prog.info? 26 with
  | none => rw [hq] at h; cases h
  | some i => exact ⟨i, rfl⟩
theorem regs_neq {R : List Int} (hR : R.length = 32) (w : World) : (binOp .neq 27 (Cel.regs R).val (Cel.regs R).val).run Tryz.prog w = .ok (.bool false) w := by
  obtain ⟨i, hi⟩ := infoU2
  have h : (Op.equalIn 10000 27 (.agg (rc R).toArray) (.agg (rc R).toArray)).run Tryz.prog w = .ok true w := by
    rw [run_equalIn_array w 9999 _ _ Tryz.underlying27 hi]
    rw [show Tryz.prog.cellsOf 26 = 1 by kernel_rfl]
    exact eqItems_self R 9998 w _ (fun j hj => by rw [hR]; exact List.mem_range.1 hj)
  show (binOp .neq 27 (.agg (rc R).toArray) (.agg (rc R).toArray)).run Tryz.prog w = _
  rw [run_neq_struct, h]
  rfl
end Go.Proofs.YtjhmmfpmmgebjaaGreat
namespace Go.Proofs.YtjhmmfpmmgebjaaGreat
open Go.ChangeShapes Go.WideShapes Go.ChangeAt Go.RowKit
set_option linter.unusedVariables false
set_option linter.unusedSimpArgs false
section
variable {P : Program} {M : Zn} {w0 w w1 : World} {L : List (Nat × Cel)} {ops : Array Oper} {rest : List Oper} {o : Oper} {a : Act} {Q : Exit → Act → World → Prop}
/-- A slice put together, as a block. -/
theorem SH.sliceAny (S : SH M w0 w L) (hgd : o.guard = none) (ty n : Nat) (xs : Array (Nat × Operand)) (ho : o.op = .buildSlice ty n xs) (cs : List Value) (e : TypeId)
    (hr : (execOp a.eval o).run P w = .ok (.value (.slice (some ⟨w.heap.size, 0, none⟩) n n)) (w.alloc (.cells cs.toArray e)))
    (h : ∀ g w1, SH M w0 w1 ((g, Cel.any cs) :: L) → wpList P ops Q rest (a.put o.dst (.slice (some ⟨g, 0, none⟩) n n)) w1) : wpList P ops Q (o :: rest) a w :=
  wpList_plain hgd fun K hK => by
    unfold Oper.wp
    rw [hr]
    exact hK _ _ (h _ _ (S.new (Cel.any cs) e))
theorem SH.ldMid (S : SH M w0 w L) (ty : TypeId) (x : Operand) (ho : o.op = .load ty x) (b j : Nat) (hx : a.eval x = .pointer (some ⟨b, j, none⟩)) (i : Nat) (c : Cel) (hL : L[i]? = some (b, c))
    (cs : List Value) (hcs : ∀ t u, cs[t]? = some u → c.cells[j + t]? = some u) (d : TypeDesc) (hu : P.underlying ty = some d) (hd : d.isRow = true) (hi : (P.info? ty).map (·.size) = some cs.length) (hw : Region.wanted o (yielded ops a.tmps) = true)
    (h : wpList P ops Q rest (a.put o.dst (.agg cs.toArray)) w) : wpList P ops Q (o :: rest) a w :=
  wpList_step fun K hK => by
    rw [if_pos hw]
    exact wp_load_mid ty x ho b j hx cs d (fun t u hu' => ((S.at hL).1.cell (j + t)).trans (hcs t u hu')) hu hd hi (hK _ _ h)
theorem SH.u1 {p : Nat × Cel} (S : SH M w0 w (p :: L)) : SH M w0 w L := S.fewer 1
/-- A run over a memory that is the call's own, and empty. -/
theorem SH.ran0 {pm : Nat} {c : Cel} {A : Option Addr} {n cc base : Nat} {E : List HEv} (S : SH M w0 w ((pm, c) :: L)) (h0 : M.lo = 0 ∧ M.hi = 0) (hmid : Mid pm (pm + 1) w w1) (hev : EvRow w1 base (.slice A n cc) E) (hb1 : w.heap.size ≤ base) :
    SH (M.add (fun k => (Value.slice A n cc).ownBlock = some k) (fun w => EvRow w base (.slice A n cc) E)) w0 w1 L := by
  have hp := S.out (pm, c) (by simp)
  have hk : ∀ k, k < w.heap.size → k ≠ pm → w1.heap[k]? = w.heap[k]? := fun k hk hne => hmid.block k hk (by omega)
  have hnd : ∀ p ∈ L, p.1 ≠ pm := fun p hp' e => by
    obtain ⟨i, hi⟩ := List.getElem?_of_mem hp'
    have := S.nd (i + 1) 0 p (pm, c) (by simpa using hi) (by simp) e
    omega
  refine S.u1.turn (add_ok S.ok (stb_ev _ _ _)) ⟨S.ok.st w w1 S.inv hmid.size (fun k hz hl => hk k hl (fun e => by subst e; exact hp.2 hz)), hev⟩ (fun k hz => ?_) ⟨hmid.os.trans S.mid.os, hmid.tape.trans S.mid.tape, hmid.output.trans S.mid.output, Nat.le_trans S.mid.size hmid.size, fun k hk1 hk2 => (hk k (Nat.lt_of_lt_of_le hk1 S.mid.size) (fun e => by subst e; exact absurd hp.1 (by omega))).trans (S.mid.block k hk1 hk2)⟩ (fun p hp' => hk _ (S.blk p (by simp [hp'])).lt (hnd p hp')) (fun p hp' h => ?_)
  · rcases hz with hz | hz
    · exact Nat.lt_of_lt_of_le (S.zb k hz) hmid.size
    · exact (World.ownsRow.lt hev k hz).2
  · rcases h with h | h
    · exact (S.out p (by simp [hp'])).2 h
    · have := (S.blk p (by simp [hp'])).lt
      have := (World.ownsRow.lt hev _ h).1
      omega
/-- An empty memory, of the call's own. -/
theorem SH.memNone {b : Nat} (S : SH M w0 w ((b, Cel.any [.slice none 0 0, .slice none 0 0]) :: L)) : MemAt w b 0 b (b + 1) [] [] [] (fun _ => 0) := by
  obtain ⟨hb, _⟩ := S.at (i := 0) rfl
  have c0 := hb.cell 0
  have c1 := hb.cell 1
  refine ⟨rfl, hb.lt, ⟨Nat.le_refl _, Nat.lt_succ_self _, fun i hi => absurd hi (Nat.not_lt_zero _)⟩, fun i j hi => absurd hi (Nat.not_lt_zero _), ⟨_, c0, ?_⟩, ⟨none, 0, 0, c1, fun _ => ⟨rfl, rfl⟩, fun h => absurd rfl h, fun i d r hd => by simp at hd⟩⟩
  exact ⟨[], rfl, rfl, none, 0, rfl, fun _ => ⟨rfl, rfl⟩, fun b o h => (by cases h), ⟨by decide, fun i hi => absurd hi (Nat.not_lt_zero _)⟩, fun i r g hr => (by simp at hr)⟩
end
def triC (T : List (Int × Int × Int)) : List Value := T.flatMap fun t => [.int .u32 t.1, .int .u32 t.2.1, .int .u32 t.2.2]
theorem triC_at {T : List (Int × Int × Int)} {i : Nat} {t : Int × Int × Int} (h : T[i]? = some t) (j : Nat) (hj : j < 3) : (triC T)[i * 3 + j]? = ([.int .u32 t.1, .int .u32 t.2.1, .int .u32 t.2.2] : List Value)[j]? := by
  induction T generalizing i with
  | nil => simp at h
  | cons x T ih =>
    have e : triC (x :: T) = [.int .u32 x.1, .int .u32 x.2.1, .int .u32 x.2.2] ++ triC T := rfl
    rw [e]
    cases i with
    | zero =>
      simp only [List.getElem?_cons_zero, Option.some.injEq] at h
      subst h
      rw [Nat.zero_mul, Nat.zero_add, List.getElem?_append_left (by simpa using hj)]
    | succ i =>
      simp only [List.getElem?_cons_succ] at h
      rw [List.getElem?_append_right (by simp; omega)]
      rw [show (i + 1) * 3 + j - ([.int .u32 x.1, .int .u32 x.2.1, .int .u32 x.2.2] : List Value).length = i * 3 + j by simp; omega]
      exact ih h
/-- The instruction of an op, as the statement has it. -/
def recH (o : Int) : HV := ⟨o, 4, 1, if o = 2 ∨ o = 17 then 0 else 2, if o = 21 then 3 else 0, 0⟩
end Go.Proofs.YtjhmmfpmmgebjaaGreat
