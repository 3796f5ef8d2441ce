/- HvmMemory in plain words: what its two runs come to. -/
import Derived.Test.YteflboidbogegaaHvf
import Derived.Test.YteflboidbogegaaMem11
namespace Go.Proofs.Yteflboidbogegaa
open Go.ChangeShapes Go.WideShapes Go.ChangeAt Go.RowKit
set_option linter.unusedVariables false
set_option linter.unusedSimpArgs false

theorem run_step {at' : Int} {Bs : List Reg} {code : List HV} {k : Nat} {s s' : HSt} (h : okPc code s.p = true) (hs : stepS at' Bs (codeAt code s.p) s = (s', 0, true)) : runS at' Bs code (k + 1) s = runS at' Bs code k s' := by
  simp only [runS, h, if_true, hs]
theorem run_end {at' : Int} {Bs : List Reg} {code : List HV} {k : Nat} {s s' : HSt} {e : Int} (h : okPc code s.p = true) (hs : stepS at' Bs (codeAt code s.p) s = (s', e, false)) : runS at' Bs code (k + 1) s = (s', e) := by
  simp only [runS, h, if_true, hs]
  rfl
def mSt4 : HV := ⟨27, 0, 1, 2, 0, 0⟩
def mLd1 : HV := ⟨22, 3, 1, 0, 0, 1⟩
def mLd2 : HV := ⟨23, 4, 1, 0, 0, 2⟩
def mSt1 : HV := ⟨25, 0, 1, 3, 0, 0⟩
def mLd4 : HV := ⟨24, 5, 1, 0, 0, 0⟩
def mExit : HV := ⟨30, 0, 0, 0, 0, 0⟩
def mCode : List HV := [mSt4, mLd1, mLd2, mSt1, mLd4, mExit]
/-- The registers as the run goes on. -/
def mR (a v x y z : Int) : List Int := ((((zR.set 1 a).set 2 v).set 3 x).set 4 y).set 5 z
theorem st_go {at' : Int} {Bs : List Reg} {h : HV} {R : List Int} {E : List HEv} {p a : Int} {D D' : List (List Int)} (o1 : 25 ≤ h.op) (o2 : h.op ≤ 27) (ha : addrS h R = a) (he : stErr Bs h R = 0) (hd : stDat Bs D h R = D') (hco : costS h.op = 2) :
    stepS at' Bs h ⟨R, E, p, D⟩ = (⟨R, E ++ [⟨at' + p, a, 2⟩], p + 1, D'⟩, 0, true) := by
  simp only [stepS, evS, ha, hco, actS]
  rw [if_neg (by omega), if_neg (by omega), if_pos o2, if_pos he, hd]
theorem ld_go {at' : Int} {Bs : List Reg} {h : HV} {R : List Int} {E : List HEv} {p a x : Int} {D : List (List Int)} (o1 : 22 ≤ h.op) (o2 : h.op ≤ 24) (ha : addrS h R = a) (he : ldErr Bs h R = 0) (hg : ldGot Bs D h R = x) (hco : costS h.op = 2) :
    stepS at' Bs h ⟨R, E, p, D⟩ = (⟨R.set h.d.toNat x, E ++ [⟨at' + p, a, 2⟩], p + 1, D⟩, 0, true) := by
  simp only [stepS, evS, ha, hco, actS]
  rw [if_neg (by omega), if_pos o2, if_pos he, hg]
theorem ld_bad {at' : Int} {Bs : List Reg} {h : HV} {R : List Int} {E : List HEv} {p a e : Int} {D : List (List Int)} (o1 : 22 ≤ h.op) (o2 : h.op ≤ 24) (ha : addrS h R = a) (he : ldErr Bs h R = e) (hne : e ≠ 0) (hco : costS h.op = 2) :
    stepS at' Bs h ⟨R, E, p, D⟩ = (⟨R, E ++ [⟨at' + p, a, 2⟩], p, D⟩, e, false) := by
  simp only [stepS, evS, ha, hco, actS]
  rw [if_neg (by omega), if_pos o2, if_neg (by rw [he]; exact hne), he]

theorem mem_run1 (f : Nat) (v : Int) (v0 : 0 ≤ v) (v1 : v < 4294967296) (hf : f ≤ 236) (hf4 : (f : Int) % 4 = 0) (D : List (List Int)) (d : List Int) (hd : D[1]? = some d) (hdl : d.length = 256) :
    ∃ D2, runS 7 (seatBs 0 0 0 0) mCode 50 ⟨mR (536870912 + f) v 0 0 0, [], 0, D⟩ = (⟨mR (536870912 + f) v (v / 256 % 256) (v / 65536) (v / 256 * 256 + v / 256 % 256), [⟨7, 536870912 + f, 2⟩, ⟨8, 536870912 + f + 1, 2⟩, ⟨9, 536870912 + f + 2, 2⟩, ⟨10, 536870912 + f, 2⟩, ⟨11, 536870912 + f, 2⟩, ⟨12, 0, 4⟩], 5, D2⟩, 0) := by
  have hc : checkS (regAt (seatBs 0 0 0 0)) (seatBs 0 0 0 0).length = 0 := seat_check (by decide) (by decide) (by decide) (by decide)
  generalize hB : seatBs 0 0 0 0 = Bs at hc ⊢
  have m1 : ∀ x : Int, 0 ≤ x → x < 4294967296 → x % 4294967296 = x := fun x h0 h1 => Int.emod_eq_of_lt h0 h1
  have hD1 : D.length > 1 := (List.getElem?_eq_some_iff.1 hd).1
  -- 1: the word
  have a1 : addrS mSt4 (mR (536870912 + f) v 0 0 0) = 536870912 + f := by
    have h : addrS mSt4 (mR (536870912 + f) v 0 0 0) = (536870912 + (f : Int) + 0) % 4294967296 := by kernel_rfl
    rw [h]; omega
  have e1 : stErr Bs mSt4 (mR (536870912 + f) v 0 0 0) = 0 := by
    have h : stErr Bs mSt4 (mR (536870912 + f) v 0 0 0) = mayS (regAt Bs) Bs.length ((536870912 + (f : Int) + 0) % 4294967296) 4 true := by kernel_rfl
    rw [h, show (536870912 + (f : Int) + 0) % 4294967296 = 536870912 + (f : Int) by omega, ← hB]
    exact seat_ram_may (hB ▸ hc) (by rw [show widthS 4 = 4 from rfl]; omega) (by rw [show widthS 4 = 4 from rfl]; exact hf4) true
  have s1 : stDat Bs D mSt4 (mR (536870912 + f) v 0 0 0) = D.set 1 (putS d f v 4) := by
    have h : stDat Bs D mSt4 (mR (536870912 + f) v 0 0 0) = storeS Bs D ((536870912 + (f : Int) + 0) % 4294967296) 4 v := by kernel_rfl
    rw [h, show (536870912 + (f : Int) + 0) % 4294967296 = 536870912 + (f : Int) by omega, ← hB]
    exact storeS_ram (hB ▸ hc) hd (by rw [show widthS 4 = 4 from rfl]; omega) (by rw [show widthS 4 = 4 from rfl]; exact hf4) v
  have hd1 : (D.set 1 (putS d f v 4))[1]? = some (putS d f v 4) := by simp [hD1]
  have hl1 : (putS d f v 4).length = 256 := by rw [putS_length, hdl]
  have p0 := putS_at d f v 4 0 (by decide) (by omega)
  have p1 := putS_at d f v 4 1 (by decide) (by omega)
  have p2 := putS_at d f v 4 2 (by decide) (by omega)
  have p3 := putS_at d f v 4 3 (by decide) (by omega)
  generalize putS d f v 4 = d1 at *
  generalize D.set 1 d1 = D1 at *
  -- 2: a byte
  have a2 : addrS mLd1 (mR (536870912 + f) v 0 0 0) = 536870912 + f + 1 := by
    have h : addrS mLd1 (mR (536870912 + f) v 0 0 0) = (536870912 + (f : Int) + 1) % 4294967296 := by kernel_rfl
    rw [h]; omega
  have e2 : ldErr Bs mLd1 (mR (536870912 + f) v 0 0 0) = 0 := by
    have h : ldErr Bs mLd1 (mR (536870912 + f) v 0 0 0) = mayS (regAt Bs) Bs.length ((536870912 + (f : Int) + 1) % 4294967296) 1 false := by kernel_rfl
    rw [h, show (536870912 + (f : Int) + 1) % 4294967296 = 536870912 + ((f + 1 : Nat) : Int) by push_cast; omega, ← hB]
    exact seat_ram_may (hB ▸ hc) (by rw [show widthS 1 = 1 from rfl]; push_cast; omega) (by rw [show widthS 1 = 1 from rfl]; omega) false
  have g2 : ldGot Bs D1 mLd1 (mR (536870912 + f) v 0 0 0) = v / 256 % 256 := by
    have h : ldGot Bs D1 mLd1 (mR (536870912 + f) v 0 0 0) = gotS Bs D1 ((536870912 + (f : Int) + 1) % 4294967296) 1 := by kernel_rfl
    rw [h, show (536870912 + (f : Int) + 1) % 4294967296 = 536870912 + ((f + 1 : Nat) : Int) by push_cast; omega, ← hB, gotS_ram (hB ▸ hc) hd1 (by rw [show widthS 1 = 1 from rfl]; push_cast; omega) (by rw [show widthS 1 = 1 from rfl]; omega)]
    rw [show (widthS 1).toNat = 1 from rfl, num1 p1]
    simp
  -- 3: a half
  have a3 : addrS mLd2 (mR (536870912 + f) v (v / 256 % 256) 0 0) = 536870912 + f + 2 := by
    have h : addrS mLd2 (mR (536870912 + f) v (v / 256 % 256) 0 0) = (536870912 + (f : Int) + 2) % 4294967296 := by kernel_rfl
    rw [h]; omega
  have e3 : ldErr Bs mLd2 (mR (536870912 + f) v (v / 256 % 256) 0 0) = 0 := by
    have h : ldErr Bs mLd2 (mR (536870912 + f) v (v / 256 % 256) 0 0) = mayS (regAt Bs) Bs.length ((536870912 + (f : Int) + 2) % 4294967296) 2 false := by kernel_rfl
    rw [h, show (536870912 + (f : Int) + 2) % 4294967296 = 536870912 + ((f + 2 : Nat) : Int) by push_cast; omega, ← hB]
    exact seat_ram_may (hB ▸ hc) (by rw [show widthS 2 = 2 from rfl]; push_cast; omega) (by rw [show widthS 2 = 2 from rfl]; push_cast; omega) false
  have g3 : ldGot Bs D1 mLd2 (mR (536870912 + f) v (v / 256 % 256) 0 0) = v / 65536 := by
    have h : ldGot Bs D1 mLd2 (mR (536870912 + f) v (v / 256 % 256) 0 0) = gotS Bs D1 ((536870912 + (f : Int) + 2) % 4294967296) 2 := by kernel_rfl
    rw [h, show (536870912 + (f : Int) + 2) % 4294967296 = 536870912 + ((f + 2 : Nat) : Int) by push_cast; omega, ← hB, gotS_ram (hB ▸ hc) hd1 (by rw [show widthS 2 = 2 from rfl]; push_cast; omega) (by rw [show widthS 2 = 2 from rfl]; push_cast; omega)]
    rw [show (widthS 2).toNat = 2 from rfl, num2 p2 p3]
    simp
    omega
  -- 4: a byte stored
  have a4 : addrS mSt1 (mR (536870912 + f) v (v / 256 % 256) (v / 65536) 0) = 536870912 + f := by
    have h : addrS mSt1 (mR (536870912 + f) v (v / 256 % 256) (v / 65536) 0) = (536870912 + (f : Int) + 0) % 4294967296 := by kernel_rfl
    rw [h]; omega
  have e4 : stErr Bs mSt1 (mR (536870912 + f) v (v / 256 % 256) (v / 65536) 0) = 0 := by
    have h : stErr Bs mSt1 (mR (536870912 + f) v (v / 256 % 256) (v / 65536) 0) = mayS (regAt Bs) Bs.length ((536870912 + (f : Int) + 0) % 4294967296) 1 true := by kernel_rfl
    rw [h, show (536870912 + (f : Int) + 0) % 4294967296 = 536870912 + (f : Int) by omega, ← hB]
    exact seat_ram_may (hB ▸ hc) (by rw [show widthS 1 = 1 from rfl]; omega) (by rw [show widthS 1 = 1 from rfl]; omega) true
  have s4 : stDat Bs D1 mSt1 (mR (536870912 + f) v (v / 256 % 256) (v / 65536) 0) = D1.set 1 (putS d1 f (v / 256 % 256) 1) := by
    have h : stDat Bs D1 mSt1 (mR (536870912 + f) v (v / 256 % 256) (v / 65536) 0) = storeS Bs D1 ((536870912 + (f : Int) + 0) % 4294967296) 1 (v / 256 % 256) := by kernel_rfl
    rw [h, show (536870912 + (f : Int) + 0) % 4294967296 = 536870912 + (f : Int) by omega, ← hB]
    exact storeS_ram (hB ▸ hc) hd1 (by rw [show widthS 1 = 1 from rfl]; omega) (by rw [show widthS 1 = 1 from rfl]; omega) _
  have hd2 : (D1.set 1 (putS d1 f (v / 256 % 256) 1))[1]? = some (putS d1 f (v / 256 % 256) 1) := by
    have := (List.getElem?_eq_some_iff.1 hd1).1
    simp [this]
  have r0 := putS_at d1 f (v / 256 % 256) 1 0 (by decide) (by omega)
  rw [Nat.add_zero] at r0
  have r1 := (putS_off d1 f (v / 256 % 256) 1 (f + 1) (by omega)).trans p1
  have r2 := (putS_off d1 f (v / 256 % 256) 1 (f + 2) (by omega)).trans p2
  have r3 := (putS_off d1 f (v / 256 % 256) 1 (f + 3) (by omega)).trans p3
  generalize putS d1 f (v / 256 % 256) 1 = d2 at *
  generalize D1.set 1 d2 = D2 at *
  -- 5: the word again
  have a5 : addrS mLd4 (mR (536870912 + f) v (v / 256 % 256) (v / 65536) 0) = 536870912 + f := by
    have h : addrS mLd4 (mR (536870912 + f) v (v / 256 % 256) (v / 65536) 0) = (536870912 + (f : Int) + 0) % 4294967296 := by kernel_rfl
    rw [h]; omega
  have e5 : ldErr Bs mLd4 (mR (536870912 + f) v (v / 256 % 256) (v / 65536) 0) = 0 := by
    have h : ldErr Bs mLd4 (mR (536870912 + f) v (v / 256 % 256) (v / 65536) 0) = mayS (regAt Bs) Bs.length ((536870912 + (f : Int) + 0) % 4294967296) 4 false := by kernel_rfl
    rw [h, show (536870912 + (f : Int) + 0) % 4294967296 = 536870912 + (f : Int) by omega, ← hB]
    exact seat_ram_may (hB ▸ hc) (by rw [show widthS 4 = 4 from rfl]; omega) (by rw [show widthS 4 = 4 from rfl]; exact hf4) false
  have g5 : ldGot Bs D2 mLd4 (mR (536870912 + f) v (v / 256 % 256) (v / 65536) 0) = v / 256 * 256 + v / 256 % 256 := by
    have h : ldGot Bs D2 mLd4 (mR (536870912 + f) v (v / 256 % 256) (v / 65536) 0) = gotS Bs D2 ((536870912 + (f : Int) + 0) % 4294967296) 4 := by kernel_rfl
    rw [h, show (536870912 + (f : Int) + 0) % 4294967296 = 536870912 + (f : Int) by omega, ← hB, gotS_ram (hB ▸ hc) hd2 (by rw [show widthS 4 = 4 from rfl]; omega) (by rw [show widthS 4 = 4 from rfl]; exact hf4)]
    rw [show (widthS 4).toNat = 4 from rfl, num4 r0 r1 r2 r3]
    simp
    omega
  refine ⟨D2, ?_⟩
  rw [run_step (s' := ⟨mR (536870912 + f) v 0 0 0, [⟨7, 536870912 + f, 2⟩], 1, D1⟩) (by kernel_rfl) (st_go (h := mSt4) (by decide) (by decide) a1 e1 s1 rfl)]
  rw [run_step (s' := ⟨mR (536870912 + f) v (v / 256 % 256) 0 0, [⟨7, 536870912 + f, 2⟩, ⟨8, 536870912 + f + 1, 2⟩], 2, D1⟩) (by kernel_rfl) (ld_go (h := mLd1) (by decide) (by decide) a2 e2 g2 rfl)]
  rw [run_step (s' := ⟨mR (536870912 + f) v (v / 256 % 256) (v / 65536) 0, [⟨7, 536870912 + f, 2⟩, ⟨8, 536870912 + f + 1, 2⟩, ⟨9, 536870912 + f + 2, 2⟩], 3, D1⟩) (by kernel_rfl) (ld_go (h := mLd2) (by decide) (by decide) a3 e3 g3 rfl)]
  rw [run_step (s' := ⟨mR (536870912 + f) v (v / 256 % 256) (v / 65536) 0, [⟨7, 536870912 + f, 2⟩, ⟨8, 536870912 + f + 1, 2⟩, ⟨9, 536870912 + f + 2, 2⟩, ⟨10, 536870912 + f, 2⟩], 4, D2⟩) (by kernel_rfl) (st_go (h := mSt1) (by decide) (by decide) a4 e4 s4 rfl)]
  rw [run_step (s' := ⟨mR (536870912 + f) v (v / 256 % 256) (v / 65536) (v / 256 * 256 + v / 256 % 256), [⟨7, 536870912 + f, 2⟩, ⟨8, 536870912 + f + 1, 2⟩, ⟨9, 536870912 + f + 2, 2⟩, ⟨10, 536870912 + f, 2⟩, ⟨11, 536870912 + f, 2⟩], 5, D2⟩) (by kernel_rfl) (ld_go (h := mLd4) (by decide) (by decide) a5 e5 g5 rfl)]
  exact run_end (by kernel_rfl) rfl
end Go.Proofs.Yteflboidbogegaa
