/- HvmReckons, walked. -/
import Derived.Test.YteflboidbogegaaHvz1
import Derived.ChangeKeysEq
import Derived.Test.YteflboidbogegaaHvf
import Derived.Test.YteflboidbogegaaMem11
import Derived.Test.YteflboidbogegaaHvk6
import Derived.Deep.Cut

/-! Registers held against themselves; rows of three; what else HvmReckons asks. -/
namespace Go.Proofs.Yteflboidbogegaa
open Go.ChangeShapes Go.WideShapes Go.ChangeAt Go.RowKit
set_option linter.unusedVariables false
set_option linter.unusedSimpArgs false

theorem infoU : (Try.prog.info? 22).map (·.size) = some 1 := by kernel_rfl
theorem eqU (d : Nat) (x : Int) (w : World) : (Op.equalIn (d + 1) 22 (.int .u32 x) (.int .u32 x)).run Try.prog w = .ok true w := by
  simp [Op.equalIn, Sem.run_bind, run_underlying Try.underlying22]
theorem eqItems_self (R : List Int) (d : Nat) (w : World) : ∀ js : List Nat, (∀ j ∈ js, j < R.length) → (Op.eqItems (d + 1) 22 1 (rc R).toArray (rc R).toArray js).run Try.prog w = .ok true w := by
  intro js
  induction js with
  | nil => intro _; simp [Op.eqItems]
  | cons j js ih =>
    intro h
    have hj := h j (by simp)
    have hp : (part 22 (rc R).toArray (j * 1)).run Try.prog w = .ok (.int .u32 R[j]) w := by
      refine run_part_plain w (by kernel_rfl) ?_
      rw [Nat.mul_one]
      simp [rc, hj]
    simp only [Op.eqItems, Sem.run_bind, hp, Result.andThen_ok, eqU]
    rw [if_neg (by decide)]
    exact ih (fun k hk => h k (by simp [hk]))
theorem infoU2 : ∃ i, Try.prog.info? 22 = some i := by
  have h := infoU
  cases hq : Try.prog.info? 22 with
  | none => rw [hq] at h; cases h
  | some i => exact ⟨i, rfl⟩
theorem regs_neq {R : List Int} (hR : R.length = 32) (w : World) : (binOp .neq 28 (Cel.regs R).val (Cel.regs R).val).run Try.prog w = .ok (.bool false) w := by
  obtain ⟨i, hi⟩ := infoU2
  have h : (Op.equalIn 10000 28 (.agg (rc R).toArray) (.agg (rc R).toArray)).run Try.prog w = .ok true w := by
    rw [run_equalIn_array w 9999 _ _ Try.underlying28 hi]
    rw [show Try.prog.cellsOf 22 = 1 by kernel_rfl]
    exact eqItems_self R 9998 w _ (fun j hj => by rw [hR]; exact List.mem_range.1 hj)
  show (binOp .neq 28 (.agg (rc R).toArray) (.agg (rc R).toArray)).run Try.prog w = _
  rw [run_neq_struct, h]
  rfl
end Go.Proofs.Yteflboidbogegaa

/-! HvmMemory in plain words: what its two runs come to. -/
namespace Go.Proofs.Yteflboidbogegaa
open Go.ChangeShapes Go.WideShapes Go.ChangeAt Go.RowKit
set_option linter.unusedVariables false
set_option linter.unusedSimpArgs false

theorem run_step {at' : Int} {Bs : List Reg} {code : List HV} {k : Nat} {s s' : HSt} (h : okPc code s.p = true) (hs : stepS at' Bs (codeAt code s.p) s = (s', 0, true)) : runS at' Bs code (k + 1) s = runS at' Bs code k s' := by
  simp only [runS, h, if_true, hs]
theorem run_end {at' : Int} {Bs : List Reg} {code : List HV} {k : Nat} {s s' : HSt} {e : Int} (h : okPc code s.p = true) (hs : stepS at' Bs (codeAt code s.p) s = (s', e, false)) : runS at' Bs code (k + 1) s = (s', e) := by
  simp only [runS, h, if_true, hs]
  rfl
def mSt4 : HV := ⟨27, 0, 1, 2, 0, 0⟩
def mLd1 : HV := ⟨22, 3, 1, 0, 0, 1⟩
def mLd2 : HV := ⟨23, 4, 1, 0, 0, 2⟩
def mSt1 : HV := ⟨25, 0, 1, 3, 0, 0⟩
def mLd4 : HV := ⟨24, 5, 1, 0, 0, 0⟩
def mExit : HV := ⟨30, 0, 0, 0, 0, 0⟩
def mCode : List HV := [mSt4, mLd1, mLd2, mSt1, mLd4, mExit]
/-- The registers as the run goes on. -/
def mR (a v x y z : Int) : List Int := ((((zR.set 1 a).set 2 v).set 3 x).set 4 y).set 5 z
theorem st_go {at' : Int} {Bs : List Reg} {h : HV} {R : List Int} {E : List HEv} {p a : Int} {D D' : List (List Int)} (o1 : 25 ≤ h.op) (o2 : h.op ≤ 27) (ha : addrS h R = a) (he : stErr Bs h R = 0) (hd : stDat Bs D h R = D') (hco : costS h.op = 2) :
    stepS at' Bs h ⟨R, E, p, D⟩ = (⟨R, E ++ [⟨at' + p, a, 2⟩], p + 1, D'⟩, 0, true) := by
  simp only [stepS, evS, ha, hco, actS]
  rw [if_neg (by omega), if_neg (by omega), if_pos o2, if_pos he, hd]
theorem ld_go {at' : Int} {Bs : List Reg} {h : HV} {R : List Int} {E : List HEv} {p a x : Int} {D : List (List Int)} (o1 : 22 ≤ h.op) (o2 : h.op ≤ 24) (ha : addrS h R = a) (he : ldErr Bs h R = 0) (hg : ldGot Bs D h R = x) (hco : costS h.op = 2) :
    stepS at' Bs h ⟨R, E, p, D⟩ = (⟨R.set h.d.toNat x, E ++ [⟨at' + p, a, 2⟩], p + 1, D⟩, 0, true) := by
  simp only [stepS, evS, ha, hco, actS]
  rw [if_neg (by omega), if_pos o2, if_pos he, hg]
theorem ld_bad {at' : Int} {Bs : List Reg} {h : HV} {R : List Int} {E : List HEv} {p a e : Int} {D : List (List Int)} (o1 : 22 ≤ h.op) (o2 : h.op ≤ 24) (ha : addrS h R = a) (he : ldErr Bs h R = e) (hne : e ≠ 0) (hco : costS h.op = 2) :
    stepS at' Bs h ⟨R, E, p, D⟩ = (⟨R, E ++ [⟨at' + p, a, 2⟩], p, D⟩, e, false) := by
  simp only [stepS, evS, ha, hco, actS]
  rw [if_neg (by omega), if_pos o2, if_neg (by rw [he]; exact hne), he]

theorem mem_run1 (f : Nat) (v : Int) (v0 : 0 ≤ v) (v1 : v < 4294967296) (hf : f ≤ 236) (hf4 : (f : Int) % 4 = 0) (D : List (List Int)) (d : List Int) (hd : D[1]? = some d) (hdl : d.length = 256) :
    ∃ D2, runS 7 (seatBs 0 0 0 0) mCode 50 ⟨mR (536870912 + f) v 0 0 0, [], 0, D⟩ = (⟨mR (536870912 + f) v (v / 256 % 256) (v / 65536) (v / 256 * 256 + v / 256 % 256), [⟨7, 536870912 + f, 2⟩, ⟨8, 536870912 + f + 1, 2⟩, ⟨9, 536870912 + f + 2, 2⟩, ⟨10, 536870912 + f, 2⟩, ⟨11, 536870912 + f, 2⟩, ⟨12, 0, 4⟩], 5, D2⟩, 0) := by
  have hc : checkS (regAt (seatBs 0 0 0 0)) (seatBs 0 0 0 0).length = 0 := seat_check (by decide) (by decide) (by decide) (by decide)
  generalize hB : seatBs 0 0 0 0 = Bs at hc ⊢
  have m1 : ∀ x : Int, 0 ≤ x → x < 4294967296 → x % 4294967296 = x := fun x h0 h1 => Int.emod_eq_of_lt h0 h1
  have hD1 : D.length > 1 := (List.getElem?_eq_some_iff.1 hd).1
  -- 1: the word
  have a1 : addrS mSt4 (mR (536870912 + f) v 0 0 0) = 536870912 + f := by
    have h : addrS mSt4 (mR (536870912 + f) v 0 0 0) = (536870912 + (f : Int) + 0) % 4294967296 := by kernel_rfl
    rw [h]; omega
  have e1 : stErr Bs mSt4 (mR (536870912 + f) v 0 0 0) = 0 := by
    have h : stErr Bs mSt4 (mR (536870912 + f) v 0 0 0) = mayS (regAt Bs) Bs.length ((536870912 + (f : Int) + 0) % 4294967296) 4 true := by kernel_rfl
    rw [h, show (536870912 + (f : Int) + 0) % 4294967296 = 536870912 + (f : Int) by omega, ← hB]
    exact seat_ram_may (hB ▸ hc) (by rw [show widthS 4 = 4 from rfl]; omega) (by rw [show widthS 4 = 4 from rfl]; exact hf4) true
  have s1 : stDat Bs D mSt4 (mR (536870912 + f) v 0 0 0) = D.set 1 (putS d f v 4) := by
    have h : stDat Bs D mSt4 (mR (536870912 + f) v 0 0 0) = storeS Bs D ((536870912 + (f : Int) + 0) % 4294967296) 4 v := by kernel_rfl
    rw [h, show (536870912 + (f : Int) + 0) % 4294967296 = 536870912 + (f : Int) by omega, ← hB]
    exact storeS_ram (hB ▸ hc) hd (by rw [show widthS 4 = 4 from rfl]; omega) (by rw [show widthS 4 = 4 from rfl]; exact hf4) v
  have hd1 : (D.set 1 (putS d f v 4))[1]? = some (putS d f v 4) := by simp [hD1]
  have hl1 : (putS d f v 4).length = 256 := by rw [putS_length, hdl]
  have p0 := putS_at d f v 4 0 (by decide) (by omega)
  have p1 := putS_at d f v 4 1 (by decide) (by omega)
  have p2 := putS_at d f v 4 2 (by decide) (by omega)
  have p3 := putS_at d f v 4 3 (by decide) (by omega)
  generalize putS d f v 4 = d1 at *
  generalize D.set 1 d1 = D1 at *
  -- 2: a byte
  have a2 : addrS mLd1 (mR (536870912 + f) v 0 0 0) = 536870912 + f + 1 := by
    have h : addrS mLd1 (mR (536870912 + f) v 0 0 0) = (536870912 + (f : Int) + 1) % 4294967296 := by kernel_rfl
    rw [h]; omega
  have e2 : ldErr Bs mLd1 (mR (536870912 + f) v 0 0 0) = 0 := by
    have h : ldErr Bs mLd1 (mR (536870912 + f) v 0 0 0) = mayS (regAt Bs) Bs.length ((536870912 + (f : Int) + 1) % 4294967296) 1 false := by kernel_rfl
    rw [h, show (536870912 + (f : Int) + 1) % 4294967296 = 536870912 + ((f + 1 : Nat) : Int) by push_cast; omega, ← hB]
    exact seat_ram_may (hB ▸ hc) (by rw [show widthS 1 = 1 from rfl]; push_cast; omega) (by rw [show widthS 1 = 1 from rfl]; omega) false
  have g2 : ldGot Bs D1 mLd1 (mR (536870912 + f) v 0 0 0) = v / 256 % 256 := by
    have h : ldGot Bs D1 mLd1 (mR (536870912 + f) v 0 0 0) = gotS Bs D1 ((536870912 + (f : Int) + 1) % 4294967296) 1 := by kernel_rfl
    rw [h, show (536870912 + (f : Int) + 1) % 4294967296 = 536870912 + ((f + 1 : Nat) : Int) by push_cast; omega, ← hB, gotS_ram (hB ▸ hc) hd1 (by rw [show widthS 1 = 1 from rfl]; push_cast; omega) (by rw [show widthS 1 = 1 from rfl]; omega)]
    rw [show (widthS 1).toNat = 1 from rfl, num1 p1]
    simp
  -- 3: a half
  have a3 : addrS mLd2 (mR (536870912 + f) v (v / 256 % 256) 0 0) = 536870912 + f + 2 := by
    have h : addrS mLd2 (mR (536870912 + f) v (v / 256 % 256) 0 0) = (536870912 + (f : Int) + 2) % 4294967296 := by kernel_rfl
    rw [h]; omega
  have e3 : ldErr Bs mLd2 (mR (536870912 + f) v (v / 256 % 256) 0 0) = 0 := by
    have h : ldErr Bs mLd2 (mR (536870912 + f) v (v / 256 % 256) 0 0) = mayS (regAt Bs) Bs.length ((536870912 + (f : Int) + 2) % 4294967296) 2 false := by kernel_rfl
    rw [h, show (536870912 + (f : Int) + 2) % 4294967296 = 536870912 + ((f + 2 : Nat) : Int) by push_cast; omega, ← hB]
    exact seat_ram_may (hB ▸ hc) (by rw [show widthS 2 = 2 from rfl]; push_cast; omega) (by rw [show widthS 2 = 2 from rfl]; push_cast; omega) false
  have g3 : ldGot Bs D1 mLd2 (mR (536870912 + f) v (v / 256 % 256) 0 0) = v / 65536 := by
    have h : ldGot Bs D1 mLd2 (mR (536870912 + f) v (v / 256 % 256) 0 0) = gotS Bs D1 ((536870912 + (f : Int) + 2) % 4294967296) 2 := by kernel_rfl
    rw [h, show (536870912 + (f : Int) + 2) % 4294967296 = 536870912 + ((f + 2 : Nat) : Int) by push_cast; omega, ← hB, gotS_ram (hB ▸ hc) hd1 (by rw [show widthS 2 = 2 from rfl]; push_cast; omega) (by rw [show widthS 2 = 2 from rfl]; push_cast; omega)]
    rw [show (widthS 2).toNat = 2 from rfl, num2 p2 p3]
    simp
    omega
  -- 4: a byte stored
  have a4 : addrS mSt1 (mR (536870912 + f) v (v / 256 % 256) (v / 65536) 0) = 536870912 + f := by
    have h : addrS mSt1 (mR (536870912 + f) v (v / 256 % 256) (v / 65536) 0) = (536870912 + (f : Int) + 0) % 4294967296 := by kernel_rfl
    rw [h]; omega
  have e4 : stErr Bs mSt1 (mR (536870912 + f) v (v / 256 % 256) (v / 65536) 0) = 0 := by
    have h : stErr Bs mSt1 (mR (536870912 + f) v (v / 256 % 256) (v / 65536) 0) = mayS (regAt Bs) Bs.length ((536870912 + (f : Int) + 0) % 4294967296) 1 true := by kernel_rfl
    rw [h, show (536870912 + (f : Int) + 0) % 4294967296 = 536870912 + (f : Int) by omega, ← hB]
    exact seat_ram_may (hB ▸ hc) (by rw [show widthS 1 = 1 from rfl]; omega) (by rw [show widthS 1 = 1 from rfl]; omega) true
  have s4 : stDat Bs D1 mSt1 (mR (536870912 + f) v (v / 256 % 256) (v / 65536) 0) = D1.set 1 (putS d1 f (v / 256 % 256) 1) := by
    have h : stDat Bs D1 mSt1 (mR (536870912 + f) v (v / 256 % 256) (v / 65536) 0) = storeS Bs D1 ((536870912 + (f : Int) + 0) % 4294967296) 1 (v / 256 % 256) := by kernel_rfl
    rw [h, show (536870912 + (f : Int) + 0) % 4294967296 = 536870912 + (f : Int) by omega, ← hB]
    exact storeS_ram (hB ▸ hc) hd1 (by rw [show widthS 1 = 1 from rfl]; omega) (by rw [show widthS 1 = 1 from rfl]; omega) _
  have hd2 : (D1.set 1 (putS d1 f (v / 256 % 256) 1))[1]? = some (putS d1 f (v / 256 % 256) 1) := by
    have := (List.getElem?_eq_some_iff.1 hd1).1
    simp [this]
  have r0 := putS_at d1 f (v / 256 % 256) 1 0 (by decide) (by omega)
  rw [Nat.add_zero] at r0
  have r1 := (putS_off d1 f (v / 256 % 256) 1 (f + 1) (by omega)).trans p1
  have r2 := (putS_off d1 f (v / 256 % 256) 1 (f + 2) (by omega)).trans p2
  have r3 := (putS_off d1 f (v / 256 % 256) 1 (f + 3) (by omega)).trans p3
  generalize putS d1 f (v / 256 % 256) 1 = d2 at *
  generalize D1.set 1 d2 = D2 at *
  -- 5: the word again
  have a5 : addrS mLd4 (mR (536870912 + f) v (v / 256 % 256) (v / 65536) 0) = 536870912 + f := by
    have h : addrS mLd4 (mR (536870912 + f) v (v / 256 % 256) (v / 65536) 0) = (536870912 + (f : Int) + 0) % 4294967296 := by kernel_rfl
    rw [h]; omega
  have e5 : ldErr Bs mLd4 (mR (536870912 + f) v (v / 256 % 256) (v / 65536) 0) = 0 := by
    have h : ldErr Bs mLd4 (mR (536870912 + f) v (v / 256 % 256) (v / 65536) 0) = mayS (regAt Bs) Bs.length ((536870912 + (f : Int) + 0) % 4294967296) 4 false := by kernel_rfl
    rw [h, show (536870912 + (f : Int) + 0) % 4294967296 = 536870912 + (f : Int) by omega, ← hB]
    exact seat_ram_may (hB ▸ hc) (by rw [show widthS 4 = 4 from rfl]; omega) (by rw [show widthS 4 = 4 from rfl]; exact hf4) false
  have g5 : ldGot Bs D2 mLd4 (mR (536870912 + f) v (v / 256 % 256) (v / 65536) 0) = v / 256 * 256 + v / 256 % 256 := by
    have h : ldGot Bs D2 mLd4 (mR (536870912 + f) v (v / 256 % 256) (v / 65536) 0) = gotS Bs D2 ((536870912 + (f : Int) + 0) % 4294967296) 4 := by kernel_rfl
    rw [h, show (536870912 + (f : Int) + 0) % 4294967296 = 536870912 + (f : Int) by omega, ← hB, gotS_ram (hB ▸ hc) hd2 (by rw [show widthS 4 = 4 from rfl]; omega) (by rw [show widthS 4 = 4 from rfl]; exact hf4)]
    rw [show (widthS 4).toNat = 4 from rfl, num4 r0 r1 r2 r3]
    simp
    omega
  refine ⟨D2, ?_⟩
  rw [run_step (s' := ⟨mR (536870912 + f) v 0 0 0, [⟨7, 536870912 + f, 2⟩], 1, D1⟩) (by kernel_rfl) (st_go (h := mSt4) (by decide) (by decide) a1 e1 s1 rfl)]
  rw [run_step (s' := ⟨mR (536870912 + f) v (v / 256 % 256) 0 0, [⟨7, 536870912 + f, 2⟩, ⟨8, 536870912 + f + 1, 2⟩], 2, D1⟩) (by kernel_rfl) (ld_go (h := mLd1) (by decide) (by decide) a2 e2 g2 rfl)]
  rw [run_step (s' := ⟨mR (536870912 + f) v (v / 256 % 256) (v / 65536) 0, [⟨7, 536870912 + f, 2⟩, ⟨8, 536870912 + f + 1, 2⟩, ⟨9, 536870912 + f + 2, 2⟩], 3, D1⟩) (by kernel_rfl) (ld_go (h := mLd2) (by decide) (by decide) a3 e3 g3 rfl)]
  rw [run_step (s' := ⟨mR (536870912 + f) v (v / 256 % 256) (v / 65536) 0, [⟨7, 536870912 + f, 2⟩, ⟨8, 536870912 + f + 1, 2⟩, ⟨9, 536870912 + f + 2, 2⟩, ⟨10, 536870912 + f, 2⟩], 4, D2⟩) (by kernel_rfl) (st_go (h := mSt1) (by decide) (by decide) a4 e4 s4 rfl)]
  rw [run_step (s' := ⟨mR (536870912 + f) v (v / 256 % 256) (v / 65536) (v / 256 * 256 + v / 256 % 256), [⟨7, 536870912 + f, 2⟩, ⟨8, 536870912 + f + 1, 2⟩, ⟨9, 536870912 + f + 2, 2⟩, ⟨10, 536870912 + f, 2⟩, ⟨11, 536870912 + f, 2⟩], 5, D2⟩) (by kernel_rfl) (ld_go (h := mLd4) (by decide) (by decide) a5 e5 g5 rfl)]
  exact run_end (by kernel_rfl) rfl
end Go.Proofs.Yteflboidbogegaa

/-! What else HvmReckons asks: rows of three, an empty memory of the call's own. -/
namespace Go.Proofs.Yteflboidbogegaa
open Go.ChangeShapes Go.WideShapes Go.ChangeAt Go.RowKit
set_option linter.unusedVariables false
set_option linter.unusedSimpArgs false
section
variable {P : Program} {M : Zn} {w0 w w1 : World} {L : List (Nat × Cel)} {ops : Array Oper} {rest : List Oper} {o : Oper} {a : Act} {Q : Exit → Act → World → Prop}
/-- A slice put together, as a block. -/
theorem SH.sliceAny (S : SH M w0 w L) (hgd : o.guard = none) (ty n : Nat) (xs : Array (Nat × Operand)) (ho : o.op = .buildSlice ty n xs) (cs : List Value) (e : TypeId)
    (hr : (execOp a.eval o).run P w = .ok (.value (.slice (some ⟨w.heap.size, 0, none⟩) n n)) (w.alloc (.cells cs.toArray e)))
    (h : ∀ g w1, SH M w0 w1 ((g, Cel.any cs) :: L) → wpList P ops Q rest (a.put o.dst (.slice (some ⟨g, 0, none⟩) n n)) w1) : wpList P ops Q (o :: rest) a w :=
  wpList_plain hgd fun K hK => by
    unfold Oper.wp
    rw [hr]
    exact hK _ _ (h _ _ (S.new (Cel.any cs) e))
theorem SH.ldMid (S : SH M w0 w L) (ty : TypeId) (x : Operand) (ho : o.op = .load ty x) (b j : Nat) (hx : a.eval x = .pointer (some ⟨b, j, none⟩)) (i : Nat) (c : Cel) (hL : L[i]? = some (b, c))
    (cs : List Value) (hcs : ∀ t u, cs[t]? = some u → c.cells[j + t]? = some u) (d : TypeDesc) (hu : P.underlying ty = some d) (hd : d.isRow = true) (hi : (P.info? ty).map (·.size) = some cs.length) (hw : Region.wanted o (yielded ops a.tmps) = true)
    (h : wpList P ops Q rest (a.put o.dst (.agg cs.toArray)) w) : wpList P ops Q (o :: rest) a w :=
  wpList_step fun K hK => by
    rw [if_pos hw]
    exact wp_load_mid ty x ho b j hx cs d (fun t u hu' => ((S.at hL).1.cell (j + t)).trans (hcs t u hu')) hu hd hi (hK _ _ h)
theorem SH.u1 {p : Nat × Cel} (S : SH M w0 w (p :: L)) : SH M w0 w L := S.fewer 1
/-- A run over a memory that is the call's own, and empty. -/
theorem SH.ran0 {pm : Nat} {c : Cel} {A : Option Addr} {n cc base : Nat} {E : List HEv} (S : SH M w0 w ((pm, c) :: L)) (h0 : M.lo = 0 ∧ M.hi = 0) (hmid : Mid pm (pm + 1) w w1) (hev : EvRow w1 base (.slice A n cc) E) (hb1 : w.heap.size ≤ base) :
    SH (M.add (fun k => (Value.slice A n cc).ownBlock = some k) (fun w => EvRow w base (.slice A n cc) E)) w0 w1 L := by
  have hp := S.out (pm, c) (by simp)
  have hk : ∀ k, k < w.heap.size → k ≠ pm → w1.heap[k]? = w.heap[k]? := fun k hk hne => hmid.block k hk (by omega)
  have hnd : ∀ p ∈ L, p.1 ≠ pm := fun p hp' e => by
    obtain ⟨i, hi⟩ := List.getElem?_of_mem hp'
    have := S.nd (i + 1) 0 p (pm, c) (by simpa using hi) (by simp) e
    omega
  refine S.u1.turn (add_ok S.ok (stb_ev _ _ _)) ⟨S.ok.st w w1 S.inv hmid.size (fun k hz hl => hk k hl (fun e => by subst e; exact hp.2 hz)), hev⟩ (fun k hz => ?_) ⟨hmid.os.trans S.mid.os, hmid.tape.trans S.mid.tape, hmid.output.trans S.mid.output, Nat.le_trans S.mid.size hmid.size, fun k hk1 hk2 => (hk k (Nat.lt_of_lt_of_le hk1 S.mid.size) (fun e => by subst e; exact absurd hp.1 (by omega))).trans (S.mid.block k hk1 hk2)⟩ (fun p hp' => hk _ (S.blk p (by simp [hp'])).lt (hnd p hp')) (fun p hp' h => ?_)
  · rcases hz with hz | hz
    · exact Nat.lt_of_lt_of_le (S.zb k hz) hmid.size
    · exact (World.ownsRow.lt hev k hz).2
  · rcases h with h | h
    · exact (S.out p (by simp [hp'])).2 h
    · have := (S.blk p (by simp [hp'])).lt
      have := (World.ownsRow.lt hev _ h).1
      omega
/-- An empty memory, of the call's own. -/
theorem SH.memNone {b : Nat} (S : SH M w0 w ((b, Cel.any [.slice none 0 0, .slice none 0 0]) :: L)) : MemAt w b 0 b (b + 1) [] [] [] (fun _ => 0) := by
  obtain ⟨hb, _⟩ := S.at (i := 0) rfl
  have c0 := hb.cell 0
  have c1 := hb.cell 1
  refine ⟨rfl, hb.lt, ⟨Nat.le_refl _, Nat.lt_succ_self _, fun i hi => absurd hi (Nat.not_lt_zero _)⟩, fun i j hi => absurd hi (Nat.not_lt_zero _), ⟨_, c0, ?_⟩, ⟨none, 0, 0, c1, fun _ => ⟨rfl, rfl⟩, fun h => absurd rfl h, fun i d r hd => by simp at hd⟩⟩
  exact ⟨[], rfl, rfl, none, 0, rfl, fun _ => ⟨rfl, rfl⟩, fun b o h => (by cases h), ⟨by decide, fun i hi => absurd hi (Nat.not_lt_zero _)⟩, fun i r g hr => (by simp at hr)⟩
end
def triC (T : List (Int × Int × Int)) : List Value := T.flatMap fun t => [.int .u32 t.1, .int .u32 t.2.1, .int .u32 t.2.2]
theorem triC_at {T : List (Int × Int × Int)} {i : Nat} {t : Int × Int × Int} (h : T[i]? = some t) (j : Nat) (hj : j < 3) : (triC T)[i * 3 + j]? = ([.int .u32 t.1, .int .u32 t.2.1, .int .u32 t.2.2] : List Value)[j]? := by
  induction T generalizing i with
  | nil => simp at h
  | cons x T ih =>
    have e : triC (x :: T) = [.int .u32 x.1, .int .u32 x.2.1, .int .u32 x.2.2] ++ triC T := rfl
    rw [e]
    cases i with
    | zero =>
      simp only [List.getElem?_cons_zero, Option.some.injEq] at h
      subst h
      rw [Nat.zero_mul, Nat.zero_add, List.getElem?_append_left (by simpa using hj)]
    | succ i =>
      simp only [List.getElem?_cons_succ] at h
      rw [List.getElem?_append_right (by simp; omega)]
      rw [show (i + 1) * 3 + j - ([.int .u32 x.1, .int .u32 x.2.1, .int .u32 x.2.2] : List Value).length = i * 3 + j by simp; omega]
      exact ih h
/-- The instruction of an op, as the statement has it. -/
def recH (o : Int) : HV := ⟨o, 4, 1, if o = 2 ∨ o = 17 then 0 else 2, if o = 21 then 3 else 0, 0⟩
end Go.Proofs.Yteflboidbogegaa

/-! HvmReckons, walked. -/
namespace Go.Proofs.Yteflboidbogegaa
open Go.ChangeShapes Go.WideShapes Go.ChangeAt Go.RowKit
set_option linter.unusedVariables false
set_option linter.unusedSimpArgs false

theorem bits_u32 (op : BinOp) (x y : Int) (h : bits op .u32 x y = IntKind.u32.wrap (bits op .u32 x y)) : 0 ≤ bits op .u32 x y ∧ bits op .u32 x y ≤ 4294967295 := by
  rw [IntKind.wrap_u32] at h
  omega
theorem zeroTri : (Try.prog.info? 26).map (fun i => i.zero) = some (some (Cel.any [.int .u32 0, .int .u32 0, .int .u32 0]).val) := by kernel_rfl
theorem szTri : (Try.prog.info? 26).map (·.size) = some 3 := by kernel_rfl
theorem SH.toNo {M : Zn} {w0 w : World} {L : List (Nat × Cel)} (S : SH M w0 w L) (h : M.lo = 0 ∧ M.hi = 0) : SH noZ w0 w L :=
  S.turn noZ_ok trivial (fun k hk => hk.elim) ⟨S.mid.os, S.mid.tape, S.mid.output, S.mid.size, fun k hk _ => S.mid.block k hk (.inr (by rw [h.2]; exact Nat.zero_le _))⟩ (fun _ _ => rfl) (fun p hp hz => hz.elim)
theorem neq_run {R : List Int} (hR : R.length = 32) {o : Oper} {a : Act} {x y : Operand} {t : TypeId} {w : World} (hx : a.eval x = (Cel.regs R).val) (hy : a.eval y = (Cel.regs R).val) (ho : o.op = .binOp .neq 28 x y t := by rfl) : (execOp a.eval o).run Try.prog w = .ok (.value (.bool false)) w := by
  unfold execOp
  have hg : (eqGuard BinOp.neq 28 x y (Cel.regs R).val (Cel.regs R).val).run Try.prog w = .ok () w := by kernel_rfl
  simp only [ho, hx, hy, Sem.run_bind, hg, Sem.run_pure, Result.andThen_ok, regs_neq hR]
theorem below_then {w0 w1 w2 : World} (h : Below w0.heap.size w0 w1) (k : Below w1.heap.size w1 w2) : Below w0.heap.size w0 w2 := h.trans (k.mono h.size)
def r4 (p : Int × Int × Int) (v : Int) : List Int := (((zR.set 1 p.1).set 2 p.2.1).set 3 p.2.2).set 4 v
def okT (T : List (Int × Int × Int)) : Prop := ∀ t ∈ T, (0 ≤ t.1 ∧ t.1 ≤ 4294967295) ∧ (0 ≤ t.2.1 ∧ t.2.1 ≤ 4294967295) ∧ (0 ≤ t.2.2 ∧ t.2.2 ≤ 4294967295)
def reck1 (w0 : World) (o : Value) (wr : World) : Prop := ∃ k : Nat, 2 ≤ k ∧ k ≤ 22 ∧ o = .int .i64 k ∧ Below w0.heap.size w0 wr
def reck2 (w0 : World) (T : List (Int × Int × Int)) (h : HV) (g b10 : Nat) (i : Value) (wr : World) : Prop := ∃ j : Nat, j ≤ 6 ∧ i = .int .i64 j ∧ SH noZ w0 wr [(g, Cel.any (triC T)), (b10, Cel.host h)]
set_option maxHeartbeats 16000000 in
set_option maxRecDepth 100000 in
theorem reckons_c (a b c v : Int) (a0 : 0 ≤ a) (a1 : a ≤ 4294967295) (b0 : 0 ≤ b) (b1 : b ≤ 4294967295) (c0 : 0 ≤ c) (c1 : c ≤ 4294967295) (v0 : 0 ≤ v) (v1 : v ≤ 4294967295) (w : World) :
    Calls Try.prog 3 #[.int .u32 a, .int .u32 b, .int .u32 c, .int .u32 v] w fun e w' => e = .returned (.bool true) ∧ Below w.heap.size w w' := by
  have CK : Hid (∀ w1, Calls Try.prog 8 #[] w1 fun e w' => e = .returned (.bool true) ∧ Below w1.heap.size w1 w') := fun w1 => known_c w1
  obtain ⟨x1, hx1⟩ : ∃ x, bits .and .u32 b 63 = x := ⟨_, rfl⟩
  obtain ⟨x2, hx2⟩ : ∃ x, bits .or .u32 a 2147483648 = x := ⟨_, rfl⟩
  obtain ⟨x3, hx3⟩ : ∃ x, bits .and .u32 c 1 = x := ⟨_, rfl⟩
  have X1 : 0 ≤ x1 ∧ x1 ≤ 4294967295 := by rw [← hx1, u32_and _ _ b0 (by omega) (by omega) (by omega)]; have := Nat.and_le_left (n := b.toNat) (m := (63 : Int).toNat); omega
  have X2 : 0 ≤ x2 ∧ x2 ≤ 4294967295 := by
    rw [← hx2, u32_or _ _ a0 (by omega) (by omega) (by omega)]
    have := Nat.or_lt_two_pow (x := a.toNat) (y := (2147483648 : Int).toNat) (n := 32) (by omega) (by decide)
    omega
  have X3 : 0 ≤ x3 ∧ x3 ≤ 4294967295 := by rw [← hx3, u32_and _ _ c0 (by omega) (by omega) (by omega)]; have := Nat.and_le_left (n := c.toNat) (m := (1 : Int).toNat); omega
  obtain ⟨T, hT⟩ : ∃ T : List (Int × Int × Int), T = [(a, b, c), (a, x1, 0), (a, a, 1), (x2, b, x3), (a, 0, c), (2147483648, 4294967295, c)] := ⟨_, rfl⟩
  have HT : Hid (okT T ∧ T.length = 6) := by
    subst hT
    refine ⟨fun t ht => ?_, rfl⟩
    simp only [List.mem_cons, List.not_mem_nil, or_false] at ht
    rcases ht with rfl | rfl | rfl | rfl | rfl | rfl <;> (refine ⟨⟨?_, ?_⟩, ⟨?_, ?_⟩, ⟨?_, ?_⟩⟩ <;> simp only [] <;> omega)
  have HTT : Hid (T = [(a, b, c), (a, x1, 0), (a, a, 1), (x2, b, x3), (a, 0, c), (2147483648, 4294967295, c)]) := hT
  clear hT X1 X2 X3
  go_enter Try.func3, Try.ntmps3
  go_wp2_with (first
    | (go_at_call 8; refine (CK.out _).mono ?_; rintro e w2 ⟨rfl, hb2⟩))
  have ST : Hid (reck1 w (.int .i64 2) w2) := ⟨2, by decide, by decide, rfl, hb2⟩
  clear hb2 CK
  go_loopw [9] (fun o wr => reck1 w o wr) (fun o _ => 22 - (intOf o).toNat)
  case atStart => exact ST.out
  case round =>
    clear ST
    obtain ⟨k, k2, k22, rfl, hb⟩ := hrel
    obtain ⟨wO, rfl⟩ : ∃ x, x = wr := ⟨wr, rfl⟩
    have HBB : Hid (Below w.heap.size w wO) := hb
    clear hb
    by_cases hlt : k ≤ 21
    · have hlt' : (k : Int) ≤ 21 := by omega
      have S := SH.start wO
      rcases (show k = 21 ∨ k = 2 ∨ k = 17 ∨ (k ≠ 21 ∧ k ≠ 2 ∧ k ≠ 17) by omega) with rfl | rfl | rfl | ⟨n1, n2, n3⟩
      · go_upto_region 11 with (first
          | ((with_reducible refine wpl_isStore ?_); first
            | (refine S.storeAll rfl 25 _ _ rfl _ (Cel.host ⟨21, 4, 1, 2, 3, 0⟩) rfl rfl 0 _ rfl rfl (one_host _) szHost ?_; clear S; intro w10 S; simp only [List.set_cons_zero, List.set_cons_succ] at S)
            | (refine S.store1 rfl 3 _ _ rfl _ 4 _ rfl rfl 0 (Cel.host _) rfl rfl (by simp [Cel.cells]) (Cel.host ⟨21, 4, 1, 2, 0, 0⟩) rfl szI ?_; clear S; intro w10 S; simp only [List.set_cons_zero, List.set_cons_succ] at S)
            | (refine S.store1 rfl 3 _ _ rfl _ 3 _ rfl rfl 0 (Cel.host _) rfl rfl (by simp [Cel.cells]) (Cel.host ⟨21, 4, 1, 0, 0, 0⟩) rfl szI ?_; clear S; intro w10 S; simp only [List.set_cons_zero, List.set_cons_succ] at S))
          | ((with_reducible refine wpl_is ?_); first
            | (refine SH.alloc (L := []) S rfl 25 rfl _ zeroHost ?_; clear S; intro b10 w10 S)))
        obtain ⟨h, hh⟩ : ∃ h : HV, h = ⟨21, 4, 1, 2, 3, 0⟩ := ⟨_, rfl⟩
        have HH : Hid (h.wf ∧ (h.op ≤ 21 ∨ h.op = 30)) := by rw [hh]; exact ⟨⟨by show (0 : Int) ≤ 0; decide, by show (0 : Int) ≤ 4294967295; decide⟩, .inl (by simp only []; omega)⟩
        rw [← hh] at S
        clear hh
        have HX : Hid (bits .and .u32 b 63 = x1 ∧ bits .or .u32 a 2147483648 = x2 ∧ bits .and .u32 c 1 = x3) := ⟨hx1, hx2, hx3⟩
        go_wp2_with (first
          | ((with_reducible refine wpl_is ?_); first
            | (refine S.sliceAny rfl 27 6 _ rfl (triC T) 26 (by rw [HTT.out]; kernel_rfl) ?_; clear S; intro g wg S)))
        have ST2 : Hid (reck2 wO T h g b10 (.int .i64 0) wg) := ⟨0, by decide, rfl, S⟩
        clear S
        go_loopw [58] (fun i wq => reck2 wO T h g b10 i wq) (fun i _ => 6 - (intOf i).toNat)
        case atStart => exact ST2.out
        case round =>
          clear ST2
          obtain ⟨j, hj6, rfl, S⟩ := hrel
          by_cases hj : j < 6
          · have hj' : (j : Int) < 6 := by omega
            obtain ⟨t, ht⟩ : ∃ t, T[j]? = some t := ⟨T[j]'(by have := HT.out.2; omega), by simp⟩
            obtain ⟨⟨y0, y1⟩, ⟨y2, y3⟩, ⟨y4, y5⟩⟩ := HT.out.1 t (List.mem_of_getElem? ht)
            have HTJ : Hid (∀ i u, ([.int .u32 t.1, .int .u32 t.2.1, .int .u32 t.2.2] : List Value)[i]? = some u → (Cel.any (triC T)).cells[j * 3 + i]? = some u) := fun i u hu => by
              have hi : i < 3 := (List.getElem?_eq_some_iff.1 hu).1
              exact (triC_at ht i hi).trans hu
            have hr4 : okR (r4 t v) := okR_set (okR_set (okR_set (okR_set zR_ok _ ⟨by omega, by omega⟩) _ ⟨by omega, by omega⟩) _ ⟨by omega, by omega⟩) _ ⟨by omega, by omega⟩
            have hr32 : (r4 t v).length = 32 := hr4.1
            obtain ⟨fin, hfin⟩ : ∃ f, runS 0 [] [h, mExit] 9 ⟨r4 t v, [], 0, []⟩ = f := ⟨_, rfl⟩
            have C1 : Hid (∀ (g' : Nat) (w1 : World), CL w1 (some ⟨g', 0, none⟩) [h, mExit] → g' < w1.heap.size → Calls Try.prog 9 #[.slice (some ⟨g', 0, none⟩) 2 2, .int .i64 0, (Cel.regs (r4 t v)).val, .pointer none, .int .i64 9] w1 fun e w' => RunPostN w1 fin e w') := fun g' w1 h1 h2 => run_nil [h, mExit] (some ⟨g', 0, none⟩) 2 0 9 (r4 t v) w1 h1 (fun b o hb => by cases hb; exact h2) hr4 (by decide) (by decide) (by decide) fin hfin
            have C2 : Hid (∀ (g' pm : Nat) (w1 : World), CL w1 (some ⟨g', 0, none⟩) [h, mExit] → MemAt w1 pm 0 pm (pm + 1) [] [] [] (fun _ => 0) → g' ≠ pm → Calls Try.prog 10 #[.slice (some ⟨g', 0, none⟩) 2 2, .int .i64 0, (Cel.regs (r4 t v)).val, .pointer (some ⟨pm, 0, none⟩), .int .i64 9] w1 fun e w' => RunPost w1 pm 0 pm (pm + 1) [] [] (fun _ => 0) fin e w') := fun g' pm w1 h1 h2 h3 => rrun_c [h, mExit] (some ⟨g', 0, none⟩) 2 0 9 (r4 t v) w1 h2 (Nat.zero_le _) (by decide) (fun x hx => by
                simp only [List.mem_cons, List.not_mem_nil, or_false] at hx
                rcases hx with rfl | rfl
                · exact HH.out.2
                · exact .inr rfl) h1 (fun b o hb => by cases hb; omega) hr4 (by decide) (by decide) (by decide) fin hfin
            clear ht hfin hr4 y0 y1 y2 y3 y4 y5
            go_upto_region 15 with (first
              | ((with_reducible refine wpl_isStore ?_); first
                | (refine S.storeAll rfl 26 _ _ rfl _ (Cel.any [.int .u32 t.1, .int .u32 t.2.1, .int .u32 t.2.2]) rfl rfl 0 _ rfl rfl (by simp [Cel.cells, Value.oneCell']) szTri ?_; clear S; intro w12 S; simp only [List.set_cons_zero, List.set_cons_succ] at S))
              | ((with_reducible refine wpl_is ?_); first
                | (refine S.ldMid 26 _ rfl g (j * 3) rfl 0 (Cel.any (triC T)) rfl [.int .u32 t.1, .int .u32 t.2.1, .int .u32 t.2.2] HTJ.out _ Try.underlying26 rfl szTri rfl ?_)
                | (refine S.alloc rfl 26 rfl _ zeroTri ?_; clear S; intro b12 w12 S)
                | (refine S.alloc rfl 28 rfl _ zeroRegs ?_; clear S; intro b13 w13 S)))
            refine Upto.start (S := fun w' => SH noZ wO w' [(b12, Cel.any [.int .u32 t.1, .int .u32 t.2.1, .int .u32 t.2.2]), (g, Cel.any (triC T)), (b10, Cel.host h)]) 14 (by kernel_rfl) ?_
            replace S := S.drew
            refine Upto.take (i := 0) (oi := { dst := some 62, op := Op.indexAddr 26 (Operand.tmp 12) (Operand.const (Value.int IntKind.i64 0)), type := 0, pos := "law.go:109", after := #[], guard := none }) (v := ?_) rfl (by kernel_rfl) (by kernel_rfl) (by kernel_rfl) (by kernel_rfl) (fun _ _ _ h => h) (Or.inl ⟨by rfl, ?_⟩) (by exact S.fewer 1) ?_
            rotate_left 1
            · intro w hSw
              clear hSw
              go_simp
              try with_reducible rfl
            simp only [Act.put, List.setIfInBounds_toArray, List.set_cons_zero, List.set_cons_succ]
            refine Upto.take (i := 1) (oi := { dst := some 63, op := Op.load 22 (Operand.tmp 62), type := 22, pos := "law.go:109", after := #[{ on := 0, ground := Ground.data }], guard := none }) (v := _) rfl (by kernel_rfl) (by kernel_rfl) (by kernel_rfl) (by kernel_rfl) (fun _ _ _ h => h) (y_load1 (by rfl) _ _ rfl _ _ rfl 0 _ rfl _ rfl _ Try.underlying22 rfl) (by exact S.fewer 1) ?_
            simp only [Act.put, List.setIfInBounds_toArray, List.set_cons_zero, List.set_cons_succ]
            refine Upto.take (i := 2) (oi := { dst := some 64, op := Op.indexAddr 26 (Operand.tmp 12) (Operand.const (Value.int IntKind.i64 1)), type := 0, pos := "law.go:109", after := #[{ on := 8, ground := Ground.gcOnly Departure.lateStores }], guard := none }) (v := ?_) rfl (by kernel_rfl) (by kernel_rfl) (by kernel_rfl) (by kernel_rfl) (fun _ _ _ h => h) (Or.inl ⟨by rfl, ?_⟩) (by exact S.fewer 1) ?_
            rotate_left 1
            · intro w hSw
              clear hSw
              go_simp
              try with_reducible rfl
            simp only [Act.put, List.setIfInBounds_toArray, List.set_cons_zero, List.set_cons_succ]
            refine Upto.take (i := 3) (oi := { dst := some 65, op := Op.load 22 (Operand.tmp 64), type := 22, pos := "law.go:109", after := #[{ on := 2, ground := Ground.data }, { on := 8, ground := Ground.gcOnly Departure.lateStores }], guard := none }) (v := _) rfl (by kernel_rfl) (by kernel_rfl) (by kernel_rfl) (by kernel_rfl) (fun _ _ _ h => h) (y_load1 (by rfl) _ _ rfl _ _ rfl 0 _ rfl _ rfl _ Try.underlying22 rfl) (by exact S.fewer 1) ?_
            simp only [Act.put, List.setIfInBounds_toArray, List.set_cons_zero, List.set_cons_succ]
            refine Upto.take (i := 4) (oi := { dst := some 66, op := Op.indexAddr 26 (Operand.tmp 12) (Operand.const (Value.int IntKind.i64 2)), type := 0, pos := "law.go:109", after := #[{ on := 10, ground := Ground.gcOnly Departure.lateStores }], guard := none }) (v := ?_) rfl (by kernel_rfl) (by kernel_rfl) (by kernel_rfl) (by kernel_rfl) (fun _ _ _ h => h) (Or.inl ⟨by rfl, ?_⟩) (by exact S.fewer 1) ?_
            rotate_left 1
            · intro w hSw
              clear hSw
              go_simp
              try with_reducible rfl
            simp only [Act.put, List.setIfInBounds_toArray, List.set_cons_zero, List.set_cons_succ]
            refine Upto.take (i := 5) (oi := { dst := some 67, op := Op.load 22 (Operand.tmp 66), type := 22, pos := "law.go:109", after := #[{ on := 4, ground := Ground.data }, { on := 10, ground := Ground.gcOnly Departure.lateStores }], guard := none }) (v := _) rfl (by kernel_rfl) (by kernel_rfl) (by kernel_rfl) (by kernel_rfl) (fun _ _ _ h => h) (y_load1 (by rfl) _ _ rfl _ _ rfl 0 _ rfl _ rfl _ Try.underlying22 rfl) (by exact S.fewer 1) ?_
            simp only [Act.put, List.setIfInBounds_toArray, List.set_cons_zero, List.set_cons_succ]
            refine Upto.take (i := 6) (oi := { dst := some 68, op := Op.move (Operand.tmp 3), type := 22, pos := "law.go:109", after := #[{ on := 12, ground := Ground.gcOnly Departure.lateStores }], guard := none }) (v := ?_) rfl (by kernel_rfl) (by kernel_rfl) (by kernel_rfl) (by kernel_rfl) (fun _ _ _ h => h) (Or.inl ⟨by rfl, ?_⟩) (by exact S.fewer 1) ?_
            rotate_left 1
            · intro w hSw
              clear hSw
              go_simp
              try with_reducible rfl
            simp only [Act.put, List.setIfInBounds_toArray, List.set_cons_zero, List.set_cons_succ]
            refine Upto.take (i := 7) (oi := { dst := some 69, op := Op.indexAddr 28 (Operand.tmp 13) (Operand.const (Value.int IntKind.i64 1)), type := 0, pos := "law.go:109", after := #[{ on := 0, ground := Ground.phase }, { on := 1, ground := Ground.phase }, { on := 2, ground := Ground.textOnly Departure.lateStores }, { on := 3, ground := Ground.textOnly Departure.lateStores }, { on := 4, ground := Ground.textOnly Departure.lateStores }, { on := 5, ground := Ground.textOnly Departure.lateStores }, { on := 6, ground := Ground.textOnly Departure.lateStores }], guard := none }) (v := ?_) rfl (by kernel_rfl) (by kernel_rfl) (by kernel_rfl) (by kernel_rfl) (fun _ _ _ h => h) (Or.inl ⟨by rfl, ?_⟩) (by exact S.fewer 1) ?_
            rotate_left 1
            · intro w hSw
              clear hSw
              go_simp
              try with_reducible rfl
            simp only [Act.put, List.setIfInBounds_toArray, List.set_cons_zero, List.set_cons_succ]
            refine Upto.ready (rs := [8]) (by kernel_rfl) (by simp) ?_
            refine Nexts.cons rfl (by decide) (fun K hK => ?_) Nexts.nil
            rw [if_pos (by rfl)]
            refine S.wpStore1 22 _ _ rfl _ 1 _ rfl rfl 0 (Cel.regs _) rfl rfl (by rw [regs_length (by simp [zR])]; decide) _ (set_regs _ _ _) szU ?_
            clear S
            intro w9 S
            simp only [List.set_cons_zero, List.set_cons_succ] at S
            refine hK.out _ _ (by exact S.fewer 1) ?_
            clear hK K
            refine Upto.take (i := 9) (oi := { dst := some 70, op := Op.indexAddr 28 (Operand.tmp 13) (Operand.const (Value.int IntKind.i64 2)), type := 0, pos := "law.go:109", after := #[{ on := 0, ground := Ground.phase }, { on := 1, ground := Ground.phase }, { on := 2, ground := Ground.phase }, { on := 3, ground := Ground.phase }, { on := 4, ground := Ground.textOnly Departure.lateStores }, { on := 5, ground := Ground.textOnly Departure.lateStores }, { on := 6, ground := Ground.textOnly Departure.lateStores }, { on := 7, ground := Ground.phase }, { on := 8, ground := Ground.phase }], guard := none }) (v := ?_) rfl (by kernel_rfl) (by kernel_rfl) (by kernel_rfl) (by kernel_rfl) (fun _ _ _ h => h) (Or.inl ⟨by rfl, ?_⟩) (by exact S.fewer 1) ?_
            rotate_left 1
            · intro w hSw
              clear hSw
              go_simp
              try with_reducible rfl
            simp only [Act.put, List.setIfInBounds_toArray, List.set_cons_zero, List.set_cons_succ]
            refine Upto.ready (rs := [10]) (by kernel_rfl) (by simp) ?_
            refine Nexts.cons rfl (by decide) (fun K hK => ?_) Nexts.nil
            rw [if_pos (by rfl)]
            refine S.wpStore1 22 _ _ rfl _ 2 _ rfl rfl 0 (Cel.regs _) rfl rfl (by rw [regs_length (by simp [zR])]; decide) _ (set_regs _ _ _) szU ?_
            clear S
            intro w9 S
            simp only [List.set_cons_zero, List.set_cons_succ] at S
            refine hK.out _ _ (by exact S.fewer 1) ?_
            clear hK K
            refine Upto.take (i := 11) (oi := { dst := some 71, op := Op.indexAddr 28 (Operand.tmp 13) (Operand.const (Value.int IntKind.i64 3)), type := 0, pos := "law.go:109", after := #[{ on := 0, ground := Ground.phase }, { on := 1, ground := Ground.phase }, { on := 2, ground := Ground.phase }, { on := 3, ground := Ground.phase }, { on := 4, ground := Ground.phase }, { on := 5, ground := Ground.phase }, { on := 6, ground := Ground.textOnly Departure.lateStores }, { on := 7, ground := Ground.phase }, { on := 8, ground := Ground.phase }, { on := 9, ground := Ground.phase }, { on := 10, ground := Ground.phase }], guard := none }) (v := ?_) rfl (by kernel_rfl) (by kernel_rfl) (by kernel_rfl) (by kernel_rfl) (fun _ _ _ h => h) (Or.inl ⟨by rfl, ?_⟩) (by exact S.fewer 1) ?_
            rotate_left 1
            · intro w hSw
              clear hSw
              go_simp
              try with_reducible rfl
            simp only [Act.put, List.setIfInBounds_toArray, List.set_cons_zero, List.set_cons_succ]
            refine Upto.ready (rs := [12]) (by kernel_rfl) (by simp) ?_
            refine Nexts.cons rfl (by decide) (fun K hK => ?_) Nexts.nil
            rw [if_pos (by rfl)]
            refine S.wpStore1 22 _ _ rfl _ 3 _ rfl rfl 0 (Cel.regs _) rfl rfl (by rw [regs_length (by simp [zR])]; decide) _ (set_regs _ _ _) szU ?_
            clear S
            intro w9 S
            simp only [List.set_cons_zero, List.set_cons_succ] at S
            refine hK.out _ _ (by exact S.fewer 1) ?_
            clear hK K
            refine Upto.take (i := 13) (oi := { dst := some 72, op := Op.indexAddr 28 (Operand.tmp 13) (Operand.const (Value.int IntKind.i64 4)), type := 0, pos := "law.go:109", after := #[{ on := 0, ground := Ground.phase }, { on := 1, ground := Ground.phase }, { on := 2, ground := Ground.phase }, { on := 3, ground := Ground.phase }, { on := 4, ground := Ground.phase }, { on := 5, ground := Ground.phase }, { on := 6, ground := Ground.phase }, { on := 7, ground := Ground.phase }, { on := 8, ground := Ground.phase }, { on := 9, ground := Ground.phase }, { on := 10, ground := Ground.phase }, { on := 11, ground := Ground.phase }, { on := 12, ground := Ground.phase }], guard := none }) (v := ?_) rfl (by kernel_rfl) (by kernel_rfl) (by kernel_rfl) (by kernel_rfl) (fun _ _ _ h => h) (Or.inl ⟨by rfl, ?_⟩) (by exact S.fewer 1) ?_
            rotate_left 1
            · intro w hSw
              clear hSw
              go_simp
              try with_reducible rfl
            simp only [Act.put, List.setIfInBounds_toArray, List.set_cons_zero, List.set_cons_succ]
            refine Upto.ready (rs := [14]) (by kernel_rfl) (by simp) ?_
            refine Nexts.last rfl (fun K hK => ?_)
            rw [if_pos (by rfl)]
            refine S.wpStore1 22 _ _ rfl _ 4 _ rfl rfl 0 (Cel.regs _) rfl rfl (by rw [regs_length (by simp [zR])]; decide) _ (set_regs _ _ _) szU ?_
            clear S
            intro w9 S
            simp only [List.set_cons_zero, List.set_cons_succ] at S
            refine hK.out _ _ ?_
            simp only [Act.put, List.setIfInBounds_toArray, List.set_cons_zero, List.set_cons_succ]
            clear hK K
            refine Upto.done (by kernel_rfl) ?_ _
            replace S : SH noZ wO _ [(b13, Cel.regs (r4 t v)), (b12, Cel.any [.int .u32 t.1, .int .u32 t.2.1, .int .u32 t.2.2]), (g, Cel.any (triC T)), (b10, Cel.host h)] := S
            go_wp2_with (first
              | ((with_reducible refine wpl_isLoad ?_); first
                | (refine S.ldAll 25 _ rfl _ rfl 3 (Cel.host h) rfl _ Try.underlying25 rfl szHost rfl ?_)
                | (refine S.ldAll 28 _ rfl _ rfl 0 (Cel.regs (r4 t v)) rfl _ Try.underlying28 rfl (by rw [regs_length hr32]; exact szRegs) rfl ?_))
              | ((with_reducible refine wpl_is ?_); first
                | (refine S.code rfl 34 2 _ rfl [h, mExit] 25 (by kernel_rfl) (by intro x hx; simp only [List.mem_cons, List.not_mem_nil, or_false] at hx; rcases hx with rfl | rfl; exact HH.out.1; exact ⟨by decide, by decide⟩) (by simp) ?_; clear S; intro g1 w1 S)))
            refine (C1.out g1 _ S.inv.2 (S.zb _ (.inr rfl))).mono ?_
            rintro e w3 ⟨A1, n1, base1, rfl, hev, hb1, hb2, hokf⟩
            replace S := RunN.gain S hev hb1 hb2
            have hf32 : fin.1.R.length = 32 := hokf.1
            clear hev hb1 hb2 hokf C1
            go_wp2_with (first
              | ((with_reducible refine wpl_isLoad ?_); first
                | (refine S.ldAll 25 _ rfl _ rfl 4 (Cel.host h) rfl _ Try.underlying25 rfl szHost rfl ?_)
                | (refine S.ldAll 28 _ rfl _ rfl 1 (Cel.regs (r4 t v)) rfl _ Try.underlying28 rfl (by rw [regs_length hr32]; exact szRegs) rfl ?_))
              | ((with_reducible refine wpl_isStore ?_); first
                | (refine S.storeAll rfl 32 _ _ rfl _ (Cel.res fin.1.R _ _ _) rfl rfl 0 _ rfl (by rw [res_length hf32, res_length (by simp)]) (one_res rfl) (by rw [res_length hf32]; exact szRes) ?_; clear S; intro w14 S; simp only [List.set_cons_zero, List.set_cons_succ] at S))
              | ((with_reducible refine wpl_is ?_); first
                | (refine S.alloc rfl 32 rfl _ zeroRes ?_; clear S; intro b14 w14 S)
                | (refine S.code rfl 34 2 _ rfl [h, mExit] 25 (by kernel_rfl) (by intro x hx; simp only [List.mem_cons, List.not_mem_nil, or_false] at hx; rcases hx with rfl | rfl; exact HH.out.1; exact ⟨by decide, by decide⟩) (by simp) ?_; clear S; intro g2 w1 S)
                | (refine S.box rfl _ _ rfl (Cel.any [.slice none 0 0, .slice none 0 0]) rfl ?_; clear S; intro bm wm S)))
            have hgm : g2 ≠ bm := fun e => (S.out (bm, Cel.any [.slice none 0 0, .slice none 0 0]) (by simp)).2 (.inr e.symm)
            refine (C2.out g2 bm _ S.inv.2 S.memNone hgm).mono ?_
            rintro e w5 ⟨A2, n2, base2, rfl, hev, hb1, _, _, hmid, hokf⟩
            replace S := S.ran0 ⟨rfl, rfl⟩ hmid hev hb1
            clear hev hb1 hmid hokf C2 hgm
            go_wp2_with (first
              | ((with_reducible refine wpl_isLoad ?_); first
                | (refine S.loadRegs rfl 28 _ rfl _ rfl 1 _ _ _ _ rfl _ Try.underlying28 rfl (by rw [rc_length, hf32]; exact szRegs) ?_)
                | (refine S.loadRegs rfl 28 _ rfl _ rfl 0 _ _ _ _ rfl _ Try.underlying28 rfl (by rw [rc_length, hf32]; exact szRegs) ?_)
                | (refine S.ld 30 _ rfl _ 33 rfl 1 (Cel.res _ _ _ _) rfl _ (res_33 hf32 _ _ _) _ Try.underlying30 rfl rfl ?_)
                | (refine S.ld 3 _ rfl _ 33 rfl 0 (Cel.res _ _ _ _) rfl _ (res_33 hf32 _ _ _) _ Try.underlying3 rfl rfl ?_))
              | ((with_reducible refine wpl_isStore ?_); first
                | (refine S.storeAll rfl 36 _ _ rfl _ (Cel.res fin.1.R _ _ _) rfl rfl 0 _ rfl (by rw [res_length hf32, res_length (by simp)]) (one_res rfl) (by rw [res_length hf32]; exact szRef) ?_; clear S; intro w15 S; simp only [List.set_cons_zero, List.set_cons_succ] at S))
              | ((with_reducible refine wpl_isDst 89 ?_); refine wpl_dst 89 rfl (.bool false) (neq_run hf32 rfl rfl) rfl ?_)
              | ((with_reducible refine wpl_is ?_); first
                | (refine S.alloc rfl 36 rfl _ zeroRef ?_; clear S; intro b15 w15 S)))
            go_roundw
            case rel => exact ⟨j + 1, hj, by push_cast; rfl, (S.toNo ⟨rfl, rfl⟩).fewer 4⟩
            case measure =>
              simp only [intOf]
              omega
          · have hj' : ¬ (j : Int) < 6 := by omega
            have SB : Hid (Below wO.heap.size wO wr) := S.low
            clear S
            go_wp2
            go_roundw
            case rel => exact ⟨22, by omega, by omega, rfl, below_then HBB.out SB.out⟩
            case measure =>
              simp only [intOf]
              omega
      · go_upto_region 11 with (first
          | ((with_reducible refine wpl_isStore ?_); first
            | (refine S.storeAll rfl 25 _ _ rfl _ (Cel.host ⟨2, 4, 1, 2, 3, 0⟩) rfl rfl 0 _ rfl rfl (one_host _) szHost ?_; clear S; intro w10 S; simp only [List.set_cons_zero, List.set_cons_succ] at S)
            | (refine S.store1 rfl 3 _ _ rfl _ 4 _ rfl rfl 0 (Cel.host _) rfl rfl (by simp [Cel.cells]) (Cel.host ⟨2, 4, 1, 2, 0, 0⟩) rfl szI ?_; clear S; intro w10 S; simp only [List.set_cons_zero, List.set_cons_succ] at S)
            | (refine S.store1 rfl 3 _ _ rfl _ 3 _ rfl rfl 0 (Cel.host _) rfl rfl (by simp [Cel.cells]) (Cel.host ⟨2, 4, 1, 0, 0, 0⟩) rfl szI ?_; clear S; intro w10 S; simp only [List.set_cons_zero, List.set_cons_succ] at S))
          | ((with_reducible refine wpl_is ?_); first
            | (refine SH.alloc (L := []) S rfl 25 rfl _ zeroHost ?_; clear S; intro b10 w10 S)))
        obtain ⟨h, hh⟩ : ∃ h : HV, h = ⟨2, 4, 1, 0, 0, 0⟩ := ⟨_, rfl⟩
        have HH : Hid (h.wf ∧ (h.op ≤ 21 ∨ h.op = 30)) := by rw [hh]; exact ⟨⟨by show (0 : Int) ≤ 0; decide, by show (0 : Int) ≤ 4294967295; decide⟩, .inl (by simp only []; omega)⟩
        rw [← hh] at S
        clear hh
        have HX : Hid (bits .and .u32 b 63 = x1 ∧ bits .or .u32 a 2147483648 = x2 ∧ bits .and .u32 c 1 = x3) := ⟨hx1, hx2, hx3⟩
        go_wp2_with (first
          | ((with_reducible refine wpl_is ?_); first
            | (refine S.sliceAny rfl 27 6 _ rfl (triC T) 26 (by rw [HTT.out]; kernel_rfl) ?_; clear S; intro g wg S)))
        have ST2 : Hid (reck2 wO T h g b10 (.int .i64 0) wg) := ⟨0, by decide, rfl, S⟩
        clear S
        go_loopw [58] (fun i wq => reck2 wO T h g b10 i wq) (fun i _ => 6 - (intOf i).toNat)
        case atStart => exact ST2.out
        case round =>
          clear ST2
          obtain ⟨j, hj6, rfl, S⟩ := hrel
          by_cases hj : j < 6
          · have hj' : (j : Int) < 6 := by omega
            obtain ⟨t, ht⟩ : ∃ t, T[j]? = some t := ⟨T[j]'(by have := HT.out.2; omega), by simp⟩
            obtain ⟨⟨y0, y1⟩, ⟨y2, y3⟩, ⟨y4, y5⟩⟩ := HT.out.1 t (List.mem_of_getElem? ht)
            have HTJ : Hid (∀ i u, ([.int .u32 t.1, .int .u32 t.2.1, .int .u32 t.2.2] : List Value)[i]? = some u → (Cel.any (triC T)).cells[j * 3 + i]? = some u) := fun i u hu => by
              have hi : i < 3 := (List.getElem?_eq_some_iff.1 hu).1
              exact (triC_at ht i hi).trans hu
            have hr4 : okR (r4 t v) := okR_set (okR_set (okR_set (okR_set zR_ok _ ⟨by omega, by omega⟩) _ ⟨by omega, by omega⟩) _ ⟨by omega, by omega⟩) _ ⟨by omega, by omega⟩
            have hr32 : (r4 t v).length = 32 := hr4.1
            obtain ⟨fin, hfin⟩ : ∃ f, runS 0 [] [h, mExit] 9 ⟨r4 t v, [], 0, []⟩ = f := ⟨_, rfl⟩
            have C1 : Hid (∀ (g' : Nat) (w1 : World), CL w1 (some ⟨g', 0, none⟩) [h, mExit] → g' < w1.heap.size → Calls Try.prog 9 #[.slice (some ⟨g', 0, none⟩) 2 2, .int .i64 0, (Cel.regs (r4 t v)).val, .pointer none, .int .i64 9] w1 fun e w' => RunPostN w1 fin e w') := fun g' w1 h1 h2 => run_nil [h, mExit] (some ⟨g', 0, none⟩) 2 0 9 (r4 t v) w1 h1 (fun b o hb => by cases hb; exact h2) hr4 (by decide) (by decide) (by decide) fin hfin
            have C2 : Hid (∀ (g' pm : Nat) (w1 : World), CL w1 (some ⟨g', 0, none⟩) [h, mExit] → MemAt w1 pm 0 pm (pm + 1) [] [] [] (fun _ => 0) → g' ≠ pm → Calls Try.prog 10 #[.slice (some ⟨g', 0, none⟩) 2 2, .int .i64 0, (Cel.regs (r4 t v)).val, .pointer (some ⟨pm, 0, none⟩), .int .i64 9] w1 fun e w' => RunPost w1 pm 0 pm (pm + 1) [] [] (fun _ => 0) fin e w') := fun g' pm w1 h1 h2 h3 => rrun_c [h, mExit] (some ⟨g', 0, none⟩) 2 0 9 (r4 t v) w1 h2 (Nat.zero_le _) (by decide) (fun x hx => by
                simp only [List.mem_cons, List.not_mem_nil, or_false] at hx
                rcases hx with rfl | rfl
                · exact HH.out.2
                · exact .inr rfl) h1 (fun b o hb => by cases hb; omega) hr4 (by decide) (by decide) (by decide) fin hfin
            clear ht hfin hr4 y0 y1 y2 y3 y4 y5
            go_upto_region 15 with (first
              | ((with_reducible refine wpl_isStore ?_); first
                | (refine S.storeAll rfl 26 _ _ rfl _ (Cel.any [.int .u32 t.1, .int .u32 t.2.1, .int .u32 t.2.2]) rfl rfl 0 _ rfl rfl (by simp [Cel.cells, Value.oneCell']) szTri ?_; clear S; intro w12 S; simp only [List.set_cons_zero, List.set_cons_succ] at S))
              | ((with_reducible refine wpl_is ?_); first
                | (refine S.ldMid 26 _ rfl g (j * 3) rfl 0 (Cel.any (triC T)) rfl [.int .u32 t.1, .int .u32 t.2.1, .int .u32 t.2.2] HTJ.out _ Try.underlying26 rfl szTri rfl ?_)
                | (refine S.alloc rfl 26 rfl _ zeroTri ?_; clear S; intro b12 w12 S)
                | (refine S.alloc rfl 28 rfl _ zeroRegs ?_; clear S; intro b13 w13 S)))
            refine Upto.start (S := fun w' => SH noZ wO w' [(b12, Cel.any [.int .u32 t.1, .int .u32 t.2.1, .int .u32 t.2.2]), (g, Cel.any (triC T)), (b10, Cel.host h)]) 14 (by kernel_rfl) ?_
            replace S := S.drew
            refine Upto.take (i := 0) (oi := { dst := some 62, op := Op.indexAddr 26 (Operand.tmp 12) (Operand.const (Value.int IntKind.i64 0)), type := 0, pos := "law.go:109", after := #[], guard := none }) (v := ?_) rfl (by kernel_rfl) (by kernel_rfl) (by kernel_rfl) (by kernel_rfl) (fun _ _ _ h => h) (Or.inl ⟨by rfl, ?_⟩) (by exact S.fewer 1) ?_
            rotate_left 1
            · intro w hSw
              clear hSw
              go_simp
              try with_reducible rfl
            simp only [Act.put, List.setIfInBounds_toArray, List.set_cons_zero, List.set_cons_succ]
            refine Upto.take (i := 1) (oi := { dst := some 63, op := Op.load 22 (Operand.tmp 62), type := 22, pos := "law.go:109", after := #[{ on := 0, ground := Ground.data }], guard := none }) (v := _) rfl (by kernel_rfl) (by kernel_rfl) (by kernel_rfl) (by kernel_rfl) (fun _ _ _ h => h) (y_load1 (by rfl) _ _ rfl _ _ rfl 0 _ rfl _ rfl _ Try.underlying22 rfl) (by exact S.fewer 1) ?_
            simp only [Act.put, List.setIfInBounds_toArray, List.set_cons_zero, List.set_cons_succ]
            refine Upto.take (i := 2) (oi := { dst := some 64, op := Op.indexAddr 26 (Operand.tmp 12) (Operand.const (Value.int IntKind.i64 1)), type := 0, pos := "law.go:109", after := #[{ on := 8, ground := Ground.gcOnly Departure.lateStores }], guard := none }) (v := ?_) rfl (by kernel_rfl) (by kernel_rfl) (by kernel_rfl) (by kernel_rfl) (fun _ _ _ h => h) (Or.inl ⟨by rfl, ?_⟩) (by exact S.fewer 1) ?_
            rotate_left 1
            · intro w hSw
              clear hSw
              go_simp
              try with_reducible rfl
            simp only [Act.put, List.setIfInBounds_toArray, List.set_cons_zero, List.set_cons_succ]
            refine Upto.take (i := 3) (oi := { dst := some 65, op := Op.load 22 (Operand.tmp 64), type := 22, pos := "law.go:109", after := #[{ on := 2, ground := Ground.data }, { on := 8, ground := Ground.gcOnly Departure.lateStores }], guard := none }) (v := _) rfl (by kernel_rfl) (by kernel_rfl) (by kernel_rfl) (by kernel_rfl) (fun _ _ _ h => h) (y_load1 (by rfl) _ _ rfl _ _ rfl 0 _ rfl _ rfl _ Try.underlying22 rfl) (by exact S.fewer 1) ?_
            simp only [Act.put, List.setIfInBounds_toArray, List.set_cons_zero, List.set_cons_succ]
            refine Upto.take (i := 4) (oi := { dst := some 66, op := Op.indexAddr 26 (Operand.tmp 12) (Operand.const (Value.int IntKind.i64 2)), type := 0, pos := "law.go:109", after := #[{ on := 10, ground := Ground.gcOnly Departure.lateStores }], guard := none }) (v := ?_) rfl (by kernel_rfl) (by kernel_rfl) (by kernel_rfl) (by kernel_rfl) (fun _ _ _ h => h) (Or.inl ⟨by rfl, ?_⟩) (by exact S.fewer 1) ?_
            rotate_left 1
            · intro w hSw
              clear hSw
              go_simp
              try with_reducible rfl
            simp only [Act.put, List.setIfInBounds_toArray, List.set_cons_zero, List.set_cons_succ]
            refine Upto.take (i := 5) (oi := { dst := some 67, op := Op.load 22 (Operand.tmp 66), type := 22, pos := "law.go:109", after := #[{ on := 4, ground := Ground.data }, { on := 10, ground := Ground.gcOnly Departure.lateStores }], guard := none }) (v := _) rfl (by kernel_rfl) (by kernel_rfl) (by kernel_rfl) (by kernel_rfl) (fun _ _ _ h => h) (y_load1 (by rfl) _ _ rfl _ _ rfl 0 _ rfl _ rfl _ Try.underlying22 rfl) (by exact S.fewer 1) ?_
            simp only [Act.put, List.setIfInBounds_toArray, List.set_cons_zero, List.set_cons_succ]
            refine Upto.take (i := 6) (oi := { dst := some 68, op := Op.move (Operand.tmp 3), type := 22, pos := "law.go:109", after := #[{ on := 12, ground := Ground.gcOnly Departure.lateStores }], guard := none }) (v := ?_) rfl (by kernel_rfl) (by kernel_rfl) (by kernel_rfl) (by kernel_rfl) (fun _ _ _ h => h) (Or.inl ⟨by rfl, ?_⟩) (by exact S.fewer 1) ?_
            rotate_left 1
            · intro w hSw
              clear hSw
              go_simp
              try with_reducible rfl
            simp only [Act.put, List.setIfInBounds_toArray, List.set_cons_zero, List.set_cons_succ]
            refine Upto.take (i := 7) (oi := { dst := some 69, op := Op.indexAddr 28 (Operand.tmp 13) (Operand.const (Value.int IntKind.i64 1)), type := 0, pos := "law.go:109", after := #[{ on := 0, ground := Ground.phase }, { on := 1, ground := Ground.phase }, { on := 2, ground := Ground.textOnly Departure.lateStores }, { on := 3, ground := Ground.textOnly Departure.lateStores }, { on := 4, ground := Ground.textOnly Departure.lateStores }, { on := 5, ground := Ground.textOnly Departure.lateStores }, { on := 6, ground := Ground.textOnly Departure.lateStores }], guard := none }) (v := ?_) rfl (by kernel_rfl) (by kernel_rfl) (by kernel_rfl) (by kernel_rfl) (fun _ _ _ h => h) (Or.inl ⟨by rfl, ?_⟩) (by exact S.fewer 1) ?_
            rotate_left 1
            · intro w hSw
              clear hSw
              go_simp
              try with_reducible rfl
            simp only [Act.put, List.setIfInBounds_toArray, List.set_cons_zero, List.set_cons_succ]
            refine Upto.ready (rs := [8]) (by kernel_rfl) (by simp) ?_
            refine Nexts.cons rfl (by decide) (fun K hK => ?_) Nexts.nil
            rw [if_pos (by rfl)]
            refine S.wpStore1 22 _ _ rfl _ 1 _ rfl rfl 0 (Cel.regs _) rfl rfl (by rw [regs_length (by simp [zR])]; decide) _ (set_regs _ _ _) szU ?_
            clear S
            intro w9 S
            simp only [List.set_cons_zero, List.set_cons_succ] at S
            refine hK.out _ _ (by exact S.fewer 1) ?_
            clear hK K
            refine Upto.take (i := 9) (oi := { dst := some 70, op := Op.indexAddr 28 (Operand.tmp 13) (Operand.const (Value.int IntKind.i64 2)), type := 0, pos := "law.go:109", after := #[{ on := 0, ground := Ground.phase }, { on := 1, ground := Ground.phase }, { on := 2, ground := Ground.phase }, { on := 3, ground := Ground.phase }, { on := 4, ground := Ground.textOnly Departure.lateStores }, { on := 5, ground := Ground.textOnly Departure.lateStores }, { on := 6, ground := Ground.textOnly Departure.lateStores }, { on := 7, ground := Ground.phase }, { on := 8, ground := Ground.phase }], guard := none }) (v := ?_) rfl (by kernel_rfl) (by kernel_rfl) (by kernel_rfl) (by kernel_rfl) (fun _ _ _ h => h) (Or.inl ⟨by rfl, ?_⟩) (by exact S.fewer 1) ?_
            rotate_left 1
            · intro w hSw
              clear hSw
              go_simp
              try with_reducible rfl
            simp only [Act.put, List.setIfInBounds_toArray, List.set_cons_zero, List.set_cons_succ]
            refine Upto.ready (rs := [10]) (by kernel_rfl) (by simp) ?_
            refine Nexts.cons rfl (by decide) (fun K hK => ?_) Nexts.nil
            rw [if_pos (by rfl)]
            refine S.wpStore1 22 _ _ rfl _ 2 _ rfl rfl 0 (Cel.regs _) rfl rfl (by rw [regs_length (by simp [zR])]; decide) _ (set_regs _ _ _) szU ?_
            clear S
            intro w9 S
            simp only [List.set_cons_zero, List.set_cons_succ] at S
            refine hK.out _ _ (by exact S.fewer 1) ?_
            clear hK K
            refine Upto.take (i := 11) (oi := { dst := some 71, op := Op.indexAddr 28 (Operand.tmp 13) (Operand.const (Value.int IntKind.i64 3)), type := 0, pos := "law.go:109", after := #[{ on := 0, ground := Ground.phase }, { on := 1, ground := Ground.phase }, { on := 2, ground := Ground.phase }, { on := 3, ground := Ground.phase }, { on := 4, ground := Ground.phase }, { on := 5, ground := Ground.phase }, { on := 6, ground := Ground.textOnly Departure.lateStores }, { on := 7, ground := Ground.phase }, { on := 8, ground := Ground.phase }, { on := 9, ground := Ground.phase }, { on := 10, ground := Ground.phase }], guard := none }) (v := ?_) rfl (by kernel_rfl) (by kernel_rfl) (by kernel_rfl) (by kernel_rfl) (fun _ _ _ h => h) (Or.inl ⟨by rfl, ?_⟩) (by exact S.fewer 1) ?_
            rotate_left 1
            · intro w hSw
              clear hSw
              go_simp
              try with_reducible rfl
            simp only [Act.put, List.setIfInBounds_toArray, List.set_cons_zero, List.set_cons_succ]
            refine Upto.ready (rs := [12]) (by kernel_rfl) (by simp) ?_
            refine Nexts.cons rfl (by decide) (fun K hK => ?_) Nexts.nil
            rw [if_pos (by rfl)]
            refine S.wpStore1 22 _ _ rfl _ 3 _ rfl rfl 0 (Cel.regs _) rfl rfl (by rw [regs_length (by simp [zR])]; decide) _ (set_regs _ _ _) szU ?_
            clear S
            intro w9 S
            simp only [List.set_cons_zero, List.set_cons_succ] at S
            refine hK.out _ _ (by exact S.fewer 1) ?_
            clear hK K
            refine Upto.take (i := 13) (oi := { dst := some 72, op := Op.indexAddr 28 (Operand.tmp 13) (Operand.const (Value.int IntKind.i64 4)), type := 0, pos := "law.go:109", after := #[{ on := 0, ground := Ground.phase }, { on := 1, ground := Ground.phase }, { on := 2, ground := Ground.phase }, { on := 3, ground := Ground.phase }, { on := 4, ground := Ground.phase }, { on := 5, ground := Ground.phase }, { on := 6, ground := Ground.phase }, { on := 7, ground := Ground.phase }, { on := 8, ground := Ground.phase }, { on := 9, ground := Ground.phase }, { on := 10, ground := Ground.phase }, { on := 11, ground := Ground.phase }, { on := 12, ground := Ground.phase }], guard := none }) (v := ?_) rfl (by kernel_rfl) (by kernel_rfl) (by kernel_rfl) (by kernel_rfl) (fun _ _ _ h => h) (Or.inl ⟨by rfl, ?_⟩) (by exact S.fewer 1) ?_
            rotate_left 1
            · intro w hSw
              clear hSw
              go_simp
              try with_reducible rfl
            simp only [Act.put, List.setIfInBounds_toArray, List.set_cons_zero, List.set_cons_succ]
            refine Upto.ready (rs := [14]) (by kernel_rfl) (by simp) ?_
            refine Nexts.last rfl (fun K hK => ?_)
            rw [if_pos (by rfl)]
            refine S.wpStore1 22 _ _ rfl _ 4 _ rfl rfl 0 (Cel.regs _) rfl rfl (by rw [regs_length (by simp [zR])]; decide) _ (set_regs _ _ _) szU ?_
            clear S
            intro w9 S
            simp only [List.set_cons_zero, List.set_cons_succ] at S
            refine hK.out _ _ ?_
            simp only [Act.put, List.setIfInBounds_toArray, List.set_cons_zero, List.set_cons_succ]
            clear hK K
            refine Upto.done (by kernel_rfl) ?_ _
            replace S : SH noZ wO _ [(b13, Cel.regs (r4 t v)), (b12, Cel.any [.int .u32 t.1, .int .u32 t.2.1, .int .u32 t.2.2]), (g, Cel.any (triC T)), (b10, Cel.host h)] := S
            go_wp2_with (first
              | ((with_reducible refine wpl_isLoad ?_); first
                | (refine S.ldAll 25 _ rfl _ rfl 3 (Cel.host h) rfl _ Try.underlying25 rfl szHost rfl ?_)
                | (refine S.ldAll 28 _ rfl _ rfl 0 (Cel.regs (r4 t v)) rfl _ Try.underlying28 rfl (by rw [regs_length hr32]; exact szRegs) rfl ?_))
              | ((with_reducible refine wpl_is ?_); first
                | (refine S.code rfl 34 2 _ rfl [h, mExit] 25 (by kernel_rfl) (by intro x hx; simp only [List.mem_cons, List.not_mem_nil, or_false] at hx; rcases hx with rfl | rfl; exact HH.out.1; exact ⟨by decide, by decide⟩) (by simp) ?_; clear S; intro g1 w1 S)))
            refine (C1.out g1 _ S.inv.2 (S.zb _ (.inr rfl))).mono ?_
            rintro e w3 ⟨A1, n1, base1, rfl, hev, hb1, hb2, hokf⟩
            replace S := RunN.gain S hev hb1 hb2
            have hf32 : fin.1.R.length = 32 := hokf.1
            clear hev hb1 hb2 hokf C1
            go_wp2_with (first
              | ((with_reducible refine wpl_isLoad ?_); first
                | (refine S.ldAll 25 _ rfl _ rfl 4 (Cel.host h) rfl _ Try.underlying25 rfl szHost rfl ?_)
                | (refine S.ldAll 28 _ rfl _ rfl 1 (Cel.regs (r4 t v)) rfl _ Try.underlying28 rfl (by rw [regs_length hr32]; exact szRegs) rfl ?_))
              | ((with_reducible refine wpl_isStore ?_); first
                | (refine S.storeAll rfl 32 _ _ rfl _ (Cel.res fin.1.R _ _ _) rfl rfl 0 _ rfl (by rw [res_length hf32, res_length (by simp)]) (one_res rfl) (by rw [res_length hf32]; exact szRes) ?_; clear S; intro w14 S; simp only [List.set_cons_zero, List.set_cons_succ] at S))
              | ((with_reducible refine wpl_is ?_); first
                | (refine S.alloc rfl 32 rfl _ zeroRes ?_; clear S; intro b14 w14 S)
                | (refine S.code rfl 34 2 _ rfl [h, mExit] 25 (by kernel_rfl) (by intro x hx; simp only [List.mem_cons, List.not_mem_nil, or_false] at hx; rcases hx with rfl | rfl; exact HH.out.1; exact ⟨by decide, by decide⟩) (by simp) ?_; clear S; intro g2 w1 S)
                | (refine S.box rfl _ _ rfl (Cel.any [.slice none 0 0, .slice none 0 0]) rfl ?_; clear S; intro bm wm S)))
            have hgm : g2 ≠ bm := fun e => (S.out (bm, Cel.any [.slice none 0 0, .slice none 0 0]) (by simp)).2 (.inr e.symm)
            refine (C2.out g2 bm _ S.inv.2 S.memNone hgm).mono ?_
            rintro e w5 ⟨A2, n2, base2, rfl, hev, hb1, _, _, hmid, hokf⟩
            replace S := S.ran0 ⟨rfl, rfl⟩ hmid hev hb1
            clear hev hb1 hmid hokf C2 hgm
            go_wp2_with (first
              | ((with_reducible refine wpl_isLoad ?_); first
                | (refine S.loadRegs rfl 28 _ rfl _ rfl 1 _ _ _ _ rfl _ Try.underlying28 rfl (by rw [rc_length, hf32]; exact szRegs) ?_)
                | (refine S.loadRegs rfl 28 _ rfl _ rfl 0 _ _ _ _ rfl _ Try.underlying28 rfl (by rw [rc_length, hf32]; exact szRegs) ?_)
                | (refine S.ld 30 _ rfl _ 33 rfl 1 (Cel.res _ _ _ _) rfl _ (res_33 hf32 _ _ _) _ Try.underlying30 rfl rfl ?_)
                | (refine S.ld 3 _ rfl _ 33 rfl 0 (Cel.res _ _ _ _) rfl _ (res_33 hf32 _ _ _) _ Try.underlying3 rfl rfl ?_))
              | ((with_reducible refine wpl_isStore ?_); first
                | (refine S.storeAll rfl 36 _ _ rfl _ (Cel.res fin.1.R _ _ _) rfl rfl 0 _ rfl (by rw [res_length hf32, res_length (by simp)]) (one_res rfl) (by rw [res_length hf32]; exact szRef) ?_; clear S; intro w15 S; simp only [List.set_cons_zero, List.set_cons_succ] at S))
              | ((with_reducible refine wpl_isDst 89 ?_); refine wpl_dst 89 rfl (.bool false) (neq_run hf32 rfl rfl) rfl ?_)
              | ((with_reducible refine wpl_is ?_); first
                | (refine S.alloc rfl 36 rfl _ zeroRef ?_; clear S; intro b15 w15 S)))
            go_roundw
            case rel => exact ⟨j + 1, hj, by push_cast; rfl, (S.toNo ⟨rfl, rfl⟩).fewer 4⟩
            case measure =>
              simp only [intOf]
              omega
          · have hj' : ¬ (j : Int) < 6 := by omega
            have SB : Hid (Below wO.heap.size wO wr) := S.low
            clear S
            go_wp2
            go_roundw
            case rel => exact ⟨3, by omega, by omega, rfl, below_then HBB.out SB.out⟩
            case measure =>
              simp only [intOf]
              omega
      · go_upto_region 11 with (first
          | ((with_reducible refine wpl_isStore ?_); first
            | (refine S.storeAll rfl 25 _ _ rfl _ (Cel.host ⟨17, 4, 1, 2, 3, 0⟩) rfl rfl 0 _ rfl rfl (one_host _) szHost ?_; clear S; intro w10 S; simp only [List.set_cons_zero, List.set_cons_succ] at S)
            | (refine S.store1 rfl 3 _ _ rfl _ 4 _ rfl rfl 0 (Cel.host _) rfl rfl (by simp [Cel.cells]) (Cel.host ⟨17, 4, 1, 2, 0, 0⟩) rfl szI ?_; clear S; intro w10 S; simp only [List.set_cons_zero, List.set_cons_succ] at S)
            | (refine S.store1 rfl 3 _ _ rfl _ 3 _ rfl rfl 0 (Cel.host _) rfl rfl (by simp [Cel.cells]) (Cel.host ⟨17, 4, 1, 0, 0, 0⟩) rfl szI ?_; clear S; intro w10 S; simp only [List.set_cons_zero, List.set_cons_succ] at S))
          | ((with_reducible refine wpl_is ?_); first
            | (refine SH.alloc (L := []) S rfl 25 rfl _ zeroHost ?_; clear S; intro b10 w10 S)))
        obtain ⟨h, hh⟩ : ∃ h : HV, h = ⟨17, 4, 1, 0, 0, 0⟩ := ⟨_, rfl⟩
        have HH : Hid (h.wf ∧ (h.op ≤ 21 ∨ h.op = 30)) := by rw [hh]; exact ⟨⟨by show (0 : Int) ≤ 0; decide, by show (0 : Int) ≤ 4294967295; decide⟩, .inl (by simp only []; omega)⟩
        rw [← hh] at S
        clear hh
        have HX : Hid (bits .and .u32 b 63 = x1 ∧ bits .or .u32 a 2147483648 = x2 ∧ bits .and .u32 c 1 = x3) := ⟨hx1, hx2, hx3⟩
        go_wp2_with (first
          | ((with_reducible refine wpl_is ?_); first
            | (refine S.sliceAny rfl 27 6 _ rfl (triC T) 26 (by rw [HTT.out]; kernel_rfl) ?_; clear S; intro g wg S)))
        have ST2 : Hid (reck2 wO T h g b10 (.int .i64 0) wg) := ⟨0, by decide, rfl, S⟩
        clear S
        go_loopw [58] (fun i wq => reck2 wO T h g b10 i wq) (fun i _ => 6 - (intOf i).toNat)
        case atStart => exact ST2.out
        case round =>
          clear ST2
          obtain ⟨j, hj6, rfl, S⟩ := hrel
          by_cases hj : j < 6
          · have hj' : (j : Int) < 6 := by omega
            obtain ⟨t, ht⟩ : ∃ t, T[j]? = some t := ⟨T[j]'(by have := HT.out.2; omega), by simp⟩
            obtain ⟨⟨y0, y1⟩, ⟨y2, y3⟩, ⟨y4, y5⟩⟩ := HT.out.1 t (List.mem_of_getElem? ht)
            have HTJ : Hid (∀ i u, ([.int .u32 t.1, .int .u32 t.2.1, .int .u32 t.2.2] : List Value)[i]? = some u → (Cel.any (triC T)).cells[j * 3 + i]? = some u) := fun i u hu => by
              have hi : i < 3 := (List.getElem?_eq_some_iff.1 hu).1
              exact (triC_at ht i hi).trans hu
            have hr4 : okR (r4 t v) := okR_set (okR_set (okR_set (okR_set zR_ok _ ⟨by omega, by omega⟩) _ ⟨by omega, by omega⟩) _ ⟨by omega, by omega⟩) _ ⟨by omega, by omega⟩
            have hr32 : (r4 t v).length = 32 := hr4.1
            obtain ⟨fin, hfin⟩ : ∃ f, runS 0 [] [h, mExit] 9 ⟨r4 t v, [], 0, []⟩ = f := ⟨_, rfl⟩
            have C1 : Hid (∀ (g' : Nat) (w1 : World), CL w1 (some ⟨g', 0, none⟩) [h, mExit] → g' < w1.heap.size → Calls Try.prog 9 #[.slice (some ⟨g', 0, none⟩) 2 2, .int .i64 0, (Cel.regs (r4 t v)).val, .pointer none, .int .i64 9] w1 fun e w' => RunPostN w1 fin e w') := fun g' w1 h1 h2 => run_nil [h, mExit] (some ⟨g', 0, none⟩) 2 0 9 (r4 t v) w1 h1 (fun b o hb => by cases hb; exact h2) hr4 (by decide) (by decide) (by decide) fin hfin
            have C2 : Hid (∀ (g' pm : Nat) (w1 : World), CL w1 (some ⟨g', 0, none⟩) [h, mExit] → MemAt w1 pm 0 pm (pm + 1) [] [] [] (fun _ => 0) → g' ≠ pm → Calls Try.prog 10 #[.slice (some ⟨g', 0, none⟩) 2 2, .int .i64 0, (Cel.regs (r4 t v)).val, .pointer (some ⟨pm, 0, none⟩), .int .i64 9] w1 fun e w' => RunPost w1 pm 0 pm (pm + 1) [] [] (fun _ => 0) fin e w') := fun g' pm w1 h1 h2 h3 => rrun_c [h, mExit] (some ⟨g', 0, none⟩) 2 0 9 (r4 t v) w1 h2 (Nat.zero_le _) (by decide) (fun x hx => by
                simp only [List.mem_cons, List.not_mem_nil, or_false] at hx
                rcases hx with rfl | rfl
                · exact HH.out.2
                · exact .inr rfl) h1 (fun b o hb => by cases hb; omega) hr4 (by decide) (by decide) (by decide) fin hfin
            clear ht hfin hr4 y0 y1 y2 y3 y4 y5
            go_upto_region 15 with (first
              | ((with_reducible refine wpl_isStore ?_); first
                | (refine S.storeAll rfl 26 _ _ rfl _ (Cel.any [.int .u32 t.1, .int .u32 t.2.1, .int .u32 t.2.2]) rfl rfl 0 _ rfl rfl (by simp [Cel.cells, Value.oneCell']) szTri ?_; clear S; intro w12 S; simp only [List.set_cons_zero, List.set_cons_succ] at S))
              | ((with_reducible refine wpl_is ?_); first
                | (refine S.ldMid 26 _ rfl g (j * 3) rfl 0 (Cel.any (triC T)) rfl [.int .u32 t.1, .int .u32 t.2.1, .int .u32 t.2.2] HTJ.out _ Try.underlying26 rfl szTri rfl ?_)
                | (refine S.alloc rfl 26 rfl _ zeroTri ?_; clear S; intro b12 w12 S)
                | (refine S.alloc rfl 28 rfl _ zeroRegs ?_; clear S; intro b13 w13 S)))
            refine Upto.start (S := fun w' => SH noZ wO w' [(b12, Cel.any [.int .u32 t.1, .int .u32 t.2.1, .int .u32 t.2.2]), (g, Cel.any (triC T)), (b10, Cel.host h)]) 14 (by kernel_rfl) ?_
            replace S := S.drew
            refine Upto.take (i := 0) (oi := { dst := some 62, op := Op.indexAddr 26 (Operand.tmp 12) (Operand.const (Value.int IntKind.i64 0)), type := 0, pos := "law.go:109", after := #[], guard := none }) (v := ?_) rfl (by kernel_rfl) (by kernel_rfl) (by kernel_rfl) (by kernel_rfl) (fun _ _ _ h => h) (Or.inl ⟨by rfl, ?_⟩) (by exact S.fewer 1) ?_
            rotate_left 1
            · intro w hSw
              clear hSw
              go_simp
              try with_reducible rfl
            simp only [Act.put, List.setIfInBounds_toArray, List.set_cons_zero, List.set_cons_succ]
            refine Upto.take (i := 1) (oi := { dst := some 63, op := Op.load 22 (Operand.tmp 62), type := 22, pos := "law.go:109", after := #[{ on := 0, ground := Ground.data }], guard := none }) (v := _) rfl (by kernel_rfl) (by kernel_rfl) (by kernel_rfl) (by kernel_rfl) (fun _ _ _ h => h) (y_load1 (by rfl) _ _ rfl _ _ rfl 0 _ rfl _ rfl _ Try.underlying22 rfl) (by exact S.fewer 1) ?_
            simp only [Act.put, List.setIfInBounds_toArray, List.set_cons_zero, List.set_cons_succ]
            refine Upto.take (i := 2) (oi := { dst := some 64, op := Op.indexAddr 26 (Operand.tmp 12) (Operand.const (Value.int IntKind.i64 1)), type := 0, pos := "law.go:109", after := #[{ on := 8, ground := Ground.gcOnly Departure.lateStores }], guard := none }) (v := ?_) rfl (by kernel_rfl) (by kernel_rfl) (by kernel_rfl) (by kernel_rfl) (fun _ _ _ h => h) (Or.inl ⟨by rfl, ?_⟩) (by exact S.fewer 1) ?_
            rotate_left 1
            · intro w hSw
              clear hSw
              go_simp
              try with_reducible rfl
            simp only [Act.put, List.setIfInBounds_toArray, List.set_cons_zero, List.set_cons_succ]
            refine Upto.take (i := 3) (oi := { dst := some 65, op := Op.load 22 (Operand.tmp 64), type := 22, pos := "law.go:109", after := #[{ on := 2, ground := Ground.data }, { on := 8, ground := Ground.gcOnly Departure.lateStores }], guard := none }) (v := _) rfl (by kernel_rfl) (by kernel_rfl) (by kernel_rfl) (by kernel_rfl) (fun _ _ _ h => h) (y_load1 (by rfl) _ _ rfl _ _ rfl 0 _ rfl _ rfl _ Try.underlying22 rfl) (by exact S.fewer 1) ?_
            simp only [Act.put, List.setIfInBounds_toArray, List.set_cons_zero, List.set_cons_succ]
            refine Upto.take (i := 4) (oi := { dst := some 66, op := Op.indexAddr 26 (Operand.tmp 12) (Operand.const (Value.int IntKind.i64 2)), type := 0, pos := "law.go:109", after := #[{ on := 10, ground := Ground.gcOnly Departure.lateStores }], guard := none }) (v := ?_) rfl (by kernel_rfl) (by kernel_rfl) (by kernel_rfl) (by kernel_rfl) (fun _ _ _ h => h) (Or.inl ⟨by rfl, ?_⟩) (by exact S.fewer 1) ?_
            rotate_left 1
            · intro w hSw
              clear hSw
              go_simp
              try with_reducible rfl
            simp only [Act.put, List.setIfInBounds_toArray, List.set_cons_zero, List.set_cons_succ]
            refine Upto.take (i := 5) (oi := { dst := some 67, op := Op.load 22 (Operand.tmp 66), type := 22, pos := "law.go:109", after := #[{ on := 4, ground := Ground.data }, { on := 10, ground := Ground.gcOnly Departure.lateStores }], guard := none }) (v := _) rfl (by kernel_rfl) (by kernel_rfl) (by kernel_rfl) (by kernel_rfl) (fun _ _ _ h => h) (y_load1 (by rfl) _ _ rfl _ _ rfl 0 _ rfl _ rfl _ Try.underlying22 rfl) (by exact S.fewer 1) ?_
            simp only [Act.put, List.setIfInBounds_toArray, List.set_cons_zero, List.set_cons_succ]
            refine Upto.take (i := 6) (oi := { dst := some 68, op := Op.move (Operand.tmp 3), type := 22, pos := "law.go:109", after := #[{ on := 12, ground := Ground.gcOnly Departure.lateStores }], guard := none }) (v := ?_) rfl (by kernel_rfl) (by kernel_rfl) (by kernel_rfl) (by kernel_rfl) (fun _ _ _ h => h) (Or.inl ⟨by rfl, ?_⟩) (by exact S.fewer 1) ?_
            rotate_left 1
            · intro w hSw
              clear hSw
              go_simp
              try with_reducible rfl
            simp only [Act.put, List.setIfInBounds_toArray, List.set_cons_zero, List.set_cons_succ]
            refine Upto.take (i := 7) (oi := { dst := some 69, op := Op.indexAddr 28 (Operand.tmp 13) (Operand.const (Value.int IntKind.i64 1)), type := 0, pos := "law.go:109", after := #[{ on := 0, ground := Ground.phase }, { on := 1, ground := Ground.phase }, { on := 2, ground := Ground.textOnly Departure.lateStores }, { on := 3, ground := Ground.textOnly Departure.lateStores }, { on := 4, ground := Ground.textOnly Departure.lateStores }, { on := 5, ground := Ground.textOnly Departure.lateStores }, { on := 6, ground := Ground.textOnly Departure.lateStores }], guard := none }) (v := ?_) rfl (by kernel_rfl) (by kernel_rfl) (by kernel_rfl) (by kernel_rfl) (fun _ _ _ h => h) (Or.inl ⟨by rfl, ?_⟩) (by exact S.fewer 1) ?_
            rotate_left 1
            · intro w hSw
              clear hSw
              go_simp
              try with_reducible rfl
            simp only [Act.put, List.setIfInBounds_toArray, List.set_cons_zero, List.set_cons_succ]
            refine Upto.ready (rs := [8]) (by kernel_rfl) (by simp) ?_
            refine Nexts.cons rfl (by decide) (fun K hK => ?_) Nexts.nil
            rw [if_pos (by rfl)]
            refine S.wpStore1 22 _ _ rfl _ 1 _ rfl rfl 0 (Cel.regs _) rfl rfl (by rw [regs_length (by simp [zR])]; decide) _ (set_regs _ _ _) szU ?_
            clear S
            intro w9 S
            simp only [List.set_cons_zero, List.set_cons_succ] at S
            refine hK.out _ _ (by exact S.fewer 1) ?_
            clear hK K
            refine Upto.take (i := 9) (oi := { dst := some 70, op := Op.indexAddr 28 (Operand.tmp 13) (Operand.const (Value.int IntKind.i64 2)), type := 0, pos := "law.go:109", after := #[{ on := 0, ground := Ground.phase }, { on := 1, ground := Ground.phase }, { on := 2, ground := Ground.phase }, { on := 3, ground := Ground.phase }, { on := 4, ground := Ground.textOnly Departure.lateStores }, { on := 5, ground := Ground.textOnly Departure.lateStores }, { on := 6, ground := Ground.textOnly Departure.lateStores }, { on := 7, ground := Ground.phase }, { on := 8, ground := Ground.phase }], guard := none }) (v := ?_) rfl (by kernel_rfl) (by kernel_rfl) (by kernel_rfl) (by kernel_rfl) (fun _ _ _ h => h) (Or.inl ⟨by rfl, ?_⟩) (by exact S.fewer 1) ?_
            rotate_left 1
            · intro w hSw
              clear hSw
              go_simp
              try with_reducible rfl
            simp only [Act.put, List.setIfInBounds_toArray, List.set_cons_zero, List.set_cons_succ]
            refine Upto.ready (rs := [10]) (by kernel_rfl) (by simp) ?_
            refine Nexts.cons rfl (by decide) (fun K hK => ?_) Nexts.nil
            rw [if_pos (by rfl)]
            refine S.wpStore1 22 _ _ rfl _ 2 _ rfl rfl 0 (Cel.regs _) rfl rfl (by rw [regs_length (by simp [zR])]; decide) _ (set_regs _ _ _) szU ?_
            clear S
            intro w9 S
            simp only [List.set_cons_zero, List.set_cons_succ] at S
            refine hK.out _ _ (by exact S.fewer 1) ?_
            clear hK K
            refine Upto.take (i := 11) (oi := { dst := some 71, op := Op.indexAddr 28 (Operand.tmp 13) (Operand.const (Value.int IntKind.i64 3)), type := 0, pos := "law.go:109", after := #[{ on := 0, ground := Ground.phase }, { on := 1, ground := Ground.phase }, { on := 2, ground := Ground.phase }, { on := 3, ground := Ground.phase }, { on := 4, ground := Ground.phase }, { on := 5, ground := Ground.phase }, { on := 6, ground := Ground.textOnly Departure.lateStores }, { on := 7, ground := Ground.phase }, { on := 8, ground := Ground.phase }, { on := 9, ground := Ground.phase }, { on := 10, ground := Ground.phase }], guard := none }) (v := ?_) rfl (by kernel_rfl) (by kernel_rfl) (by kernel_rfl) (by kernel_rfl) (fun _ _ _ h => h) (Or.inl ⟨by rfl, ?_⟩) (by exact S.fewer 1) ?_
            rotate_left 1
            · intro w hSw
              clear hSw
              go_simp
              try with_reducible rfl
            simp only [Act.put, List.setIfInBounds_toArray, List.set_cons_zero, List.set_cons_succ]
            refine Upto.ready (rs := [12]) (by kernel_rfl) (by simp) ?_
            refine Nexts.cons rfl (by decide) (fun K hK => ?_) Nexts.nil
            rw [if_pos (by rfl)]
            refine S.wpStore1 22 _ _ rfl _ 3 _ rfl rfl 0 (Cel.regs _) rfl rfl (by rw [regs_length (by simp [zR])]; decide) _ (set_regs _ _ _) szU ?_
            clear S
            intro w9 S
            simp only [List.set_cons_zero, List.set_cons_succ] at S
            refine hK.out _ _ (by exact S.fewer 1) ?_
            clear hK K
            refine Upto.take (i := 13) (oi := { dst := some 72, op := Op.indexAddr 28 (Operand.tmp 13) (Operand.const (Value.int IntKind.i64 4)), type := 0, pos := "law.go:109", after := #[{ on := 0, ground := Ground.phase }, { on := 1, ground := Ground.phase }, { on := 2, ground := Ground.phase }, { on := 3, ground := Ground.phase }, { on := 4, ground := Ground.phase }, { on := 5, ground := Ground.phase }, { on := 6, ground := Ground.phase }, { on := 7, ground := Ground.phase }, { on := 8, ground := Ground.phase }, { on := 9, ground := Ground.phase }, { on := 10, ground := Ground.phase }, { on := 11, ground := Ground.phase }, { on := 12, ground := Ground.phase }], guard := none }) (v := ?_) rfl (by kernel_rfl) (by kernel_rfl) (by kernel_rfl) (by kernel_rfl) (fun _ _ _ h => h) (Or.inl ⟨by rfl, ?_⟩) (by exact S.fewer 1) ?_
            rotate_left 1
            · intro w hSw
              clear hSw
              go_simp
              try with_reducible rfl
            simp only [Act.put, List.setIfInBounds_toArray, List.set_cons_zero, List.set_cons_succ]
            refine Upto.ready (rs := [14]) (by kernel_rfl) (by simp) ?_
            refine Nexts.last rfl (fun K hK => ?_)
            rw [if_pos (by rfl)]
            refine S.wpStore1 22 _ _ rfl _ 4 _ rfl rfl 0 (Cel.regs _) rfl rfl (by rw [regs_length (by simp [zR])]; decide) _ (set_regs _ _ _) szU ?_
            clear S
            intro w9 S
            simp only [List.set_cons_zero, List.set_cons_succ] at S
            refine hK.out _ _ ?_
            simp only [Act.put, List.setIfInBounds_toArray, List.set_cons_zero, List.set_cons_succ]
            clear hK K
            refine Upto.done (by kernel_rfl) ?_ _
            replace S : SH noZ wO _ [(b13, Cel.regs (r4 t v)), (b12, Cel.any [.int .u32 t.1, .int .u32 t.2.1, .int .u32 t.2.2]), (g, Cel.any (triC T)), (b10, Cel.host h)] := S
            go_wp2_with (first
              | ((with_reducible refine wpl_isLoad ?_); first
                | (refine S.ldAll 25 _ rfl _ rfl 3 (Cel.host h) rfl _ Try.underlying25 rfl szHost rfl ?_)
                | (refine S.ldAll 28 _ rfl _ rfl 0 (Cel.regs (r4 t v)) rfl _ Try.underlying28 rfl (by rw [regs_length hr32]; exact szRegs) rfl ?_))
              | ((with_reducible refine wpl_is ?_); first
                | (refine S.code rfl 34 2 _ rfl [h, mExit] 25 (by kernel_rfl) (by intro x hx; simp only [List.mem_cons, List.not_mem_nil, or_false] at hx; rcases hx with rfl | rfl; exact HH.out.1; exact ⟨by decide, by decide⟩) (by simp) ?_; clear S; intro g1 w1 S)))
            refine (C1.out g1 _ S.inv.2 (S.zb _ (.inr rfl))).mono ?_
            rintro e w3 ⟨A1, n1, base1, rfl, hev, hb1, hb2, hokf⟩
            replace S := RunN.gain S hev hb1 hb2
            have hf32 : fin.1.R.length = 32 := hokf.1
            clear hev hb1 hb2 hokf C1
            go_wp2_with (first
              | ((with_reducible refine wpl_isLoad ?_); first
                | (refine S.ldAll 25 _ rfl _ rfl 4 (Cel.host h) rfl _ Try.underlying25 rfl szHost rfl ?_)
                | (refine S.ldAll 28 _ rfl _ rfl 1 (Cel.regs (r4 t v)) rfl _ Try.underlying28 rfl (by rw [regs_length hr32]; exact szRegs) rfl ?_))
              | ((with_reducible refine wpl_isStore ?_); first
                | (refine S.storeAll rfl 32 _ _ rfl _ (Cel.res fin.1.R _ _ _) rfl rfl 0 _ rfl (by rw [res_length hf32, res_length (by simp)]) (one_res rfl) (by rw [res_length hf32]; exact szRes) ?_; clear S; intro w14 S; simp only [List.set_cons_zero, List.set_cons_succ] at S))
              | ((with_reducible refine wpl_is ?_); first
                | (refine S.alloc rfl 32 rfl _ zeroRes ?_; clear S; intro b14 w14 S)
                | (refine S.code rfl 34 2 _ rfl [h, mExit] 25 (by kernel_rfl) (by intro x hx; simp only [List.mem_cons, List.not_mem_nil, or_false] at hx; rcases hx with rfl | rfl; exact HH.out.1; exact ⟨by decide, by decide⟩) (by simp) ?_; clear S; intro g2 w1 S)
                | (refine S.box rfl _ _ rfl (Cel.any [.slice none 0 0, .slice none 0 0]) rfl ?_; clear S; intro bm wm S)))
            have hgm : g2 ≠ bm := fun e => (S.out (bm, Cel.any [.slice none 0 0, .slice none 0 0]) (by simp)).2 (.inr e.symm)
            refine (C2.out g2 bm _ S.inv.2 S.memNone hgm).mono ?_
            rintro e w5 ⟨A2, n2, base2, rfl, hev, hb1, _, _, hmid, hokf⟩
            replace S := S.ran0 ⟨rfl, rfl⟩ hmid hev hb1
            clear hev hb1 hmid hokf C2 hgm
            go_wp2_with (first
              | ((with_reducible refine wpl_isLoad ?_); first
                | (refine S.loadRegs rfl 28 _ rfl _ rfl 1 _ _ _ _ rfl _ Try.underlying28 rfl (by rw [rc_length, hf32]; exact szRegs) ?_)
                | (refine S.loadRegs rfl 28 _ rfl _ rfl 0 _ _ _ _ rfl _ Try.underlying28 rfl (by rw [rc_length, hf32]; exact szRegs) ?_)
                | (refine S.ld 30 _ rfl _ 33 rfl 1 (Cel.res _ _ _ _) rfl _ (res_33 hf32 _ _ _) _ Try.underlying30 rfl rfl ?_)
                | (refine S.ld 3 _ rfl _ 33 rfl 0 (Cel.res _ _ _ _) rfl _ (res_33 hf32 _ _ _) _ Try.underlying3 rfl rfl ?_))
              | ((with_reducible refine wpl_isStore ?_); first
                | (refine S.storeAll rfl 36 _ _ rfl _ (Cel.res fin.1.R _ _ _) rfl rfl 0 _ rfl (by rw [res_length hf32, res_length (by simp)]) (one_res rfl) (by rw [res_length hf32]; exact szRef) ?_; clear S; intro w15 S; simp only [List.set_cons_zero, List.set_cons_succ] at S))
              | ((with_reducible refine wpl_isDst 89 ?_); refine wpl_dst 89 rfl (.bool false) (neq_run hf32 rfl rfl) rfl ?_)
              | ((with_reducible refine wpl_is ?_); first
                | (refine S.alloc rfl 36 rfl _ zeroRef ?_; clear S; intro b15 w15 S)))
            go_roundw
            case rel => exact ⟨j + 1, hj, by push_cast; rfl, (S.toNo ⟨rfl, rfl⟩).fewer 4⟩
            case measure =>
              simp only [intOf]
              omega
          · have hj' : ¬ (j : Int) < 6 := by omega
            have SB : Hid (Below wO.heap.size wO wr) := S.low
            clear S
            go_wp2
            go_roundw
            case rel => exact ⟨18, by omega, by omega, rfl, below_then HBB.out SB.out⟩
            case measure =>
              simp only [intOf]
              omega
      · have m1 : ((k : Int) == 2) = false := by simp; omega
        have m2 : ((k : Int) == 17) = false := by simp; omega
        have m3 : ((k : Int) != 21) = true := by simp; omega
        go_upto_region 11 with (first
          | ((with_reducible refine wpl_isStore ?_); first
            | (refine S.storeAll rfl 25 _ _ rfl _ (Cel.host ⟨(k : Int), 4, 1, 2, 3, 0⟩) rfl rfl 0 _ rfl rfl (one_host _) szHost ?_; clear S; intro w10 S; simp only [List.set_cons_zero, List.set_cons_succ] at S)
            | (refine S.store1 rfl 3 _ _ rfl _ 4 _ rfl rfl 0 (Cel.host _) rfl rfl (by simp [Cel.cells]) (Cel.host ⟨(k : Int), 4, 1, 2, 0, 0⟩) rfl szI ?_; clear S; intro w10 S; simp only [List.set_cons_zero, List.set_cons_succ] at S)
            | (refine S.store1 rfl 3 _ _ rfl _ 3 _ rfl rfl 0 (Cel.host _) rfl rfl (by simp [Cel.cells]) (Cel.host ⟨(k : Int), 4, 1, 0, 0, 0⟩) rfl szI ?_; clear S; intro w10 S; simp only [List.set_cons_zero, List.set_cons_succ] at S))
          | ((with_reducible refine wpl_is ?_); first
            | (refine SH.alloc (L := []) S rfl 25 rfl _ zeroHost ?_; clear S; intro b10 w10 S)))
        obtain ⟨h, hh⟩ : ∃ h : HV, h = ⟨(k : Int), 4, 1, 2, 0, 0⟩ := ⟨_, rfl⟩
        have HH : Hid (h.wf ∧ (h.op ≤ 21 ∨ h.op = 30)) := by rw [hh]; exact ⟨⟨by show (0 : Int) ≤ 0; decide, by show (0 : Int) ≤ 4294967295; decide⟩, .inl (by simp only []; omega)⟩
        rw [← hh] at S
        clear hh
        have HX : Hid (bits .and .u32 b 63 = x1 ∧ bits .or .u32 a 2147483648 = x2 ∧ bits .and .u32 c 1 = x3) := ⟨hx1, hx2, hx3⟩
        go_wp2_with (first
          | ((with_reducible refine wpl_is ?_); first
            | (refine S.sliceAny rfl 27 6 _ rfl (triC T) 26 (by rw [HTT.out]; kernel_rfl) ?_; clear S; intro g wg S)))
        have ST2 : Hid (reck2 wO T h g b10 (.int .i64 0) wg) := ⟨0, by decide, rfl, S⟩
        clear S
        go_loopw [58] (fun i wq => reck2 wO T h g b10 i wq) (fun i _ => 6 - (intOf i).toNat)
        case atStart => exact ST2.out
        case round =>
          clear ST2
          obtain ⟨j, hj6, rfl, S⟩ := hrel
          by_cases hj : j < 6
          · have hj' : (j : Int) < 6 := by omega
            obtain ⟨t, ht⟩ : ∃ t, T[j]? = some t := ⟨T[j]'(by have := HT.out.2; omega), by simp⟩
            obtain ⟨⟨y0, y1⟩, ⟨y2, y3⟩, ⟨y4, y5⟩⟩ := HT.out.1 t (List.mem_of_getElem? ht)
            have HTJ : Hid (∀ i u, ([.int .u32 t.1, .int .u32 t.2.1, .int .u32 t.2.2] : List Value)[i]? = some u → (Cel.any (triC T)).cells[j * 3 + i]? = some u) := fun i u hu => by
              have hi : i < 3 := (List.getElem?_eq_some_iff.1 hu).1
              exact (triC_at ht i hi).trans hu
            have hr4 : okR (r4 t v) := okR_set (okR_set (okR_set (okR_set zR_ok _ ⟨by omega, by omega⟩) _ ⟨by omega, by omega⟩) _ ⟨by omega, by omega⟩) _ ⟨by omega, by omega⟩
            have hr32 : (r4 t v).length = 32 := hr4.1
            obtain ⟨fin, hfin⟩ : ∃ f, runS 0 [] [h, mExit] 9 ⟨r4 t v, [], 0, []⟩ = f := ⟨_, rfl⟩
            have C1 : Hid (∀ (g' : Nat) (w1 : World), CL w1 (some ⟨g', 0, none⟩) [h, mExit] → g' < w1.heap.size → Calls Try.prog 9 #[.slice (some ⟨g', 0, none⟩) 2 2, .int .i64 0, (Cel.regs (r4 t v)).val, .pointer none, .int .i64 9] w1 fun e w' => RunPostN w1 fin e w') := fun g' w1 h1 h2 => run_nil [h, mExit] (some ⟨g', 0, none⟩) 2 0 9 (r4 t v) w1 h1 (fun b o hb => by cases hb; exact h2) hr4 (by decide) (by decide) (by decide) fin hfin
            have C2 : Hid (∀ (g' pm : Nat) (w1 : World), CL w1 (some ⟨g', 0, none⟩) [h, mExit] → MemAt w1 pm 0 pm (pm + 1) [] [] [] (fun _ => 0) → g' ≠ pm → Calls Try.prog 10 #[.slice (some ⟨g', 0, none⟩) 2 2, .int .i64 0, (Cel.regs (r4 t v)).val, .pointer (some ⟨pm, 0, none⟩), .int .i64 9] w1 fun e w' => RunPost w1 pm 0 pm (pm + 1) [] [] (fun _ => 0) fin e w') := fun g' pm w1 h1 h2 h3 => rrun_c [h, mExit] (some ⟨g', 0, none⟩) 2 0 9 (r4 t v) w1 h2 (Nat.zero_le _) (by decide) (fun x hx => by
                simp only [List.mem_cons, List.not_mem_nil, or_false] at hx
                rcases hx with rfl | rfl
                · exact HH.out.2
                · exact .inr rfl) h1 (fun b o hb => by cases hb; omega) hr4 (by decide) (by decide) (by decide) fin hfin
            clear ht hfin hr4 y0 y1 y2 y3 y4 y5
            go_upto_region 15 with (first
              | ((with_reducible refine wpl_isStore ?_); first
                | (refine S.storeAll rfl 26 _ _ rfl _ (Cel.any [.int .u32 t.1, .int .u32 t.2.1, .int .u32 t.2.2]) rfl rfl 0 _ rfl rfl (by simp [Cel.cells, Value.oneCell']) szTri ?_; clear S; intro w12 S; simp only [List.set_cons_zero, List.set_cons_succ] at S))
              | ((with_reducible refine wpl_is ?_); first
                | (refine S.ldMid 26 _ rfl g (j * 3) rfl 0 (Cel.any (triC T)) rfl [.int .u32 t.1, .int .u32 t.2.1, .int .u32 t.2.2] HTJ.out _ Try.underlying26 rfl szTri rfl ?_)
                | (refine S.alloc rfl 26 rfl _ zeroTri ?_; clear S; intro b12 w12 S)
                | (refine S.alloc rfl 28 rfl _ zeroRegs ?_; clear S; intro b13 w13 S)))
            refine Upto.start (S := fun w' => SH noZ wO w' [(b12, Cel.any [.int .u32 t.1, .int .u32 t.2.1, .int .u32 t.2.2]), (g, Cel.any (triC T)), (b10, Cel.host h)]) 14 (by kernel_rfl) ?_
            replace S := S.drew
            refine Upto.take (i := 0) (oi := { dst := some 62, op := Op.indexAddr 26 (Operand.tmp 12) (Operand.const (Value.int IntKind.i64 0)), type := 0, pos := "law.go:109", after := #[], guard := none }) (v := ?_) rfl (by kernel_rfl) (by kernel_rfl) (by kernel_rfl) (by kernel_rfl) (fun _ _ _ h => h) (Or.inl ⟨by rfl, ?_⟩) (by exact S.fewer 1) ?_
            rotate_left 1
            · intro w hSw
              clear hSw
              go_simp
              try with_reducible rfl
            simp only [Act.put, List.setIfInBounds_toArray, List.set_cons_zero, List.set_cons_succ]
            refine Upto.take (i := 1) (oi := { dst := some 63, op := Op.load 22 (Operand.tmp 62), type := 22, pos := "law.go:109", after := #[{ on := 0, ground := Ground.data }], guard := none }) (v := _) rfl (by kernel_rfl) (by kernel_rfl) (by kernel_rfl) (by kernel_rfl) (fun _ _ _ h => h) (y_load1 (by rfl) _ _ rfl _ _ rfl 0 _ rfl _ rfl _ Try.underlying22 rfl) (by exact S.fewer 1) ?_
            simp only [Act.put, List.setIfInBounds_toArray, List.set_cons_zero, List.set_cons_succ]
            refine Upto.take (i := 2) (oi := { dst := some 64, op := Op.indexAddr 26 (Operand.tmp 12) (Operand.const (Value.int IntKind.i64 1)), type := 0, pos := "law.go:109", after := #[{ on := 8, ground := Ground.gcOnly Departure.lateStores }], guard := none }) (v := ?_) rfl (by kernel_rfl) (by kernel_rfl) (by kernel_rfl) (by kernel_rfl) (fun _ _ _ h => h) (Or.inl ⟨by rfl, ?_⟩) (by exact S.fewer 1) ?_
            rotate_left 1
            · intro w hSw
              clear hSw
              go_simp
              try with_reducible rfl
            simp only [Act.put, List.setIfInBounds_toArray, List.set_cons_zero, List.set_cons_succ]
            refine Upto.take (i := 3) (oi := { dst := some 65, op := Op.load 22 (Operand.tmp 64), type := 22, pos := "law.go:109", after := #[{ on := 2, ground := Ground.data }, { on := 8, ground := Ground.gcOnly Departure.lateStores }], guard := none }) (v := _) rfl (by kernel_rfl) (by kernel_rfl) (by kernel_rfl) (by kernel_rfl) (fun _ _ _ h => h) (y_load1 (by rfl) _ _ rfl _ _ rfl 0 _ rfl _ rfl _ Try.underlying22 rfl) (by exact S.fewer 1) ?_
            simp only [Act.put, List.setIfInBounds_toArray, List.set_cons_zero, List.set_cons_succ]
            refine Upto.take (i := 4) (oi := { dst := some 66, op := Op.indexAddr 26 (Operand.tmp 12) (Operand.const (Value.int IntKind.i64 2)), type := 0, pos := "law.go:109", after := #[{ on := 10, ground := Ground.gcOnly Departure.lateStores }], guard := none }) (v := ?_) rfl (by kernel_rfl) (by kernel_rfl) (by kernel_rfl) (by kernel_rfl) (fun _ _ _ h => h) (Or.inl ⟨by rfl, ?_⟩) (by exact S.fewer 1) ?_
            rotate_left 1
            · intro w hSw
              clear hSw
              go_simp
              try with_reducible rfl
            simp only [Act.put, List.setIfInBounds_toArray, List.set_cons_zero, List.set_cons_succ]
            refine Upto.take (i := 5) (oi := { dst := some 67, op := Op.load 22 (Operand.tmp 66), type := 22, pos := "law.go:109", after := #[{ on := 4, ground := Ground.data }, { on := 10, ground := Ground.gcOnly Departure.lateStores }], guard := none }) (v := _) rfl (by kernel_rfl) (by kernel_rfl) (by kernel_rfl) (by kernel_rfl) (fun _ _ _ h => h) (y_load1 (by rfl) _ _ rfl _ _ rfl 0 _ rfl _ rfl _ Try.underlying22 rfl) (by exact S.fewer 1) ?_
            simp only [Act.put, List.setIfInBounds_toArray, List.set_cons_zero, List.set_cons_succ]
            refine Upto.take (i := 6) (oi := { dst := some 68, op := Op.move (Operand.tmp 3), type := 22, pos := "law.go:109", after := #[{ on := 12, ground := Ground.gcOnly Departure.lateStores }], guard := none }) (v := ?_) rfl (by kernel_rfl) (by kernel_rfl) (by kernel_rfl) (by kernel_rfl) (fun _ _ _ h => h) (Or.inl ⟨by rfl, ?_⟩) (by exact S.fewer 1) ?_
            rotate_left 1
            · intro w hSw
              clear hSw
              go_simp
              try with_reducible rfl
            simp only [Act.put, List.setIfInBounds_toArray, List.set_cons_zero, List.set_cons_succ]
            refine Upto.take (i := 7) (oi := { dst := some 69, op := Op.indexAddr 28 (Operand.tmp 13) (Operand.const (Value.int IntKind.i64 1)), type := 0, pos := "law.go:109", after := #[{ on := 0, ground := Ground.phase }, { on := 1, ground := Ground.phase }, { on := 2, ground := Ground.textOnly Departure.lateStores }, { on := 3, ground := Ground.textOnly Departure.lateStores }, { on := 4, ground := Ground.textOnly Departure.lateStores }, { on := 5, ground := Ground.textOnly Departure.lateStores }, { on := 6, ground := Ground.textOnly Departure.lateStores }], guard := none }) (v := ?_) rfl (by kernel_rfl) (by kernel_rfl) (by kernel_rfl) (by kernel_rfl) (fun _ _ _ h => h) (Or.inl ⟨by rfl, ?_⟩) (by exact S.fewer 1) ?_
            rotate_left 1
            · intro w hSw
              clear hSw
              go_simp
              try with_reducible rfl
            simp only [Act.put, List.setIfInBounds_toArray, List.set_cons_zero, List.set_cons_succ]
            refine Upto.ready (rs := [8]) (by kernel_rfl) (by simp) ?_
            refine Nexts.cons rfl (by decide) (fun K hK => ?_) Nexts.nil
            rw [if_pos (by rfl)]
            refine S.wpStore1 22 _ _ rfl _ 1 _ rfl rfl 0 (Cel.regs _) rfl rfl (by rw [regs_length (by simp [zR])]; decide) _ (set_regs _ _ _) szU ?_
            clear S
            intro w9 S
            simp only [List.set_cons_zero, List.set_cons_succ] at S
            refine hK.out _ _ (by exact S.fewer 1) ?_
            clear hK K
            refine Upto.take (i := 9) (oi := { dst := some 70, op := Op.indexAddr 28 (Operand.tmp 13) (Operand.const (Value.int IntKind.i64 2)), type := 0, pos := "law.go:109", after := #[{ on := 0, ground := Ground.phase }, { on := 1, ground := Ground.phase }, { on := 2, ground := Ground.phase }, { on := 3, ground := Ground.phase }, { on := 4, ground := Ground.textOnly Departure.lateStores }, { on := 5, ground := Ground.textOnly Departure.lateStores }, { on := 6, ground := Ground.textOnly Departure.lateStores }, { on := 7, ground := Ground.phase }, { on := 8, ground := Ground.phase }], guard := none }) (v := ?_) rfl (by kernel_rfl) (by kernel_rfl) (by kernel_rfl) (by kernel_rfl) (fun _ _ _ h => h) (Or.inl ⟨by rfl, ?_⟩) (by exact S.fewer 1) ?_
            rotate_left 1
            · intro w hSw
              clear hSw
              go_simp
              try with_reducible rfl
            simp only [Act.put, List.setIfInBounds_toArray, List.set_cons_zero, List.set_cons_succ]
            refine Upto.ready (rs := [10]) (by kernel_rfl) (by simp) ?_
            refine Nexts.cons rfl (by decide) (fun K hK => ?_) Nexts.nil
            rw [if_pos (by rfl)]
            refine S.wpStore1 22 _ _ rfl _ 2 _ rfl rfl 0 (Cel.regs _) rfl rfl (by rw [regs_length (by simp [zR])]; decide) _ (set_regs _ _ _) szU ?_
            clear S
            intro w9 S
            simp only [List.set_cons_zero, List.set_cons_succ] at S
            refine hK.out _ _ (by exact S.fewer 1) ?_
            clear hK K
            refine Upto.take (i := 11) (oi := { dst := some 71, op := Op.indexAddr 28 (Operand.tmp 13) (Operand.const (Value.int IntKind.i64 3)), type := 0, pos := "law.go:109", after := #[{ on := 0, ground := Ground.phase }, { on := 1, ground := Ground.phase }, { on := 2, ground := Ground.phase }, { on := 3, ground := Ground.phase }, { on := 4, ground := Ground.phase }, { on := 5, ground := Ground.phase }, { on := 6, ground := Ground.textOnly Departure.lateStores }, { on := 7, ground := Ground.phase }, { on := 8, ground := Ground.phase }, { on := 9, ground := Ground.phase }, { on := 10, ground := Ground.phase }], guard := none }) (v := ?_) rfl (by kernel_rfl) (by kernel_rfl) (by kernel_rfl) (by kernel_rfl) (fun _ _ _ h => h) (Or.inl ⟨by rfl, ?_⟩) (by exact S.fewer 1) ?_
            rotate_left 1
            · intro w hSw
              clear hSw
              go_simp
              try with_reducible rfl
            simp only [Act.put, List.setIfInBounds_toArray, List.set_cons_zero, List.set_cons_succ]
            refine Upto.ready (rs := [12]) (by kernel_rfl) (by simp) ?_
            refine Nexts.cons rfl (by decide) (fun K hK => ?_) Nexts.nil
            rw [if_pos (by rfl)]
            refine S.wpStore1 22 _ _ rfl _ 3 _ rfl rfl 0 (Cel.regs _) rfl rfl (by rw [regs_length (by simp [zR])]; decide) _ (set_regs _ _ _) szU ?_
            clear S
            intro w9 S
            simp only [List.set_cons_zero, List.set_cons_succ] at S
            refine hK.out _ _ (by exact S.fewer 1) ?_
            clear hK K
            refine Upto.take (i := 13) (oi := { dst := some 72, op := Op.indexAddr 28 (Operand.tmp 13) (Operand.const (Value.int IntKind.i64 4)), type := 0, pos := "law.go:109", after := #[{ on := 0, ground := Ground.phase }, { on := 1, ground := Ground.phase }, { on := 2, ground := Ground.phase }, { on := 3, ground := Ground.phase }, { on := 4, ground := Ground.phase }, { on := 5, ground := Ground.phase }, { on := 6, ground := Ground.phase }, { on := 7, ground := Ground.phase }, { on := 8, ground := Ground.phase }, { on := 9, ground := Ground.phase }, { on := 10, ground := Ground.phase }, { on := 11, ground := Ground.phase }, { on := 12, ground := Ground.phase }], guard := none }) (v := ?_) rfl (by kernel_rfl) (by kernel_rfl) (by kernel_rfl) (by kernel_rfl) (fun _ _ _ h => h) (Or.inl ⟨by rfl, ?_⟩) (by exact S.fewer 1) ?_
            rotate_left 1
            · intro w hSw
              clear hSw
              go_simp
              try with_reducible rfl
            simp only [Act.put, List.setIfInBounds_toArray, List.set_cons_zero, List.set_cons_succ]
            refine Upto.ready (rs := [14]) (by kernel_rfl) (by simp) ?_
            refine Nexts.last rfl (fun K hK => ?_)
            rw [if_pos (by rfl)]
            refine S.wpStore1 22 _ _ rfl _ 4 _ rfl rfl 0 (Cel.regs _) rfl rfl (by rw [regs_length (by simp [zR])]; decide) _ (set_regs _ _ _) szU ?_
            clear S
            intro w9 S
            simp only [List.set_cons_zero, List.set_cons_succ] at S
            refine hK.out _ _ ?_
            simp only [Act.put, List.setIfInBounds_toArray, List.set_cons_zero, List.set_cons_succ]
            clear hK K
            refine Upto.done (by kernel_rfl) ?_ _
            replace S : SH noZ wO _ [(b13, Cel.regs (r4 t v)), (b12, Cel.any [.int .u32 t.1, .int .u32 t.2.1, .int .u32 t.2.2]), (g, Cel.any (triC T)), (b10, Cel.host h)] := S
            go_wp2_with (first
              | ((with_reducible refine wpl_isLoad ?_); first
                | (refine S.ldAll 25 _ rfl _ rfl 3 (Cel.host h) rfl _ Try.underlying25 rfl szHost rfl ?_)
                | (refine S.ldAll 28 _ rfl _ rfl 0 (Cel.regs (r4 t v)) rfl _ Try.underlying28 rfl (by rw [regs_length hr32]; exact szRegs) rfl ?_))
              | ((with_reducible refine wpl_is ?_); first
                | (refine S.code rfl 34 2 _ rfl [h, mExit] 25 (by kernel_rfl) (by intro x hx; simp only [List.mem_cons, List.not_mem_nil, or_false] at hx; rcases hx with rfl | rfl; exact HH.out.1; exact ⟨by decide, by decide⟩) (by simp) ?_; clear S; intro g1 w1 S)))
            refine (C1.out g1 _ S.inv.2 (S.zb _ (.inr rfl))).mono ?_
            rintro e w3 ⟨A1, n1, base1, rfl, hev, hb1, hb2, hokf⟩
            replace S := RunN.gain S hev hb1 hb2
            have hf32 : fin.1.R.length = 32 := hokf.1
            clear hev hb1 hb2 hokf C1
            go_wp2_with (first
              | ((with_reducible refine wpl_isLoad ?_); first
                | (refine S.ldAll 25 _ rfl _ rfl 4 (Cel.host h) rfl _ Try.underlying25 rfl szHost rfl ?_)
                | (refine S.ldAll 28 _ rfl _ rfl 1 (Cel.regs (r4 t v)) rfl _ Try.underlying28 rfl (by rw [regs_length hr32]; exact szRegs) rfl ?_))
              | ((with_reducible refine wpl_isStore ?_); first
                | (refine S.storeAll rfl 32 _ _ rfl _ (Cel.res fin.1.R _ _ _) rfl rfl 0 _ rfl (by rw [res_length hf32, res_length (by simp)]) (one_res rfl) (by rw [res_length hf32]; exact szRes) ?_; clear S; intro w14 S; simp only [List.set_cons_zero, List.set_cons_succ] at S))
              | ((with_reducible refine wpl_is ?_); first
                | (refine S.alloc rfl 32 rfl _ zeroRes ?_; clear S; intro b14 w14 S)
                | (refine S.code rfl 34 2 _ rfl [h, mExit] 25 (by kernel_rfl) (by intro x hx; simp only [List.mem_cons, List.not_mem_nil, or_false] at hx; rcases hx with rfl | rfl; exact HH.out.1; exact ⟨by decide, by decide⟩) (by simp) ?_; clear S; intro g2 w1 S)
                | (refine S.box rfl _ _ rfl (Cel.any [.slice none 0 0, .slice none 0 0]) rfl ?_; clear S; intro bm wm S)))
            have hgm : g2 ≠ bm := fun e => (S.out (bm, Cel.any [.slice none 0 0, .slice none 0 0]) (by simp)).2 (.inr e.symm)
            refine (C2.out g2 bm _ S.inv.2 S.memNone hgm).mono ?_
            rintro e w5 ⟨A2, n2, base2, rfl, hev, hb1, _, _, hmid, hokf⟩
            replace S := S.ran0 ⟨rfl, rfl⟩ hmid hev hb1
            clear hev hb1 hmid hokf C2 hgm
            go_wp2_with (first
              | ((with_reducible refine wpl_isLoad ?_); first
                | (refine S.loadRegs rfl 28 _ rfl _ rfl 1 _ _ _ _ rfl _ Try.underlying28 rfl (by rw [rc_length, hf32]; exact szRegs) ?_)
                | (refine S.loadRegs rfl 28 _ rfl _ rfl 0 _ _ _ _ rfl _ Try.underlying28 rfl (by rw [rc_length, hf32]; exact szRegs) ?_)
                | (refine S.ld 30 _ rfl _ 33 rfl 1 (Cel.res _ _ _ _) rfl _ (res_33 hf32 _ _ _) _ Try.underlying30 rfl rfl ?_)
                | (refine S.ld 3 _ rfl _ 33 rfl 0 (Cel.res _ _ _ _) rfl _ (res_33 hf32 _ _ _) _ Try.underlying3 rfl rfl ?_))
              | ((with_reducible refine wpl_isStore ?_); first
                | (refine S.storeAll rfl 36 _ _ rfl _ (Cel.res fin.1.R _ _ _) rfl rfl 0 _ rfl (by rw [res_length hf32, res_length (by simp)]) (one_res rfl) (by rw [res_length hf32]; exact szRef) ?_; clear S; intro w15 S; simp only [List.set_cons_zero, List.set_cons_succ] at S))
              | ((with_reducible refine wpl_isDst 89 ?_); refine wpl_dst 89 rfl (.bool false) (neq_run hf32 rfl rfl) rfl ?_)
              | ((with_reducible refine wpl_is ?_); first
                | (refine S.alloc rfl 36 rfl _ zeroRef ?_; clear S; intro b15 w15 S)))
            go_roundw
            case rel => exact ⟨j + 1, hj, by push_cast; rfl, (S.toNo ⟨rfl, rfl⟩).fewer 4⟩
            case measure =>
              simp only [intOf]
              omega
          · have hj' : ¬ (j : Int) < 6 := by omega
            have SB : Hid (Below wO.heap.size wO wr) := S.low
            clear S
            go_wp2
            go_roundw
            case rel => exact ⟨k + 1, by omega, by omega, by push_cast; rfl, below_then HBB.out SB.out⟩
            case measure =>
              simp only [intOf]
              omega
    · have hlt' : ¬ (k : Int) ≤ 21 := by omega
      go_wp2
      go_ret
      exact ⟨rfl, HBB.out⟩
end Go.Proofs.Yteflboidbogegaa
