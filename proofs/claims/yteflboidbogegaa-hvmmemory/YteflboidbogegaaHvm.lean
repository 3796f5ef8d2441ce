/- HvmMemory: a memory among local variables; its second run in plain words. -/
import Derived.Test.YteflboidbogegaaHvl
namespace Go.Proofs.Yteflboidbogegaa
open Go.ChangeShapes Go.WideShapes Go.ChangeAt Go.RowKit
set_option linter.unusedVariables false
set_option linter.unusedSimpArgs false

theorem SH.newMemB {w0 w w1 : World} {L : List (Nat × Cel)} {pm hi : Nat} {Bs : List Reg} {G D : List (List Int)} {q : Nat → Nat} (S : SH noZ w0 w L) (hb : Below w.heap.size w w1) (hm : MemAt w1 pm 0 w.heap.size hi Bs G D q) : SH (memZ pm 0 w.heap.size hi Bs G D q) w0 w1 L := by
  have S1 := S.below hb
  refine S1.turn (memZ_ok _ _ _ _ _ _ _ _) hm (fun k hk => ?_) ⟨S1.mid.os, S1.mid.tape, S1.mid.output, S1.mid.size, fun k hk _ => S1.mid.block k hk (.inr (Nat.zero_le _))⟩ (fun _ _ => rfl) (fun p hp hz => ?_)
  · have := hm.top
    rcases hk with hk | hk <;> omega
  · have := (S.blk p hp).lt
    rcases hz with hz | hz <;> omega
theorem stb_run (pm lo hi : Nat) (Bs : List Reg) (G D : List (List Int)) (q : Nat → Nat) (base : Nat) (v : Value) (E : List HEv) : Stb (fun k => Zone 0 lo hi k ∨ v.ownBlock = some k) (fun w => MemAt w pm 0 lo hi Bs G D q ∧ EvRow w base v E) :=
  fun w w' h hs hk => ⟨(memZ_ok pm 0 lo hi Bs G D q).st w w' h.1 hs (fun k hz hl => hk k (.inl hz) hl), stb_ev base v E w w' h.2 hs (fun k hz hl => hk k (.inr hz) hl)⟩
/-- A run over the memory. -/
theorem SH.ran {M : Zn} {w0 w w1 : World} {L : List (Nat × Cel)} {pm lo hi : Nat} {Bs : List Reg} {G D : List (List Int)} {q : Nat → Nat} {A : Option Addr} {n c base : Nat} {E : List HEv} (S : SH M w0 w L) (hlo : M.lo = lo) (hhi : M.hi = hi)
    (hev : EvRow w1 base (.slice A n c) E) (hb1 : w.heap.size ≤ base) (hm : MemAt w1 pm 0 lo hi Bs G D q) (hmid : Mid lo hi w w1) :
    SH (M.free.add (fun k => Zone 0 lo hi k ∨ (Value.slice A n c).ownBlock = some k) (fun w => MemAt w pm 0 lo hi Bs G D q ∧ EvRow w base (.slice A n c) E)) w0 w1 L := by
  subst hlo hhi
  have F := S.toFree.freeMid hmid
  refine F.turn (add_ok (free_ok S.ok) (stb_run _ _ _ _ _ _ _ _ _ _)) ⟨trivial, hm, hev⟩ (fun k hk => ?_) F.mid (fun _ _ => rfl) (fun p hp h => ?_)
  · rcases hk with hk | (hk | hk) | hk
    · exact F.zb k hk
    · omega
    · have := hm.top
      omega
    · exact (World.ownsRow.lt hev k hk).2
  · rcases h with h | (h | h) | h
    · exact (F.out p hp).2 h
    · omega
    · exact (S.out p hp).2 (S.ok.zz _ h.1 h.2)
    · have := (S.blk p hp).lt
      have := (World.ownsRow.lt hev _ h).1
      omega
theorem SH.lowB {M : Zn} {w0 w : World} {L : List (Nat × Cel)} (S : SH M w0 w L) (h : w0.heap.size ≤ M.lo) : Below w0.heap.size w0 w :=
  ⟨S.mid.os, S.mid.tape, S.mid.output, S.mid.size, fun k hk => S.mid.block k hk (.inl (by omega))⟩

/-- Code laid behind a memory. -/
theorem SH.codeM {P : Program} {M : Zn} {w0 w : World} {L : List (Nat × Cel)} {ops : Array Oper} {rest : List Oper} {o : Oper} {a : Act} {Q : Exit → Act → World → Prop} (S : SH M w0 w L) (hgd : o.guard = none) (ty n : Nat) (xs : Array (Nat × Operand)) (ho : o.op = .buildSlice ty n xs) (code : List HV) (e : TypeId)
    (hr : (execOp a.eval o).run P w = .ok (.value (.slice (some ⟨w.heap.size, 0, none⟩) n n)) (w.alloc (.cells (codeC code).toArray e))) (hw : ∀ x ∈ code, x.wf) (hl : (code.length : Int) ≤ 1000000)
    (h : ∀ g w1, w.heap.size ≤ g → SH (M.add (fun k => k = g) (fun w => CL w (some ⟨g, 0, none⟩) code)) w0 w1 L → wpList P ops Q rest (a.put o.dst (.slice (some ⟨g, 0, none⟩) n n)) w1) : wpList P ops Q (o :: rest) a w :=
  wpList_plain hgd fun K hK => by
    unfold Oper.wp
    rw [hr]
    refine hK _ _ (h w.heap.size _ (Nat.le_refl _) (S.gain ((Below.refl _ _).alloc (Nat.le_refl _) _) (stb_cl _ _) (CL.ofBlk (Blk.new w (codeC code) e) hw hl) (fun k hk => ?_)))
    subst hk
    exact ⟨Nat.le_refl _, by rw [alloc_size']; omega⟩
def nMov : HV := ⟨1, 9, 0, 0, 0, 3⟩
def nLd4 : HV := ⟨24, 3, 1, 0, 0, 0⟩
def nCode : List HV := [nMov, nLd4, mExit]
def nR (b v : Int) : List Int := (zR.set 1 b).set 2 v
theorem mem_run2 (b v : Int) (b0 : 0 ≤ b) (b1 : b < 4294967296) (hb : b % 4 = 1) (D : List (List Int)) :
    runS 0 (seatBs 0 0 0 0) nCode 50 ⟨nR b v, [], 0, D⟩ = (⟨(nR b v).set 9 3, [⟨0, 0, 1⟩, ⟨1, b, 2⟩], 1, D⟩, 25) := by
  have hc : checkS (regAt (seatBs 0 0 0 0)) (seatBs 0 0 0 0).length = 0 := seat_check (by decide) (by decide) (by decide) (by decide)
  generalize seatBs 0 0 0 0 = Bs at hc ⊢
  have a1 : addrS nLd4 ((nR b v).set 9 3) = b := by
    have h : addrS nLd4 ((nR b v).set 9 3) = (b + 0) % 4294967296 := by kernel_rfl
    rw [h]; omega
  have e1 : ldErr Bs nLd4 ((nR b v).set 9 3) = 25 := by
    have h : ldErr Bs nLd4 ((nR b v).set 9 3) = mayS (regAt Bs) Bs.length ((b + 0) % 4294967296) 4 false := by kernel_rfl
    rw [h, show (b + 0) % 4294967296 = b by omega, mayS, if_neg (by rw [hc]; decide), if_pos (by rw [show widthS 4 = 4 from rfl]; omega)]
  rw [run_step (s' := ⟨(nR b v).set 9 3, [⟨0, 0, 1⟩], 1, D⟩) (by kernel_rfl) (by kernel_rfl)]
  exact run_end (by kernel_rfl) (ld_bad (h := nLd4) (by decide) (by decide) a1 e1 (by decide) rfl)
end Go.Proofs.Yteflboidbogegaa
