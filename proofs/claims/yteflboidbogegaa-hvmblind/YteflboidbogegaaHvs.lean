/- Code that is put together: a row of the call's own. -/
import Derived.Test.YteflboidbogegaaHvo
import Derived.Test.YteflboidbogegaaHvq
namespace Go.Proofs.Yteflboidbogegaa
open Go.ChangeShapes Go.WideShapes Go.ChangeAt Go.RowKit
set_option linter.unusedVariables false
set_option linter.unusedSimpArgs false

theorem infoHo : (Try.prog.info? 25).map (fun i => (i.zero, i.size, i.bytes)) = some (some (Cel.host noHV).val, 6, 48) := by kernel_rfl
theorem ho_info : ∃ i : TypeInfo, Try.prog.info? 25 = some i ∧ i.zero = some (Cel.host noHV).val ∧ i.size = 6 ∧ i.bytes = 48 := by
  have h := infoHo
  cases hq : Try.prog.info? 25 with
  | none => rw [hq] at h; cases h
  | some i =>
    rw [hq] at h
    simp only [Option.map_some, Option.some.injEq, Prod.mk.injEq] at h
    exact ⟨i, rfl, h.1, h.2.1, h.2.2⟩
theorem codeC_length (C : List HV) : (codeC C).length = C.length * 6 := by
  induction C with
  | nil => rfl
  | cons h t ih =>
    have e : codeC (h :: t) = (Cel.host h).cells ++ codeC t := rfl
    rw [e, List.length_append, ih]
    simp [Cel.cells]
    omega
theorem codeC_snoc (C : List HV) (h : HV) : codeC (C ++ [h]) = codeC C ++ (Cel.host h).cells := by simp [codeC]
def HRow (w : World) (base : Nat) (v : Value) (C : List HV) : Prop := w.ownsRow base 25 6 v C.length (codeC C)
theorem HRow.kept {w w' : World} {base : Nat} {v : Value} {C : List HV} (h : HRow w base v C) (hb : ∀ g, v.ownBlock = some g → w'.heap[g]? = w.heap[g]?) : HRow w' base v C := by
  refine ⟨h.1, ?_⟩
  rcases h.2 with h2 | ⟨g, cap, cur, h2, h3⟩
  · exact .inl h2
  · refine .inr ⟨g, cap, cur, h2, ?_⟩
    rw [hb g (by rw [h2]; rfl)]
    exact h3
def codeZ (base : Nat) (v : Value) (C : List HV) : Zn := ⟨fun k => v.ownBlock = some k, fun w => HRow w base v C ∧ base ≤ w.heap.size, 0, 0⟩
theorem codeZ_ok (base : Nat) (v : Value) (C : List HV) : (codeZ base v C).ok :=
  ⟨fun w w' h hs hk => ⟨h.1.kept fun g hg => hk g hg (World.ownsRow.lt h.1 g hg).2, Nat.le_trans h.2 hs⟩, fun k h1 h2 => by simp only [codeZ] at h2; omega⟩
section
variable {w0 w w1 : World} {L : List (Nat × Cel)} {base : Nat} {v : Value} {C : List HV}
theorem SH.toCode (S : SH noZ w0 w L) (hb : base ≤ w.heap.size) : SH (codeZ base (.slice none 0 0) []) w0 w L :=
  S.turn (codeZ_ok _ _ _) ⟨World.ownsRow_nil w base _ _, hb⟩ (fun k hk => by simp [codeZ, Value.ownBlock] at hk) S.mid (fun _ _ => rfl) (fun p hp hz => by simp [codeZ, Value.ownBlock] at hz)
theorem SH.appendedC (S : SH (codeZ base v C) w0 w L) (hb0 : w0.heap.size ≤ base) {v' : Value} {C' : List HV} (hn : HRow w1 base v' C') (hg : w.grownBy w1 v.ownBlock) (hat : ∀ g, v'.ownBlock = some g → v.ownBlock = some g ∨ g = w.heap.size) :
    SH (codeZ base v' C') w0 w1 L := by
  have hv : ∀ k, v.ownBlock = some k → base ≤ k := fun k hk => (World.ownsRow.lt S.inv.1 k hk).1
  have hmid : Mid 0 0 w0 w1 := ⟨hg.os.trans S.mid.os, hg.tape.trans S.mid.tape, hg.output.trans S.mid.output, Nat.le_trans S.mid.size hg.size, fun k hk hk2 => (hg.block k (Nat.lt_of_lt_of_le hk S.mid.size) (fun e => by have := hv k e.symm; omega)).trans (S.mid.block k hk hk2)⟩
  have hk : ∀ p ∈ L, w1.heap[p.1]? = w.heap[p.1]? := fun p hp => hg.block _ (S.blk p hp).lt (fun e => (S.out p hp).2 e.symm)
  refine S.turn (codeZ_ok _ _ _) ⟨hn, Nat.le_trans S.inv.2 hg.size⟩ (fun k hk => (World.ownsRow.lt hn k hk).2) hmid hk (fun p hp hz => ?_)
  rcases hat _ hz with h | h
  · exact (S.out p hp).2 h
  · have := (S.blk p hp).lt
    omega
theorem SH.dropC {Z : Nat → Prop} {J : World → Prop} (S : SH ((codeZ base v C).add Z J) w0 w L) : SH (codeZ base v C) w0 w L :=
  S.turn (codeZ_ok _ _ _) S.inv.1 (fun k hk => S.zb k (.inl hk)) S.mid (fun _ _ => rfl) (fun p hp h => (S.out p hp).2 (.inl h))
end
/-- One instruction, as a slice of its own. -/
theorem SH.sliceH {M : Zn} {w0 w : World} {L : List (Nat × Cel)} {ops : Array Oper} {rest : List Oper} {o : Oper} {a : Act} {Q : Exit → Act → World → Prop} (S : SH M w0 w L) (hgd : o.guard = none) (x : Operand) (ho : o.op = .buildSlice 34 1 #[(0, x)]) (h : HV) (hx : a.eval x = (Cel.host h).val)
    (hn : ∀ w1, SH (M.add (fun k => k = w.heap.size) (fun w2 => ∀ j u, (Cel.host h).cells[j]? = some u → w2.cell? ((⟨w.heap.size, 0, none⟩ : Addr).add j) = some u)) w0 w1 L → wpList Try.prog ops Q rest (a.put o.dst (.slice (some ⟨w.heap.size, 0, none⟩) 1 1)) w1) : wpList Try.prog ops Q (o :: rest) a w :=
  wpList_plain hgd fun K hK => by
    obtain ⟨op, d, a', b, c, im⟩ := h
    have hr : (Instr.buildSlice 34 1 #[(0, .agg #[.int .i64 op, .int .i64 d, .int .i64 a', .int .i64 b, .int .i64 c, .int .u32 im])]).run Try.prog w = .ok (.slice (some ⟨w.heap.size, 0, none⟩) 1 1) (w.alloc (Obj.cells #[.int .i64 op, .int .i64 d, .int .i64 a', .int .i64 b, .int .i64 c, .int .u32 im] 25)) := by kernel_rfl
    unfold Oper.wp execOp
    have hx' : a.eval x = .agg #[.int .i64 op, .int .i64 d, .int .i64 a', .int .i64 b, .int .i64 c, .int .u32 im] := hx
    simp only [ho, List.map_toArray, List.map_cons, List.map_nil, hx', Sem.run_bind, hr, Result.andThen_ok, Sem.run_pure]
    have hblk : Blk (w.alloc (Obj.cells #[.int .i64 op, .int .i64 d, .int .i64 a', .int .i64 b, .int .i64 c, .int .u32 im] 25)) w.heap.size (Cel.host ⟨op, d, a', b, c, im⟩).cells := Blk.new w _ _
    refine hK _ _ (hn _ (S.gain ((Below.refl _ _).alloc (Nat.le_refl _) _) (fun w1 w2 hj hs hk j u hu => ?_) (fun j u hu => ?_) (fun k hk => ?_)))
    · have q := hj j u hu
      rw [Addr.add_mid] at q ⊢
      exact (World.cell?_of_block (w := w1) (a := ⟨w.heap.size, 0 + j, none⟩) (hk _ rfl (World.block_lt_of_cell? w1 _ q))).trans q
    · rw [Addr.add_mid, Nat.zero_add, hblk.cell]
      exact hu
    · subst hk
      exact ⟨Nat.le_refl _, by rw [alloc_size']; omega⟩
theorem HRow.form {w : World} {base : Nat} {A : Option Addr} {n c : Nat} {C : List HV} (h : HRow w base (.slice A n c) C) (hC : 0 < C.length) : ∃ g, A = some ⟨g, 0, none⟩ ∧ n = C.length := by
  obtain ⟨g, cap, hf, _⟩ := World.ownsRow.form h hC
  simp only [Value.slice.injEq] at hf
  exact ⟨g, hf.1, hf.2.1⟩
theorem HRow.cl {w : World} {base g c : Nat} {C : List HV} (h : HRow w base (.slice (some ⟨g, 0, none⟩) C.length c) C) (hw : ∀ x ∈ C, x.wf) (hl : C.length ≤ 100000) : CL w (some ⟨g, 0, none⟩) C := by
  refine ⟨by omega, fun i x hx => ?_⟩
  have hlt := (List.getElem?_eq_some_iff.1 hx).1
  have key : ∀ j, j < 6 → w.cell? ⟨g, i * 6 + j, none⟩ = (Cel.host x).cells[j]? := fun j hj => by
    rw [World.ownsRow.cellAt h (i * 6 + j) (by omega)]
    exact codeC_at hx j hj
  refine ⟨hw x (List.mem_of_getElem? hx), g, 0, rfl, ?_⟩
  have z : ∀ k, 0 + i * 6 + k = i * 6 + k := fun k => by omega
  refine ⟨?_, ?_, ?_, ?_, ?_, ?_⟩
  · have := key 0 (by decide); simpa [Cel.cells] using this
  · have := key 1 (by decide); simpa [Cel.cells] using this
  · have := key 2 (by decide); simpa [Cel.cells] using this
  · have := key 3 (by decide); simpa [Cel.cells] using this
  · have := key 4 (by decide); simpa [Cel.cells] using this
  · have := key 5 (by decide); simpa [Cel.cells] using this
end Go.Proofs.Yteflboidbogegaa
