/- Total, walked; more that is told beside the blocks: code, events. -/
import Derived.Test.YtjhmmfpmmgebjaaGreatHvd
import Derived.Deep.QuietTactic
import Derived.BigQuiet
namespace Go.Proofs.YtjhmmfpmmgebjaaGreat
open Go.ChangeShapes Go.WideShapes Go.ChangeAt Go.RowKit
set_option linter.unusedVariables false
set_option linter.unusedSimpArgs false

def sumCo : List HEv → Int
  | [] => 0
  | e :: E => e.co + sumCo E
theorem sumCo_snoc (E : List HEv) (e : HEv) : sumCo (E ++ [e]) = sumCo E + e.co := by
  induction E with
  | nil => simp [sumCo]
  | cons x E ih => simp only [List.cons_append, sumCo, ih]; omega
def okE (E : List HEv) : Prop := ∀ e ∈ E, 0 ≤ e.co ∧ e.co ≤ 100
theorem sumCo_bounds {E : List HEv} (h : okE E) : 0 ≤ sumCo E ∧ sumCo E ≤ 100 * E.length := by
  induction E with
  | nil => simp [sumCo]
  | cons x E ih =>
    have h1 := h x List.mem_cons_self
    have h2 := ih (fun e he => h e (List.mem_cons_of_mem _ he))
    simp only [sumCo, List.length_cons]
    push_cast
    omega
def EvAt (w : World) (A : Option Addr) (E : List HEv) : Prop := ∀ (i : Nat) (e : HEv), E[i]? = some e → ∃ b o, A = some ⟨b, o, none⟩ ∧ w.cell? ⟨b, o + i * 3, none⟩ = some (.int .i64 e.pc) ∧ w.cell? ⟨b, o + i * 3 + 1, none⟩ = some (.int .u32 e.ad) ∧ w.cell? ⟨b, o + i * 3 + 2, none⟩ = some (.int .i64 e.co)
theorem EvAt.below {w w' : World} {A : Option Addr} {E : List HEv} (h : EvAt w A E) (hb : Below w.heap.size w w') : EvAt w' A E := fun i e he => by
  obtain ⟨b, o, h1, h2, h3, h4⟩ := h i e he
  have hl : b < w.heap.size := World.block_lt_of_cell? w ⟨b, o + i * 3, none⟩ h2
  exact ⟨b, o, h1, (hb.cell hl).trans h2, (hb.cell hl).trans h3, (hb.cell hl).trans h4⟩
theorem evC_at {E : List HEv} {i : Nat} {e : HEv} (h : E[i]? = some e) (j : Nat) (hj : j < 3) : (evC E)[i * 3 + j]? = e.cells[j]? := by
  induction E generalizing i with
  | nil => simp at h
  | cons x E ih =>
    have hc : evC (x :: E) = x.cells ++ evC E := by simp [evC]
    rw [hc]
    cases i with
    | zero =>
      simp only [List.getElem?_cons_zero, Option.some.injEq] at h
      subst h
      rw [List.getElem?_append_left (by simp [HEv.cells]; omega)]
      simp
    | succ i =>
      rw [List.getElem?_append_right (by simp [HEv.cells]; omega)]
      have e1 : (i + 1) * 3 + j - x.cells.length = i * 3 + j := by simp [HEv.cells]; omega
      rw [e1]
      exact ih (by simpa using h)
theorem EvRow.at {w : World} {base n c : Nat} {A : Option Addr} {E : List HEv} (h : EvRow w base (.slice A n c) E) : EvAt w A E := fun i e he => by
  have hi : i < E.length := (List.getElem?_eq_some_iff.1 he).1
  have h' := h
  rcases h.2 with ⟨h0, h1⟩ | ⟨g, cap, cur, h0, _⟩
  · omega
  · simp only [Value.slice.injEq] at h0
    obtain ⟨rfl, rfl, rfl⟩ := h0
    have key : ∀ j, j < 3 → w.cell? ⟨g, 0 + i * 3 + j, none⟩ = e.cells[j]? := fun j hj => by
      rw [Nat.zero_add, World.ownsRow.cellAt h' (i * 3 + j) (by omega)]
      exact evC_at he j hj
    exact ⟨g, 0, rfl, key 0 (by decide), key 1 (by decide), key 2 (by decide)⟩

def totRel (w : World) (E : List HEv) (t o i : Value) (wr : World) : Prop := ∃ k : Nat, k ≤ E.length ∧ t = .int .i64 (sumCo (E.take k)) ∧ o = .int .i64 0 ∧ i = .int .i64 k ∧ Below w.heap.size w wr
set_option maxHeartbeats 2000000 in
theorem total_c (A : Option Addr) (c : Nat) (E : List HEv) (w : World) (hE : EvAt w A E) (hk : okE E) (hl : E.length ≤ 100000) : Calls Tryz.prog 12 #[.slice A E.length c] w fun e w' => e = .returned (.int .i64 (sumCo E)) ∧ Below w.heap.size w w' := by
  have HE : Hid (EvAt w A E) := hE
  have HK : Hid (okE E) := hk
  clear hE hk
  go_enter Tryz.func12, Tryz.ntmps12
  go_wp2_with fail
  go_loopw [3, 4, 10] (fun t o i wr => totRel w E t o i wr) (fun _ _ i _ => E.length - (intOf i).toNat)
  case atStart => exact ⟨0, Nat.zero_le _, rfl, rfl, rfl, Below.refl _ _⟩
  case round =>
    obtain ⟨k, hkn, rfl, rfl, rfl, hb⟩ := hrel
    by_cases hlt : k < E.length
    · obtain ⟨e, he⟩ : ∃ e, E[k]? = some e := ⟨E[k], by simp [hlt]⟩
      have hlt' : (k : Int) < (E.length : Int) := by omega
      have hsum : sumCo (E.take (k + 1)) = sumCo (E.take k) + e.co := by rw [List.take_add_one, he]; exact sumCo_snoc _ _
      have hco := HK.out e (List.mem_of_getElem? he)
      have hbd : 0 ≤ sumCo (E.take k) ∧ sumCo (E.take k) ≤ 100 * k := by
        have h1 := sumCo_bounds (E := E.take k) (fun x hx => HK.out x (List.mem_of_mem_take hx))
        rw [List.length_take, Nat.min_eq_left hkn] at h1
        exact h1
      obtain ⟨b, o, rfl, c0, c1, c2⟩ := (HE.out.below hb) k e he
      have HS : Hid (sumCo (E.take (k + 1)) = sumCo (E.take k) + e.co) := hsum
      have HBB : Hid (Below w.heap.size w wr) := hb
      clear hsum hb he
      generalize sumCo (E.take k) = t at *
      obtain ⟨h0, h1⟩ := hco
      obtain ⟨t0, t1⟩ := hbd
      have hq1 : decide (t + e.co < t) = false := by simp; omega
      have hq2 : decide (e.co < 0) = false := by simp; omega
      go_wp2
      all_goals
        go_roundw
        case rel => exact ⟨k + 1, hlt, by rw [HS.out], rfl, by push_cast; rfl, HBB.out.alloc HBB.out.size _⟩
        case measure =>
          simp only [intOf]
          omega
    · have hke : k = E.length := by omega
      have HF : Hid (sumCo (E.take k) = sumCo E ∧ Below w.heap.size w wr) := ⟨by rw [hke, List.take_length], hb⟩
      have hlt' : ¬ (k : Int) < (E.length : Int) := by omega
      clear hb
      go_wp2
      go_ret
      exact ⟨by first | rfl | rw [HF.out.1], HF.out.2⟩

/-! ### More that is told -/
def Stb (Z : Nat → Prop) (J : World → Prop) : Prop := ∀ w w', J w → w.heap.size ≤ w'.heap.size → (∀ k, Z k → k < w.heap.size → w'.heap[k]? = w.heap[k]?) → J w'
def Zn.add (M : Zn) (Z : Nat → Prop) (J : World → Prop) : Zn := ⟨fun k => M.Z k ∨ Z k, fun w => M.J w ∧ J w, M.lo, M.hi⟩
theorem add_ok {M : Zn} {Z : Nat → Prop} {J : World → Prop} (h : M.ok) (hs : Stb Z J) : (M.add Z J).ok :=
  ⟨fun w w' h1 h2 h3 => ⟨h.st w w' h1.1 h2 (fun k hk => h3 k (.inl hk)), hs w w' h1.2 h2 (fun k hk => h3 k (.inr hk))⟩, fun k h1 h2 => .inl (h.zz k h1 h2)⟩
theorem SH.gain {M : Zn} {w0 w w1 : World} {L : List (Nat × Cel)} (S : SH M w0 w L) (hb : Below w.heap.size w w1) {Z : Nat → Prop} {J : World → Prop} (hs : Stb Z J) (hJ : J w1) (hz : ∀ k, Z k → w.heap.size ≤ k ∧ k < w1.heap.size) : SH (M.add Z J) w0 w1 L := by
  have S1 := S.below hb
  refine S1.turn (add_ok S1.ok hs) ⟨S1.inv, hJ⟩ (fun k hk => ?_) S1.mid (fun _ _ => rfl) (fun p hp h => ?_)
  · rcases hk with hk | hk
    · exact S1.zb k hk
    · exact (hz k hk).2
  · rcases h with h | h
    · exact (S1.out p hp).2 h
    · have := (S.blk p hp).lt
      have := (hz _ h).1
      omega
theorem stb_ev (base : Nat) (v : Value) (E : List HEv) : Stb (fun k => v.ownBlock = some k) (fun w => EvRow w base v E) := fun w w' h hs hk => h.kept fun g hg => hk g hg (World.ownsRow.lt h g hg).2
theorem stb_cl (g : Nat) (code : List HV) : Stb (fun k => k = g) (fun w => CL w (some ⟨g, 0, none⟩) code) := fun w w' h hs hk => h.kept fun b o hb hlt => by cases hb; exact hk g rfl hlt
def codeC (code : List HV) : List Value := code.flatMap fun h => (Cel.host h).cells
theorem codeC_at {code : List HV} {i : Nat} {h : HV} (hi : code[i]? = some h) (j : Nat) (hj : j < 6) : (codeC code)[i * 6 + j]? = (Cel.host h).cells[j]? := by
  induction code generalizing i with
  | nil => simp at hi
  | cons x code ih =>
    have hc : codeC (x :: code) = (Cel.host x).cells ++ codeC code := by simp [codeC]
    rw [hc]
    cases i with
    | zero =>
      simp only [List.getElem?_cons_zero, Option.some.injEq] at hi
      subst hi
      rw [List.getElem?_append_left (by simp [Cel.cells]; omega)]
      simp
    | succ i =>
      rw [List.getElem?_append_right (by simp [Cel.cells]; omega)]
      have e1 : (i + 1) * 6 + j - (Cel.host x).cells.length = i * 6 + j := by simp [Cel.cells]; omega
      rw [e1]
      exact ih (by simpa using hi)
theorem CL.ofBlk {w : World} {g : Nat} {code : List HV} (h : Blk w g (codeC code)) (hw : ∀ x ∈ code, x.wf) (hl : (code.length : Int) ≤ 1000000) : CL w (some ⟨g, 0, none⟩) code := by
  refine ⟨hl, fun i x hx => ⟨hw x (List.mem_of_getElem? hx), g, 0, rfl, ?_⟩⟩
  have key : ∀ j, j < 6 → w.cell? ⟨g, 0 + i * 6 + j, none⟩ = (Cel.host x).cells[j]? := fun j hj => by
    rw [Nat.zero_add, h.cell]
    exact codeC_at hx j hj
  exact ⟨key 0 (by decide), key 1 (by decide), key 2 (by decide), key 3 (by decide), key 4 (by decide), key 5 (by decide)⟩
/-- Code that is written out. -/
theorem SH.code {P : Program} {M : Zn} {w0 w : World} {L : List (Nat × Cel)} {ops : Array Oper} {rest : List Oper} {o : Oper} {a : Act} {Q : Exit → Act → World → Prop} (S : SH M w0 w L) (hgd : o.guard = none) (ty n : Nat) (xs : Array (Nat × Operand)) (ho : o.op = .buildSlice ty n xs) (code : List HV) (e : TypeId)
    (hr : (execOp a.eval o).run P w = .ok (.value (.slice (some ⟨w.heap.size, 0, none⟩) n n)) (w.alloc (.cells (codeC code).toArray e))) (hw : ∀ x ∈ code, x.wf) (hl : (code.length : Int) ≤ 1000000)
    (h : ∀ g w1, SH (M.add (fun k => k = g) (fun w => CL w (some ⟨g, 0, none⟩) code)) w0 w1 L → wpList P ops Q rest (a.put o.dst (.slice (some ⟨g, 0, none⟩) n n)) w1) : wpList P ops Q (o :: rest) a w :=
  wpList_plain hgd fun K hK => by
    unfold Oper.wp
    rw [hr]
    refine hK _ _ (h w.heap.size _ (S.gain ((Below.refl _ _).alloc (Nat.le_refl _) _) (stb_cl _ _) (CL.ofBlk (Blk.new w (codeC code) e) hw hl) (fun k hk => ?_)))
    subst hk
    exact ⟨Nat.le_refl _, by rw [alloc_size']; omega⟩
theorem wpl_cell {P : Program} {w : World} {ops : Array Oper} {rest : List Oper} {o : Oper} {a : Act} {Q : Exit → Act → World → Prop} (hw : Region.wanted o (yielded ops a.tmps) = true) (ty : TypeId) (x : Operand) (ho : o.op = .load ty x) (b j : Nat) (hx : a.eval x = .pointer (some ⟨b, j, none⟩))
    (v : Value) (hv : w.cell? ⟨b, j, none⟩ = some v) (d : TypeDesc) (hu : P.underlying ty = some d) (hd : d.isRow = false) (h : wpList P ops Q rest (a.put o.dst v) w) : wpList P ops Q (o :: rest) a w :=
  wpList_step fun K hK => by
    rw [if_pos hw]
    unfold Oper.wp execOp
    simp only [ho, hx, Sem.run_bind, run_load1 w b j ty v d hv hu hd, Result.andThen_ok, Sem.run_pure]
    exact hK _ _ h
theorem set_regs (R : List Int) (j : Nat) (x : Int) : (Cel.regs R).cells.set j (.int .u32 x) = (Cel.regs (R.set j x)).cells := by simp [Cel.cells, rc, List.map_set]
theorem regs_length {R : List Int} (hR : R.length = 32) : (Cel.regs R).cells.length = 32 := by simp [Cel.cells, rc, hR]
theorem regs_at {R : List Int} {j : Nat} {x : Int} (h : R[j]? = some x) : (Cel.regs R).cells[j]? = some (.int .u32 x) := rc_at h
def zR : List Int := List.replicate 32 0
theorem zeroRegs : (Tryz.prog.info? 27).map (fun i => i.zero) = some (some (Cel.regs zR).val) := by kernel_rfl
theorem zR_ok : okR zR := ⟨by simp [zR], fun x hx => by simp [zR] at hx; subst hx; exact ⟨by decide, by decide⟩⟩
end Go.Proofs.YtjhmmfpmmgebjaaGreat
namespace Go.Proofs.YtjhmmfpmmgebjaaGreat
open Go.ChangeShapes Go.WideShapes Go.ChangeAt Go.RowKit
set_option linter.unusedVariables false
section
variable {P : Program} {M : Zn} {w0 w : World} {L : List (Nat × Cel)} {ops : Array Oper} {rest : List Oper} {o : Oper} {a : Act} {Q : Exit → Act → World → Prop}
theorem SH.ld (S : SH M w0 w L) (ty : TypeId) (x : Operand) (ho : o.op = .load ty x) (b j : Nat) (hx : a.eval x = .pointer (some ⟨b, j, none⟩)) (i : Nat) (c : Cel) (hL : L[i]? = some (b, c))
    (v : Value) (hv : c.cells[j]? = some v) (d : TypeDesc) (hu : P.underlying ty = some d) (hd : d.isRow = false) (hw : Region.wanted o (yielded ops a.tmps) = true) (h : wpList P ops Q rest (a.put o.dst v) w) : wpList P ops Q (o :: rest) a w :=
  S.load1 hw ty x ho b j hx i c hL v hv d hu hd h
theorem SH.ldAll (S : SH M w0 w L) (ty : TypeId) (x : Operand) (ho : o.op = .load ty x) (b : Nat) (hx : a.eval x = .pointer (some ⟨b, 0, none⟩)) (i : Nat) (c : Cel) (hL : L[i]? = some (b, c))
    (d : TypeDesc) (hu : P.underlying ty = some d) (hd : d.isRow = true) (hi : (P.info? ty).map (·.size) = some c.cells.length) (hw : Region.wanted o (yielded ops a.tmps) = true) (h : wpList P ops Q rest (a.put o.dst c.val) w) : wpList P ops Q (o :: rest) a w :=
  S.loadAll hw ty x ho b hx i c hL d hu hd hi h
theorem wpl_cl (ty : TypeId) (x : Operand) (ho : o.op = .load ty x) (b j : Nat) (hx : a.eval x = .pointer (some ⟨b, j, none⟩))
    (v : Value) (hv : w.cell? ⟨b, j, none⟩ = some v) (d : TypeDesc) (hu : P.underlying ty = some d) (hd : d.isRow = false) (hw : Region.wanted o (yielded ops a.tmps) = true) (h : wpList P ops Q rest (a.put o.dst v) w) : wpList P ops Q (o :: rest) a w :=
  wpl_cell hw ty x ho b j hx v hv d hu hd h
/-- The walk stands at an operation (asked with_reducible: cheap). -/
theorem wpl_is (h : wpList P ops Q (o :: rest) a w) : wpList P ops Q (o :: rest) a w := h
/-- An operation that yields a value, by the slot that it writes. -/
theorem wpl_dst (k : Nat) (hd : o.dst = some k) (v : Value) (hr : (execOp a.eval o).run P w = .ok (.value v) w) (hw : Region.wanted o (yielded ops a.tmps) = true) (h : wpList P ops Q rest (a.put o.dst v) w) : wpList P ops Q (o :: rest) a w :=
  wpList_step fun K hK => by
    rw [if_pos hw]
    unfold Oper.wp
    rw [hr]
    exact hK _ _ h
end
end Go.Proofs.YtjhmmfpmmgebjaaGreat
namespace Go.Proofs.YtjhmmfpmmgebjaaGreat
open Go.ChangeShapes Go.WideShapes Go.ChangeAt Go.RowKit
set_option linter.unusedVariables false
section
variable {P : Program} {w : World} {ops : Array Oper} {rest : List Oper} {a : Act} {Q : Exit → Act → World → Prop}
theorem wpl_isLoad {d : Option Nat} {ty : TypeId} {x : Operand} {t : TypeId} {p : String} {af : Array Edge} {g : Option (Nat × Bool)} (h : wpList P ops Q ({ dst := d, op := Op.load ty x, type := t, pos := p, after := af, guard := g } :: rest) a w) : wpList P ops Q ({ dst := d, op := Op.load ty x, type := t, pos := p, after := af, guard := g } :: rest) a w := h
theorem wpl_isStore {d : Option Nat} {ty : TypeId} {x y : Operand} {t : TypeId} {p : String} {af : Array Edge} {g : Option (Nat × Bool)} (h : wpList P ops Q ({ dst := d, op := Op.store ty x y, type := t, pos := p, after := af, guard := g } :: rest) a w) : wpList P ops Q ({ dst := d, op := Op.store ty x y, type := t, pos := p, after := af, guard := g } :: rest) a w := h
theorem wpl_isDst (k : Nat) {op : Op} {t : TypeId} {p : String} {af : Array Edge} {g : Option (Nat × Bool)} (h : wpList P ops Q ({ dst := some k, op := op, type := t, pos := p, after := af, guard := g } :: rest) a w) : wpList P ops Q ({ dst := some k, op := op, type := t, pos := p, after := af, guard := g } :: rest) a w := h
end
end Go.Proofs.YtjhmmfpmmgebjaaGreat
namespace Go.Proofs.YtjhmmfpmmgebjaaGreat
open Go.ChangeShapes Go.WideShapes Go.ChangeAt Go.RowKit
set_option linter.unusedVariables false
set_option linter.unusedSimpArgs false

def sevRel (w : World) (E : List HEv) (i : Value) (wr : World) : Prop := ∃ k : Nat, k ≤ E.length ∧ i = .int .i64 k ∧ Below w.heap.size w wr
set_option maxHeartbeats 2000000 in
theorem sev_c (A B : Option Addr) (c d : Nat) (E : List HEv) (w : World) (hE : EvAt w A E) (hF : EvAt w B E) (hl : E.length ≤ 100000) : Calls Tryz.prog 11 #[.slice A E.length c, .slice B E.length d] w fun e w' => e = .returned (.bool true) ∧ Below w.heap.size w w' := by
  have HE : Hid (EvAt w A E) := hE
  have HF : Hid (EvAt w B E) := hF
  clear hE hF
  go_enter Tryz.func11, Tryz.ntmps11
  go_wp2_with fail
  go_loopw [5] (fun i wr => sevRel w E i wr) (fun i _ => E.length - (intOf i).toNat)
  case atStart => exact ⟨0, Nat.zero_le _, rfl, Below.refl _ _⟩
  case round =>
    obtain ⟨k, hkn, rfl, hb⟩ := hrel
    by_cases hlt : k < E.length
    · obtain ⟨e, he⟩ : ∃ e, E[k]? = some e := ⟨E[k], by simp [hlt]⟩
      have hlt' : (k : Int) < (E.length : Int) := by omega
      obtain ⟨b, o, rfl, c0, c1, c2⟩ := (HE.out.below hb) k e he
      obtain ⟨b', o', rfl, d0, d1, d2⟩ := (HF.out.below hb) k e he
      have HBB : Hid (Below w.heap.size w wr) := hb
      clear hb he
      go_wp2
      go_quiet (fail)
      go_wp2
      all_goals
        go_roundw
        case rel => exact ⟨k + 1, hlt, by push_cast; rfl, ⟨HBB.out.os, HBB.out.tape, HBB.out.output, HBB.out.size, HBB.out.block⟩⟩
        case measure =>
          simp only [intOf]
          omega
    · have hke : k = E.length := by omega
      have HFF : Hid (Below w.heap.size w wr) := hb
      have hlt' : ¬ (k : Int) < (E.length : Int) := by omega
      clear hb
      go_wp2
      go_ret
      exact ⟨rfl, HFF.out⟩
end Go.Proofs.YtjhmmfpmmgebjaaGreat
namespace Go.Proofs.YtjhmmfpmmgebjaaGreat
open Go.ChangeShapes Go.WideShapes Go.ChangeAt Go.RowKit
set_option linter.unusedVariables false
set_option linter.unusedSimpArgs false

def rtotRel (w : World) (E : List HEv) (t i : Value) (wr : World) : Prop := ∃ k : Nat, k ≤ E.length ∧ t = .int .i64 (sumCo (E.take k)) ∧ i = .int .i64 k ∧ Below w.heap.size w wr
set_option maxHeartbeats 2000000 in
theorem rtotal_c (A : Option Addr) (c : Nat) (E : List HEv) (w : World) (hE : EvAt w A E) (hk : okE E) (hl : E.length ≤ 100000) : Calls Tryz.prog 13 #[.slice A E.length c] w fun e w' => e = .returned (.int .i64 (sumCo E)) ∧ Below w.heap.size w w' := by
  have HE : Hid (EvAt w A E) := hE
  have HK : Hid (okE E) := hk
  clear hE hk
  go_enter Tryz.func13, Tryz.ntmps13
  go_wp2_with fail
  go_loopw [3, 4] (fun t i wr => rtotRel w E t i wr) (fun _ i _ => E.length - (intOf i).toNat)
  case atStart => exact ⟨0, Nat.zero_le _, rfl, rfl, Below.refl _ _⟩
  case round =>
    obtain ⟨k, hkn, rfl, rfl, hb⟩ := hrel
    by_cases hlt : k < E.length
    · obtain ⟨e, he⟩ : ∃ e, E[k]? = some e := ⟨E[k], by simp [hlt]⟩
      have hlt' : (k : Int) < (E.length : Int) := by omega
      have hsum : sumCo (E.take (k + 1)) = sumCo (E.take k) + e.co := by rw [List.take_add_one, he]; exact sumCo_snoc _ _
      have hco := HK.out e (List.mem_of_getElem? he)
      have hbd : 0 ≤ sumCo (E.take k) ∧ sumCo (E.take k) ≤ 100 * k := by
        have h1 := sumCo_bounds (E := E.take k) (fun x hx => HK.out x (List.mem_of_mem_take hx))
        rw [List.length_take, Nat.min_eq_left hkn] at h1
        exact h1
      obtain ⟨b, o, rfl, c0, c1, c2⟩ := (HE.out.below hb) k e he
      have HS : Hid (sumCo (E.take (k + 1)) = sumCo (E.take k) + e.co) := hsum
      have HBB : Hid (Below w.heap.size w wr) := hb
      clear hsum hb he
      generalize sumCo (E.take k) = t at *
      obtain ⟨h0, h1⟩ := hco
      obtain ⟨t0, t1⟩ := hbd
      go_wp2
      go_roundw
      case rel => exact ⟨k + 1, hlt, by rw [HS.out], by push_cast; rfl, HBB.out⟩
      case measure =>
        simp only [intOf]
        omega
    · have hke : k = E.length := by omega
      have HF : Hid (sumCo (E.take k) = sumCo E ∧ Below w.heap.size w wr) := ⟨by rw [hke, List.take_length], hb⟩
      have hlt' : ¬ (k : Int) < (E.length : Int) := by omega
      clear hb
      go_wp2
      go_ret
      exact ⟨by first | rfl | rw [HF.out.1], HF.out.2⟩
end Go.Proofs.YtjhmmfpmmgebjaaGreat
