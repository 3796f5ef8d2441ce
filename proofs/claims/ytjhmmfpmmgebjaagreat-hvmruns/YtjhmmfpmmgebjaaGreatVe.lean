/- Local variables of many cells as blocks of the call's own: what lies in each, told by a list; and how each operation turns it. -/
import Derived.Test.YtjhmmfpmmgebjaaGreatHst2r
import Derived.Test.YtjhmmfpmmgebjaaGreatVd
import Derived.Deep.MidRow
import Derived.Deep.RegionHeld
import Derived.Test.YtjhmmfpmmgebjaaGreatVc
namespace Go.Proofs.YtjhmmfpmmgebjaaGreat
open Go.ChangeShapes Go.WideShapes Go.ChangeAt Go.RowKit
set_option linter.unusedVariables false
set_option linter.unusedSimpArgs false

/-- Registers as cells. -/
def rc (R : List Int) : List Value := R.map fun x => Value.int .u32 x
inductive Cel where
  | res (R : List Int) (v : Value) (e p : Int)
  | regs (R : List Int)
  | host (h : HV)
  | ev (pc ad co : Int)
  | any (cs : List Value)
def Cel.cells : Cel → List Value
  | .res R v e p => rc R ++ [v, .int .i64 e, .int .i64 p]
  | .regs R => rc R
  | .host h => [.int .i64 h.op, .int .i64 h.d, .int .i64 h.a, .int .i64 h.b, .int .i64 h.c, .int .u32 h.im]
  | .ev pc ad co => [.int .i64 pc, .int .u32 ad, .int .i64 co]
  | .any cs => cs
def Cel.val (c : Cel) : Value := .agg c.cells.toArray
theorem host_val (h : HV) : h.val = (Cel.host h).val := rfl

theorem rc_length (R : List Int) : (rc R).length = R.length := by simp [rc]
theorem rc_at {R : List Int} {j : Nat} {x : Int} (h : R[j]? = some x) : (rc R)[j]? = some (.int .u32 x) := by simp [rc, h]
theorem res_length {R : List Int} (hR : R.length = 32) (v : Value) (e p : Int) : (Cel.res R v e p).cells.length = 35 := by simp [Cel.cells, rc, hR]
theorem res_reg {R : List Int} {j : Nat} {x : Int} (h : R[j]? = some x) (v : Value) (e p : Int) : (Cel.res R v e p).cells[j]? = some (.int .u32 x) := by
  have hj := (List.getElem?_eq_some_iff.1 h).1
  simp only [Cel.cells]
  rw [List.getElem?_append_left (by rw [rc_length]; exact hj)]
  exact rc_at h
theorem res_32 {R : List Int} (hR : R.length = 32) (v : Value) (e p : Int) : (Cel.res R v e p).cells[32]? = some v := by
  simp only [Cel.cells]; rw [List.getElem?_append_right (by simp [rc, hR])]; simp [rc, hR]
theorem res_33 {R : List Int} (hR : R.length = 32) (v : Value) (e p : Int) : (Cel.res R v e p).cells[33]? = some (.int .i64 e) := by
  simp only [Cel.cells]; rw [List.getElem?_append_right (by simp [rc, hR])]; simp [rc, hR]
theorem res_34 {R : List Int} (hR : R.length = 32) (v : Value) (e p : Int) : (Cel.res R v e p).cells[34]? = some (.int .i64 p) := by
  simp only [Cel.cells]; rw [List.getElem?_append_right (by simp [rc, hR])]; simp [rc, hR]
theorem set_reg {R : List Int} {j : Nat} (h : j < R.length) (x : Int) (v : Value) (e p : Int) : (Cel.res R v e p).cells.set j (.int .u32 x) = (Cel.res (R.set j x) v e p).cells := by
  simp only [Cel.cells]
  rw [List.set_append_left _ _ (by rw [rc_length]; exact h)]
  simp [rc, List.map_set]
theorem set_32 {R : List Int} (hR : R.length = 32) (u v : Value) (e p : Int) : (Cel.res R v e p).cells.set 32 u = (Cel.res R u e p).cells := by
  simp only [Cel.cells]; rw [List.set_append_right _ _ (by simp [rc, hR])]; simp [rc, hR]
theorem set_33 {R : List Int} (hR : R.length = 32) (u : Int) (v : Value) (e p : Int) : (Cel.res R v e p).cells.set 33 (.int .i64 u) = (Cel.res R v u p).cells := by
  simp only [Cel.cells]; rw [List.set_append_right _ _ (by simp [rc, hR])]; simp [rc, hR]
theorem set_34 {R : List Int} (hR : R.length = 32) (u : Int) (v : Value) (e p : Int) : (Cel.res R v e p).cells.set 34 (.int .i64 u) = (Cel.res R v e u).cells := by
  simp only [Cel.cells]; rw [List.set_append_right _ _ (by simp [rc, hR])]; simp [rc, hR]

/-! ### One block -/
def Blk (w : World) (b : Nat) (cs : List Value) : Prop := ∃ t, w.heap[b]? = some (.cells cs.toArray t (0, 0))
theorem Blk.lt {w : World} {b : Nat} {cs : List Value} (h : Blk w b cs) : b < w.heap.size := by
  obtain ⟨t, h⟩ := h
  exact (Array.getElem?_eq_some_iff.1 h).1
theorem Blk.kept {w w' : World} {b : Nat} {cs : List Value} (h : Blk w b cs) (hb : w'.heap[b]? = w.heap[b]?) : Blk w' b cs := by
  obtain ⟨t, h⟩ := h
  exact ⟨t, hb.trans h⟩
theorem Blk.cell {w : World} {b : Nat} {cs : List Value} (h : Blk w b cs) (j : Nat) : w.cell? ⟨b, j, none⟩ = cs[j]? := by
  obtain ⟨t, h⟩ := h
  rw [cell_of_row w b j _ t _ h]
  simp
theorem Blk.range {w : World} {b : Nat} {cs : List Value} (h : Blk w b cs) : w.rangeAt b 0 cs := fun j v hv => by
  rw [Nat.zero_add, h.cell]; exact hv
theorem Blk.frozen {w : World} {b : Nat} {cs : List Value} (h : Blk w b cs) (j : Nat) : w.frozen? ⟨b, j, none⟩ = false := by
  obtain ⟨t, h⟩ := h
  exact frozen_of_row w b j _ t h
theorem Blk.new (w : World) (cs : List Value) (t : TypeId) : Blk (w.alloc (.cells cs.toArray t)) w.heap.size cs := ⟨t, heap_alloc_new w _⟩
theorem Blk.set {w : World} {b : Nat} {cs : List Value} (h : Blk w b cs) (j : Nat) (v : Value) : Blk (w.setCell ⟨b, j, none⟩ v) b (cs.set j v) := by
  obtain ⟨t, h⟩ := h
  exact ⟨t, by rw [heap_setCell_same w b j _ t v h]; simp⟩

/-! ### All of them -/
structure Zn where
  Z : Nat → Prop
  J : World → Prop
  lo : Nat
  hi : Nat
structure Zn.ok (M : Zn) : Prop where
  st : ∀ w w', M.J w → w.heap.size ≤ w'.heap.size → (∀ k, M.Z k → k < w.heap.size → w'.heap[k]? = w.heap[k]?) → M.J w'
  zz : ∀ k, M.lo ≤ k → k < M.hi → M.Z k
def noZ : Zn := ⟨fun _ => False, fun _ => True, 0, 0⟩
theorem noZ_ok : noZ.ok := ⟨fun _ _ _ _ _ => trivial, fun k h1 h2 => by simp only [noZ] at h2; omega⟩
structure SH (M : Zn) (w0 w : World) (L : List (Nat × Cel)) : Prop where
  ok : M.ok
  inv : M.J w
  zb : ∀ k, M.Z k → k < w.heap.size
  mid : Mid M.lo M.hi w0 w
  blk : ∀ p ∈ L, Blk w p.1 p.2.cells
  out : ∀ p ∈ L, w0.heap.size ≤ p.1 ∧ ¬ M.Z p.1
  nd : ∀ (i j : Nat) (p q : Nat × Cel), L[i]? = some p → L[j]? = some q → p.1 = q.1 → i = j
theorem SH.start (w : World) : SH noZ w w [] := ⟨noZ_ok, trivial, fun k h => h.elim, Mid.refl _ _ _, fun p hp => (by cases hp), fun p hp => (by cases hp), fun i j p q h => (by simp at h)⟩
theorem SH.at {M : Zn} {w0 w : World} {L : List (Nat × Cel)} (S : SH M w0 w L) {i b : Nat} {c : Cel} (hL : L[i]? = some (b, c)) : Blk w b c.cells ∧ w0.heap.size ≤ b ∧ ¬ M.Z b :=
  ⟨S.blk _ (List.mem_of_getElem? hL), S.out _ (List.mem_of_getElem? hL)⟩
theorem SH.below {M : Zn} {w0 w w1 : World} {L : List (Nat × Cel)} (S : SH M w0 w L) (hb : Below w.heap.size w w1) : SH M w0 w1 L :=
  ⟨S.ok, S.ok.st w w1 S.inv hb.size (fun k _ hk => hb.block k hk), fun k hk => Nat.lt_of_lt_of_le (S.zb k hk) hb.size,
    S.mid.trans ⟨hb.os, hb.tape, hb.output, hb.size, fun k hk _ => hb.block k hk⟩, fun p hp => (S.blk p hp).kept (hb.block _ (S.blk p hp).lt), S.out, S.nd⟩
theorem SH.drew {M : Zn} {w0 w : World} {L : List (Nat × Cel)} (S : SH M w0 w L) : SH M w0 w.drew L := S.below (Below.refl _ _).drew
theorem SH.new {M : Zn} {w0 w : World} {L : List (Nat × Cel)} (S : SH M w0 w L) (c : Cel) (t : TypeId) : SH M w0 (w.alloc (.cells c.cells.toArray t)) ((w.heap.size, c) :: L) := by
  have S1 := S.below ((Below.refl w.heap.size w).alloc (Nat.le_refl _) (.cells c.cells.toArray t))
  refine ⟨S1.ok, S1.inv, S1.zb, S1.mid, fun p hp => ?_, fun p hp => ?_, ?_⟩
  · rcases List.mem_cons.1 hp with rfl | hp
    · exact Blk.new w _ t
    · exact S1.blk p hp
  · rcases List.mem_cons.1 hp with rfl | hp
    · exact ⟨S.mid.size, fun h => absurd (S.zb _ h) (Nat.lt_irrefl _)⟩
    · exact S1.out p hp
  · intro i j p q hi hj he
    have key : ∀ (m : Nat) (r : Nat × Cel), L[m]? = some r → r.1 < w.heap.size := fun m r hm => (S.blk r (List.mem_of_getElem? hm)).lt
    cases i with
    | zero =>
      cases j with
      | zero => rfl
      | succ j =>
        simp only [List.getElem?_cons_zero, Option.some.injEq, List.getElem?_cons_succ] at hi hj
        subst hi
        have := key j q hj
        simp only at he
        omega
    | succ i =>
      cases j with
      | zero =>
        simp only [List.getElem?_cons_zero, Option.some.injEq, List.getElem?_cons_succ] at hi hj
        subst hj
        have := key i p hi
        simp only at he
        omega
      | succ j =>
        simp only [List.getElem?_cons_succ] at hi hj
        rw [S.nd i j p q hi hj he]
/-- One block is written. -/
structure Upd (b : Nat) (w w1 : World) : Prop where
  os : w1.os = w.os
  tape : w1.tape = w.tape
  output : w1.output = w.output
  size : w1.heap.size = w.heap.size
  block : ∀ k, k ≠ b → w1.heap[k]? = w.heap[k]?
theorem Upd.setCell (w : World) (b j : Nat) (v : Value) : Upd b w (w.setCell ⟨b, j, none⟩ v) :=
  ⟨rfl, rfl, rfl, by simp [World.setCell], fun k hk => heap_setCell_other w ⟨b, j, none⟩ k v hk⟩
theorem Upd.setRow (w : World) (b : Nat) (cs : Array Value) : Upd b w (w.setRow b cs) :=
  ⟨rfl, rfl, rfl, by simp, fun k hk => setRow_other w b k _ hk⟩
theorem SH.upd {M : Zn} {w0 w w1 : World} {L : List (Nat × Cel)} (S : SH M w0 w L) {i b : Nat} {c : Cel} (c' : Cel) (hL : L[i]? = some (b, c)) (hu : Upd b w w1) (hb : Blk w1 b c'.cells) : SH M w0 w1 (L.set i (b, c')) := by
  obtain ⟨h1, h2, h3⟩ := S.at hL
  have hi' := (List.getElem?_eq_some_iff.1 hL).1
  have key : ∀ (j : Nat) (p : Nat × Cel), (L.set i (b, c'))[j]? = some p → (j = i ∧ p = (b, c')) ∨ (j ≠ i ∧ L[j]? = some p) := by
    intro j p hj
    rw [List.getElem?_set] at hj
    split at hj
    · rename_i h
      subst h
      simp only [hi', if_true, Option.some.injEq] at hj
      exact .inl ⟨rfl, hj.symm⟩
    · rename_i h
      exact .inr ⟨fun e => h e.symm, hj⟩
  refine ⟨S.ok, S.ok.st w w1 S.inv (by rw [hu.size]; exact Nat.le_refl _) (fun k hk _ => hu.block k (fun e => h3 (e ▸ hk))), fun k hk => by rw [hu.size]; exact S.zb k hk,
    ⟨hu.os.trans S.mid.os, hu.tape.trans S.mid.tape, hu.output.trans S.mid.output, by rw [hu.size]; exact S.mid.size, fun k hk hk2 => (hu.block k (by omega)).trans (S.mid.block k hk hk2)⟩, fun p hp => ?_, fun p hp => ?_, ?_⟩
  · obtain ⟨j, hj⟩ := List.getElem?_of_mem hp
    rcases key j p hj with ⟨_, rfl⟩ | ⟨hne, hj⟩
    · exact hb
    · refine (S.blk p (List.mem_of_getElem? hj)).kept (hu.block _ fun e => hne (S.nd j i p (b, c) hj hL e))
  · obtain ⟨j, hj⟩ := List.getElem?_of_mem hp
    rcases key j p hj with ⟨_, rfl⟩ | ⟨hne, hj⟩
    · exact ⟨h2, h3⟩
    · exact S.out p (List.mem_of_getElem? hj)
  · intro j m p q hj hm he
    rcases key j p hj with ⟨e1, rfl⟩ | ⟨hne, hj'⟩ <;> rcases key m q hm with ⟨e2, rfl⟩ | ⟨hne', hm'⟩
    · rw [e1, e2]
    · exact absurd (S.nd _ _ _ _ hL hm' he).symm hne'
    · exact absurd (S.nd _ _ _ _ hj' hL he) hne
    · exact S.nd _ _ _ _ hj' hm' he
/-- What is told of the memory turns, and what lies elsewhere stays. -/
theorem SH.turn {M M' : Zn} {w0 w w1 : World} {L : List (Nat × Cel)} (S : SH M w0 w L) (ok : M'.ok) (inv : M'.J w1) (zb : ∀ k, M'.Z k → k < w1.heap.size) (mid : Mid M'.lo M'.hi w0 w1)
    (hk : ∀ p ∈ L, w1.heap[p.1]? = w.heap[p.1]?) (hz : ∀ p ∈ L, ¬ M'.Z p.1) : SH M' w0 w1 L :=
  ⟨ok, inv, zb, mid, fun p hp => (S.blk p hp).kept (hk p hp), fun p hp => ⟨(S.out p hp).1, hz p hp⟩, S.nd⟩
/-- Some are forgotten. -/
theorem SH.fewer {M : Zn} {w0 w : World} {L : List (Nat × Cel)} (S : SH M w0 w L) (k : Nat) : SH M w0 w (L.drop k) :=
  ⟨S.ok, S.inv, S.zb, S.mid, fun p hp => S.blk p (List.mem_of_mem_drop hp), fun p hp => S.out p (List.mem_of_mem_drop hp), fun i j p q hi hj he => by
    rw [List.getElem?_drop] at hi hj
    have := S.nd _ _ p q hi hj he
    omega⟩
theorem SH.low {w0 w : World} {L : List (Nat × Cel)} (S : SH noZ w0 w L) : Below w0.heap.size w0 w :=
  ⟨S.mid.os, S.mid.tape, S.mid.output, S.mid.size, fun k hk => S.mid.block k hk (.inr (Nat.zero_le _))⟩

/-! ### The operations -/
section
variable {P : Program} {M : Zn} {w0 w : World} {L : List (Nat × Cel)} {ops : Array Oper} {rest : List Oper} {o : Oper} {a : Act} {Q : Exit → Act → World → Prop}
theorem SH.box (S : SH M w0 w L) (hgd : o.guard = none) (ty : TypeId) (x : Operand) (ho : o.op = .box ty x) (c : Cel) (hx : a.eval x = c.val)
    (h : ∀ b w1, SH M w0 w1 ((b, c) :: L) → wpList P ops Q rest (a.put o.dst (.pointer (some ⟨b, 0, none⟩))) w1) : wpList P ops Q (o :: rest) a w :=
  wpList_plain hgd fun K hK => by
    unfold Oper.wp execOp
    have hr : (Instr.box ty c.val).run P w = .ok (.pointer (some ⟨w.heap.size, 0, none⟩)) (w.alloc (.cells c.cells.toArray ty)) := by
      simp [Instr.box, newVar, newRow, Cel.val, Value.cells]
    simp only [ho, hx, Sem.run_bind, hr, Result.andThen_ok, Sem.run_pure]
    exact hK _ _ (h _ _ (S.new c ty))
theorem SH.alloc (S : SH M w0 w L) (hgd : o.guard = none) (ty : TypeId) (ho : o.op = .alloc ty) (c : Cel) (hz : (P.info? ty).map (fun i => i.zero) = some (some c.val))
    (h : ∀ b w1, SH M w0 w1 ((b, c) :: L) → wpList P ops Q rest (a.put o.dst (.pointer (some ⟨b, 0, none⟩))) w1) : wpList P ops Q (o :: rest) a w :=
  wpList_plain hgd fun K hK => by
    unfold Oper.wp execOp
    have hr : (Instr.alloc ty true (.tuple #[])).run P w = .ok (.pointer (some ⟨w.heap.size, 0, none⟩)) (w.alloc (.cells c.cells.toArray ty)) := by
      cases hq : P.info? ty with
      | none => simp [hq] at hz
      | some i =>
        simp [hq] at hz
        simp [Instr.alloc, zeroValue, typeInfo, hq, hz, newVar, newRow, Cel.val, Value.cells]
    simp only [ho, Sem.run_bind, hr, Result.andThen_ok, Sem.run_pure]
    exact hK _ _ (h _ _ (S.new c ty))
theorem run_load1 (w : World) (b j : Nat) (ty : TypeId) (v : Value) (d : TypeDesc) (hc : w.cell? ⟨b, j, none⟩ = some v) (hu : P.underlying ty = some d) (hd : d.isRow = false) :
    (Instr.loadAt ty (.pointer (some ⟨b, j, none⟩))).run P w = .ok v w := by
  have hagg : (isAgg ty).run P w = .ok false w := by
    unfold isAgg
    rw [Sem.run_bind, run_underlying hu w]
    cases d <;> simp_all
  simp [Instr.loadAt, Instr.sureAddr, loadVar, Sem.run_bind, hagg, hc]
theorem SH.load1 (S : SH M w0 w L) (hw : Region.wanted o (yielded ops a.tmps) = true) (ty : TypeId) (x : Operand) (ho : o.op = .load ty x) (b j : Nat) (hx : a.eval x = .pointer (some ⟨b, j, none⟩)) (i : Nat) (c : Cel) (hL : L[i]? = some (b, c))
    (v : Value) (hv : c.cells[j]? = some v) (d : TypeDesc) (hu : P.underlying ty = some d) (hd : d.isRow = false)
    (h : wpList P ops Q rest (a.put o.dst v) w) : wpList P ops Q (o :: rest) a w :=
  wpList_step fun K hK => by
    rw [if_pos hw]
    unfold Oper.wp execOp
    simp only [ho, hx, Sem.run_bind, run_load1 w b j ty v d (((S.at hL).1.cell j).trans hv) hu hd, Result.andThen_ok, Sem.run_pure]
    exact hK _ _ h
theorem SH.loadAll (S : SH M w0 w L) (hw : Region.wanted o (yielded ops a.tmps) = true) (ty : TypeId) (x : Operand) (ho : o.op = .load ty x) (b : Nat) (hx : a.eval x = .pointer (some ⟨b, 0, none⟩)) (i : Nat) (c : Cel) (hL : L[i]? = some (b, c))
    (d : TypeDesc) (hu : P.underlying ty = some d) (hd : d.isRow = true) (hi : (P.info? ty).map (·.size) = some c.cells.length)
    (h : wpList P ops Q rest (a.put o.dst c.val) w) : wpList P ops Q (o :: rest) a w :=
  wpList_step fun K hK => by
    rw [if_pos hw]
    exact wp_load_mid ty x ho b 0 hx c.cells d (S.at hL).1.range hu hd hi (hK _ _ h)
theorem SH.loadRegs (S : SH M w0 w L) (hgd : o.guard = none) (ty : TypeId) (x : Operand) (ho : o.op = .load ty x) (b : Nat) (hx : a.eval x = .pointer (some ⟨b, 0, none⟩)) (i : Nat) (R : List Int) (v : Value) (e p : Int) (hL : L[i]? = some (b, .res R v e p))
    (d : TypeDesc) (hu : P.underlying ty = some d) (hd : d.isRow = true) (hi : (P.info? ty).map (·.size) = some (rc R).length)
    (h : wpList P ops Q rest (a.put o.dst (Cel.regs R).val) w) : wpList P ops Q (o :: rest) a w :=
  wpList_load_mid hgd ty x ho b 0 hx (rc R) d (fun j u hu' => (S.at hL).1.range j u (by
    have hj := (List.getElem?_eq_some_iff.1 hu').1
    simp only [Cel.cells]
    rw [List.getElem?_append_left hj]
    exact hu')) hu hd hi h
theorem run_store1 (w : World) (b j : Nat) (ty : TypeId) (v u : Value) (hc : w.cell? ⟨b, j, none⟩ = some u) (hf : w.frozen? ⟨b, j, none⟩ = false) (h1 : v.oneCell' = true) (hi : (P.info? ty).map (·.size) = some 1) :
    (Instr.storeAt ty (.pointer (some ⟨b, j, none⟩)) v).run P w = .ok () (w.setCell ⟨b, j, none⟩ v) := by
  have z : ∀ k : Nat, k < [v].length → k = 0 := fun k hk => by simpa using hk
  have := run_storeCells_cells (P := P) b j [v] 0 w (fun k hk => by rw [z k hk]; simp [hc]) (fun k hk => by rw [z k hk]; simpa using hf) (fun x hx => by rw [List.mem_singleton.1 hx]; exact h1)
  cases hq : P.info? ty with
  | none => simp [hq] at hi
  | some i =>
    have hs : i.size = 1 := by simpa [hq] using hi
    have hv : v.cells = #[v] := by cases v <;> simp_all [Value.cells, Value.oneCell']
    simp only [Nat.add_zero, World.setCells] at this
    simp [Instr.storeAt, Instr.sureAddr, storeVar, sizeOf, typeInfo, hq, hs, hv, this]
theorem SH.store1 (S : SH M w0 w L) (hgd : o.guard = none) (ty : TypeId) (x y : Operand) (ho : o.op = .store ty x y) (b j : Nat) (v : Value) (hx : a.eval x = .pointer (some ⟨b, j, none⟩)) (hy : a.eval y = v) (i : Nat) (c : Cel) (hL : L[i]? = some (b, c))
    (h1 : v.oneCell' = true) (hj : j < c.cells.length) (c' : Cel) (hc : c.cells.set j v = c'.cells) (hi : (P.info? ty).map (·.size) = some 1)
    (h : ∀ w1, SH M w0 w1 (L.set i (b, c')) → wpList P ops Q rest (a.put o.dst undef) w1) : wpList P ops Q (o :: rest) a w :=
  wpList_plain hgd fun K hK => by
    unfold Oper.wp execOp
    obtain ⟨hb, _⟩ := S.at hL
    have hcell := (hb.cell j).trans (List.getElem?_eq_getElem hj)
    simp only [ho, hx, hy, Sem.run_bind, run_store1 w b j ty v _ hcell (hb.frozen j) h1 hi, Result.andThen_ok, Sem.run_pure]
    exact hK _ _ (h _ (S.upd c' hL (Upd.setCell w b j v) (by rw [← hc]; exact hb.set j v)))
theorem SH.storeAll (S : SH M w0 w L) (hgd : o.guard = none) (ty : TypeId) (x y : Operand) (ho : o.op = .store ty x y) (b : Nat) (c' : Cel) (hx : a.eval x = .pointer (some ⟨b, 0, none⟩)) (hy : a.eval y = c'.val) (i : Nat) (c : Cel) (hL : L[i]? = some (b, c))
    (hl : c.cells.length = c'.cells.length) (h1 : ∀ v ∈ c'.cells, v.oneCell' = true) (hi : (P.info? ty).map (·.size) = some c'.cells.length)
    (h : ∀ w1, SH M w0 w1 (L.set i (b, c')) → wpList P ops Q rest (a.put o.dst undef) w1) : wpList P ops Q (o :: rest) a w :=
  wpList_plain hgd fun K hK => by
    unfold Oper.wp execOp
    obtain ⟨⟨t, hb⟩, _⟩ := S.at hL
    have hr := run_storeVar_row (P := P) w b t ty c.cells.toArray c'.cells.toArray hb (by simpa using hi) (by simpa using hl) (all_oneCell_toArray h1)
    simp only [ho, hx, hy, Cel.val, Sem.run_bind, Instr.storeAt, Instr.sureAddr, Sem.run_pure, Result.andThen_ok, hr]
    exact hK _ _ (h _ (S.upd c' hL (Upd.setRow w b _) ⟨t, setRow_heap w b _ _ t _ hb⟩))
theorem SH.wpStoreAll (S : SH M w0 w L) (ty : TypeId) (x y : Operand) (ho : o.op = .store ty x y) (b : Nat) (c' : Cel) (hx : a.eval x = .pointer (some ⟨b, 0, none⟩)) (hy : a.eval y = c'.val) (i : Nat) (c : Cel) (hL : L[i]? = some (b, c))
    (hl : c.cells.length = c'.cells.length) (h1 : ∀ v ∈ c'.cells, v.oneCell' = true) (hi : (P.info? ty).map (·.size) = some c'.cells.length) {K : Act → World → Prop}
    (h : ∀ w1, SH M w0 w1 (L.set i (b, c')) → K (a.put o.dst undef) w1) : o.wp P a w K Q := by
  unfold Oper.wp execOp
  obtain ⟨⟨t, hb⟩, _⟩ := S.at hL
  have hr := run_storeVar_row (P := P) w b t ty c.cells.toArray c'.cells.toArray hb (by simpa using hi) (by simpa using hl) (all_oneCell_toArray h1)
  simp only [ho, hx, hy, Cel.val, Sem.run_bind, Instr.storeAt, Instr.sureAddr, Sem.run_pure, Result.andThen_ok, hr]
  exact h _ (S.upd c' hL (Upd.setRow w b _) ⟨t, setRow_heap w b _ _ t _ hb⟩)
theorem SH.wpStore1 (S : SH M w0 w L) (ty : TypeId) (x y : Operand) (ho : o.op = .store ty x y) (b j : Nat) (v : Value) (hx : a.eval x = .pointer (some ⟨b, j, none⟩)) (hy : a.eval y = v) (i : Nat) (c : Cel) (hL : L[i]? = some (b, c))
    (h1 : v.oneCell' = true) (hj : j < c.cells.length) (c' : Cel) (hc : c.cells.set j v = c'.cells) (hi : (P.info? ty).map (·.size) = some 1) {K : Act → World → Prop}
    (h : ∀ w1, SH M w0 w1 (L.set i (b, c')) → K (a.put o.dst undef) w1) : o.wp P a w K Q := by
  unfold Oper.wp execOp
  obtain ⟨hb, _⟩ := S.at hL
  have hcell := (hb.cell j).trans (List.getElem?_eq_getElem hj)
  simp only [ho, hx, hy, Sem.run_bind, run_store1 w b j ty v _ hcell (hb.frozen j) h1 hi, Result.andThen_ok, Sem.run_pure]
  exact h _ (S.upd c' hL (Upd.setCell w b j v) (by rw [← hc]; exact hb.set j v))
theorem SH.results (S : SH M w0 w L) {fn : Func} {p : Tmp} {ty : TypeId} (hfn : fn.results = #[.cell p ty]) (tmps : Array Value) (b : Nat) (hp : tmps.getD p undef = .pointer (some ⟨b, 0, none⟩)) (i : Nat) (c : Cel) (hL : L[i]? = some (b, c))
    (d : TypeDesc) (hu : P.underlying ty = some d) (hd : d.isRow = true) (hi : (P.info? ty).map (·.size) = some c.cells.length) : (results fn tmps).run P w = .ok c.val w := by
  obtain ⟨⟨t, hb⟩, _⟩ := S.at hL
  exact results_cell_row hfn tmps w b t _ _ d hp hb hu (by cases d <;> simp_all) (by simpa using hi)
end
theorem one_res {R : List Int} {v : Value} {e p : Int} (hv : v.oneCell' = true) : ∀ u ∈ (Cel.res R v e p).cells, u.oneCell' = true := by
  intro u hu
  simp only [Cel.cells, rc, List.mem_append, List.mem_map, List.mem_cons, List.not_mem_nil, or_false] at hu
  rcases hu with ⟨x, _, rfl⟩ | rfl | rfl | rfl
  · rfl
  · exact hv
  · rfl
  · rfl
theorem one_regs {R : List Int} : ∀ u ∈ (Cel.regs R).cells, u.oneCell' = true := by
  intro u hu
  obtain ⟨x, _, rfl⟩ := List.mem_map.1 hu
  rfl
end Go.Proofs.YtjhmmfpmmgebjaaGreat
namespace Go.Proofs.YtjhmmfpmmgebjaaGreat
open Go.ChangeShapes Go.WideShapes Go.ChangeAt Go.RowKit
set_option linter.unusedVariables false
set_option linter.unusedSimpArgs false

theorem szRes : (Tryz.prog.info? 49).map (·.size) = some 35 := by kernel_rfl
theorem szRegs : (Tryz.prog.info? 27).map (·.size) = some 32 := by kernel_rfl
theorem szHost : (Tryz.prog.info? 31).map (·.size) = some 6 := by kernel_rfl
theorem szEv : (Tryz.prog.info? 59).map (·.size) = some 3 := by kernel_rfl
theorem szU : (Tryz.prog.info? 26).map (·.size) = some 1 := by kernel_rfl
theorem szI : (Tryz.prog.info? 3).map (·.size) = some 1 := by kernel_rfl
theorem zeroRes : (Tryz.prog.info? 49).map (fun i => i.zero) = some (some (Cel.res (List.replicate 32 0) (.slice none 0 0) 0 0).val) := by kernel_rfl

set_option maxHeartbeats 1000000 in
set_option maxRecDepth 100000 in
theorem set_c (R : List Int) (v : Value) (e p d x : Int) (hR : R.length = 32) (hv : v.oneCell' = true) (hd0 : 0 ≤ d) (hd1 : d < 32) (hp0 : -4611686018427387904 ≤ p) (hp1 : p ≤ 4611686018427387904) (w : World) :
    Calls Tryz.prog 24 #[(Cel.res R v e p).val, .int .i64 d, .int .u32 x] w fun en w' => en = .returned (Cel.res (R.set d.toNat x) v e (p + 1)).val ∧ Below w.heap.size w w' := by
  have S := SH.start w
  have hl : ∀ (x : Int), (R.set d.toNat x).length = 32 := fun x => by simp [hR]
  go_enter Tryz.func24, Tryz.ntmps24
  go_wp2_with (first
    | (refine S.box rfl _ _ rfl (Cel.res R v e p) rfl ?_; clear S; intro b1 w S)
    | (refine S.alloc rfl 49 rfl _ zeroRes ?_; clear S; intro b2 w S)
    | (refine S.store1 rfl 26 _ _ rfl _ d.toNat _ rfl rfl 1 _ rfl rfl (by rw [res_length hR]; omega) _ (set_reg (by omega) x v e p) szU ?_; clear S; intro w S; simp only [List.set_cons_zero, List.set_cons_succ] at S)
    | (refine S.load1 rfl 3 _ rfl _ 34 rfl 1 _ rfl _ (res_34 (hl x) _ _ _) _ Tryz.underlying3 rfl ?_)
    | (refine S.store1 rfl 3 _ _ rfl _ 34 _ rfl rfl 1 _ rfl rfl (by rw [res_length (hl x)]; omega) _ (set_34 (hl x) _ _ _ _) szI ?_; clear S; intro w S; simp only [List.set_cons_zero, List.set_cons_succ] at S)
    | (refine S.loadAll rfl 49 _ rfl _ rfl 1 _ rfl _ Tryz.underlying49 rfl (by rw [res_length (hl x)]; exact szRes) ?_)
    | (refine S.storeAll rfl 49 _ _ rfl _ (Cel.res _ _ _ _) rfl rfl 0 _ rfl (by rw [res_length (hl x), res_length (by simp)]) (one_res hv) (by rw [res_length (hl x)]; exact szRes) ?_; clear S; intro w S; simp only [List.set_cons_zero, List.set_cons_succ] at S))
  refine bodyPost_ret (S.results rfl _ _ rfl 0 _ rfl _ Tryz.underlying49 rfl (by rw [res_length (hl x)]; exact szRes)) rfl ?_
  exact ⟨rfl, S.low⟩
end Go.Proofs.YtjhmmfpmmgebjaaGreat
namespace Go.Proofs.YtjhmmfpmmgebjaaGreat
open Go.ChangeShapes Go.WideShapes Go.ChangeAt Go.RowKit
set_option linter.unusedVariables false
set_option linter.unusedSimpArgs false

section
variable {P : Program} {ops : Array Oper} {Q : Exit → Act → World → Prop} {md : Region.Mode} {S : World → Prop} {n : Nat}
/-- Whatever comes up next; S is owed behind each but the n-th. -/
def Upto (P : Program) (md : Region.Mode) (ops : Array Oper) (Q : Exit → Act → World → Prop) (S : World → Prop) (n : Nat) : Nat → Array Bool → Act → World → Prop
  | 0, l, a, w => Region.ready md ops l = [] ∧ Q .normal a w
  | k + 1, l, a, w => (Region.ready md ops l = [] → Q .normal a w) ∧ ∀ i, i ∈ Region.ready md ops l → wpOp P ops Q i (fun a' w' => (i ≠ n → S w') ∧ Upto P md ops Q S n k (l.setIfInBounds i true) a' w') a w
theorem Upto.any : ∀ (k : Nat) {l : Array Bool} {a : Act} {w : World}, Upto P md ops Q S n k l a w → wpAny P md ops Q k l a w
  | 0, _, _, _, h => h
  | k + 1, _, _, _, h => ⟨h.1, fun i hi => wpOp_mono (fun _ _ q => Upto.any k q.2) (h.2 i hi)⟩
/-- Who is not listed keeps those back that wait for it. -/
theorem waits {l : Array Bool} {i j : Nat} {oj : Oper} (hi : i ∈ Region.ready md ops l) (hj : j ∈ Region.ready md ops l) (ho : ops[j]? = some oj) : ∀ e ∈ oj.after, Region.binds md e = true → e.on ≠ i := by
  intro e he hb h
  obtain ⟨_, o, h1, h2⟩ := mem_ready.1 hj
  obtain ⟨h3, _⟩ := mem_ready.1 hi
  rw [ho] at h1
  cases h1
  have h4 := h2 e he hb
  rw [h] at h4
  by_cases hs : i < l.size
  · simp [hs] at h3 h4
    rw [h3] at h4
    cases h4
  · simp [Array.getElem?_eq_none (Nat.le_of_not_lt hs)] at h4
theorem Upto.first {i : Nat} {oi on : Oper} {v : Value} (hi : ops[i]? = some oi) (hn : ops[n]? = some on) (hw : ∃ e ∈ on.after, Region.binds md e = true ∧ e.on = i) (hne : i ≠ n)
    (hsel : ∀ (j : Nat) (o : Oper) cs b, ops[j]? = some o → o.op ≠ .select cs b) (hQ : ∀ c a w, Q (.panic c) (a.put oi.dst v) w → Q (.panic c) a w) :
    ∀ (k : Nat) (l : Array Bool) (a : Act) (w : World), (∀ j oj, ops[j]? = some oj → j ≠ i → l.getD j true = false → (∀ e ∈ oj.after, Region.binds md e = true → e.on ≠ i) → oi.apart ops oj = true) →
      i ∈ Region.ready md ops l → YieldsIf P ops S oi v a → S w → Upto P md ops Q S n k (l.setIfInBounds i true) (a.put oi.dst v) w → Upto P md ops Q S n (k + 1) l a w := by
  intro k
  induction k with
  | zero =>
    intro l a w hf hr hy hS H
    refine ⟨fun h => absurd (h ▸ hr) (by simp), fun j hj => ?_⟩
    by_cases hji : j = i
    · rw [hji]
      exact hy.wpOp hi hS ⟨fun _ => hS, H⟩
    · exact absurd (H.1 ▸ ready_mono hj hji) (by simp)
  | succ k ih =>
    intro l a w hf hr hy hS H
    refine ⟨fun h => absurd (h ▸ hr) (by simp), fun j hj => ?_⟩
    by_cases hji : j = i
    · rw [hji]
      exact hy.wpOp hi hS ⟨fun _ => hS, H⟩
    · obtain ⟨hun, oj, hoj, _⟩ := mem_ready.1 hj
      have hno := waits hr hj hoj
      have hjn : j ≠ n := by
        rintro rfl
        rw [hn] at hoj
        cases hoj
        obtain ⟨e, h1, h2, h3⟩ := hw
        exact hno e h1 h2 h3
      refine wpOp_mono (fun a' w' q => ?_) (wpOp_putIf hoj (hf j oj hoj hji hun hno) (fun cs b => hsel i oi cs b hi) (fun cs b => hsel j oj cs b hoj) hQ hy (H.2 j (ready_mono hj hji)))
      have hS' := q.2.1 hjn
      refine ⟨fun _ => hS', ih _ a' w' (fun m om hm hmi hmu hmn => hf m om hm hmi ?_ hmn) (ready_mono hr (Ne.symm hji)) q.1 hS' ?_⟩
      · by_cases hjm : j = m
        · rw [← hjm]; exact hun
        · rwa [getD_set_ne true hjm] at hmu
      · rw [Array.setIfInBounds_comm _ _ hji]
        exact q.2.2
/-- The n-th waits for the i-th. -/
def waitsB (md : Region.Mode) (ops : Array Oper) (n i : Nat) : Bool := match ops[n]? with
  | some o => o.after.any fun e => Region.binds md e && e.on == i
  | none => false
theorem Upto.take {i : Nat} {oi : Oper} {v : Value} {k : Nat} {l : Array Bool} {a : Act} {w : World} (hi : ops[i]? = some oi) (hwt : (waitsB md ops n i && i != n) = true)
    (hs : Region.noSelect ops = true) (hf : Region.free md ops l i = true) (hr : (Region.ready md ops l).contains i = true)
    (hQ : ∀ c a w, Q (.panic c) (a.put oi.dst v) w → Q (.panic c) a w) (hy : YieldsIf P ops S oi v a) (hS : S w)
    (h : Upto P md ops Q S n k (l.setIfInBounds i true) (a.put oi.dst v) w) : Upto P md ops Q S n (k + 1) l a w := by
  simp only [Bool.and_eq_true, bne_iff_ne, waitsB] at hwt
  obtain ⟨h1, h2⟩ := hwt
  cases hn : ops[n]? with
  | none => rw [hn] at h1; cases h1
  | some on =>
    rw [hn] at h1
    simp only [Array.any_eq_true', Bool.and_eq_true, beq_iff_eq] at h1
    exact Upto.first hi hn h1 h2 (Region.noSelect_spec hs) hQ k l a w (Region.free_spec hi hf) (by simpa using hr) hy hS h
theorem Upto.done {l : Array Bool} {a : Act} {w : World} (hr : Region.ready md ops l = []) (h : Q .normal a w) : ∀ k, Upto P md ops Q S n k l a w
  | 0 => ⟨hr, h⟩
  | _ + 1 => ⟨fun _ => h, fun i hi => by rw [hr] at hi; cases hi⟩
theorem Upto.start (n : Nat) {id : Nat} {a : Act} {w : World} (hm : P.follows .mixedOrders = true) (h : Upto P .any ops Q S n ops.size (Array.replicate ops.size false) a w.drew) : (Code.region id ops true).wp P Q a w :=
  wp_region_any hm (Upto.any _ h)
def Nexts (P : Program) (md : Region.Mode) (ops : Array Oper) (Q : Exit → Act → World → Prop) (S : World → Prop) (n k : Nat) (l : Array Bool) (a : Act) (w : World) (rs : List Nat) : Prop :=
  ∀ i ∈ rs, wpOp P ops Q i (fun a' w' => (i ≠ n → S w') ∧ Upto P md ops Q S n k (l.setIfInBounds i true) a' w') a w
theorem Nexts.nil {k : Nat} {l : Array Bool} {a : Act} {w : World} : Nexts P md ops Q S n k l a w [] := fun _ h => by cases h
theorem Nexts.cons {k : Nat} {l : Array Bool} {a : Act} {w : World} {i : Nat} {o : Oper} {rs : List Nat} (ho : ops[i]? = some o) (hin : i ≠ n)
    (h : ∀ K' : Act → World → Prop, Shut (∀ a w, S w → Upto P md ops Q S n k (l.setIfInBounds i true) a w → K' a w) → if Region.wanted o (yielded ops a.tmps) = true then Oper.wp P o a w K' Q else K' (a.put o.dst undef) w)
    (hs : Nexts P md ops Q S n k l a w rs) : Nexts P md ops Q S n k l a w (i :: rs) := fun j hj => by
  rcases List.mem_cons.1 hj with rfl | hj
  · exact wpOp_step ho (fun K' hK => h K' (fun a w hS hW => hK a w ⟨fun _ => hS, hW⟩))
  · exact hs j hj
/-- The n-th itself. -/
theorem Nexts.last {k : Nat} {l : Array Bool} {a : Act} {w : World} {o : Oper} (ho : ops[n]? = some o)
    (h : ∀ K' : Act → World → Prop, Shut (∀ a w, Upto P md ops Q S n k (l.setIfInBounds n true) a w → K' a w) → if Region.wanted o (yielded ops a.tmps) = true then Oper.wp P o a w K' Q else K' (a.put o.dst undef) w) :
    Nexts P md ops Q S n k l a w [n] := fun j hj => by
  have : j = n := by simpa using hj
  subst this
  exact wpOp_step ho (fun K' hK => h K' (fun a w hW => hK a w ⟨fun e => absurd rfl e, hW⟩))
theorem Upto.ready {rs : List Nat} {k : Nat} {l : Array Bool} {a : Act} {w : World} (hr : Region.ready md ops l = rs) (hne : rs ≠ []) (h : Nexts P md ops Q S n k l a w rs) : Upto P md ops Q S n (k + 1) l a w :=
  ⟨fun h0 => absurd (hr ▸ h0) hne, fun i hi => h i (hr ▸ hi)⟩
end

/-! ### What the loads of such a region yield -/
section
variable {P : Program} {M : Zn} {w0 : World} {L : List (Nat × Cel)} {ops : Array Oper} {o : Oper} {a : Act}
theorem y_load1 (hw : Region.wanted o (yielded ops a.tmps) = true) (ty : TypeId) (x : Operand) (ho : o.op = .load ty x) (b j : Nat) (hx : a.eval x = .pointer (some ⟨b, j, none⟩)) (i : Nat) (c : Cel) (hL : L[i]? = some (b, c))
    (v : Value) (hv : c.cells[j]? = some v) (d : TypeDesc) (hu : P.underlying ty = some d) (hd : d.isRow = false) : YieldsIf P ops (fun w' => SH M w0 w' L) o v a :=
  .inl ⟨hw, fun w S => by
    unfold execOp
    simp only [ho, hx, Sem.run_bind, run_load1 w b j ty v d (((S.at hL).1.cell j).trans hv) hu hd, Result.andThen_ok, Sem.run_pure]⟩
theorem y_loadAll (hw : Region.wanted o (yielded ops a.tmps) = true) (ty : TypeId) (x : Operand) (ho : o.op = .load ty x) (b : Nat) (hx : a.eval x = .pointer (some ⟨b, 0, none⟩)) (i : Nat) (c : Cel) (hL : L[i]? = some (b, c))
    (d : TypeDesc) (hu : P.underlying ty = some d) (hd : d.isRow = true) (hi : (P.info? ty).map (·.size) = some c.cells.length) : YieldsIf P ops (fun w' => SH M w0 w' L) o c.val a :=
  yieldsIf_load_mid hw ty x ho b 0 hx c.cells d (fun w S => (S.at hL).1.range) hu hd hi
theorem y_loadRegs (hw : Region.wanted o (yielded ops a.tmps) = true) (ty : TypeId) (x : Operand) (ho : o.op = .load ty x) (b : Nat) (hx : a.eval x = .pointer (some ⟨b, 0, none⟩)) (i : Nat) (R : List Int) (v : Value) (e p : Int) (hL : L[i]? = some (b, .res R v e p))
    (d : TypeDesc) (hu : P.underlying ty = some d) (hd : d.isRow = true) (hi : (P.info? ty).map (·.size) = some (rc R).length) : YieldsIf P ops (fun w' => SH M w0 w' L) o (Cel.regs R).val a :=
  yieldsIf_load_mid hw ty x ho b 0 hx (rc R) d (fun w S j u hu' => (S.at hL).1.range j u (by
    have hj := (List.getElem?_eq_some_iff.1 hu').1
    simp only [Cel.cells]
    rw [List.getElem?_append_left hj]
    exact hu')) hu hd hi
end
end Go.Proofs.YtjhmmfpmmgebjaaGreat
namespace Go.Proofs.YtjhmmfpmmgebjaaGreat
open Go.ChangeShapes Go.WideShapes Go.ChangeAt Go.RowKit
set_option linter.unusedVariables false
set_option linter.unusedSimpArgs false

def okU (x : Int) : Prop := 0 ≤ x ∧ x < 4294967296
def okR (R : List Int) : Prop := R.length = 32 ∧ ∀ x ∈ R, okU x
def regv (R : List Int) (i : Int) : Int := R.getD i.toNat 0
def HOk (h : HV) : Prop := (0 ≤ h.d ∧ h.d < 32) ∧ (0 ≤ h.a ∧ h.a < 32) ∧ (0 ≤ h.b ∧ h.b < 32) ∧ (0 ≤ h.c ∧ h.c < 32) ∧ okU h.im
def reckS (o a b c im : Int) : Int :=
  if o = 1 then im else if o = 2 then a else if o = 3 then (a + b) % 4294967296 else if o = 4 then (a - b) % 4294967296 else if o = 5 then bits .and .u32 a b else if o = 6 then bits .or .u32 a b else if o = 7 then bits .xor .u32 a b
  else if o = 8 then (shiftS a 1 (b % 32) false).1 else if o = 9 then (shiftS a 2 (b % 32) false).1 else if o = 10 then (shiftS a 3 (b % 32) false).1 else if o = 11 then (shiftS a 4 (b % 32) false).1
  else if o = 12 then a * b % 4294967296 else if o = 13 then mulS a b false / 4294967296 % 4294967296 else if o = 14 then mulS a b true / 4294967296 % 4294967296 else if o = 15 then divuS a b else if o = 16 then divsS a b
  else if o = 17 then clzS a else if o = 18 then (if a < b then 1 else 0) else if o = 19 then (if wrap32 a < wrap32 b then 1 else 0) else if o = 20 then (if a = b then 1 else 0) else (if c ≠ 0 then a else b)

theorem regv_at {R : List Int} (hR : okR R) {i : Int} (h0 : 0 ≤ i) (h1 : i < 32) : R[i.toNat]? = some (regv R i) ∧ okU (regv R i) := by
  have hi : i.toNat < R.length := by rw [hR.1]; omega
  have : regv R i = R[i.toNat] := by simp [regv, List.getD, hi]
  rw [this]
  exact ⟨List.getElem?_eq_getElem hi, hR.2 _ (List.getElem_mem hi)⟩
theorem okR_set {R : List Int} (hR : okR R) (i : Nat) {x : Int} (hx : okU x) : okR (R.set i x) := by
  refine ⟨by simp [hR.1], fun y hy => ?_⟩
  rcases List.mem_or_eq_of_mem_set hy with h | h
  · exact hR.2 y h
  · rw [h]; exact hx
theorem right_ok {h : HV} (hw : h.wf) (hr : rightS h = true) : HOk h ∧ 1 ≤ h.op ∧ h.op ≤ 31 := by
  have key : ∀ r u, regOk r u = true → 0 ≤ r ∧ r < 32 := by
    intro r u hu
    unfold regOk at hu
    cases u
    · simp at hu; omega
    · simp at hu; omega
  simp only [rightS, Bool.and_eq_true] at hr
  obtain ⟨h0, h1, h2, h3, h4, _⟩ := hr
  simp only [isS, Bool.and_eq_true, decide_eq_true_eq] at h0
  unfold HV.wf at hw
  exact ⟨⟨key _ _ h1, key _ _ h2, key _ _ h3, key _ _ h4, by unfold okU; omega⟩, by omega, by omega⟩
end Go.Proofs.YtjhmmfpmmgebjaaGreat
