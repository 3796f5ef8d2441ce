/- Local variables of many cells as blocks of the call's own (as in stage 6), for instructions. -/
import Derived.Test.YtbbkiiabjhgpkaaDoorIn2
import Derived.WalkKit
import Derived.ProofKit
import Derived.OpenShut
import Derived.Deep.MidRow
import Derived.Deep.RegionHeld3
import Derived.Deep.DrawnRows
import Derived.Laws.AppendOwnNone
import Derived.Deep.AppendLies
namespace Go.Proofs.YtbbkiiabjhgpkaaDoor
open Go.ChangeShapes Go.WideShapes Go.ChangeAt Go.RowKit
set_option linter.unusedVariables false
set_option linter.unusedSimpArgs false

/-- Alike but for the blocks from lo up to hi. -/
structure Mid (lo hi : Nat) (w w' : World) : Prop where
  os : w'.os = w.os
  tape : w'.tape = w.tape
  output : w'.output = w.output
  size : w.heap.size ≤ w'.heap.size
  block : ∀ k, k < w.heap.size → (k < lo ∨ hi ≤ k) → w'.heap[k]? = w.heap[k]?
theorem Mid.refl (lo hi : Nat) (w : World) : Mid lo hi w w := ⟨rfl, rfl, rfl, Nat.le_refl _, fun _ _ _ => rfl⟩
theorem Mid.trans {lo hi : Nat} {a b c : World} (h : Mid lo hi a b) (k : Mid lo hi b c) : Mid lo hi a c :=
  ⟨k.os.trans h.os, k.tape.trans h.tape, k.output.trans h.output, Nat.le_trans h.size k.size, fun i hi hk => (k.block i (Nat.lt_of_lt_of_le hi h.size) hk).trans (h.block i hi hk)⟩
theorem Mid.below {lo hi : Nat} {w w' : World} (h : Mid lo hi w w') (hl : lo ≤ w.heap.size) : Below lo w w' :=
  ⟨h.os, h.tape, h.output, h.size, fun k hk => h.block k (Nat.lt_of_lt_of_le hk hl) (.inl hk)⟩
theorem Below.mid {w w' : World} (h : Below w.heap.size w w') (lo hi : Nat) : Mid lo hi w w' :=
  ⟨h.os, h.tape, h.output, h.size, fun k hk _ => h.block k hk⟩

inductive Cel where
  | iv (i : IV)
  | any (cs : List Value)
def IV.cellsL (i : IV) : List Value := [.int .i64 i.op, .bool i.wide, .bool i.s, .int .i64 i.cond, .int .i64 i.d, .int .i64 i.n, .int .i64 i.m, .int .i64 i.a, .int .u32 i.imm, .bool i.useImm, .int .i64 i.sh, .int .i64 i.amt, .int .i64 i.list, .bool i.back, .bool i.down]
def Cel.cells : Cel → List Value
  | .iv i => i.cellsL
  | .any cs => cs
def Cel.val (c : Cel) : Value := .agg c.cells.toArray
theorem iv_val (i : IV) : i.val = (Cel.iv i).val := rfl
/-! ### One block -/
def Blk (w : World) (b : Nat) (cs : List Value) : Prop := ∃ t, w.heap[b]? = some (.cells cs.toArray t (0, 0))
theorem Blk.lt {w : World} {b : Nat} {cs : List Value} (h : Blk w b cs) : b < w.heap.size := by
  obtain ⟨t, h⟩ := h
  exact (Array.getElem?_eq_some_iff.1 h).1
theorem Blk.kept {w w' : World} {b : Nat} {cs : List Value} (h : Blk w b cs) (hb : w'.heap[b]? = w.heap[b]?) : Blk w' b cs := by
  obtain ⟨t, h⟩ := h
  exact ⟨t, hb.trans h⟩
theorem Blk.cell {w : World} {b : Nat} {cs : List Value} (h : Blk w b cs) (j : Nat) : w.cell? ⟨b, j, none⟩ = cs[j]? := by
  obtain ⟨t, h⟩ := h
  rw [cell_of_row w b j _ t _ h]
  simp
theorem Blk.range {w : World} {b : Nat} {cs : List Value} (h : Blk w b cs) : w.rangeAt b 0 cs := fun j v hv => by
  rw [Nat.zero_add, h.cell]; exact hv
theorem Blk.frozen {w : World} {b : Nat} {cs : List Value} (h : Blk w b cs) (j : Nat) : w.frozen? ⟨b, j, none⟩ = false := by
  obtain ⟨t, h⟩ := h
  exact frozen_of_row w b j _ t h
theorem Blk.new (w : World) (cs : List Value) (t : TypeId) : Blk (w.alloc (.cells cs.toArray t)) w.heap.size cs := ⟨t, heap_alloc_new w _⟩
theorem Blk.set {w : World} {b : Nat} {cs : List Value} (h : Blk w b cs) (j : Nat) (v : Value) : Blk (w.setCell ⟨b, j, none⟩ v) b (cs.set j v) := by
  obtain ⟨t, h⟩ := h
  exact ⟨t, by rw [heap_setCell_same w b j _ t v h]; simp⟩

/-! ### All of them -/
structure Zn where
  Z : Nat → Prop
  J : World → Prop
  lo : Nat
  hi : Nat
structure Zn.ok (M : Zn) : Prop where
  st : ∀ w w', M.J w → w.heap.size ≤ w'.heap.size → (∀ k, M.Z k → k < w.heap.size → w'.heap[k]? = w.heap[k]?) → M.J w'
  zz : ∀ k, M.lo ≤ k → k < M.hi → M.Z k
def noZ : Zn := ⟨fun _ => False, fun _ => True, 0, 0⟩
theorem noZ_ok : noZ.ok := ⟨fun _ _ _ _ _ => trivial, fun k h1 h2 => by simp only [noZ] at h2; omega⟩
structure SH (M : Zn) (w0 w : World) (L : List (Nat × Cel)) : Prop where
  ok : M.ok
  inv : M.J w
  zb : ∀ k, M.Z k → k < w.heap.size
  mid : Mid M.lo M.hi w0 w
  blk : ∀ p ∈ L, Blk w p.1 p.2.cells
  out : ∀ p ∈ L, w0.heap.size ≤ p.1 ∧ ¬ M.Z p.1
  nd : ∀ (i j : Nat) (p q : Nat × Cel), L[i]? = some p → L[j]? = some q → p.1 = q.1 → i = j
theorem SH.start (w : World) : SH noZ w w [] := ⟨noZ_ok, trivial, fun k h => h.elim, Mid.refl _ _ _, fun p hp => (by cases hp), fun p hp => (by cases hp), fun i j p q h => (by simp at h)⟩
theorem SH.at {M : Zn} {w0 w : World} {L : List (Nat × Cel)} (S : SH M w0 w L) {i b : Nat} {c : Cel} (hL : L[i]? = some (b, c)) : Blk w b c.cells ∧ w0.heap.size ≤ b ∧ ¬ M.Z b :=
  ⟨S.blk _ (List.mem_of_getElem? hL), S.out _ (List.mem_of_getElem? hL)⟩
theorem SH.below {M : Zn} {w0 w w1 : World} {L : List (Nat × Cel)} (S : SH M w0 w L) (hb : Below w.heap.size w w1) : SH M w0 w1 L :=
  ⟨S.ok, S.ok.st w w1 S.inv hb.size (fun k _ hk => hb.block k hk), fun k hk => Nat.lt_of_lt_of_le (S.zb k hk) hb.size,
    S.mid.trans ⟨hb.os, hb.tape, hb.output, hb.size, fun k hk _ => hb.block k hk⟩, fun p hp => (S.blk p hp).kept (hb.block _ (S.blk p hp).lt), S.out, S.nd⟩
theorem SH.drew {M : Zn} {w0 w : World} {L : List (Nat × Cel)} (S : SH M w0 w L) : SH M w0 w.drew L := S.below (Below.refl _ _).drew
theorem SH.new {M : Zn} {w0 w : World} {L : List (Nat × Cel)} (S : SH M w0 w L) (c : Cel) (t : TypeId) : SH M w0 (w.alloc (.cells c.cells.toArray t)) ((w.heap.size, c) :: L) := by
  have S1 := S.below ((Below.refl w.heap.size w).alloc (Nat.le_refl _) (.cells c.cells.toArray t))
  refine ⟨S1.ok, S1.inv, S1.zb, S1.mid, fun p hp => ?_, fun p hp => ?_, ?_⟩
  · rcases List.mem_cons.1 hp with rfl | hp
    · exact Blk.new w _ t
    · exact S1.blk p hp
  · rcases List.mem_cons.1 hp with rfl | hp
    · exact ⟨S.mid.size, fun h => absurd (S.zb _ h) (Nat.lt_irrefl _)⟩
    · exact S1.out p hp
  · intro i j p q hi hj he
    have key : ∀ (m : Nat) (r : Nat × Cel), L[m]? = some r → r.1 < w.heap.size := fun m r hm => (S.blk r (List.mem_of_getElem? hm)).lt
    cases i with
    | zero =>
      cases j with
      | zero => rfl
      | succ j =>
        simp only [List.getElem?_cons_zero, Option.some.injEq, List.getElem?_cons_succ] at hi hj
        subst hi
        have := key j q hj
        simp only at he
        omega
    | succ i =>
      cases j with
      | zero =>
        simp only [List.getElem?_cons_zero, Option.some.injEq, List.getElem?_cons_succ] at hi hj
        subst hj
        have := key i p hi
        simp only at he
        omega
      | succ j =>
        simp only [List.getElem?_cons_succ] at hi hj
        rw [S.nd i j p q hi hj he]
/-- One block is written. -/
structure Upd (b : Nat) (w w1 : World) : Prop where
  os : w1.os = w.os
  tape : w1.tape = w.tape
  output : w1.output = w.output
  size : w1.heap.size = w.heap.size
  block : ∀ k, k ≠ b → w1.heap[k]? = w.heap[k]?
theorem Upd.setCell (w : World) (b j : Nat) (v : Value) : Upd b w (w.setCell ⟨b, j, none⟩ v) :=
  ⟨rfl, rfl, rfl, by simp [World.setCell], fun k hk => heap_setCell_other w ⟨b, j, none⟩ k v hk⟩
theorem Upd.setRow (w : World) (b : Nat) (cs : Array Value) : Upd b w (w.setRow b cs) :=
  ⟨rfl, rfl, rfl, by simp, fun k hk => setRow_other w b k _ hk⟩
theorem SH.upd {M : Zn} {w0 w w1 : World} {L : List (Nat × Cel)} (S : SH M w0 w L) {i b : Nat} {c : Cel} (c' : Cel) (hL : L[i]? = some (b, c)) (hu : Upd b w w1) (hb : Blk w1 b c'.cells) : SH M w0 w1 (L.set i (b, c')) := by
  obtain ⟨h1, h2, h3⟩ := S.at hL
  have hi' := (List.getElem?_eq_some_iff.1 hL).1
  have key : ∀ (j : Nat) (p : Nat × Cel), (L.set i (b, c'))[j]? = some p → (j = i ∧ p = (b, c')) ∨ (j ≠ i ∧ L[j]? = some p) := by
    intro j p hj
    rw [List.getElem?_set] at hj
    split at hj
    · rename_i h
      subst h
      simp only [hi', if_true, Option.some.injEq] at hj
      exact .inl ⟨rfl, hj.symm⟩
    · rename_i h
      exact .inr ⟨fun e => h e.symm, hj⟩
  refine ⟨S.ok, S.ok.st w w1 S.inv (by rw [hu.size]; exact Nat.le_refl _) (fun k hk _ => hu.block k (fun e => h3 (e ▸ hk))), fun k hk => by rw [hu.size]; exact S.zb k hk,
    ⟨hu.os.trans S.mid.os, hu.tape.trans S.mid.tape, hu.output.trans S.mid.output, by rw [hu.size]; exact S.mid.size, fun k hk hk2 => (hu.block k (by omega)).trans (S.mid.block k hk hk2)⟩, fun p hp => ?_, fun p hp => ?_, ?_⟩
  · obtain ⟨j, hj⟩ := List.getElem?_of_mem hp
    rcases key j p hj with ⟨_, rfl⟩ | ⟨hne, hj⟩
    · exact hb
    · refine (S.blk p (List.mem_of_getElem? hj)).kept (hu.block _ fun e => hne (S.nd j i p (b, c) hj hL e))
  · obtain ⟨j, hj⟩ := List.getElem?_of_mem hp
    rcases key j p hj with ⟨_, rfl⟩ | ⟨hne, hj⟩
    · exact ⟨h2, h3⟩
    · exact S.out p (List.mem_of_getElem? hj)
  · intro j m p q hj hm he
    rcases key j p hj with ⟨e1, rfl⟩ | ⟨hne, hj'⟩ <;> rcases key m q hm with ⟨e2, rfl⟩ | ⟨hne', hm'⟩
    · rw [e1, e2]
    · exact absurd (S.nd _ _ _ _ hL hm' he).symm hne'
    · exact absurd (S.nd _ _ _ _ hj' hL he) hne
    · exact S.nd _ _ _ _ hj' hm' he
/-- What is told of the memory turns, and what lies elsewhere stays. -/
theorem SH.turn {M M' : Zn} {w0 w w1 : World} {L : List (Nat × Cel)} (S : SH M w0 w L) (ok : M'.ok) (inv : M'.J w1) (zb : ∀ k, M'.Z k → k < w1.heap.size) (mid : Mid M'.lo M'.hi w0 w1)
    (hk : ∀ p ∈ L, w1.heap[p.1]? = w.heap[p.1]?) (hz : ∀ p ∈ L, ¬ M'.Z p.1) : SH M' w0 w1 L :=
  ⟨ok, inv, zb, mid, fun p hp => (S.blk p hp).kept (hk p hp), fun p hp => ⟨(S.out p hp).1, hz p hp⟩, S.nd⟩
/-- Some are forgotten. -/
theorem SH.fewer {M : Zn} {w0 w : World} {L : List (Nat × Cel)} (S : SH M w0 w L) (k : Nat) : SH M w0 w (L.drop k) :=
  ⟨S.ok, S.inv, S.zb, S.mid, fun p hp => S.blk p (List.mem_of_mem_drop hp), fun p hp => S.out p (List.mem_of_mem_drop hp), fun i j p q hi hj he => by
    rw [List.getElem?_drop] at hi hj
    have := S.nd _ _ p q hi hj he
    omega⟩
theorem SH.low {w0 w : World} {L : List (Nat × Cel)} (S : SH noZ w0 w L) : Below w0.heap.size w0 w :=
  ⟨S.mid.os, S.mid.tape, S.mid.output, S.mid.size, fun k hk => S.mid.block k hk (.inr (Nat.zero_le _))⟩

/-! ### The operations -/
section
variable {P : Program} {M : Zn} {w0 w : World} {L : List (Nat × Cel)} {ops : Array Oper} {rest : List Oper} {o : Oper} {a : Act} {Q : Exit → Act → World → Prop}
theorem SH.box (S : SH M w0 w L) (hgd : o.guard = none) (ty : TypeId) (x : Operand) (ho : o.op = .box ty x) (c : Cel) (hx : a.eval x = c.val)
    (h : ∀ b w1, SH M w0 w1 ((b, c) :: L) → wpList P ops Q rest (a.put o.dst (.pointer (some ⟨b, 0, none⟩))) w1) : wpList P ops Q (o :: rest) a w :=
  wpList_plain hgd fun K hK => by
    unfold Oper.wp execOp
    have hr : (Instr.box ty c.val).run P w = .ok (.pointer (some ⟨w.heap.size, 0, none⟩)) (w.alloc (.cells c.cells.toArray ty)) := by
      simp [Instr.box, newVar, newRow, Cel.val, Value.cells]
    simp only [ho, hx, Sem.run_bind, hr, Result.andThen_ok, Sem.run_pure]
    exact hK _ _ (h _ _ (S.new c ty))
theorem SH.alloc (S : SH M w0 w L) (hgd : o.guard = none) (ty : TypeId) (ho : o.op = .alloc ty) (c : Cel) (hz : (P.info? ty).map (fun i => i.zero) = some (some c.val))
    (h : ∀ b w1, SH M w0 w1 ((b, c) :: L) → wpList P ops Q rest (a.put o.dst (.pointer (some ⟨b, 0, none⟩))) w1) : wpList P ops Q (o :: rest) a w :=
  wpList_plain hgd fun K hK => by
    unfold Oper.wp execOp
    have hr : (Instr.alloc ty true (.tuple #[])).run P w = .ok (.pointer (some ⟨w.heap.size, 0, none⟩)) (w.alloc (.cells c.cells.toArray ty)) := by
      cases hq : P.info? ty with
      | none => simp [hq] at hz
      | some i =>
        simp [hq] at hz
        simp [Instr.alloc, zeroValue, typeInfo, hq, hz, newVar, newRow, Cel.val, Value.cells]
    simp only [ho, Sem.run_bind, hr, Result.andThen_ok, Sem.run_pure]
    exact hK _ _ (h _ _ (S.new c ty))
theorem run_load1 (w : World) (b j : Nat) (ty : TypeId) (v : Value) (d : TypeDesc) (hc : w.cell? ⟨b, j, none⟩ = some v) (hu : P.underlying ty = some d) (hd : d.isRow = false) :
    (Instr.loadAt ty (.pointer (some ⟨b, j, none⟩))).run P w = .ok v w := by
  have hagg : (isAgg ty).run P w = .ok false w := by
    unfold isAgg
    rw [Sem.run_bind, run_underlying hu w]
    cases d <;> simp_all
  simp [Instr.loadAt, Instr.sureAddr, loadVar, Sem.run_bind, hagg, hc]
theorem SH.load1 (S : SH M w0 w L) (hw : Region.wanted o (yielded ops a.tmps) = true) (ty : TypeId) (x : Operand) (ho : o.op = .load ty x) (b j : Nat) (hx : a.eval x = .pointer (some ⟨b, j, none⟩)) (i : Nat) (c : Cel) (hL : L[i]? = some (b, c))
    (v : Value) (hv : c.cells[j]? = some v) (d : TypeDesc) (hu : P.underlying ty = some d) (hd : d.isRow = false)
    (h : wpList P ops Q rest (a.put o.dst v) w) : wpList P ops Q (o :: rest) a w :=
  wpList_step fun K hK => by
    rw [if_pos hw]
    unfold Oper.wp execOp
    simp only [ho, hx, Sem.run_bind, run_load1 w b j ty v d (((S.at hL).1.cell j).trans hv) hu hd, Result.andThen_ok, Sem.run_pure]
    exact hK _ _ h
theorem SH.loadAll (S : SH M w0 w L) (hw : Region.wanted o (yielded ops a.tmps) = true) (ty : TypeId) (x : Operand) (ho : o.op = .load ty x) (b : Nat) (hx : a.eval x = .pointer (some ⟨b, 0, none⟩)) (i : Nat) (c : Cel) (hL : L[i]? = some (b, c))
    (d : TypeDesc) (hu : P.underlying ty = some d) (hd : d.isRow = true) (hi : (P.info? ty).map (·.size) = some c.cells.length)
    (h : wpList P ops Q rest (a.put o.dst c.val) w) : wpList P ops Q (o :: rest) a w :=
  wpList_step fun K hK => by
    rw [if_pos hw]
    exact wp_load_mid ty x ho b 0 hx c.cells d (S.at hL).1.range hu hd hi (hK _ _ h)
theorem run_store1 (w : World) (b j : Nat) (ty : TypeId) (v u : Value) (hc : w.cell? ⟨b, j, none⟩ = some u) (hf : w.frozen? ⟨b, j, none⟩ = false) (h1 : v.oneCell' = true) (hi : (P.info? ty).map (·.size) = some 1) :
    (Instr.storeAt ty (.pointer (some ⟨b, j, none⟩)) v).run P w = .ok () (w.setCell ⟨b, j, none⟩ v) := by
  have z : ∀ k : Nat, k < [v].length → k = 0 := fun k hk => by simpa using hk
  have := run_storeCells_cells (P := P) b j [v] 0 w (fun k hk => by rw [z k hk]; simp [hc]) (fun k hk => by rw [z k hk]; simpa using hf) (fun x hx => by rw [List.mem_singleton.1 hx]; exact h1)
  cases hq : P.info? ty with
  | none => simp [hq] at hi
  | some i =>
    have hs : i.size = 1 := by simpa [hq] using hi
    have hv : v.cells = #[v] := by cases v <;> simp_all [Value.cells, Value.oneCell']
    simp only [Nat.add_zero, World.setCells] at this
    simp [Instr.storeAt, Instr.sureAddr, storeVar, sizeOf, typeInfo, hq, hs, hv, this]
theorem SH.store1 (S : SH M w0 w L) (hgd : o.guard = none) (ty : TypeId) (x y : Operand) (ho : o.op = .store ty x y) (b j : Nat) (v : Value) (hx : a.eval x = .pointer (some ⟨b, j, none⟩)) (hy : a.eval y = v) (i : Nat) (c : Cel) (hL : L[i]? = some (b, c))
    (h1 : v.oneCell' = true) (hj : j < c.cells.length) (c' : Cel) (hc : c.cells.set j v = c'.cells) (hi : (P.info? ty).map (·.size) = some 1)
    (h : ∀ w1, SH M w0 w1 (L.set i (b, c')) → wpList P ops Q rest (a.put o.dst undef) w1) : wpList P ops Q (o :: rest) a w :=
  wpList_plain hgd fun K hK => by
    unfold Oper.wp execOp
    obtain ⟨hb, _⟩ := S.at hL
    have hcell := (hb.cell j).trans (List.getElem?_eq_getElem hj)
    simp only [ho, hx, hy, Sem.run_bind, run_store1 w b j ty v _ hcell (hb.frozen j) h1 hi, Result.andThen_ok, Sem.run_pure]
    exact hK _ _ (h _ (S.upd c' hL (Upd.setCell w b j v) (by rw [← hc]; exact hb.set j v)))
theorem SH.storeAll (S : SH M w0 w L) (hgd : o.guard = none) (ty : TypeId) (x y : Operand) (ho : o.op = .store ty x y) (b : Nat) (c' : Cel) (hx : a.eval x = .pointer (some ⟨b, 0, none⟩)) (hy : a.eval y = c'.val) (i : Nat) (c : Cel) (hL : L[i]? = some (b, c))
    (hl : c.cells.length = c'.cells.length) (h1 : ∀ v ∈ c'.cells, v.oneCell' = true) (hi : (P.info? ty).map (·.size) = some c'.cells.length)
    (h : ∀ w1, SH M w0 w1 (L.set i (b, c')) → wpList P ops Q rest (a.put o.dst undef) w1) : wpList P ops Q (o :: rest) a w :=
  wpList_plain hgd fun K hK => by
    unfold Oper.wp execOp
    obtain ⟨⟨t, hb⟩, _⟩ := S.at hL
    have hr := run_storeVar_row (P := P) w b t ty c.cells.toArray c'.cells.toArray hb (by simpa using hi) (by simpa using hl) (all_oneCell_toArray h1)
    simp only [ho, hx, hy, Cel.val, Sem.run_bind, Instr.storeAt, Instr.sureAddr, Sem.run_pure, Result.andThen_ok, hr]
    exact hK _ _ (h _ (S.upd c' hL (Upd.setRow w b _) ⟨t, setRow_heap w b _ _ t _ hb⟩))
theorem SH.wpStoreAll (S : SH M w0 w L) (ty : TypeId) (x y : Operand) (ho : o.op = .store ty x y) (b : Nat) (c' : Cel) (hx : a.eval x = .pointer (some ⟨b, 0, none⟩)) (hy : a.eval y = c'.val) (i : Nat) (c : Cel) (hL : L[i]? = some (b, c))
    (hl : c.cells.length = c'.cells.length) (h1 : ∀ v ∈ c'.cells, v.oneCell' = true) (hi : (P.info? ty).map (·.size) = some c'.cells.length) {K : Act → World → Prop}
    (h : ∀ w1, SH M w0 w1 (L.set i (b, c')) → K (a.put o.dst undef) w1) : o.wp P a w K Q := by
  unfold Oper.wp execOp
  obtain ⟨⟨t, hb⟩, _⟩ := S.at hL
  have hr := run_storeVar_row (P := P) w b t ty c.cells.toArray c'.cells.toArray hb (by simpa using hi) (by simpa using hl) (all_oneCell_toArray h1)
  simp only [ho, hx, hy, Cel.val, Sem.run_bind, Instr.storeAt, Instr.sureAddr, Sem.run_pure, Result.andThen_ok, hr]
  exact h _ (S.upd c' hL (Upd.setRow w b _) ⟨t, setRow_heap w b _ _ t _ hb⟩)
theorem SH.wpStore1 (S : SH M w0 w L) (ty : TypeId) (x y : Operand) (ho : o.op = .store ty x y) (b j : Nat) (v : Value) (hx : a.eval x = .pointer (some ⟨b, j, none⟩)) (hy : a.eval y = v) (i : Nat) (c : Cel) (hL : L[i]? = some (b, c))
    (h1 : v.oneCell' = true) (hj : j < c.cells.length) (c' : Cel) (hc : c.cells.set j v = c'.cells) (hi : (P.info? ty).map (·.size) = some 1) {K : Act → World → Prop}
    (h : ∀ w1, SH M w0 w1 (L.set i (b, c')) → K (a.put o.dst undef) w1) : o.wp P a w K Q := by
  unfold Oper.wp execOp
  obtain ⟨hb, _⟩ := S.at hL
  have hcell := (hb.cell j).trans (List.getElem?_eq_getElem hj)
  simp only [ho, hx, hy, Sem.run_bind, run_store1 w b j ty v _ hcell (hb.frozen j) h1 hi, Result.andThen_ok, Sem.run_pure]
  exact h _ (S.upd c' hL (Upd.setCell w b j v) (by rw [← hc]; exact hb.set j v))
theorem SH.results (S : SH M w0 w L) {fn : Func} {p : Tmp} {ty : TypeId} (hfn : fn.results = #[.cell p ty]) (tmps : Array Value) (b : Nat) (hp : tmps.getD p undef = .pointer (some ⟨b, 0, none⟩)) (i : Nat) (c : Cel) (hL : L[i]? = some (b, c))
    (d : TypeDesc) (hu : P.underlying ty = some d) (hd : d.isRow = true) (hi : (P.info? ty).map (·.size) = some c.cells.length) : (results fn tmps).run P w = .ok c.val w := by
  obtain ⟨⟨t, hb⟩, _⟩ := S.at hL
  exact results_cell_row hfn tmps w b t _ _ d hp hb hu (by cases d <;> simp_all) (by simpa using hi)
end
section
variable {P : Program} {M : Zn} {w0 w : World} {L : List (Nat × Cel)} {ops : Array Oper} {rest : List Oper} {o : Oper} {a : Act} {Q : Exit → Act → World → Prop}
theorem SH.ld (S : SH M w0 w L) (ty : TypeId) (x : Operand) (ho : o.op = .load ty x) (b j : Nat) (hx : a.eval x = .pointer (some ⟨b, j, none⟩)) (i : Nat) (c : Cel) (hL : L[i]? = some (b, c))
    (v : Value) (hv : c.cells[j]? = some v) (d : TypeDesc) (hu : P.underlying ty = some d) (hd : d.isRow = false) (hw : Region.wanted o (yielded ops a.tmps) = true) (h : wpList P ops Q rest (a.put o.dst v) w) : wpList P ops Q (o :: rest) a w :=
  S.load1 hw ty x ho b j hx i c hL v hv d hu hd h
theorem SH.ldAll (S : SH M w0 w L) (ty : TypeId) (x : Operand) (ho : o.op = .load ty x) (b : Nat) (hx : a.eval x = .pointer (some ⟨b, 0, none⟩)) (i : Nat) (c : Cel) (hL : L[i]? = some (b, c))
    (d : TypeDesc) (hu : P.underlying ty = some d) (hd : d.isRow = true) (hi : (P.info? ty).map (·.size) = some c.cells.length) (hw : Region.wanted o (yielded ops a.tmps) = true) (h : wpList P ops Q rest (a.put o.dst c.val) w) : wpList P ops Q (o :: rest) a w :=
  S.loadAll hw ty x ho b hx i c hL d hu hd hi h
/-- The walk stands at an operation (asked with_reducible: cheap). -/
theorem wpl_is (h : wpList P ops Q (o :: rest) a w) : wpList P ops Q (o :: rest) a w := h
/-- An operation that yields a value, by the slot that it writes. -/
theorem wpl_dst (k : Nat) (hd : o.dst = some k) (v : Value) (hr : (execOp a.eval o).run P w = .ok (.value v) w) (hw : Region.wanted o (yielded ops a.tmps) = true) (h : wpList P ops Q rest (a.put o.dst v) w) : wpList P ops Q (o :: rest) a w :=
  wpList_step fun K hK => by
    rw [if_pos hw]
    unfold Oper.wp
    rw [hr]
    exact hK _ _ h
end
section
variable {P : Program} {w : World} {ops : Array Oper} {rest : List Oper} {a : Act} {Q : Exit → Act → World → Prop}
theorem wpl_isLoad {d : Option Nat} {ty : TypeId} {x : Operand} {t : TypeId} {p : String} {af : Array Edge} {g : Option (Nat × Bool)} (h : wpList P ops Q ({ dst := d, op := Op.load ty x, type := t, pos := p, after := af, guard := g } :: rest) a w) : wpList P ops Q ({ dst := d, op := Op.load ty x, type := t, pos := p, after := af, guard := g } :: rest) a w := h
theorem wpl_isStore {d : Option Nat} {ty : TypeId} {x y : Operand} {t : TypeId} {p : String} {af : Array Edge} {g : Option (Nat × Bool)} (h : wpList P ops Q ({ dst := d, op := Op.store ty x y, type := t, pos := p, after := af, guard := g } :: rest) a w) : wpList P ops Q ({ dst := d, op := Op.store ty x y, type := t, pos := p, after := af, guard := g } :: rest) a w := h
theorem wpl_isDst (k : Nat) {op : Op} {t : TypeId} {p : String} {af : Array Edge} {g : Option (Nat × Bool)} (h : wpList P ops Q ({ dst := some k, op := op, type := t, pos := p, after := af, guard := g } :: rest) a w) : wpList P ops Q ({ dst := some k, op := op, type := t, pos := p, after := af, guard := g } :: rest) a w := h
end

def IV.zero : IV := ⟨0, false, false, 0, 0, 0, 0, 0, 0, false, 0, 0, 0, false, false⟩
theorem zeroIV : (Tryd.prog.info? 31).map (fun i => i.zero) = some (some (Cel.iv IV.zero).val) := by kernel_rfl
theorem szIV (i : IV) : (Tryd.prog.info? 31).map (·.size) = some (Cel.iv i).cells.length := by
  show _ = some 15
  kernel_rfl
theorem one_iv (i : IV) : ∀ u ∈ (Cel.iv i).cells, u.oneCell' = true := by
  intro u hu
  simp only [Cel.cells, IV.cellsL, List.mem_cons, List.not_mem_nil, or_false] at hu
  rcases hu with rfl | rfl | rfl | rfl | rfl | rfl | rfl | rfl | rfl | rfl | rfl | rfl | rfl | rfl | rfl <;> rfl
end Go.Proofs.YtbbkiiabjhgpkaaDoor
