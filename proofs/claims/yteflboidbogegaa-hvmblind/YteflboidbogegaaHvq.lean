/- Loads, their cheapest question first. -/
import Derived.Test.YteflboidbogegaaHve
namespace Go.Proofs.Yteflboidbogegaa
open Go.ChangeShapes Go.WideShapes Go.ChangeAt Go.RowKit
set_option linter.unusedVariables false
section
variable {P : Program} {M : Zn} {w0 w : World} {L : List (Nat × Cel)} {ops : Array Oper} {rest : List Oper} {o : Oper} {a : Act} {Q : Exit → Act → World → Prop}
theorem SH.ld (S : SH M w0 w L) (ty : TypeId) (x : Operand) (ho : o.op = .load ty x) (b j : Nat) (hx : a.eval x = .pointer (some ⟨b, j, none⟩)) (i : Nat) (c : Cel) (hL : L[i]? = some (b, c))
    (v : Value) (hv : c.cells[j]? = some v) (d : TypeDesc) (hu : P.underlying ty = some d) (hd : d.isRow = false) (hw : Region.wanted o (yielded ops a.tmps) = true) (h : wpList P ops Q rest (a.put o.dst v) w) : wpList P ops Q (o :: rest) a w :=
  S.load1 hw ty x ho b j hx i c hL v hv d hu hd h
theorem SH.ldAll (S : SH M w0 w L) (ty : TypeId) (x : Operand) (ho : o.op = .load ty x) (b : Nat) (hx : a.eval x = .pointer (some ⟨b, 0, none⟩)) (i : Nat) (c : Cel) (hL : L[i]? = some (b, c))
    (d : TypeDesc) (hu : P.underlying ty = some d) (hd : d.isRow = true) (hi : (P.info? ty).map (·.size) = some c.cells.length) (hw : Region.wanted o (yielded ops a.tmps) = true) (h : wpList P ops Q rest (a.put o.dst c.val) w) : wpList P ops Q (o :: rest) a w :=
  S.loadAll hw ty x ho b hx i c hL d hu hd hi h
theorem wpl_cl (ty : TypeId) (x : Operand) (ho : o.op = .load ty x) (b j : Nat) (hx : a.eval x = .pointer (some ⟨b, j, none⟩))
    (v : Value) (hv : w.cell? ⟨b, j, none⟩ = some v) (d : TypeDesc) (hu : P.underlying ty = some d) (hd : d.isRow = false) (hw : Region.wanted o (yielded ops a.tmps) = true) (h : wpList P ops Q rest (a.put o.dst v) w) : wpList P ops Q (o :: rest) a w :=
  wpl_cell hw ty x ho b j hx v hv d hu hd h
/-- The walk stands at an operation (asked with_reducible: cheap). -/
theorem wpl_is (h : wpList P ops Q (o :: rest) a w) : wpList P ops Q (o :: rest) a w := h
/-- An operation that yields a value, by the slot that it writes. -/
theorem wpl_dst (k : Nat) (hd : o.dst = some k) (v : Value) (hr : (execOp a.eval o).run P w = .ok (.value v) w) (hw : Region.wanted o (yielded ops a.tmps) = true) (h : wpList P ops Q rest (a.put o.dst v) w) : wpList P ops Q (o :: rest) a w :=
  wpList_step fun K hK => by
    rw [if_pos hw]
    unfold Oper.wp
    rw [hr]
    exact hK _ _ h
end
end Go.Proofs.Yteflboidbogegaa
