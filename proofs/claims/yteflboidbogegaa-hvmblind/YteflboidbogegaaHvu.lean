/- Which operation the walk stands at, asked with_reducible: cheap. -/
import Derived.Test.YteflboidbogegaaHvq
namespace Go.Proofs.Yteflboidbogegaa
open Go.ChangeShapes Go.WideShapes Go.ChangeAt Go.RowKit
set_option linter.unusedVariables false
section
variable {P : Program} {w : World} {ops : Array Oper} {rest : List Oper} {a : Act} {Q : Exit → Act → World → Prop}
theorem wpl_isLoad {d : Option Nat} {ty : TypeId} {x : Operand} {t : TypeId} {p : String} {af : Array Edge} {g : Option (Nat × Bool)} (h : wpList P ops Q ({ dst := d, op := Op.load ty x, type := t, pos := p, after := af, guard := g } :: rest) a w) : wpList P ops Q ({ dst := d, op := Op.load ty x, type := t, pos := p, after := af, guard := g } :: rest) a w := h
theorem wpl_isStore {d : Option Nat} {ty : TypeId} {x y : Operand} {t : TypeId} {p : String} {af : Array Edge} {g : Option (Nat × Bool)} (h : wpList P ops Q ({ dst := d, op := Op.store ty x y, type := t, pos := p, after := af, guard := g } :: rest) a w) : wpList P ops Q ({ dst := d, op := Op.store ty x y, type := t, pos := p, after := af, guard := g } :: rest) a w := h
theorem wpl_isDst (k : Nat) {op : Op} {t : TypeId} {p : String} {af : Array Edge} {g : Option (Nat × Bool)} (h : wpList P ops Q ({ dst := some k, op := op, type := t, pos := p, after := af, guard := g } :: rest) a w) : wpList P ops Q ({ dst := some k, op := op, type := t, pos := p, after := af, guard := g } :: rest) a w := h
end
end Go.Proofs.Yteflboidbogegaa
