/- Stage 8: the document's narrow words, walked. -/
import Derived.Test.YtbbkiiabjhgpkaaDoorRd1
import Derived.Test.YtbbkiiabjhgpkaaDoorRd0
import Derived.Test.YtbbkiiabjhgpkaaDoorUpt
namespace Go.Proofs.YtbbkiiabjhgpkaaDoor
open Go.ChangeShapes Go.WideShapes Go.ChangeAt Go.RowKit
set_option linter.unusedVariables false
set_option linter.unusedSimpArgs false

theorem i64_fd (h a s : Nat) (hh : h < 65536) (hs : s ≤ 15) (x y : Int) (hx : x = ((h / 2 ^ a : Nat) : Int)) (hy : y = ((2 ^ s - 1 : Nat) : Int)) : bits .and .i64 x y = (fd h a s : Nat) := by
  have h2 : 2 ^ s ≤ 2 ^ 15 := Nat.pow_le_pow_right (by decide) hs
  have h3 := Nat.two_pow_pos s
  have : h / 2 ^ a ≤ h := Nat.div_le_self _ _
  rw [hx, hy, (bits_nat .i64 33 (by decide) (fun n h1 h2 => by rw [IntKind.wrap_i64]; omega) _ _ (by omega) (by omega)).1, fd_land]
theorem SH.sliceA {P : Program} {M : Zn} {w w0 : World} {L : List (Nat × Cel)} {ops : Array Oper} {rest : List Oper} {o : Oper} {a : Act} {Q : Exit → Act → World → Prop} (S : SH M w0 w L) (hgd : o.guard = none) (ty n : Nat) (xs : Array (Nat × Operand)) (ho : o.op = .buildSlice ty n xs) (cs : List Value) (e : TypeId)
    (hr : (execOp a.eval o).run P w = .ok (.value (.slice (some ⟨w.heap.size, 0, none⟩) n n)) (w.alloc (.cells cs.toArray e)))
    (h : ∀ g w1, SH M w0 w1 ((g, Cel.any cs) :: L) → wpList P ops Q rest (a.put o.dst (.slice (some ⟨g, 0, none⟩) n n)) w1) : wpList P ops Q (o :: rest) a w :=
  wpList_plain hgd fun K hK => by
    unfold Oper.wp
    rw [hr]
    exact hK _ _ (h _ _ (S.new (Cel.any cs) e))
abbrev iZ (op n imm list cond : Int) (back down : Bool) : IV := ⟨op, false, false, cond, 0, n, 0, 0, imm, false, 0, 0, list, back, down⟩
theorem keys6 (h : Nat) (hh : h < 65536) : (bits .and .i64 ((h : Int)) 7 = ((fd h 0 3 : Nat) : Int)) ∧ (fd h 0 3 < 8) ∧ (bits .and .i64 ((h : Int) / 8) 7 = ((fd h 3 3 : Nat) : Int)) ∧ (fd h 3 3 < 8) ∧ (bits .and .i64 ((h : Int) / 64) 7 = ((fd h 6 3 : Nat) : Int)) ∧ (fd h 6 3 < 8) ∧ (bits .and .i64 ((h : Int) / 64) 31 = ((fd h 6 5 : Nat) : Int)) ∧ (fd h 6 5 < 32) ∧ (bits .and .i64 ((h : Int)) 255 = ((fd h 0 8 : Nat) : Int)) ∧ (fd h 0 8 < 256) ∧ (bits .and .i64 ((h : Int) / 256) 7 = ((fd h 8 3 : Nat) : Int)) ∧ (fd h 8 3 < 8) :=
  ⟨i64_fd h 0 3 hh (by decide) _ _ (by first | rfl | simp) rfl, fd_lt h 0 3, i64_fd h 3 3 hh (by decide) _ _ (by first | rfl | simp) rfl, fd_lt h 3 3, i64_fd h 6 3 hh (by decide) _ _ (by first | rfl | simp) rfl, fd_lt h 6 3, i64_fd h 6 5 hh (by decide) _ _ (by first | rfl | simp) rfl, fd_lt h 6 5, i64_fd h 0 8 hh (by decide) _ _ (by first | rfl | simp) rfl, fd_lt h 0 8, i64_fd h 8 3 hh (by decide) _ _ (by first | rfl | simp) rfl, fd_lt h 8 3⟩
end Go.Proofs.YtbbkiiabjhgpkaaDoor
