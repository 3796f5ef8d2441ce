/- Stage 8: cond.It, walked. -/
import Derived.Test.YtbbkiiabjhgpkaaDoorThI
namespace Go.Proofs.YtbbkiiabjhgpkaaDoor
open Go.ChangeShapes Go.WideShapes Go.ChangeAt Go.RowKit
set_option linter.unusedVariables false
set_option linter.unusedSimpArgs false

theorem info3 : (Tryd.prog.info? 3).map (fun i => (i.zero, i.size, i.bytes)) = some (some (.int .i64 0), 1, 8) := by kernel_rfl
theorem alloc_size' (w : World) (o : Obj) : (w.alloc o).heap.size = w.heap.size + 1 := by
  show (w.heap.push o).size = _
  simp
theorem one_new (w : World) (x : Value) : ∀ j u, [x][j]? = some u → (w.alloc (Obj.cells #[x] 3)).cell? ((⟨w.heap.size, 0, none⟩ : Addr).add j) = some u := by
  intro j u hj
  match j, hj with
  | 0, hj =>
    simp only [List.getElem?_cons_zero, Option.some.injEq] at hj
    subst hj
    rw [show (⟨w.heap.size, 0, none⟩ : Addr).add 0 = ⟨w.heap.size, 0, none⟩ from rfl, World.cell?_alloc_new]
    rfl
def itRel (w wr : World) (v i : Value) : Prop :=
  Below w.heap.size w wr ∧ ((i = .int .i64 3 ∧ ∃ xs, wr.ownsRow w.heap.size 3 1 v 1 xs) ∨ (i = .int .i64 2 ∧ ∃ xs, wr.ownsRow w.heap.size 3 1 v 2 xs) ∨ (i = .int .i64 1 ∧ ∃ xs, wr.ownsRow w.heap.size 3 1 v 3 xs) ∨ (i = .int .i64 0 ∧ ∃ xs, wr.ownsRow w.heap.size 3 1 v 4 xs))
end Go.Proofs.YtbbkiiabjhgpkaaDoor
