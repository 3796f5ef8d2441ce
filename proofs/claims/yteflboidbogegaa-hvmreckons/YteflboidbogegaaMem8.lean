/- slices.EqualFunc of rows, Same: walked where both sides are alike. -/
import Derived.Test.YteflboidbogegaaMem7
namespace Go.Proofs.Yteflboidbogegaa
open Go.ChangeShapes Go.WideShapes Go.ChangeAt Go.RowKit
set_option linter.unusedVariables false
set_option linter.unusedSimpArgs false
attribute [local go_sem ↓] Go.wp_at_zero Go.wp_at_succ

/-- Rows of bytes that lie behind a slice of slices. -/
def RW (w : World) (v : Value) (D : List (List Int)) : Prop :=
  ∃ A nb c, v = .slice A D.length c ∧ ∀ (i : Nat) (d : List Int), D[i]? = some d → A = some ⟨nb, 0, none⟩ ∧ ∃ A' c', w.cell? ⟨nb, i, none⟩ = some (.slice A' d.length c') ∧ BL w (fun b => b < w.heap.size) (.slice A' d.length c') d
theorem RW.below {w w' : World} {v : Value} {D : List (List Int)} (h : RW w v D) (hb : Below w.heap.size w w') : RW w' v D := by
  obtain ⟨A, nb, c, h1, h2⟩ := h
  refine ⟨A, nb, c, h1, fun i d hd => ?_⟩
  obtain ⟨e1, A', c', e2, e3⟩ := h2 i d hd
  exact ⟨e1, A', c', (hb.cell (World.block_lt_of_cell? w _ e2)).trans e2, (e3.below hb).mono fun b h => Nat.lt_of_lt_of_le h hb.size⟩
theorem MemAt.rw {w : World} {p l0 lo hi : Nat} {Bs : List Reg} {G D : List (List Int)} {q : Nat → Nat} (h : MemAt w p l0 lo hi Bs G D q) : ∃ v, w.cell? ⟨p, 1, none⟩ = some v ∧ RW w v D := by
  obtain ⟨A, nb, c, n1, n4⟩ := h.rowc
  refine ⟨_, n1, A, nb, c, rfl, fun i d hd => ?_⟩
  obtain ⟨e1, e2, cap, e3, e4⟩ := n4 i d hd
  exact ⟨e1, _, cap, e3, (BL.own e2 e4).mono fun b hb => hb.2⟩

def sameRel (w : World) (n : Nat) (i : Value) (wr : World) : Prop := ∃ k : Nat, k ≤ n ∧ i = .int .i64 k ∧ wr = w

end Go.Proofs.Yteflboidbogegaa
