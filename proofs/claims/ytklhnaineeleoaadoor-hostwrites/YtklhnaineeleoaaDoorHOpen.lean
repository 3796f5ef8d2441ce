/- The arguments opened: a host instruction by value; a slice of bytes. -/
import Derived.Test.YtklhnaineeleoaaDoorHByt
import Derived.Deep.Fields
import Derived.Lib.SmallJoins
import Derived.Carry
namespace Go.Proofs.YtklhnaineeleoaaDoor
open Go.ChangeShapes Go.WideShapes Go.ChangeAt Go.RowKit Go.Deep
set_option linter.unusedVariables false
set_option linter.unusedSimpArgs false

theorem cellsHost : Tryd.prog.cellsOf 26 = 6 := by kernel_rfl
theorem cellsU8 : Tryd.prog.cellsOf 5 = 1 := by kernel_rfl
theorem cellsInt : Tryd.prog.cellsOf 3 = 1 := by kernel_rfl
theorem cellsU32 : Tryd.prog.cellsOf 24 = 1 := by kernel_rfl

theorem lt_of_cell {w : World} {b o : Nat} {v : Value} (h : w.cell? ⟨b, o, none⟩ = some v) : b < w.heap.size := World.block_lt_of_cell? w _ h
theorem spot_of {W : World} {a : Addr} {v : Value} (h : W.cell? a = some v) : ∃ b o, a = ⟨b, o, none⟩ := by
  have hs := World.cell?_spot h
  obtain ⟨b, o, spot⟩ := a
  exact ⟨b, o, by simpa using hs⟩
theorem array6 {α : Type} {cs : Array α} (h : cs.size = 6) : ∃ c0 c1 c2 c3 c4 c5, cs = #[c0, c1, c2, c3, c4, c5] := by
  obtain ⟨l⟩ := cs
  match l, h with
  | [c0, c1, c2, c3, c4, c5], _ => exact ⟨c0, c1, c2, c3, c4, c5, rfl⟩
theorem list6 {α : Type} {l : List α} (h : l.length = 6) : ∃ c0 c1 c2 c3 c4 c5, l = [c0, c1, c2, c3, c4, c5] := by
  match l, h with
  | [c0, c1, c2, c3, c4, c5], _ => exact ⟨c0, c1, c2, c3, c4, c5, rfl⟩

section
variable {H : Type} {enc : TypeId × Value → H} {W : World} {A : Option Addr} {n c : Nat} {d : DataW H} {p : List MemPlace}

theorem host_of {v : Value} {r : Reach} {b0 : Nat} (hv : Value.okWide Tryd.prog W r b0 26 v) (h : DataW.Trod enc Tryd.prog W 0 (fun _ => true) true 26 v d p) : ∃ hh : HV, v = hh.val ∧ hh.wf := by
  obtain ⟨cs, rfl, hsz⟩ := okWide_struct Tryd.underlying26 hv
  obtain ⟨c0, c1, c2, c3, c4, c5, rfl⟩ := array6 (hsz.trans cellsHost)
  obtain ⟨fuel, hf⟩ := h
  obtain ⟨xs, n2, _, _, _, hxl, hfl⟩ := DataW.trod_struct Tryd.underlying26 hf
  have hx6 : xs.length = 6 := hxl
  obtain ⟨y0, y1, y2, y3, y4, y5, rfl⟩ := list6 hx6
  have g0 : DataW.trod enc Tryd.prog W 0 (fun _ => true) true n2 3 [c0] = some y0 := by simpa [Value.cells, cellsInt] using hfl 0 _ rfl
  have g1 : DataW.trod enc Tryd.prog W 0 (fun _ => true) true n2 3 [c1] = some y1 := by simpa [Value.cells, cellsInt] using hfl 1 _ rfl
  have g2 : DataW.trod enc Tryd.prog W 0 (fun _ => true) true n2 3 [c2] = some y2 := by simpa [Value.cells, cellsInt] using hfl 2 _ rfl
  have g3 : DataW.trod enc Tryd.prog W 0 (fun _ => true) true n2 3 [c3] = some y3 := by simpa [Value.cells, cellsInt] using hfl 3 _ rfl
  have g4 : DataW.trod enc Tryd.prog W 0 (fun _ => true) true n2 3 [c4] = some y4 := by simpa [Value.cells, cellsInt] using hfl 4 _ rfl
  have g5 : DataW.trod enc Tryd.prog W 0 (fun _ => true) true n2 24 [c5] = some y5 := by simpa [Value.cells, cellsU32] using hfl 5 _ rfl
  obtain ⟨x0, hx0, _, _⟩ := DataW.trod_int Tryd.underlying3 g0
  obtain ⟨x1, hx1, _, _⟩ := DataW.trod_int Tryd.underlying3 g1
  obtain ⟨x2, hx2, _, _⟩ := DataW.trod_int Tryd.underlying3 g2
  obtain ⟨x3, hx3, _, _⟩ := DataW.trod_int Tryd.underlying3 g3
  obtain ⟨x4, hx4, _, _⟩ := DataW.trod_int Tryd.underlying3 g4
  obtain ⟨x5, hx5, _, w5⟩ := DataW.trod_int Tryd.underlying24 g5
  simp only [List.cons.injEq, and_true] at hx0 hx1 hx2 hx3 hx4 hx5
  subst hx0 hx1 hx2 hx3 hx4 hx5
  exact ⟨⟨x0, x1, x2, x3, x4, x5⟩, rfl, bounds_u32 w5⟩

theorem bytes_of (h : DataW.Trod enc Tryd.prog W 0 (fun _ => true) true 29 (.slice A n c) d p) : n ≤ maxLen ∧ ∃ bs : List Int, bs.length = n ∧ BL W (fun b => b < W.heap.size) (.slice A n c) bs := by
  obtain ⟨fuel, hf⟩ := h
  have hf' : DataW.trod enc Tryd.prog W 0 (fun _ => true) true fuel 29 [.slice A n c] = some (d, p) := by simpa [Value.cells] using hf
  rcases open_slice1 Tryd.underlying29 cellsU8 hf' with ⟨h0, _⟩ | ⟨a, len, cap, m, n', V, D, Pl, h0, hb, hl, hm, hmm, hx, hel⟩
  · cases h0
    exact ⟨Nat.zero_le _, [], rfl, fun x hx => (by cases hx), none, 0, rfl, fun _ => ⟨rfl, rfl⟩, fun j x hx => (by simp at hx)⟩
  · cases h0
    have hm' : m = c := by simpa using hmm
    have key : ∀ i, i < n → ∃ z : Int, (0 ≤ z ∧ z ≤ 255) ∧ W.cell? (a.add i) = some (.int .u8 z) := fun i hi => by
      obtain ⟨h1, h2⟩ := hel i (by omega)
      obtain ⟨z, hz, _, hw⟩ := DataW.trod_int Tryd.underlying5 h2
      simp only [List.cons.injEq, and_true] at hz
      rw [hz] at h1
      have hb := bounds_u8 hw
      exact ⟨z, ⟨hb.1, by omega⟩, h1⟩
    obtain ⟨V', hV⟩ := choose_lt (α := Int) key
    refine ⟨by omega, (List.range n).map V', by simp, ?_, some a, c, by simp, fun h => (by cases h), fun j x hx => ?_⟩
    · intro x hx
      obtain ⟨i, hi, rfl⟩ := List.mem_map.1 hx
      exact (hV i (List.mem_range.1 hi)).1
    · have hj : j < n := by simpa using (List.getElem?_eq_some_iff.1 hx).1
      have hxv : x = V' j := by
        simp only [List.getElem?_map, List.getElem?_range hj, Option.map_some, Option.some.injEq] at hx
        exact hx.symm
      have h1 := (hV j hj).2
      obtain ⟨b, o, rfl⟩ : ∃ b o, a = ⟨b, o, none⟩ := by
        have := (hV 0 (by omega)).2
        exact spot_of (by simpa [Addr.add] using this)
      rw [add_plain] at h1
      exact ⟨b, o, rfl, lt_of_cell h1, by rw [hxv]; exact h1⟩
end
end Go.Proofs.YtklhnaineeleoaaDoor
