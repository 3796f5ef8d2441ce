/- The arguments that lead into memory, opened: a list of regions, rows of four bytes, words. -/
import Derived.Test.YtfeebbeailmieaaReg10
import Derived.Deep.Fields
namespace Go.Proofs.Ytfeebbeailmieaa
open Go.ChangeShapes Go.WideShapes Go.ChangeAt Go.RowKit Go.Deep
set_option linter.unusedVariables false
set_option linter.unusedSimpArgs false

theorem cells36 : Try.prog.cellsOf 36 = 7 := by kernel_rfl
theorem cells48 : Try.prog.cellsOf 48 = 4 := by kernel_rfl
theorem cells25 : Try.prog.cellsOf 25 = 1 := by kernel_rfl
theorem cells5 : Try.prog.cellsOf 5 = 1 := by kernel_rfl

theorem lt_of_cell {w : World} {b o : Nat} {v : Value} (h : w.cell? ⟨b, o, none⟩ = some v) : b < w.heap.size := by
  unfold World.cell? at h
  rcases Nat.lt_or_ge b w.heap.size with h1 | h1
  · exact h1
  · simp [Array.getElem?_eq_none h1] at h
theorem spot_of {W : World} {a : Addr} {v : Value} (h : W.cell? a = some v) : ∃ b o, a = ⟨b, o, none⟩ := by
  have hs := World.cell?_spot h
  obtain ⟨b, o, spot⟩ := a
  exact ⟨b, o, by simpa using hs⟩

section
variable {H : Type} {enc : TypeId × Value → H} {W : World} {A : Option Addr} {n c : Nat} {d : DataW H} {p : List MemPlace}

theorem lies1_of (h : DataW.Trod enc Try.prog W 0 (fun _ => true) true 24 (.slice A n c) d p) : ∃ V, Lies1 W A n V := by
  obtain ⟨fuel, hf⟩ := h
  have hf' : DataW.trod enc Try.prog W 0 (fun _ => true) true fuel 24 [.slice A n c] = some (d, p) := by simpa [Value.cells] using hf
  rcases open_slice1 Try.underlying24 cells25 hf' with ⟨h0, _⟩ | ⟨a, len, cap, m, n', V, D, Pl, h0, hb, hl, hm, hmm, hx, hel⟩
  · cases h0
    exact ⟨fun _ => 0, by decide, fun i hi => absurd hi (Nat.not_lt_zero _)⟩
  · cases h0
    have hm' : m = c := by simpa using hmm
    rcases Nat.eq_zero_or_pos n with rfl | hpos
    · exact ⟨fun _ => 0, by decide, fun i hi => absurd hi (Nat.not_lt_zero _)⟩
    · obtain ⟨b, o, rfl⟩ : ∃ b o, a = ⟨b, o, none⟩ := by
        have := (hel 0 (by omega)).1
        exact spot_of (by simpa [Addr.add] using this)
      have key : ∀ i, i < n → ∃ z : Int, (0 ≤ z ∧ z ≤ 4294967295) ∧ ∃ b' o', some (⟨b, o, none⟩ : Addr) = some ⟨b', o', none⟩ ∧ b' < W.heap.size ∧ W.cell? ⟨b', o' + i, none⟩ = some (.int .u32 z) := fun i hi => by
        obtain ⟨h1, h2⟩ := hel i (by omega)
        obtain ⟨z, hz, _, hw⟩ := DataW.trod_int Try.underlying25 h2
        rw [add_plain] at h1
        simp only [List.cons.injEq, and_true] at hz
        rw [hz] at h1
        have hb := bounds_u32 hw
        exact ⟨z, ⟨hb.1, by omega⟩, b, o, rfl, lt_of_cell h1, h1⟩
      obtain ⟨V', hV⟩ := choose_lt (α := Int) key
      exact ⟨V', by simp only [maxLen] at hm; omega, hV⟩

theorem lies4_of (h : DataW.Trod enc Try.prog W 0 (fun _ => true) true 23 (.slice A n c) d p) : ∃ V, Lies4 W A n V := by
  obtain ⟨fuel, hf⟩ := h
  have hf' : DataW.trod enc Try.prog W 0 (fun _ => true) true fuel 23 [.slice A n c] = some (d, p) := by simpa [Value.cells] using hf
  rcases open_slice Try.underlying23 hf' with ⟨h0, _⟩ | ⟨a, len, cap, m, n', D, Pl, h0, hb, hl, hm, hmm, hx, hel⟩
  · cases h0
    exact ⟨fun _ _ => 0, by decide, fun i hi => absurd hi (Nat.not_lt_zero _)⟩
  · cases h0
    have hm' : m = c := by simpa using hmm
    rw [cells48] at hel
    rcases Nat.eq_zero_or_pos n with rfl | hpos
    · exact ⟨fun _ _ => 0, by decide, fun i hi => absurd hi (Nat.not_lt_zero _)⟩
    · obtain ⟨b, o, rfl⟩ : ∃ b o, a = ⟨b, o, none⟩ := by
        obtain ⟨cs', hc, _⟩ := hel 0 (by omega)
        obtain ⟨_, hlen, hcell⟩ := World.cells?_some hc
        have h1 := hcell 0 (by decide)
        rw [List.getElem?_eq_getElem (by omega)] at h1
        exact spot_of (by simpa [Addr.add] using h1)
      have key : ∀ i, i < n → ∃ v : Nat → Int, (∀ j, j < 4 → 0 ≤ v j ∧ v j ≤ 255) ∧ ∃ b' o', some (⟨b, o, none⟩ : Addr) = some ⟨b', o', none⟩ ∧ b' < W.heap.size ∧ ∀ j, j < 4 → W.cell? ⟨b', o' + i * 4 + j, none⟩ = some (.int .u8 (v j)) := fun i hi => by
        obtain ⟨cs', hc, ht⟩ := hel i (by omega)
        obtain ⟨_, hlen, hcell⟩ := World.cells?_some hc
        obtain ⟨xs, n2, _, _, _, hxl, hfl⟩ := DataW.trod_array Try.underlying48 ht
        rw [cells5] at hfl
        have one : ∀ j, j < 4 → ∃ z : Int, (0 ≤ z ∧ z ≤ 255) ∧ W.cell? ⟨b, o + i * 4 + j, none⟩ = some (.int .u8 z) := fun j hj => by
          have h1 := hcell j hj
          have h2 := hfl j hj
          rw [List.getElem?_eq_getElem (by omega), Nat.mul_one] at h2
          rw [take1_drop cs' j undef (by omega)] at h2
          obtain ⟨z, hz, _, hw⟩ := DataW.trod_int Try.underlying5 h2
          simp only [List.cons.injEq, and_true] at hz
          rw [add_plain, add_plain, List.getElem?_eq_getElem (by omega)] at h1
          have hb := bounds_u8 hw
          refine ⟨z, ⟨hb.1, by omega⟩, h1.trans ?_⟩
          rw [← hz]
          simp [List.getD, List.getElem?_eq_getElem (show j < cs'.length by omega)]
        obtain ⟨v, hv⟩ := choose_lt (α := Int) one
        exact ⟨v, fun j hj => (hv j hj).1, b, o, rfl, lt_of_cell (hv 0 (by decide)).2, fun j hj => (hv j hj).2⟩
      obtain ⟨V', hV⟩ := choose_lt (α := Nat → Int) key
      exact ⟨V', by simp only [maxLen] at hm; omega, hV⟩

theorem lies_of (h : DataW.Trod enc Try.prog W 0 (fun _ => true) true 22 (.slice A n c) d p) : ∃ R, Lies W A n R := by
  obtain ⟨fuel, hf⟩ := h
  have hf' : DataW.trod enc Try.prog W 0 (fun _ => true) true fuel 22 [.slice A n c] = some (d, p) := by simpa [Value.cells] using hf
  rcases open_slice Try.underlying22 hf' with ⟨h0, _⟩ | ⟨a, len, cap, m, n', D, Pl, h0, hb, hl, hm, hmm, hx, hel⟩
  · cases h0
    exact ⟨fun _ => noReg, by decide, fun i hi => absurd hi (Nat.not_lt_zero _)⟩
  · cases h0
    have hm' : m = c := by simpa using hmm
    rw [cells36] at hel
    rcases Nat.eq_zero_or_pos n with rfl | hpos
    · exact ⟨fun _ => noReg, by decide, fun i hi => absurd hi (Nat.not_lt_zero _)⟩
    · obtain ⟨b, o, rfl⟩ : ∃ b o, a = ⟨b, o, none⟩ := by
        obtain ⟨cs', hc, _⟩ := hel 0 (by omega)
        obtain ⟨_, hlen, hcell⟩ := World.cells?_some hc
        have h1 := hcell 0 (by decide)
        rw [List.getElem?_eq_getElem (by omega)] at h1
        exact spot_of (by simpa [Addr.add] using h1)
      have key : ∀ i, i < n → ∃ r : Reg, r.wf ∧ ∃ b' o', some (⟨b, o, none⟩ : Addr) = some ⟨b', o', none⟩ ∧ At7 W b' (o' + i * 7) r := fun i hi => by
        obtain ⟨cs', hc, ht⟩ := hel i (by omega)
        obtain ⟨_, hlen, hcell⟩ := World.cells?_some hc
        obtain ⟨xs, n2, _, _, _, hxl, hfl⟩ := DataW.trod_struct Try.underlying36 ht
        have cl : ∀ j, j < 7 → W.cell? ⟨b, o + i * 7 + j, none⟩ = some (cs'.getD j undef) := fun j hj => by
          have h1 := hcell j hj
          rw [add_plain, add_plain, List.getElem?_eq_getElem (by omega)] at h1
          rw [h1]
          simp [List.getD, List.getElem?_eq_getElem (show j < cs'.length by omega)]
        have hx7 : xs.length = 7 := hxl
        have g0 := hfl 0 _ rfl
        have g1 := hfl 1 _ rfl
        have g2 := hfl 2 _ rfl
        have g3 := hfl 3 _ rfl
        have g4 := hfl 4 _ rfl
        have g5 := hfl 5 _ rfl
        have g6 := hfl 6 _ rfl
        rw [List.getElem?_eq_getElem (by omega)] at g0 g1 g2 g3 g4 g5 g6
        have c1 : ∀ j, j < 7 → (cs'.drop j).take 1 = [cs'.getD j undef] := fun j hj => take1_drop cs' j undef (by omega)
        have z0 := c1 0 (by decide)
        have z1 := c1 1 (by decide)
        have z2 := c1 2 (by decide)
        have z3 := c1 3 (by decide)
        have z4 := c1 4 (by decide)
        have z5 := c1 5 (by decide)
        have z6 := c1 6 (by decide)
        obtain ⟨f, hf0, _, w0⟩ := DataW.trod_int Try.underlying25 g0
        obtain ⟨l, hl0, _, w1⟩ := DataW.trod_int Try.underlying25 g1
        obtain ⟨rd, hrd, _⟩ := DataW.trod_bool Try.underlying4 g2
        obtain ⟨wr, hwr, _⟩ := DataW.trod_bool Try.underlying4 g3
        obtain ⟨ex, hex, _⟩ := DataW.trod_bool Try.underlying4 g4
        obtain ⟨se, hse, _⟩ := DataW.trod_bool Try.underlying4 g5
        have e0 := (z0.symm.trans hf0)
        have e1 := (z1.symm.trans hl0)
        have e2 := (z2.symm.trans hrd)
        have e3 := (z3.symm.trans hwr)
        have e4 := (z4.symm.trans hex)
        have e5 := (z5.symm.trans hse)
        simp only [List.cons.injEq, and_true] at e0 e1 e2 e3 e4 e5
        obtain ⟨ba, bl, bc, e6, hbl⟩ : ∃ ba bl bc, cs'.getD 6 undef = .slice ba bl bc ∧ (bl : Int) ≤ 9223372036854775807 := by
          rcases open_slice Try.underlying34 g6 with ⟨h0, _⟩ | ⟨a6, len6, cap6, m6, n6, D6, Pl6, h0, hb6, hl6, hm6, _⟩
          · have := (z6.symm.trans h0)
            simp only [List.cons.injEq, and_true] at this
            exact ⟨none, 0, 0, this, by decide⟩
          · have := (z6.symm.trans h0)
            simp only [List.cons.injEq, and_true] at this
            exact ⟨some a6, len6, cap6, this, by simp only [maxLen] at hm6; omega⟩
        have b0 := bounds_u32 w0
        have b1 := bounds_u32 w1
        refine ⟨⟨f, l, rd, wr, ex, se, ba, bl, bc⟩, ⟨b0.1, by simp only []; omega, b1.1, by simp only []; omega, hbl⟩, b, o, rfl, ?_⟩
        exact ⟨(cl 0 (by decide)).trans (by rw [e0]), (cl 1 (by decide)).trans (by rw [e1]), (cl 2 (by decide)).trans (by rw [e2]), (cl 3 (by decide)).trans (by rw [e3]), (cl 4 (by decide)).trans (by rw [e4]), (cl 5 (by decide)).trans (by rw [e5]), (cl 6 (by decide)).trans (by rw [e6])⟩
      haveI : Inhabited Reg := ⟨noReg⟩
      obtain ⟨R, hR⟩ := choose_lt (α := Reg) key
      exact ⟨R, by simp only [maxLen] at hm; omega, hR⟩
end
end Go.Proofs.Ytfeebbeailmieaa
