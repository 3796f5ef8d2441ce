/- The arguments that lead into memory, opened: bytes, lists of regions with their bytes, a story's acts. -/
import Derived.Test.YtbpjhaaenoaclaaMem2
import Derived.Deep.Fields
namespace Go.Proofs.Ytbpjhaaenoaclaa
open Go.ChangeShapes Go.WideShapes Go.ChangeAt Go.RowKit Go.Deep
set_option linter.unusedVariables false
set_option linter.unusedSimpArgs false

theorem cellsReg : Try.prog.cellsOf 61 = 7 := by kernel_rfl
theorem cellsAct : Try.prog.cellsOf 36 = 4 := by kernel_rfl
theorem cellsU8 : Try.prog.cellsOf 5 = 1 := by kernel_rfl

theorem lt_of_cell {w : World} {b o : Nat} {v : Value} (h : w.cell? ⟨b, o, none⟩ = some v) : b < w.heap.size := World.block_lt_of_cell? w _ h
theorem spot_of {W : World} {a : Addr} {v : Value} (h : W.cell? a = some v) : ∃ b o, a = ⟨b, o, none⟩ := by
  have hs := World.cell?_spot h
  obtain ⟨b, o, spot⟩ := a
  exact ⟨b, o, by simpa using hs⟩

/-- A story's acts. -/
structure ActS where
  what : Int
  wher : Int
  a : Int
  v : Int
def ActS.wf (x : ActS) : Prop := 0 ≤ x.what ∧ x.what ≤ 255 ∧ 0 ≤ x.wher ∧ x.wher ≤ 255 ∧ 0 ≤ x.a ∧ x.a ≤ 4294967295 ∧ 0 ≤ x.v ∧ x.v ≤ 4294967295
def AL (w : World) (A : Option Addr) (n : Nat) (X : Nat → ActS) : Prop :=
  (n : Int) ≤ 9223372036854775807 ∧ ∀ i, i < n → (X i).wf ∧ ∃ b o, A = some ⟨b, o, none⟩ ∧ b < w.heap.size ∧ w.cell? ⟨b, o + i * 4, none⟩ = some (.int .u8 (X i).what) ∧ w.cell? ⟨b, o + i * 4 + 1, none⟩ = some (.int .u8 (X i).wher) ∧
    w.cell? ⟨b, o + i * 4 + 2, none⟩ = some (.int .u32 (X i).a) ∧ w.cell? ⟨b, o + i * 4 + 3, none⟩ = some (.int .u32 (X i).v)

section
variable {H : Type} {enc : TypeId × Value → H} {W : World} {A : Option Addr} {n c : Nat} {d : DataW H} {p : List MemPlace}

theorem bl_of {fuel : Nat} (hf' : DataW.trod enc Try.prog W 0 (fun _ => true) true fuel 22 [.slice A n c] = some (d, p)) : ∃ bs : List Int, bs.length = n ∧ BL W (fun b => b < W.heap.size) (.slice A n c) bs := by
  rcases open_slice1 Try.underlying22 cellsU8 hf' with ⟨h0, _⟩ | ⟨a, len, cap, m, n', V, D, Pl, h0, hb, hl, hm, hmm, hx, hel⟩
  · cases h0
    exact ⟨[], rfl, fun x hx => (by cases hx), none, 0, rfl, fun _ => ⟨rfl, rfl⟩, fun j x hx => (by simp at hx)⟩
  · cases h0
    have hm' : m = c := by simpa using hmm
    have key : ∀ i, i < n → ∃ z : Int, (0 ≤ z ∧ z ≤ 255) ∧ W.cell? (a.add i) = some (.int .u8 z) := fun i hi => by
      obtain ⟨h1, h2⟩ := hel i (by omega)
      obtain ⟨z, hz, _, hw⟩ := DataW.trod_int Try.underlying5 h2
      simp only [List.cons.injEq, and_true] at hz
      rw [hz] at h1
      have hb := bounds_u8 hw
      exact ⟨z, ⟨hb.1, by omega⟩, h1⟩
    obtain ⟨V', hV⟩ := choose_lt (α := Int) key
    refine ⟨(List.range n).map V', by simp, ?_, some a, c, by simp, fun h => (by cases h), fun j x hx => ?_⟩
    · intro x hx
      obtain ⟨i, hi, rfl⟩ := List.mem_map.1 hx
      exact (hV i (List.mem_range.1 hi)).1
    · have hj : j < n := by simpa using (List.getElem?_eq_some_iff.1 hx).1
      have hxv : x = V' j := by
        simp only [List.getElem?_map, List.getElem?_range hj, Option.map_some, Option.some.injEq] at hx
        exact hx.symm
      have h1 := (hV j hj).2
      obtain ⟨b, o, rfl⟩ : ∃ b o, a = ⟨b, o, none⟩ := by
        have := (hV 0 (by omega)).2
        exact spot_of (by simpa [Addr.add] using this)
      rw [add_plain] at h1
      exact ⟨b, o, rfl, lt_of_cell h1, by rw [hxv]; exact h1⟩
theorem bytes_of (h : DataW.Trod enc Try.prog W 0 (fun _ => true) true 22 (.slice A n c) d p) : ∃ bs : List Int, bs.length = n ∧ BL W (fun b => b < W.heap.size) (.slice A n c) bs := by
  obtain ⟨fuel, hf⟩ := h
  exact bl_of (by simpa [Value.cells] using hf)

theorem acts_of (h : DataW.Trod enc Try.prog W 0 (fun _ => true) true 23 (.slice A n c) d p) : ∃ X, AL W A n X := by
  obtain ⟨fuel, hf⟩ := h
  have hf' : DataW.trod enc Try.prog W 0 (fun _ => true) true fuel 23 [.slice A n c] = some (d, p) := by simpa [Value.cells] using hf
  rcases open_slice Try.underlying23 hf' with ⟨h0, _⟩ | ⟨a, len, cap, m, n', D, Pl, h0, hb, hl, hm, hmm, hx, hel⟩
  · cases h0
    exact ⟨fun _ => ⟨0, 0, 0, 0⟩, by decide, fun i hi => absurd hi (Nat.not_lt_zero _)⟩
  · cases h0
    have hm' : m = c := by simpa using hmm
    rw [cellsAct] at hel
    rcases Nat.eq_zero_or_pos n with rfl | hpos
    · exact ⟨fun _ => ⟨0, 0, 0, 0⟩, by decide, fun i hi => absurd hi (Nat.not_lt_zero _)⟩
    · obtain ⟨b, o, rfl⟩ : ∃ b o, a = ⟨b, o, none⟩ := by
        obtain ⟨cs', hc, _⟩ := hel 0 (by omega)
        obtain ⟨_, hlen, hcell⟩ := World.cells?_some hc
        have h1 := hcell 0 (by decide)
        rw [List.getElem?_eq_getElem (by omega)] at h1
        exact spot_of (by simpa [Addr.add] using h1)
      have key : ∀ i, i < n → ∃ x : ActS, x.wf ∧ ∃ b' o', some (⟨b, o, none⟩ : Addr) = some ⟨b', o', none⟩ ∧ b' < W.heap.size ∧ W.cell? ⟨b', o' + i * 4, none⟩ = some (.int .u8 x.what) ∧ W.cell? ⟨b', o' + i * 4 + 1, none⟩ = some (.int .u8 x.wher) ∧
          W.cell? ⟨b', o' + i * 4 + 2, none⟩ = some (.int .u32 x.a) ∧ W.cell? ⟨b', o' + i * 4 + 3, none⟩ = some (.int .u32 x.v) := fun i hi => by
        obtain ⟨cs', hc, ht⟩ := hel i (by omega)
        obtain ⟨_, hlen, hcell⟩ := World.cells?_some hc
        obtain ⟨xs, n2, _, _, _, hxl, hfl⟩ := DataW.trod_struct Try.underlying36 ht
        have cl : ∀ j, j < 4 → W.cell? ⟨b, o + i * 4 + j, none⟩ = some (cs'.getD j undef) := fun j hj => by
          have h1 := hcell j hj
          rw [add_plain, add_plain, List.getElem?_eq_getElem (by omega)] at h1
          rw [h1]
          simp [List.getD, List.getElem?_eq_getElem (show j < cs'.length by omega)]
        have hx4 : xs.length = 4 := hxl
        have g0 := hfl 0 _ rfl
        have g1 := hfl 1 _ rfl
        have g2 := hfl 2 _ rfl
        have g3 := hfl 3 _ rfl
        rw [List.getElem?_eq_getElem (by omega)] at g0 g1 g2 g3
        have c1 : ∀ j, j < 4 → (cs'.drop j).take 1 = [cs'.getD j undef] := fun j hj => take1_drop cs' j undef (by omega)
        have z0 := c1 0 (by decide)
        have z1 := c1 1 (by decide)
        have z2 := c1 2 (by decide)
        have z3 := c1 3 (by decide)
        obtain ⟨x0, hx0, _, w0⟩ := DataW.trod_int Try.underlying5 g0
        obtain ⟨x1, hx1, _, w1⟩ := DataW.trod_int Try.underlying5 g1
        obtain ⟨x2, hx2, _, w2⟩ := DataW.trod_int Try.underlying34 g2
        obtain ⟨x3, hx3, _, w3⟩ := DataW.trod_int Try.underlying34 g3
        have e0 := (z0.symm.trans hx0)
        have e1 := (z1.symm.trans hx1)
        have e2 := (z2.symm.trans hx2)
        have e3 := (z3.symm.trans hx3)
        simp only [List.cons.injEq, and_true] at e0 e1 e2 e3
        have b0 := bounds_u8 w0
        have b1 := bounds_u8 w1
        have b2 := bounds_u32 w2
        have b3 := bounds_u32 w3
        exact ⟨⟨x0, x1, x2, x3⟩, ⟨b0.1, by simp only []; omega, b1.1, by simp only []; omega, b2.1, by simp only []; omega, b3.1, by simp only []; omega⟩, b, o, rfl, lt_of_cell (cl 0 (by decide)), (cl 0 (by decide)).trans (by rw [e0]), (cl 1 (by decide)).trans (by rw [e1]), (cl 2 (by decide)).trans (by rw [e2]), (cl 3 (by decide)).trans (by rw [e3])⟩
      haveI : Inhabited ActS := ⟨⟨0, 0, 0, 0⟩⟩
      obtain ⟨R, hR⟩ := choose_lt (α := ActS) key
      exact ⟨R, by simp only [maxLen] at hm; omega, hR⟩

theorem regs_of (h : DataW.Trod enc Try.prog W 0 (fun _ => true) true 25 (.slice A n c) d p) : ∃ Bs G, Bs.length = n ∧ RL W (fun b => b < W.heap.size) (.slice A n c) Bs G := by
  obtain ⟨fuel, hf⟩ := h
  have hf' : DataW.trod enc Try.prog W 0 (fun _ => true) true fuel 25 [.slice A n c] = some (d, p) := by simpa [Value.cells] using hf
  have hnil : ∀ c' : Nat, (A = none → c' = 0) → n = 0 → c = c' → ∃ Bs G, Bs.length = n ∧ RL W (fun b => b < W.heap.size) (.slice A n c) Bs G := fun c' h1 h2 h3 => by
    subst h2
    subst h3
    exact ⟨[], [], rfl, [], rfl, rfl, A, c, rfl, fun h => ⟨h1 h, rfl⟩, fun b o _ h => absurd rfl h, ⟨by decide, fun i hi => absurd hi (Nat.not_lt_zero _)⟩, fun i r g hr => (by simp at hr)⟩
  rcases open_slice Try.underlying25 hf' with ⟨h0, _⟩ | ⟨a, len, cap, m, n', D, Pl, h0, hb, hl, hm, hmm, hx, hel⟩
  · cases h0
    exact hnil 0 (fun _ => rfl) rfl rfl
  · cases h0
    have hm' : m = c := by simpa using hmm
    rw [cellsReg] at hel
    rcases Nat.eq_zero_or_pos n with rfl | hpos
    · exact hnil c (fun h => (by cases h)) rfl rfl
    · obtain ⟨b, o, rfl⟩ : ∃ b o, a = ⟨b, o, none⟩ := by
        obtain ⟨cs', hc, _⟩ := hel 0 (by omega)
        obtain ⟨_, hlen, hcell⟩ := World.cells?_some hc
        have h1 := hcell 0 (by decide)
        rw [List.getElem?_eq_getElem (by omega)] at h1
        exact spot_of (by simpa [Addr.add] using h1)
      have key : ∀ i, i < n → ∃ rg : Reg × List Int, rg.1.wf ∧ At7 W b (o + i * 7) rg.1 ∧ rg.1.bl = rg.2.length ∧ BL W (fun b => b < W.heap.size) (.slice rg.1.ba rg.1.bl rg.1.bc) rg.2 := fun i hi => by
        obtain ⟨cs', hc, ht⟩ := hel i (by omega)
        obtain ⟨_, hlen, hcell⟩ := World.cells?_some hc
        obtain ⟨xs, n2, _, _, _, hxl, hfl⟩ := DataW.trod_struct Try.underlying61 ht
        have cl : ∀ j, j < 7 → W.cell? ⟨b, o + i * 7 + j, none⟩ = some (cs'.getD j undef) := fun j hj => by
          have h1 := hcell j hj
          rw [add_plain, add_plain, List.getElem?_eq_getElem (by omega)] at h1
          rw [h1]
          simp [List.getD, List.getElem?_eq_getElem (show j < cs'.length by omega)]
        have hx7 : xs.length = 7 := hxl
        have g0 := hfl 0 _ rfl
        have g1 := hfl 1 _ rfl
        have g2 := hfl 2 _ rfl
        have g3 := hfl 3 _ rfl
        have g4 := hfl 4 _ rfl
        have g5 := hfl 5 _ rfl
        have g6 := hfl 6 _ rfl
        rw [List.getElem?_eq_getElem (by omega)] at g0 g1 g2 g3 g4 g5 g6
        have c1 : ∀ j, j < 7 → (cs'.drop j).take 1 = [cs'.getD j undef] := fun j hj => take1_drop cs' j undef (by omega)
        have z0 := c1 0 (by decide)
        have z1 := c1 1 (by decide)
        have z2 := c1 2 (by decide)
        have z3 := c1 3 (by decide)
        have z4 := c1 4 (by decide)
        have z5 := c1 5 (by decide)
        have z6 := c1 6 (by decide)
        obtain ⟨f, hf0, _, w0⟩ := DataW.trod_int Try.underlying34 g0
        obtain ⟨l, hl0, _, w1⟩ := DataW.trod_int Try.underlying34 g1
        obtain ⟨rd, hrd, _⟩ := DataW.trod_bool Try.underlying4 g2
        obtain ⟨wr, hwr, _⟩ := DataW.trod_bool Try.underlying4 g3
        obtain ⟨ex, hex, _⟩ := DataW.trod_bool Try.underlying4 g4
        obtain ⟨se, hse, _⟩ := DataW.trod_bool Try.underlying4 g5
        have e0 := (z0.symm.trans hf0)
        have e1 := (z1.symm.trans hl0)
        have e2 := (z2.symm.trans hrd)
        have e3 := (z3.symm.trans hwr)
        have e4 := (z4.symm.trans hex)
        have e5 := (z5.symm.trans hse)
        simp only [List.cons.injEq, and_true] at e0 e1 e2 e3 e4 e5
        obtain ⟨ba, bl, bc, e6, hbl⟩ : ∃ ba bl bc, cs'.getD 6 undef = .slice ba bl bc ∧ (bl : Int) ≤ 9223372036854775807 := by
          rcases open_slice Try.underlying22 g6 with ⟨h0, _⟩ | ⟨a6, len6, cap6, m6, n6, D6, Pl6, h0, hb6, hl6, hm6, _⟩
          · have := (z6.symm.trans h0)
            simp only [List.cons.injEq, and_true] at this
            exact ⟨none, 0, 0, this, by decide⟩
          · have := (z6.symm.trans h0)
            simp only [List.cons.injEq, and_true] at this
            exact ⟨some a6, len6, cap6, this, by simp only [maxLen] at hm6; omega⟩
        have h6 : ∃ bs : List Int, bs.length = bl ∧ BL W (fun b => b < W.heap.size) (.slice ba bl bc) bs := by
          have z6' : (cs'.drop 6).take 1 = [Value.slice ba bl bc] := by rw [z6, e6]
          have g6' : DataW.trod enc Try.prog W 0 (fun _ => true) true n2 22 [Value.slice ba bl bc] = some (xs[6]'(by omega)) := by
            rw [← z6']
            exact g6
          exact bl_of (d := (xs[6]'(by omega)).1) (p := (xs[6]'(by omega)).2) g6'
        obtain ⟨bs, hbs1, hbs2⟩ := h6
        have b0 := bounds_u32 w0
        have b1 := bounds_u32 w1
        refine ⟨(⟨f, l, rd, wr, ex, se, ba, bl, bc⟩, bs), ⟨b0.1, by simp only []; omega, b1.1, by simp only []; omega, hbl⟩, ?_, hbs1.symm, hbs2⟩
        exact ⟨(cl 0 (by decide)).trans (by rw [e0]), (cl 1 (by decide)).trans (by rw [e1]), (cl 2 (by decide)).trans (by rw [e2]), (cl 3 (by decide)).trans (by rw [e3]), (cl 4 (by decide)).trans (by rw [e4]), (cl 5 (by decide)).trans (by rw [e5]), (cl 6 (by decide)).trans (by rw [e6])⟩
      haveI : Inhabited (Reg × List Int) := ⟨(noReg, [])⟩
      obtain ⟨R, hR⟩ := choose_lt (α := Reg × List Int) key
      refine ⟨(List.range n).map fun i => (R i).1.bare, (List.range n).map fun i => (R i).2, by simp, (List.range n).map fun i => (R i).1, by simp, by simp, some ⟨b, o, none⟩, c, by simp, fun h => (by cases h), fun b' o' h _ => ?_, ?_, fun i r g hr hg => ?_⟩
      · simp only [Option.some.injEq, Addr.mk.injEq, and_true] at h
        rw [← h.1]
        exact (hR 0 hpos).2.1.lt
      · refine ⟨by simp only [maxLen] at hm; simp; omega, fun i hi => ?_⟩
        have hi' : i < n := by simpa using hi
        have e : regAt ((List.range n).map fun i => (R i).1) i = (R i).1 := by simp [regAt, List.getD, hi']
        rw [e]
        exact ⟨(hR i hi').1, b, o, rfl, (hR i hi').2.1⟩
      · have hi' : i < n := by simpa using (List.getElem?_eq_some_iff.1 hr).1
        simp only [List.getElem?_map, List.getElem?_range hi', Option.map_some, Option.some.injEq] at hr hg
        subst hr
        subst hg
        exact (hR i hi').2.2
end
end Go.Proofs.Ytbpjhaaenoaclaa
