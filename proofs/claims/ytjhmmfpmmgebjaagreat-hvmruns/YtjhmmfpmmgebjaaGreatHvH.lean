/- Arguments that lead into memory, opened: rows of host instructions, of fours of bytes, of numbers. -/
import Derived.Test.YtjhmmfpmmgebjaaGreatHvE
import Derived.Deep.Fields
import Derived.OpenShut
namespace Go.Proofs.YtjhmmfpmmgebjaaGreat
open Go.ChangeShapes Go.WideShapes Go.ChangeAt Go.RowKit Go.Deep
set_option linter.unusedVariables false
set_option linter.unusedSimpArgs false

theorem cellsU32' : Tryz.prog.cellsOf 26 = 1 := by kernel_rfl
theorem cellsU8' : Tryz.prog.cellsOf 5 = 1 := by kernel_rfl
theorem cells6' : Tryz.prog.cellsOf 31 = 6 := by kernel_rfl
theorem cells4' : Tryz.prog.cellsOf 61 = 4 := by kernel_rfl
theorem spot_of' {W : World} {a : Addr} {v : Value} (h : W.cell? a = some v) : ∃ b o, a = ⟨b, o, none⟩ := by
  have hs := World.cell?_spot h
  obtain ⟨b, o, spot⟩ := a
  exact ⟨b, o, by simpa using hs⟩
section
variable {H : Type} {enc : TypeId × Value → H} {W : World} {A : Option Addr} {n c : Nat} {d : DataW H} {p : List MemPlace}
theorem nums_of (h : DataW.Trod enc Tryz.prog W 0 (fun _ => true) true 24 (.slice A n c) d p) : ∃ v : List Int, v.length = n ∧ U4 W A v := by
  obtain ⟨fuel, hf⟩ := h
  have hf' : DataW.trod enc Tryz.prog W 0 (fun _ => true) true fuel 24 [.slice A n c] = some (d, p) := by simpa [Value.cells] using hf
  rcases open_slice1 Tryz.underlying24 cellsU32' hf' with ⟨h0, _⟩ | ⟨a, len, cap, m, n', V, D, Pl, h0, hb, hl, hm, hmm, hx, hel⟩
  · cases h0
    exact ⟨[], rfl, fun i x hx => by simp at hx⟩
  · cases h0
    have hm' : m = c := by simpa using hmm
    have key : ∀ i, i < n → ∃ z : Int, (0 ≤ z ∧ z ≤ 4294967295) ∧ W.cell? (a.add i) = some (.int .u32 z) := fun i hi => by
      obtain ⟨h1, h2⟩ := hel i (by omega)
      obtain ⟨z, hz, _, hw⟩ := DataW.trod_int Tryz.underlying26 h2
      simp only [List.cons.injEq, and_true] at hz
      rw [hz] at h1
      have hb := bounds_u32 hw
      exact ⟨z, ⟨hb.1, by omega⟩, h1⟩
    obtain ⟨V', hV⟩ := choose_lt (α := Int) key
    refine ⟨(List.range n).map V', by simp, fun j x hx => ?_⟩
    have hj : j < n := by simpa using (List.getElem?_eq_some_iff.1 hx).1
    have hxv : x = V' j := by
      simp only [List.getElem?_map, List.getElem?_range hj, Option.map_some, Option.some.injEq] at hx
      exact hx.symm
    have h1 := (hV j hj).2
    obtain ⟨b, o, rfl⟩ : ∃ b o, a = ⟨b, o, none⟩ := by
      have := (hV 0 (by omega)).2
      exact spot_of' (by simpa [Addr.add] using this)
    rw [add_plain] at h1
    rw [hxv]
    exact ⟨(hV j hj).1, b, o, rfl, h1⟩
theorem fours_of (h : DataW.Trod enc Tryz.prog W 0 (fun _ => true) true 23 (.slice A n c) d p) : ∃ l : List (Int × Int × Int × Int), l.length = n ∧ L4 W A l := by
  obtain ⟨fuel, hf⟩ := h
  have hf' : DataW.trod enc Tryz.prog W 0 (fun _ => true) true fuel 23 [.slice A n c] = some (d, p) := by simpa [Value.cells] using hf
  rcases open_slice Tryz.underlying23 hf' with ⟨h0, _⟩ | ⟨a, len, cap, m, n', D, Pl, h0, hb, hl, hm, hmm, hx, hel⟩
  · cases h0
    exact ⟨[], rfl, fun i x hx => by simp at hx⟩
  · cases h0
    have hm' : m = c := by simpa using hmm
    rw [cells4'] at hel
    rcases Nat.eq_zero_or_pos n with rfl | hpos
    · exact ⟨[], rfl, fun i x hx => by simp at hx⟩
    · obtain ⟨b, o, rfl⟩ : ∃ b o, a = ⟨b, o, none⟩ := by
        obtain ⟨cs', hc, _⟩ := hel 0 (by omega)
        obtain ⟨_, hlen, hcell⟩ := World.cells?_some hc
        have h1 := hcell 0 (by decide)
        rw [List.getElem?_eq_getElem (by omega)] at h1
        exact spot_of' (by simpa [Addr.add] using h1)
      have key : ∀ i, i < n → ∃ x : Int × Int × Int × Int, ((0 ≤ x.1 ∧ x.1 ≤ 255) ∧ (0 ≤ x.2.1 ∧ x.2.1 ≤ 255) ∧ (0 ≤ x.2.2.1 ∧ x.2.2.1 ≤ 255) ∧ (0 ≤ x.2.2.2 ∧ x.2.2.2 ≤ 255)) ∧
          W.rangeAt b (o + i * 4) [.int .u8 x.1, .int .u8 x.2.1, .int .u8 x.2.2.1, .int .u8 x.2.2.2] := fun i hi => by
        obtain ⟨cs', hc, ht⟩ := hel i (by omega)
        obtain ⟨_, hlen, hcell⟩ := World.cells?_some hc
        obtain ⟨xs, n2, _, _, _, hxl, hfl⟩ := DataW.trod_array Tryz.underlying61 ht
        rw [cellsU8'] at hfl
        have cl : ∀ j, j < 4 → W.cell? ⟨b, o + i * 4 + j, none⟩ = some (cs'.getD j undef) := fun j hj => by
          have h1 := hcell j hj
          rw [add_plain, add_plain, List.getElem?_eq_getElem (by omega)] at h1
          rw [h1]
          simp [List.getD, List.getElem?_eq_getElem (show j < cs'.length by omega)]
        have one : ∀ j, j < 4 → ∃ z : Int, (0 ≤ z ∧ z ≤ 255) ∧ W.cell? ⟨b, o + i * 4 + j, none⟩ = some (.int .u8 z) := fun j hj => by
          have g := hfl j hj
          rw [Nat.mul_one, take1_drop cs' j undef (by omega), List.getElem?_eq_getElem (by omega)] at g
          obtain ⟨z, hz, _, hw⟩ := DataW.trod_int Tryz.underlying5 g
          simp only [List.cons.injEq, and_true] at hz
          have hb := bounds_u8 hw
          exact ⟨z, ⟨hb.1, by omega⟩, (cl j hj).trans (by rw [hz])⟩
        obtain ⟨z0, q0, k0⟩ := one 0 (by decide)
        obtain ⟨z1, q1, k1⟩ := one 1 (by decide)
        obtain ⟨z2, q2, k2⟩ := one 2 (by decide)
        obtain ⟨z3, q3, k3⟩ := one 3 (by decide)
        refine ⟨(z0, z1, z2, z3), ⟨q0, q1, q2, q3⟩, fun j v hv => ?_⟩
        have hj : j < 4 := (List.getElem?_eq_some_iff.1 hv).1
        rcases (show j = 0 ∨ j = 1 ∨ j = 2 ∨ j = 3 by omega) with rfl | rfl | rfl | rfl
        · exact k0.trans hv
        · exact k1.trans hv
        · exact k2.trans hv
        · exact k3.trans hv
      obtain ⟨R, hR⟩ := choose_lt (α := Int × Int × Int × Int) key
      refine ⟨(List.range n).map R, by simp, fun j x hx => ?_⟩
      have hj : j < n := by simpa using (List.getElem?_eq_some_iff.1 hx).1
      have hxv : x = R j := by
        simp only [List.getElem?_map, List.getElem?_range hj, Option.map_some, Option.some.injEq] at hx
        exact hx.symm
      rw [hxv]
      exact ⟨(hR j hj).1, b, o, rfl, (hR j hj).2⟩
set_option maxRecDepth 100000 in
theorem raws_of (h : DataW.Trod enc Tryz.prog W 0 (fun _ => true) true 22 (.slice A n c) d p) : ∃ raw : List HV, raw.length = n ∧ ∀ (i : Nat) (h : HV), raw[i]? = some h → h.wf ∧ ∃ b o, A = some ⟨b, o, none⟩ ∧ At6 W b (o + i * 6) h := by
  obtain ⟨fuel, hf⟩ := h
  have hf' : DataW.trod enc Tryz.prog W 0 (fun _ => true) true fuel 22 [.slice A n c] = some (d, p) := by simpa [Value.cells] using hf
  rcases open_slice Tryz.underlying22 hf' with ⟨h0, _⟩ | ⟨a, len, cap, m, n', D, Pl, h0, hb, hl, hm, hmm, hx, hel⟩
  · cases h0
    exact ⟨[], rfl, fun i x hx => by simp at hx⟩
  · cases h0
    have hm' : m = c := by simpa using hmm
    rw [cells6'] at hel
    rcases Nat.eq_zero_or_pos n with rfl | hpos
    · exact ⟨[], rfl, fun i x hx => by simp at hx⟩
    · obtain ⟨b, o, rfl⟩ : ∃ b o, a = ⟨b, o, none⟩ := by
        obtain ⟨cs', hc, _⟩ := hel 0 (by omega)
        obtain ⟨_, hlen, hcell⟩ := World.cells?_some hc
        have h1 := hcell 0 (by decide)
        rw [List.getElem?_eq_getElem (by omega)] at h1
        exact spot_of' (by simpa [Addr.add] using h1)
      have key : ∀ i, i < n → ∃ r : HV, r.wf ∧ At6 W b (o + i * 6) r := fun i hi => by
        obtain ⟨cs', hc, ht⟩ := hel i (by omega)
        obtain ⟨_, hlen, hcell⟩ := World.cells?_some hc
        obtain ⟨xs, n2, _, _, _, hxl, hfl⟩ := DataW.trod_struct Tryz.underlying31 ht
        have cl : ∀ j, j < 6 → W.cell? ⟨b, o + i * 6 + j, none⟩ = some (cs'.getD j undef) := fun j hj => by
          have h1 := hcell j hj
          rw [add_plain, add_plain, List.getElem?_eq_getElem (by omega)] at h1
          rw [h1]
          simp [List.getD, List.getElem?_eq_getElem (show j < cs'.length by omega)]
        have hx6 : xs.length = 6 := hxl
        have g0 := hfl 0 _ rfl
        have g1 := hfl 1 _ rfl
        have g2 := hfl 2 _ rfl
        have g3 := hfl 3 _ rfl
        have g4 := hfl 4 _ rfl
        have g5 := hfl 5 _ rfl
        rw [List.getElem?_eq_getElem (by omega)] at g0 g1 g2 g3 g4 g5
        have c1 : ∀ j, j < 6 → (cs'.drop j).take 1 = [cs'.getD j undef] := fun j hj => take1_drop cs' j undef (by omega)
        obtain ⟨x0, hx0, _, _⟩ := DataW.trod_int Tryz.underlying3 g0
        obtain ⟨x1, hx1, _, _⟩ := DataW.trod_int Tryz.underlying3 g1
        obtain ⟨x2, hx2, _, _⟩ := DataW.trod_int Tryz.underlying3 g2
        obtain ⟨x3, hx3, _, _⟩ := DataW.trod_int Tryz.underlying3 g3
        obtain ⟨x4, hx4, _, _⟩ := DataW.trod_int Tryz.underlying3 g4
        obtain ⟨x5, hx5, _, w5⟩ := DataW.trod_int Tryz.underlying26 g5
        have e0 := ((c1 0 (by decide)).symm.trans hx0)
        have e1 := ((c1 1 (by decide)).symm.trans hx1)
        have e2 := ((c1 2 (by decide)).symm.trans hx2)
        have e3 := ((c1 3 (by decide)).symm.trans hx3)
        have e4 := ((c1 4 (by decide)).symm.trans hx4)
        have e5 := ((c1 5 (by decide)).symm.trans hx5)
        simp only [List.cons.injEq, and_true] at e0 e1 e2 e3 e4 e5
        have b5 := bounds_u32 w5
        refine ⟨⟨x0, x1, x2, x3, x4, x5⟩, ⟨b5.1, b5.2⟩, ?_⟩
        exact ⟨(cl 0 (by decide)).trans (by rw [e0]), (cl 1 (by decide)).trans (by rw [e1]), (cl 2 (by decide)).trans (by rw [e2]), (cl 3 (by decide)).trans (by rw [e3]), (cl 4 (by decide)).trans (by rw [e4]), (cl 5 (by decide)).trans (by rw [e5])⟩
      haveI : Inhabited HV := ⟨noHV⟩
      obtain ⟨V', hV⟩ := choose_lt (α := HV) key
      refine ⟨(List.range n).map V', by simp, fun j x hx => ?_⟩
      have hj : j < n := by simpa using (List.getElem?_eq_some_iff.1 hx).1
      have hxv : x = V' j := by
        simp only [List.getElem?_map, List.getElem?_range hj, Option.map_some, Option.some.injEq] at hx
        exact hx.symm
      rw [hxv]
      exact ⟨(hV j hj).1, b, o, rfl, (hV j hj).2⟩
theorem raws_in {raw : List HV} (h : ∀ (i : Nat) (x : HV), raw[i]? = some x → x.wf ∧ ∃ b o, A = some ⟨b, o, none⟩ ∧ At6 W b (o + i * 6) x) : ∀ b o, A = some ⟨b, o, none⟩ → raw = [] ∨ b < W.heap.size := fun b o e => by
  cases raw with
  | nil => exact .inl rfl
  | cons x t =>
    obtain ⟨_, b', o', e', h6⟩ := h 0 x rfl
    rw [e] at e'
    simp only [Option.some.injEq, Addr.mk.injEq, and_true] at e'
    exact .inr (e'.1 ▸ h6.lt)
end
end Go.Proofs.YtjhmmfpmmgebjaaGreat
