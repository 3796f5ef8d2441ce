/- Arguments that lead into memory, opened: rows of fours of bytes, rows of numbers. -/
import Derived.Test.YteflboidbogegaaHvt
import Derived.Deep.Fields
import Derived.OpenShut
namespace Go.Proofs.Yteflboidbogegaa
open Go.ChangeShapes Go.WideShapes Go.ChangeAt Go.RowKit Go.Deep
set_option linter.unusedVariables false
set_option linter.unusedSimpArgs false

theorem cellsU32' : Try.prog.cellsOf 22 = 1 := by kernel_rfl
theorem cellsU8' : Try.prog.cellsOf 5 = 1 := by kernel_rfl
theorem cells4' : Try.prog.cellsOf 48 = 4 := by kernel_rfl
theorem spot_of' {W : World} {a : Addr} {v : Value} (h : W.cell? a = some v) : ∃ b o, a = ⟨b, o, none⟩ := by
  have hs := World.cell?_spot h
  obtain ⟨b, o, spot⟩ := a
  exact ⟨b, o, by simpa using hs⟩
section
variable {H : Type} {enc : TypeId × Value → H} {W : World} {A : Option Addr} {n c : Nat} {d : DataW H} {p : List MemPlace}
theorem nums_of (h : DataW.Trod enc Try.prog W 0 (fun _ => true) true 45 (.slice A n c) d p) : ∃ v : List Int, v.length = n ∧ U4 W A v := by
  obtain ⟨fuel, hf⟩ := h
  have hf' : DataW.trod enc Try.prog W 0 (fun _ => true) true fuel 45 [.slice A n c] = some (d, p) := by simpa [Value.cells] using hf
  rcases open_slice1 Try.underlying45 cellsU32' hf' with ⟨h0, _⟩ | ⟨a, len, cap, m, n', V, D, Pl, h0, hb, hl, hm, hmm, hx, hel⟩
  · cases h0
    exact ⟨[], rfl, fun i x hx => by simp at hx⟩
  · cases h0
    have hm' : m = c := by simpa using hmm
    have key : ∀ i, i < n → ∃ z : Int, (0 ≤ z ∧ z ≤ 4294967295) ∧ W.cell? (a.add i) = some (.int .u32 z) := fun i hi => by
      obtain ⟨h1, h2⟩ := hel i (by omega)
      obtain ⟨z, hz, _, hw⟩ := DataW.trod_int Try.underlying22 h2
      simp only [List.cons.injEq, and_true] at hz
      rw [hz] at h1
      have hb := bounds_u32 hw
      exact ⟨z, ⟨hb.1, by omega⟩, h1⟩
    obtain ⟨V', hV⟩ := choose_lt (α := Int) key
    refine ⟨(List.range n).map V', by simp, fun j x hx => ?_⟩
    have hj : j < n := by simpa using (List.getElem?_eq_some_iff.1 hx).1
    have hxv : x = V' j := by
      simp only [List.getElem?_map, List.getElem?_range hj, Option.map_some, Option.some.injEq] at hx
      exact hx.symm
    have h1 := (hV j hj).2
    obtain ⟨b, o, rfl⟩ : ∃ b o, a = ⟨b, o, none⟩ := by
      have := (hV 0 (by omega)).2
      exact spot_of' (by simpa [Addr.add] using this)
    rw [add_plain] at h1
    rw [hxv]
    exact ⟨(hV j hj).1, b, o, rfl, h1⟩
theorem fours_of (h : DataW.Trod enc Try.prog W 0 (fun _ => true) true 44 (.slice A n c) d p) : ∃ l : List (Int × Int × Int × Int), l.length = n ∧ L4 W A l := by
  obtain ⟨fuel, hf⟩ := h
  have hf' : DataW.trod enc Try.prog W 0 (fun _ => true) true fuel 44 [.slice A n c] = some (d, p) := by simpa [Value.cells] using hf
  rcases open_slice Try.underlying44 hf' with ⟨h0, _⟩ | ⟨a, len, cap, m, n', D, Pl, h0, hb, hl, hm, hmm, hx, hel⟩
  · cases h0
    exact ⟨[], rfl, fun i x hx => by simp at hx⟩
  · cases h0
    have hm' : m = c := by simpa using hmm
    rw [cells4'] at hel
    rcases Nat.eq_zero_or_pos n with rfl | hpos
    · exact ⟨[], rfl, fun i x hx => by simp at hx⟩
    · obtain ⟨b, o, rfl⟩ : ∃ b o, a = ⟨b, o, none⟩ := by
        obtain ⟨cs', hc, _⟩ := hel 0 (by omega)
        obtain ⟨_, hlen, hcell⟩ := World.cells?_some hc
        have h1 := hcell 0 (by decide)
        rw [List.getElem?_eq_getElem (by omega)] at h1
        exact spot_of' (by simpa [Addr.add] using h1)
      have key : ∀ i, i < n → ∃ x : Int × Int × Int × Int, ((0 ≤ x.1 ∧ x.1 ≤ 255) ∧ (0 ≤ x.2.1 ∧ x.2.1 ≤ 255) ∧ (0 ≤ x.2.2.1 ∧ x.2.2.1 ≤ 255) ∧ (0 ≤ x.2.2.2 ∧ x.2.2.2 ≤ 255)) ∧
          W.rangeAt b (o + i * 4) [.int .u8 x.1, .int .u8 x.2.1, .int .u8 x.2.2.1, .int .u8 x.2.2.2] := fun i hi => by
        obtain ⟨cs', hc, ht⟩ := hel i (by omega)
        obtain ⟨_, hlen, hcell⟩ := World.cells?_some hc
        obtain ⟨xs, n2, _, _, _, hxl, hfl⟩ := DataW.trod_array Try.underlying48 ht
        rw [cellsU8'] at hfl
        have cl : ∀ j, j < 4 → W.cell? ⟨b, o + i * 4 + j, none⟩ = some (cs'.getD j undef) := fun j hj => by
          have h1 := hcell j hj
          rw [add_plain, add_plain, List.getElem?_eq_getElem (by omega)] at h1
          rw [h1]
          simp [List.getD, List.getElem?_eq_getElem (show j < cs'.length by omega)]
        have one : ∀ j, j < 4 → ∃ z : Int, (0 ≤ z ∧ z ≤ 255) ∧ W.cell? ⟨b, o + i * 4 + j, none⟩ = some (.int .u8 z) := fun j hj => by
          have g := hfl j hj
          rw [Nat.mul_one, take1_drop cs' j undef (by omega), List.getElem?_eq_getElem (by omega)] at g
          obtain ⟨z, hz, _, hw⟩ := DataW.trod_int Try.underlying5 g
          simp only [List.cons.injEq, and_true] at hz
          have hb := bounds_u8 hw
          exact ⟨z, ⟨hb.1, by omega⟩, (cl j hj).trans (by rw [hz])⟩
        obtain ⟨z0, q0, k0⟩ := one 0 (by decide)
        obtain ⟨z1, q1, k1⟩ := one 1 (by decide)
        obtain ⟨z2, q2, k2⟩ := one 2 (by decide)
        obtain ⟨z3, q3, k3⟩ := one 3 (by decide)
        refine ⟨(z0, z1, z2, z3), ⟨q0, q1, q2, q3⟩, fun j v hv => ?_⟩
        have hj : j < 4 := (List.getElem?_eq_some_iff.1 hv).1
        rcases (show j = 0 ∨ j = 1 ∨ j = 2 ∨ j = 3 by omega) with rfl | rfl | rfl | rfl
        · exact k0.trans hv
        · exact k1.trans hv
        · exact k2.trans hv
        · exact k3.trans hv
      obtain ⟨R, hR⟩ := choose_lt (α := Int × Int × Int × Int) key
      refine ⟨(List.range n).map R, by simp, fun j x hx => ?_⟩
      have hj : j < n := by simpa using (List.getElem?_eq_some_iff.1 hx).1
      have hxv : x = R j := by
        simp only [List.getElem?_map, List.getElem?_range hj, Option.map_some, Option.some.injEq] at hx
        exact hx.symm
      rw [hxv]
      exact ⟨(hR j hj).1, b, o, rfl, (hR j hj).2⟩
end
end Go.Proofs.Yteflboidbogegaa
