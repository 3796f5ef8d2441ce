/- The arguments opened: a state by value; the host's registers by value. -/
import Derived.Test.YtabipgncbbjcgaaSt1
import Derived.Deep.Fields
import Derived.Deep.Slices
import Derived.Lib.SmallJoins
import Derived.Carry
namespace Go.Proofs.Ytabipgncbbjcgaa
open Go.ChangeShapes Go.WideShapes Go.ChangeAt Go.RowKit Go.Deep
set_option linter.unusedVariables false
set_option linter.unusedSimpArgs false

theorem okWide_array {P : Program} {W : World} {r : Reach} {b0 : Nat} {t : TypeId} {n : Nat} {e : TypeId} {v : Value} (ht : P.underlying t = some (.array n e)) (h : Value.okWide P W r b0 t v) : ∃ cs : Array Value, v = .agg cs ∧ cs.size = P.cellsOf t := by
  simp only [Value.okWide, ht] at h
  cases v <;> simp_all
section
variable {H : Type} {enc : TypeId × Value → H} {W : World} {d : DataW H} {p : List MemPlace}
/-- A row of one-cell words that was read, as numbers. -/
theorem row_of {n fuel : Nat} {t : TypeId} {cs : List Value} {x : DataW H × List MemPlace} (ht : Try.prog.underlying t = some (.array n 22)) (hc : cs.length = n) (h : DataW.trod enc Try.prog W 0 (fun _ => true) true fuel t cs = some x) : ∃ R : List Int, cs = rc R ∧ okN n R := by
  obtain ⟨xs, m, _, _, _, hx, hf⟩ := DataW.trod_array ht h
  have hcu : Try.prog.cellsOf 22 = 1 := by kernel_rfl
  have key : ∀ i, i < n → ∃ z : Int, okU z ∧ cs[i]? = some (.int .u32 z) := fun i hi => by
    have h2 := hf i hi
    rw [hcu, Nat.mul_one] at h2
    obtain ⟨y, hy⟩ : ∃ y, xs[i]? = some y := ⟨xs[i]'(by omega), List.getElem?_eq_getElem (by omega)⟩
    rw [hy] at h2
    obtain ⟨z, hz, _, hw⟩ := DataW.trod_int Try.underlying22 h2
    have hb := bounds_u32 hw
    refine ⟨z, ⟨hb.1, by omega⟩, ?_⟩
    have h3 : (cs.drop i).take 1 = [cs[i]'(by omega)] := by
      rw [List.take_one, List.head?_drop, List.getElem?_eq_getElem (by omega)]
      rfl
    rw [h3] at hz
    rw [List.getElem?_eq_getElem (by omega)]
    simpa using hz
  obtain ⟨V, hV⟩ := choose_lt (α := Int) key
  refine ⟨(List.range n).map V, ?_, by simp, fun y hy => ?_⟩
  · refine List.ext_getElem? fun i => ?_
    by_cases hi : i < n
    · rw [(hV i hi).2, rc_at (x := V i) (by simp [hi])]
    · rw [List.getElem?_eq_none (by omega), List.getElem?_eq_none (by rw [rc_length]; simp; omega)]
  · obtain ⟨i, hi, rfl⟩ := List.mem_map.1 hy
    exact (hV i (List.mem_range.1 hi)).1
theorem regs_of {v : Value} {r : Reach} {b0 : Nat} (hv : Value.okWide Try.prog W r b0 26 v) (h : DataW.Trod enc Try.prog W 0 (fun _ => true) true 26 v d p) : ∃ R : List Int, v = (Cel.any (rc R)).val ∧ okN 32 R := by
  obtain ⟨cs, rfl, hsz⟩ := okWide_array Try.underlying26 hv
  obtain ⟨fuel, hf⟩ := h
  have hc : cs.toList.length = 32 := by
    rw [Array.length_toList, hsz]
    kernel_rfl
  have hf' : DataW.trod enc Try.prog W 0 (fun _ => true) true fuel 26 cs.toList = some (d, p) := by simpa [Value.cells] using hf
  obtain ⟨R, hR, hok⟩ := row_of Try.underlying26 hc hf'
  refine ⟨R, ?_, hok⟩
  show _ = Value.agg (rc R).toArray
  rw [← hR]
theorem state_of {v : Value} {r : Reach} {b0 : Nat} (hv : Value.okWide Try.prog W r b0 25 v) (h : DataW.Trod enc Try.prog W 0 (fun _ => true) true 25 v d p) : ∃ s : SV, v = s.val ∧ s.ok := by
  obtain ⟨cs, rfl, hsz⟩ := okWide_struct Try.underlying25 hv
  obtain ⟨fuel, hf⟩ := h
  have hc : cs.toList.length = 18 := by
    rw [Array.length_toList, hsz]
    kernel_rfl
  have hf' : DataW.trod enc Try.prog W 0 (fun _ => true) true fuel 25 cs.toList = some (d, p) := by simpa [Value.cells] using hf
  obtain ⟨xs, n2, _, _, _, hxl, hfl⟩ := DataW.trod_struct Try.underlying25 hf'
  have hx3 : xs.length = 3 := hxl
  have c16 : Try.prog.cellsOf 23 = 16 := by kernel_rfl
  have cI : Try.prog.cellsOf 3 = 1 := by kernel_rfl
  have cB : Try.prog.cellsOf 4 = 1 := by kernel_rfl
  have at_ : ∀ i, i < 3 → ∃ y, xs[i]? = some y := fun i hi => ⟨xs[i]'(by omega), List.getElem?_eq_getElem (by omega)⟩
  obtain ⟨y0, hy0⟩ := at_ 0 (by decide)
  obtain ⟨y1, hy1⟩ := at_ 1 (by decide)
  obtain ⟨y2, hy2⟩ := at_ 2 (by decide)
  have g0 : DataW.trod enc Try.prog W 0 (fun _ => true) true n2 23 (cs.toList.take 16) = some y0 := by
    have e := hfl 0 _ rfl
    rw [hy0] at e
    simpa [c16] using e
  have g1 : DataW.trod enc Try.prog W 0 (fun _ => true) true n2 3 ((cs.toList.drop 16).take 1) = some y1 := by
    have e := hfl 1 _ rfl
    rw [hy1] at e
    simpa [cI] using e
  have g2 : DataW.trod enc Try.prog W 0 (fun _ => true) true n2 4 ((cs.toList.drop 17).take 1) = some y2 := by
    have e := hfl 2 _ rfl
    rw [hy2] at e
    simpa [cB] using e
  obtain ⟨R, hR, hok⟩ := row_of Try.underlying23 (by rw [List.length_take, hc]; decide) g0
  obtain ⟨f, hf1, _, hw⟩ := DataW.trod_int Try.underlying3 g1
  obtain ⟨b, hb1, _⟩ := DataW.trod_bool Try.underlying4 g2
  have hfb := bounds_i64 hw
  refine ⟨⟨R, f, b⟩, ?_, hok, by have := hfb.1; have := hfb.2; exact ⟨by omega, by omega⟩⟩
  show Value.agg cs = Value.agg (rc R ++ [Value.int .i64 f, Value.bool b]).toArray
  have e : cs.toList = rc R ++ [Value.int .i64 f, Value.bool b] := by
    rw [← List.take_append_drop 16 cs.toList, hR]
    congr 1
    have e1 : cs.toList.drop 16 = (cs.toList.drop 16).take 1 ++ (cs.toList.drop 17).take 1 := by
      rw [show cs.toList.drop 17 = (cs.toList.drop 16).drop 1 by rw [List.drop_drop]]
      have hl : (cs.toList.drop 16).length = 2 := by rw [List.length_drop, hc]
      match (cs.toList.drop 16), hl with
      | [u, v], _ => rfl
    rw [e1, hf1, hb1]
    rfl
  rw [← e]
end
end Go.Proofs.Ytabipgncbbjcgaa
