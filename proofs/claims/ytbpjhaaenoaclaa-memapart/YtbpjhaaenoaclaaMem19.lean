/- A slice that came in is no longer than its room. -/
import Derived.Test.YtbpjhaaenoaclaaMem16
namespace Go.Proofs.Ytbpjhaaenoaclaa
open Go.ChangeShapes Go.WideShapes Go.ChangeAt Go.RowKit Go.Deep
set_option linter.unusedVariables false
theorem bytes_fit {H : Type} {enc : TypeId × Value → H} {W : World} {A : Option Addr} {n c : Nat} {d : DataW H} {p : List MemPlace} (h : DataW.Trod enc Try.prog W 0 (fun _ => true) true 22 (.slice A n c) d p) : n ≤ c ∧ (n : Int) ≤ 9223372036854775807 := by
  obtain ⟨fuel, hf⟩ := h
  have hf' : DataW.trod enc Try.prog W 0 (fun _ => true) true fuel 22 [.slice A n c] = some (d, p) := by simpa [Value.cells] using hf
  rcases open_slice1 Try.underlying22 cellsU8 hf' with ⟨h0, _⟩ | ⟨a, len, cap, m, n', V, D, Pl, h0, hb, hl, hm, _⟩
  · cases h0
    exact ⟨Nat.le_refl _, by decide⟩
  · cases h0
    simp only [maxLen] at hm
    exact ⟨hl, by omega⟩
end Go.Proofs.Ytbpjhaaenoaclaa
