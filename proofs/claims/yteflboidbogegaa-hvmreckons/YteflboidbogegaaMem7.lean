/- Bytes as strings; bytes.Equal, sameRegion, slices.EqualFunc, Same: walked where both sides are alike. -/
import Derived.Test.YteflboidbogegaaMem6
import Derived.Laws.BytesString
namespace Go.Proofs.Yteflboidbogegaa
open Go.ChangeShapes Go.WideShapes Go.ChangeAt Go.RowKit
set_option linter.unusedVariables false
set_option linter.unusedSimpArgs false

def strS (bs : List Int) : ByteArray := bs.foldl (fun r n => r.push (UInt8.ofNat n.toNat)) ByteArray.empty
/-- The bytes behind a slice, turned into a string. -/
theorem BL.str {w : World} {S : Nat → Prop} {v : Value} {bs : List Int} (h : BL w S v bs) : (convert 84 9 v).run Try.prog w = .ok (.string (strS bs)) w := by
  have h0 := h
  obtain ⟨_, A, c, rfl, hA, _⟩ := h
  rw [run_convert_bytes_string w 84 9 5 A bs.length c Try.underlying84 Try.underlying5 Try.underlying9]
  cases A with
  | none =>
    obtain ⟨rfl, rfl⟩ := hA rfl
    rfl
  | some A =>
    refine run_bytesToString w A bs.length c bs ?_
    have := run_loadCells_list (P := Try.prog) w A (cb bs) h0.news
    rw [cb_length] at this
    exact this

def eqRel (w : World) (n : Nat) (i : Value) (wr : World) : Prop := ∃ k : Nat, k ≤ n ∧ i = .int .i64 k ∧ Below w.heap.size w wr

end Go.Proofs.Yteflboidbogegaa
