/- The document's SameEvents at lists that are the same. -/
import Derived.Test.YteflboidbogegaaHve
import Derived.Deep.QuietTactic
import Derived.BigQuiet
namespace Go.Proofs.Yteflboidbogegaa
open Go.ChangeShapes Go.WideShapes Go.ChangeAt Go.RowKit
set_option linter.unusedVariables false
set_option linter.unusedSimpArgs false

def sevRel (w : World) (E : List HEv) (i : Value) (wr : World) : Prop := ∃ k : Nat, k ≤ E.length ∧ i = .int .i64 k ∧ Below w.heap.size w wr
set_option maxHeartbeats 2000000 in
theorem sev_c (A B : Option Addr) (c d : Nat) (E : List HEv) (w : World) (hE : EvAt w A E) (hF : EvAt w B E) (hl : E.length ≤ 100000) : Calls Try.prog 14 #[.slice A E.length c, .slice B E.length d] w fun e w' => e = .returned (.bool true) ∧ Below w.heap.size w w' := by
  have HE : Hid (EvAt w A E) := hE
  have HF : Hid (EvAt w B E) := hF
  clear hE hF
  go_enter Try.func14, Try.ntmps14
  go_wp2_with fail
  go_loopw [5] (fun i wr => sevRel w E i wr) (fun i _ => E.length - (intOf i).toNat)
  case atStart => exact ⟨0, Nat.zero_le _, rfl, Below.refl _ _⟩
  case round =>
    obtain ⟨k, hkn, rfl, hb⟩ := hrel
    by_cases hlt : k < E.length
    · obtain ⟨e, he⟩ : ∃ e, E[k]? = some e := ⟨E[k], by simp [hlt]⟩
      have hlt' : (k : Int) < (E.length : Int) := by omega
      obtain ⟨b, o, rfl, c0, c1, c2⟩ := (HE.out.below hb) k e he
      obtain ⟨b', o', rfl, d0, d1, d2⟩ := (HF.out.below hb) k e he
      have HBB : Hid (Below w.heap.size w wr) := hb
      clear hb he
      go_wp2
      go_quiet (fail)
      go_wp2
      all_goals
        go_roundw
        case rel => exact ⟨k + 1, hlt, by push_cast; rfl, ⟨HBB.out.os, HBB.out.tape, HBB.out.output, HBB.out.size, HBB.out.block⟩⟩
        case measure =>
          simp only [intOf]
          omega
    · have hke : k = E.length := by omega
      have HFF : Hid (Below w.heap.size w wr) := hb
      have hlt' : ¬ (k : Int) < (E.length : Int) := by omega
      clear hb
      go_wp2
      go_ret
      exact ⟨rfl, HFF.out⟩
end Go.Proofs.Yteflboidbogegaa
