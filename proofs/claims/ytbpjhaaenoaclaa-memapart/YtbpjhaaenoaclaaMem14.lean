/- sourdineref1.SameRegions, walked where both sides are alike. -/
import Derived.Test.YtbpjhaaenoaclaaMem13
import Derived.BigRegion
namespace Go.Proofs.Ytbpjhaaenoaclaa
open Go.ChangeShapes Go.WideShapes Go.ChangeAt Go.RowKit
set_option linter.unusedVariables false
set_option linter.unusedSimpArgs false

set_option maxHeartbeats 8000000 in
set_option maxRecDepth 100000 in
theorem sameRegions_c (v1 v2 : Value) (Bs : List Reg) (G : List (List Int)) (S1 S2 : Nat → Prop) (w : World) (h1 : RL w S1 v1 Bs G) (h2 : RL w S2 v2 Bs G) :
    Calls Try.prog 23 #[v1, v2] w fun e w' => e = .returned (.bool true) ∧ Below w.heap.size w w' := by
  obtain ⟨rs1, hb1, hg1, A1, c1, rfl, _, _, hL1, hB1⟩ := h1
  obtain ⟨rs2, hb2, hg2, A2, c2, rfl, _, _, hL2, hB2⟩ := h2
  have hlen : rs2.length = rs1.length := by rw [← hg2, hg1]
  have hbare : rs1.map Reg.bare = rs2.map Reg.bare := by rw [hb1, hb2]
  have hn := hL1.1
  have HS : Hid (∀ k, k < rs1.length → ∃ g, ∀ w1, Below w.heap.size w w1 → (convert 22 9 (.slice (regAt rs1 k).ba (regAt rs1 k).bl (regAt rs1 k).bc)).run Try.prog w1 = .ok (.string (strS g)) w1 ∧
      (convert 22 9 (.slice (regAt rs2 k).ba (regAt rs2 k).bl (regAt rs2 k).bc)).run Try.prog w1 = .ok (.string (strS g)) w1) := fun k hk => by
    obtain ⟨g, hg⟩ : ∃ g, G[k]? = some g := ⟨G[k]'(by rw [hg1]; exact hk), by simp⟩
    have hr1 : rs1[k]? = some (regAt rs1 k) := by simp [regAt, List.getD, hk]
    have hr2 : rs2[k]? = some (regAt rs2 k) := by simp [regAt, List.getD, hlen, hk]
    exact ⟨g, fun w1 hw1 => ⟨((hB1 k _ g hr1 hg).2.below hw1).str, ((hB2 k _ g hr2 hg).2.below hw1).str⟩⟩
  have HBA : Hid (∀ k, (regAt rs1 k).bare = (regAt rs2 k).bare) := fun k => bare_at hbare k
  rw [hlen] at hL2 ⊢
  have H1 : Hid _ := hL1
  have H2 : Hid _ := hL2
  clear hB1 hB2 hb1 hb2 hg1 hg2 hL1 hL2 hbare hlen
  go_enter Try.func23, Try.ntmps23
  go_wp2_with fail
  go_loopw [5] (fun i wr => eqRel w rs1.length i wr) (fun i _ => rs1.length - (intOf i).toNat)
  case atStart => exact ⟨0, Nat.zero_le _, rfl, Below.refl _ _⟩
  case round =>
    obtain ⟨k, hk, rfl, hb⟩ := hrel
    by_cases hkn : k < rs1.length
    · have hkn' : (k : Int) < rs1.length := by omega
      have hk0 : (0 : Int) ≤ (k : Int) := by omega
      obtain ⟨_, b1, o1, rfl, h71⟩ := H1.out.2 k hkn
      obtain ⟨_, b2, o2, rfl, h72⟩ := H2.out.2 k hkn
      obtain ⟨c0, c1, c2, c3, c4, c5, c6⟩ := h71.below hb h71.lt
      obtain ⟨d0, d1, d2, d3, d4, d5, d6⟩ := h72.below hb h72.lt
      have hb1l : b1 < wr.heap.size := (h71.below hb h71.lt).lt
      have hb2l : b2 < wr.heap.size := (h72.below hb h72.lt).lt
      obtain ⟨g, hstr⟩ := HS.out k hkn
      have hbr := HBA.out k
      obtain ⟨r1, hr1⟩ : ∃ r1, r1 = regAt rs1 k := ⟨_, rfl⟩
      obtain ⟨r2, hr2⟩ : ∃ r2, r2 = regAt rs2 k := ⟨_, rfl⟩
      rw [← hr1] at c0 c1 c2 c3 c4 c5 c6 hstr hbr
      rw [← hr2] at d0 d1 d2 d3 d4 d5 d6 hstr hbr
      have HSTR : Hid _ := hstr
      clear hr1 hr2 hstr
      obtain ⟨fr, ln, rd, wri, ex, se, ba1, bl, bc1⟩ := r1
      obtain ⟨fr', ln', rd', wri', ex', se', ba2, bl', bc2⟩ := r2
      simp only [Reg.bare, Reg.mk.injEq] at hbr
      obtain ⟨rfl, rfl, rfl, rfl, rfl, rfl, _, rfl, _⟩ := hbr
      simp only at c0 c1 c2 c3 c4 c5 c6 d0 d1 d2 d3 d4 d5 d6
      have HB : Hid _ := hb
      clear h71 h72 hb
      go_wp2_with fail
      go_big_region
      all_goals
        have HW2 : Hid (∀ o o', Below w.heap.size w ((wr.alloc o).alloc o').drew) := fun o o' => ((HB.out.alloc HB.out.size o).alloc (by rw [alloc_size']; have := HB.out.size; omega) o').drew
        have s1 : ∀ o o', (convert 22 9 (.slice ba1 bl bc1)).run Try.prog ((wr.alloc o).alloc o').drew = .ok (.string (strS g)) ((wr.alloc o).alloc o').drew := fun o o' => (HSTR.out _ (HW2.out o o')).1
        have s2 : ∀ o o', (convert 22 9 (.slice ba2 bl bc2)).run Try.prog ((wr.alloc o).alloc o').drew = .ok (.string (strS g)) ((wr.alloc o).alloc o').drew := fun o o' => (HSTR.out _ (HW2.out o o')).2
        clear c0 c1 c2 c3 c4 c5 c6 d0 d1 d2 d3 d4 d5 d6 HSTR HB
        go_wp2
        refine ⟨⟨k + 1, hkn, by push_cast; rfl, HW2.out _ _⟩, ?_⟩
        simp only [intOf]
        omega
    · have kn' : ¬ (k : Int) < rs1.length := by omega
      have HB : Hid _ := hb
      clear hb
      go_wp2
      go_ret
      exact ⟨rfl, HB.out⟩
end Go.Proofs.Ytbpjhaaenoaclaa
