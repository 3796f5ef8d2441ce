/- The contracts of package region's small functions, walked. -/
import Derived.Test.YteflboidbogegaaRPure
namespace Go.Proofs.Yteflboidbogegaa
open Go.ChangeShapes Go.WideShapes Go.ChangeAt Go.RowKit
set_option linter.unusedVariables false
set_option linter.unusedSimpArgs false

theorem alloc_size' (w : World) (o : Obj) : (w.alloc o).heap.size = w.heap.size + 1 := by
  show (w.heap.push o).size = _
  simp

theorem width_c (s : Int) (w : World) : Calls Try.prog 101 #[.int .u32 s] w fun e w' => e = .returned (.int .u32 (widthS s)) ∧ w' = w := by
  unfold widthS
  by_cases h1 : s = 1
  · go_enter Try.func101, Try.ntmps101
    go_wp2
    go_ret
    exact ⟨by simp [h1], rfl⟩
  · by_cases h2 : s = 2
    · go_enter Try.func101, Try.ntmps101
      go_wp2
      go_ret
      exact ⟨by simp [h2], rfl⟩
    · have h1' : (s == 1) = false := by simpa using h1
      have h2' : (s == 2) = false := by simpa using h2
      rw [if_neg (by omega)]
      go_enter Try.func101, Try.ntmps101
      go_wp2
      go_ret
      exact ⟨rfl, rfl⟩
theorem size_c (s : Int) (w : World) : Calls Try.prog 71 #[.int .u32 s] w fun e w' => e = .returned (.int .u32 (widthS s)) ∧ w' = w := by
  unfold widthS
  by_cases h1 : s = 1
  · go_enter Try.func71, Try.ntmps71
    go_wp2
    go_ret
    exact ⟨by simp [h1], rfl⟩
  · by_cases h2 : s = 2
    · go_enter Try.func71, Try.ntmps71
      go_wp2
      go_ret
      exact ⟨by simp [h2], rfl⟩
    · have h1' : (s == 1) = false := by simpa using h1
      have h2' : (s == 2) = false := by simpa using h2
      rw [if_neg (by omega)]
      go_enter Try.func71, Try.ntmps71
      go_wp2
      go_ret
      exact ⟨rfl, rfl⟩

theorem end_c (r : Reg) (hr : r.wf) (w : World) : Calls Try.prog 80 #[r.val] w fun e w' => e = .returned (.int .u64 (endS r)) ∧ Below w.heap.size w w' := by
  obtain ⟨fr, ln, rd, wr, ex, se, ba, bl, bc⟩ := r
  unfold Reg.wf at hr
  simp only [Reg.val, endS]
  obtain ⟨h1, h2, h3, h4, h5⟩ := hr
  simp only at h1 h2 h3 h4 h5
  go_enter Try.func80, Try.ntmps80
  go_wp2
  go_ret
  exact ⟨rfl, (Below.refl _ _).alloc (Nat.le_refl _) _⟩

/-- A region's seven cells from an address on. -/
def At7 (w : World) (b o : Nat) (r : Reg) : Prop :=
  w.cell? ⟨b, o, none⟩ = some (.int .u32 r.fr) ∧ w.cell? ⟨b, o + 1, none⟩ = some (.int .u32 r.ln) ∧ w.cell? ⟨b, o + 2, none⟩ = some (.bool r.rd) ∧ w.cell? ⟨b, o + 3, none⟩ = some (.bool r.wr) ∧
  w.cell? ⟨b, o + 4, none⟩ = some (.bool r.ex) ∧ w.cell? ⟨b, o + 5, none⟩ = some (.bool r.se) ∧ w.cell? ⟨b, o + 6, none⟩ = some (.slice r.ba r.bl r.bc)
theorem At7.lt {w : World} {b o : Nat} {r : Reg} (h : At7 w b o r) : b < w.heap.size := by
  have := h.1
  unfold World.cell? at this
  rcases Nat.lt_or_ge b w.heap.size with h1 | h1
  · exact h1
  · simp [Array.getElem?_eq_none h1] at this
theorem At7.below {B : Nat} {w w' : World} {b o : Nat} {r : Reg} (h : At7 w b o r) (hb : Below B w w') (hB : b < B) : At7 w' b o r := by
  obtain ⟨h0, h1, h2, h3, h4, h5, h6⟩ := h
  exact ⟨(hb.cell hB).trans h0, (hb.cell hB).trans h1, (hb.cell hB).trans h2, (hb.cell hB).trans h3, (hb.cell hB).trans h4, (hb.cell hB).trans h5, (hb.cell hB).trans h6⟩
theorem At7.new (w : World) (r : Reg) (t : TypeId) : At7 (w.alloc (Obj.cells #[.int .u32 r.fr, .int .u32 r.ln, .bool r.rd, .bool r.wr, .bool r.ex, .bool r.se, .slice r.ba r.bl r.bc] t)) w.heap.size 0 r := by
  refine ⟨?_, ?_, ?_, ?_, ?_, ?_, ?_⟩ <;> (rw [World.cell?_alloc_new]; rfl)
set_option maxHeartbeats 2000000 in
theorem mayBe_c (r : Reg) (hr : r.wf) (w : World) : Calls Try.prog 79 #[r.val] w fun e w' => e = .returned (.bool (mayBeS r)) ∧ Below w.heap.size w w' := by
  have C : Hid _ := fun (w : World) => end_c r hr w
  obtain ⟨fr, ln, rd, wr, ex, se, ba, bl, bc⟩ := r
  unfold Reg.wf at hr
  simp only [Reg.val, endS] at C ⊢
  obtain ⟨h1, h2, h3, h4, h5⟩ := hr
  simp only at h1 h2 h3 h4 h5
  by_cases hA : fr % 4 = 0 ∧ ln % 4 = 0 ∧ ln ≠ 0
  · have a1 : (fr % 4 == 0) = true := by simpa using hA.1
    have a2 : (ln % 4 == 0) = true := by simpa using hA.2.1
    have a3 : (ln == 0) = false := by simpa using hA.2.2
    by_cases hB : fr + ln ≤ 4294963200 ∧ (bl : Int) ≤ ln
    · have hm : mayBeS ⟨fr, ln, rd, wr, ex, se, ba, bl, bc⟩ = !(ex && se) := by simp [mayBeS, hA, hB]
      rw [hm]
      have b1 : ¬ 4294963200 < fr + ln := by omega
      have b2 : ¬ ln < (bl : Int) := by omega
      cases ex <;> cases se
      all_goals
        go_enter Try.func79, Try.ntmps79
        go_wp2_with fail
        refine (C.out _).mono ?_
        rintro e w2 ⟨rfl, hw2⟩
        obtain ⟨c0, c1, c2, c3, c4, c5, c6⟩ := (At7.new w ⟨fr, ln, rd, wr, _, _, ba, bl, bc⟩ 86).below hw2 (by simp [alloc_size'])
        simp only [Nat.zero_add] at c0 c1 c2 c3 c4 c5 c6
        go_wp2
        go_ret
        exact ⟨rfl, ((Below.refl _ _).alloc (Nat.le_refl _) _).trans (hw2.mono (by simp [alloc_size']))⟩
    · have hm : mayBeS ⟨fr, ln, rd, wr, ex, se, ba, bl, bc⟩ = false := by
        simp only [mayBeS]
        by_cases q : fr + ln ≤ 4294963200
        · have : ¬ ((bl : Int) ≤ ln) := fun h => hB ⟨q, h⟩
          simp [this]
        · simp [q]
      rw [hm]
      by_cases q : fr + ln ≤ 4294963200
      · have b1 : ¬ 4294963200 < fr + ln := by omega
        have b2 : ln < (bl : Int) := by omega
        go_enter Try.func79, Try.ntmps79
        go_wp2_with fail
        refine (C.out _).mono ?_
        rintro e w2 ⟨rfl, hw2⟩
        obtain ⟨c0, c1, c2, c3, c4, c5, c6⟩ := (At7.new w ⟨fr, ln, rd, wr, _, _, ba, bl, bc⟩ 86).below hw2 (by simp [alloc_size'])
        simp only [Nat.zero_add] at c0 c1 c2 c3 c4 c5 c6
        go_wp2
        go_ret
        exact ⟨rfl, ((Below.refl _ _).alloc (Nat.le_refl _) _).trans (hw2.mono (by simp [alloc_size']))⟩
      · have b1 : 4294963200 < fr + ln := by omega
        go_enter Try.func79, Try.ntmps79
        go_wp2_with fail
        refine (C.out _).mono ?_
        rintro e w2 ⟨rfl, hw2⟩
        obtain ⟨c0, c1, c2, c3, c4, c5, c6⟩ := (At7.new w ⟨fr, ln, rd, wr, _, _, ba, bl, bc⟩ 86).below hw2 (by simp [alloc_size'])
        simp only [Nat.zero_add] at c0 c1 c2 c3 c4 c5 c6
        go_wp2
        go_ret
        exact ⟨rfl, ((Below.refl _ _).alloc (Nat.le_refl _) _).trans (hw2.mono (by simp [alloc_size']))⟩
  · have hm : mayBeS ⟨fr, ln, rd, wr, ex, se, ba, bl, bc⟩ = false := by
      simp only [mayBeS]
      by_cases q : fr % 4 = 0
      · by_cases q2 : ln % 4 = 0
        · have : ln = 0 := by
            by_cases q3 : ln = 0
            · exact q3
            · exact absurd ⟨q, q2, q3⟩ hA
          simp [this]
        · simp [q2]
      · simp [q]
    rw [hm]
    clear C
    by_cases q : fr % 4 = 0
    · have a1 : (fr % 4 == 0) = true := by simpa using q
      by_cases q2 : ln % 4 = 0
      · have a2 : (ln % 4 == 0) = true := by simpa using q2
        have a3 : (ln == 0) = true := by
          by_cases q3 : ln = 0
          · simpa using q3
          · exact absurd ⟨q, q2, q3⟩ hA
        go_enter Try.func79, Try.ntmps79
        go_wp2
        go_ret
        exact ⟨rfl, (Below.refl _ _).alloc (Nat.le_refl _) _⟩
      · have a2 : (ln % 4 == 0) = false := by simpa using q2
        go_enter Try.func79, Try.ntmps79
        go_wp2
        go_ret
        exact ⟨rfl, (Below.refl _ _).alloc (Nat.le_refl _) _⟩
    · have a1 : (fr % 4 == 0) = false := by simpa using q
      go_enter Try.func79, Try.ntmps79
      go_wp2
      go_ret
      exact ⟨rfl, (Below.refl _ _).alloc (Nat.le_refl _) _⟩
end Go.Proofs.Yteflboidbogegaa
