/- What is left of a row of numbers behind slices.DeleteFunc, SortFunc, Compact: those from 0 to a last one, rising, each once. No Go in sight. -/
import Derived.Test.YtbbkiiabjhgpkaaDoorProg
import Derived.Lib.SlicesCompact
import Derived.WalkKit
namespace Go.Proofs.YtbbkiiabjhgpkaaDoor
open Go.Lib
set_option linter.unusedVariables false
set_option linter.unusedSimpArgs false

theorem rising_unique : ∀ {a b : List Int}, a.Pairwise (· < ·) → b.Pairwise (· < ·) → (∀ x, x ∈ a ↔ x ∈ b) → a = b
  | [], [], _, _, _ => rfl
  | [], y :: b, _, _, h => absurd ((h y).2 List.mem_cons_self) (by simp)
  | x :: a, [], _, _, h => absurd ((h x).1 List.mem_cons_self) (by simp)
  | x :: a, y :: b, ha, hb, h => by
    rw [List.pairwise_cons] at ha hb
    have hxy : x = y := by
      rcases List.mem_cons.1 ((h x).1 List.mem_cons_self) with e | e
      · exact e
      · rcases List.mem_cons.1 ((h y).2 List.mem_cons_self) with e2 | e2
        · exact e2.symm
        · have h1 := hb.1 x e
          have h2 := ha.1 y e2
          omega
    subst hxy
    rw [rising_unique ha.2 hb.2 fun z => ?_]
    constructor
    · intro hz
      rcases List.mem_cons.1 ((h z).1 (List.mem_cons_of_mem _ hz)) with e | e
      · have := ha.1 z hz
        omega
      · exact e
    · intro hz
      rcases List.mem_cons.1 ((h z).2 (List.mem_cons_of_mem _ hz)) with e | e
      · have := hb.1 z hz
        omega
      · exact e
theorem compact_inv (d : Array Int) (hs : ∀ i j, i ≤ j → j < d.size → d[i]! ≤ d[j]!) : ∀ m, m ≤ d.size → (compactUpTo d m).Pairwise (· < ·) ∧ ∀ x, x ∈ compactUpTo d m ↔ ∃ j, j < m ∧ d[j]! = x
  | 0, _ => ⟨by simp [compactUpTo], fun x => by simp [compactUpTo]⟩
  | m + 1, hm => by
    obtain ⟨h1, h2⟩ := compact_inv d hs m (by omega)
    rw [compactUpTo_succ]
    cases hk : keeps d m
    · have hk' : m ≠ 0 ∧ d[m]! = d[m - 1]! := by
        simp only [keeps, decide_eq_false_iff_not, not_or, ne_eq, Decidable.not_not] at hk
        exact hk
      simp only [Bool.false_eq_true, if_false, List.append_nil]
      refine ⟨h1, fun x => ?_⟩
      rw [h2]
      constructor
      · rintro ⟨j, hj, e⟩
        exact ⟨j, by omega, e⟩
      · rintro ⟨j, hj, e⟩
        by_cases hjm : j = m
        · exact ⟨m - 1, by omega, by rw [← e, hjm, hk'.2]⟩
        · exact ⟨j, by omega, e⟩
    · have hk' : m = 0 ∨ d[m]! ≠ d[m - 1]! := by simpa [keeps] using hk
      simp only [if_true]
      refine ⟨List.pairwise_append.2 ⟨h1, by simp, fun x hx y hy => ?_⟩, fun x => ?_⟩
      · obtain ⟨j, hj, rfl⟩ := (h2 x).1 hx
        have hy' : y = d[m]! := by simpa using hy
        subst hy'
        rcases hk' with e | e
        · omega
        · have e1 := hs j (m - 1) (by omega) (by omega)
          have e2 := hs (m - 1) m (by omega) (by omega)
          omega
      · rw [List.mem_append, h2]
        constructor
        · rintro (⟨j, hj, e⟩ | e)
          · exact ⟨j, by omega, e⟩
          · exact ⟨m, by omega, (List.mem_singleton.1 e).symm⟩
        · rintro ⟨j, hj, e⟩
          by_cases hjm : j = m
          · exact .inr (by simp [← e, hjm])
          · exact .inl ⟨j, by omega, e⟩
/-- The numbers from 0 to last that are in xs. -/
def riseL (last : Nat) (xs : List Int) : List Int := ((List.range (last + 1)).map fun r : Nat => (r : Int)).filter fun r => xs.contains r
theorem riseL_mem (last : Nat) (xs : List Int) (x : Int) : x ∈ riseL last xs ↔ x ∈ xs ∧ 0 ≤ x ∧ x ≤ last := by
  simp only [riseL, List.mem_filter, List.mem_map, List.mem_range, List.contains_iff_mem]
  constructor
  · rintro ⟨⟨r, hr, rfl⟩, h⟩
    exact ⟨h, by omega, by omega⟩
  · rintro ⟨h, h0, h1⟩
    exact ⟨⟨x.toNat, by omega, by omega⟩, h⟩
theorem riseL_rising (last : Nat) (xs : List Int) : (riseL last xs).Pairwise (· < ·) := by
  refine List.Pairwise.filter _ ?_
  rw [List.pairwise_map]
  exact (List.pairwise_lt_range).imp fun h => by omega
theorem rise_eq (last : Nat) (xs : List Int) : compactUpTo (((xs.filter fun x => !(decide (x < 0) || decide ((last : Int) < x))).mergeSort fun x y => decide (x ≤ y)).toArray) (xs.filter fun x => !(decide (x < 0) || decide ((last : Int) < x))).length = riseL last xs := by
  generalize hl : (xs.filter fun x => !(decide (x < 0) || decide ((last : Int) < x))) = l
  have hp := List.mergeSort_perm l (fun x y : Int => decide (x ≤ y))
  have hlen : (l.mergeSort fun x y => decide (x ≤ y)).toArray.size = l.length := by simp
  have hsd : (l.mergeSort fun x y : Int => decide (x ≤ y)).Pairwise fun a b => decide (a ≤ b) = true := List.pairwise_mergeSort (fun a b c h1 h2 => by simp at *; omega) (fun a b => by simp; omega) l
  generalize (l.mergeSort fun x y => decide (x ≤ y)) = s at *
  have hs : ∀ i j, i ≤ j → j < s.toArray.size → s.toArray[i]! ≤ s.toArray[j]! := by
    intro i j hij hj
    have hj' : j < s.length := by simpa using hj
    rw [getElem!_pos s.toArray i (by simp; omega), getElem!_pos s.toArray j hj]
    by_cases e : i = j
    · subst e; exact Int.le_refl _
    · have := List.pairwise_iff_getElem.1 hsd i j (by omega) hj' (by omega)
      simpa using this
  obtain ⟨h1, h2⟩ := compact_inv s.toArray hs l.length (by omega)
  refine rising_unique h1 (riseL_rising last xs) fun x => ?_
  rw [h2, riseL_mem]
  have hm : (∃ j, j < l.length ∧ s.toArray[j]! = x) ↔ x ∈ s := by
    constructor
    · rintro ⟨j, hj, rfl⟩
      rw [getElem!_pos s.toArray j (by omega)]
      simp
    · intro hx
      obtain ⟨j, hj, e⟩ := List.getElem_of_mem hx
      refine ⟨j, by simp at hlen; omega, ?_⟩
      rw [getElem!_pos s.toArray j (by simpa using hj)]
      simpa using e
  rw [hm, hp.mem_iff, ← hl, List.mem_filter]
  simp only [Bool.not_eq_true', Bool.or_eq_false_iff, decide_eq_false_iff_not, Int.not_lt]
end Go.Proofs.YtbbkiiabjhgpkaaDoor
