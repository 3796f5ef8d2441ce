/- Find and what asks it, walked: for every list of regions that lies in memory. -/
import Derived.Test.YteflboidbogegaaReg2
import Derived.Laws.ResultCell
namespace Go.Proofs.Yteflboidbogegaa
open Go.ChangeShapes Go.WideShapes Go.ChangeAt Go.RowKit
set_option linter.unusedVariables false
set_option linter.unusedSimpArgs false

theorem widthS_bounds (s : Int) : 1 ≤ widthS s ∧ widthS s ≤ 4 := by
  unfold widthS
  split
  · omega
  · omega

def fndRel (w : World) (R : Nat → Reg) (n : Nat) (a s : Int) (i : Value) (wr : World) : Prop :=
  ∃ k : Nat, k ≤ n ∧ firstS R a s k = none ∧ i = .int .i64 k ∧ Below w.heap.size w wr

set_option maxHeartbeats 2000000 in
theorem find_c (A : Option Addr) (n c : Nat) (R : Nat → Reg) (a s : Int) (ha : 0 ≤ a) (ha' : a ≤ 4294967295) (w : World) (hl : Lies w A n R) :
    Calls Try.prog 103 #[.slice A n c, .int .u32 a, .int .u32 s] w fun e w' => e = .returned (.tuple #[.int .i64 ((findS R n a s).getD 0 : Nat), .bool (findS R n a s).isSome]) ∧ Below w.heap.size w w' := by
  have hn := hl.1
  have hL : Hid (Lies w A n R) := hl
  have T : Hid _ := check_c A n c R w hl
  have W : Hid _ := fun (w : World) => width_c s w
  obtain ⟨v1, v2⟩ := widthS_bounds s
  clear hl
  by_cases hc : checkS R n = 0
  · have HF : Hid (findS R n a s = firstS R a (widthS s) n) := by show _ = _; simp [findS, hc]
    rw [hc] at T
    clear hc
    generalize widthS s = v at *
    go_enter Try.func103, Try.ntmps103
    go_wp2_with fail
    refine Calls.mono T.out ?_
    rintro e w1 ⟨rfl, hw1⟩
    have HW1 : Hid _ := hw1
    clear hw1 T
    go_wp2_with fail
    refine (W.out _).mono ?_
    rintro e w2 ⟨rfl, hw2⟩
    replace hw2 := hw2.symm
    subst hw2
    clear W
    go_wp2_with fail
    go_loopw [23] (fun i wr => fndRel w R n a v i wr) (fun i _ => n - (intOf i).toNat)
    case atStart => exact ⟨0, Nat.zero_le _, rfl, rfl, HW1.out⟩
    case round =>
      obtain ⟨k, hk, hg, rfl, hb⟩ := hrel
      by_cases hkn : k < n
      · obtain ⟨hw, b, o, rfl, h7⟩ := hL.out.2 k hkn
        obtain ⟨c0, c1, c2, c3, c4, c5, c6⟩ := h7.below hb h7.lt
        have hkn' : (k : Int) < n := by omega
        have E : Hid _ := fun (w : World) => end_c (R k) hw w
        obtain ⟨q1, q2, q3, q4, q5⟩ := hw
        have HB : Hid _ := And.intro hb h7
        clear hb h7
        have HG : Hid _ := hg
        clear hg
        unfold Reg.val at E
        by_cases hf : (R k).fr ≤ a
        · go_wp2_with fail
          refine (E.out _).mono ?_
          rintro e w3 ⟨rfl, hw3⟩
          have HB2 : Hid (Below w.heap.size w w3) := (HB.out.1.alloc HB.out.1.size _).trans (hw3.mono (by rw [alloc_size']; exact Nat.le_succ_of_le HB.out.1.size))
          clear hw3
          simp only [endS] at *
          by_cases hh : a + v ≤ (R k).fr + (R k).ln
          · have hh' : a + v - 1 < (R k).fr + (R k).ln := by omega
            have HR : Hid (findS R n a s = some k) := HF.out.trans (firstS_hit R a v hkn HG.out (by simp [hitS, hf, hh]))
            go_wp2
            go_ret2
            exact ⟨by rw [HR.out]; rfl, HB2.out⟩
          · have hh' : ¬ a + v - 1 < (R k).fr + (R k).ln := by omega
            have HR : Hid (firstS R a v (k + 1) = none) := by show _ = _; simp [firstS, HG.out, hitS, hh]
            go_wp2
            refine ⟨⟨k + 1, hkn, HR.out, rfl, HB2.out⟩, ?_⟩
            simp only [intOf]
            omega
        · have HR : Hid (firstS R a v (k + 1) = none) := by show _ = _; simp [firstS, HG.out, hitS, hf]
          go_wp2
          refine ⟨⟨k + 1, hkn, HR.out, rfl, HB.out.1.alloc HB.out.1.size _⟩, ?_⟩
          simp only [intOf]
          omega
      · have kn : k = n := by omega
        subst kn
        have HR : Hid (findS R k a s = none) := HF.out.trans hg
        clear hg
        go_wp2
        go_ret2
        exact ⟨by rw [HR.out]; rfl, hb⟩
  · have HR : Hid (findS R n a s = none) := by show _ = _; simp [findS, hc]
    have hc' : (checkS R n == 0) = false := by simpa using hc
    clear hc
    go_enter Try.func103, Try.ntmps103
    go_wp2_with fail
    refine Calls.mono T.out ?_
    rintro e w1 ⟨rfl, hw1⟩
    go_wp2
    go_ret2
    exact ⟨by rw [HR.out]; rfl, hw1⟩

theorem found_c (A : Option Addr) (n c : Nat) (R : Nat → Reg) (a s : Int) (ha : 0 ≤ a) (ha' : a ≤ 4294967295) (w : World) (hl : Lies w A n R) :
    Calls Try.prog 102 #[.slice A n c, .int .u32 a, .int .u32 s] w fun e w' => e = .returned (.tuple #[(regS R (findS R n a s)).val, .bool (findS R n a s).isSome]) ∧ Below w.heap.size w w' := by
  have hn := hl.1
  have T : Hid _ := fun (w : World) (hl : Lies w A n R) => find_c A n c R a s ha ha' w hl
  have hL : Hid (Lies w A n R) := hl
  have hlt : ∀ i, findS R n a s = some i → i < n := fun i h => findS_lt R h
  clear hl
  generalize findS R n a s = f at *
  cases f with
  | none =>
    simp only [regS, Option.isSome_none, Option.getD_none, noReg, Reg.val] at *
    go_enter Try.func102, Try.ntmps102
    go_wp2_with fail
    refine (T.out _ (hL.out.below ((Below.refl _ _).alloc (Nat.le_refl _) _) (Nat.le_refl _))).mono ?_
    rintro e w1 ⟨rfl, hw1⟩
    obtain ⟨d0, d1, d2, d3, d4, d5, d6⟩ := (At7.new w noReg 86).below hw1 (by simp [alloc_size'])
    have fz : ∀ j, w1.frozen? ⟨w.heap.size, j, none⟩ = false := fun j => (hw1.frozen (by simp [alloc_size'])).trans (World.frozen?_alloc_at _ _ _ _ rfl)
    simp only [Nat.zero_add, noReg] at d0 d1 d2 d3 d4 d5 d6
    have HB : Hid (Below w.heap.size w w1) := ((Below.refl _ _).alloc (Nat.le_refl _) _).trans (hw1.mono (by simp [alloc_size']))
    clear hw1
    go_wp2
    (try simp only [Exit.inBlock, Exit.then])
    refine bodyPost_ret (v := .tuple #[.agg #[.int .u32 0, .int .u32 0, .bool false, .bool false, .bool false, .bool false, .slice none 0 0], .bool false]) ?_ rfl ⟨rfl, ?_⟩
    · rw [results_cell_tmp rfl]
      go_simp
    · exact (((((((HB.out.setCell (Nat.le_refl _) _).setCell (Nat.le_refl _) _).setCell (Nat.le_refl _) _).setCell (Nat.le_refl _) _).setCell (Nat.le_refl _) _).setCell (Nat.le_refl _) _).setCell (Nat.le_refl _) _)
  | some i =>
    have hi := hlt i rfl
    have hi' : (i : Int) < n := by omega
    clear hlt
    obtain ⟨hw, b, o, rfl, h7⟩ := hL.out.2 i hi
    simp only [regS, Option.isSome_some, Option.getD_some, Reg.val] at *
    go_enter Try.func102, Try.ntmps102
    go_wp2_with fail
    refine (T.out _ (hL.out.below ((Below.refl _ _).alloc (Nat.le_refl _) _) (Nat.le_refl _))).mono ?_
    rintro e w1 ⟨rfl, hw1⟩
    obtain ⟨d0, d1, d2, d3, d4, d5, d6⟩ := (At7.new w noReg 86).below hw1 (by simp [alloc_size'])
    have fz : ∀ j, w1.frozen? ⟨w.heap.size, j, none⟩ = false := fun j => (hw1.frozen (by simp [alloc_size'])).trans (World.frozen?_alloc_at _ _ _ _ rfl)
    simp only [Nat.zero_add, noReg] at d0 d1 d2 d3 d4 d5 d6
    obtain ⟨c0, c1, c2, c3, c4, c5, c6⟩ := (h7.below ((Below.refl _ _).alloc (Nat.le_refl _) _) h7.lt).below hw1 (Nat.lt_trans h7.lt (by simp [alloc_size']))
    have hbl := h7.lt
    have hne : ¬ b = w.heap.size := by omega
    have hne' : ¬ w.heap.size = b := by omega
    clear h7
    have HB : Hid (Below w.heap.size w w1) := ((Below.refl _ _).alloc (Nat.le_refl _) _).trans (hw1.mono (by simp [alloc_size']))
    clear hw1
    go_wp2
    (try simp only [Exit.inBlock, Exit.then])
    refine bodyPost_ret (v := .tuple #[.agg #[.int .u32 (R i).fr, .int .u32 (R i).ln, .bool (R i).rd, .bool (R i).wr, .bool (R i).ex, .bool (R i).se, .slice (R i).ba (R i).bl (R i).bc], .bool true]) ?_ rfl ⟨rfl, ?_⟩
    · rw [results_cell_tmp rfl]
      go_simp
    · exact (((((((HB.out.setCell (Nat.le_refl _) _).setCell (Nat.le_refl _) _).setCell (Nat.le_refl _) _).setCell (Nat.le_refl _) _).setCell (Nat.le_refl _) _).setCell (Nat.le_refl _) _).setCell (Nat.le_refl _) _)
end Go.Proofs.Yteflboidbogegaa
