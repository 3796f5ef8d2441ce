/- sourdineref1's Check, walked: of at most ten regions it tells what region.Check tells. -/
import Derived.Test.YteflboidbogegaaReg3
namespace Go.Proofs.Yteflboidbogegaa
open Go.ChangeShapes Go.WideShapes Go.ChangeAt Go.RowKit
set_option linter.unusedVariables false
set_option linter.unusedSimpArgs false

def allRel (w : World) (R : Nat → Reg) (n : Nat) (s i : Value) (wr : World) : Prop :=
  ∃ k : Nat, k ≤ n ∧ s = .int .i64 (sumS R k) ∧ i = .int .i64 k ∧ wr = w

def refRel (w : World) (R : Nat → Reg) (n : Nat) (s i : Value) (wr : World) : Prop :=
  ∃ k : Nat, k ≤ n ∧ goodS R k = true ∧ s = .int .u64 (freeS R k) ∧ i = .int .i64 k ∧ Below w.heap.size w wr

set_option maxHeartbeats 4000000 in
theorem rcheck_c (A : Option Addr) (n c : Nat) (R : Nat → Reg) (w : World) (hn10 : n ≤ 10) (hl : Lies w A n R) : Calls Try.prog 91 #[.slice A n c] w fun e w' => e = .returned (.int .i64 (checkS R n)) ∧ Below w.heap.size w w' := by
  have hn := hl.1
  have hL : Hid (Lies w A n R) := hl
  clear hl
  go_enter Try.func91, Try.ntmps91
  go_wp2_with fail
  go_loopw [3, 4] (fun s i wr => allRel w R n s i wr) (fun _ i _ => n - (intOf i).toNat)
  case atStart => exact ⟨0, Nat.zero_le _, rfl, rfl, rfl⟩
  case round =>
    obtain ⟨k, hk, rfl, rfl, hw⟩ := hrel
    replace hw := hw.symm
    subst hw
    obtain ⟨hs0, hs1⟩ := sumS_bounds R k (fun i hi => (hL.out.2 i (by omega)).1)
    have hs1' : sumS R k ≤ 42949672950 := by omega
    clear hs1
    by_cases hkn : k < n
    · obtain ⟨hw, b, o, rfl, h7⟩ := hL.out.2 k hkn
      obtain ⟨c0, c1, c2, c3, c4, c5, c6⟩ := h7
      have hkn' : (k : Int) < n := by omega
      obtain ⟨q1, q2, q3, q4, q5⟩ := hw
      go_wp2_with fail
      refine ⟨⟨k + 1, hkn, rfl, rfl, rfl⟩, ?_⟩
      simp only [intOf]
      omega
    · have kn : k = n := by omega
      subst kn
      clear hk hkn
      cases ht : tooS R k with
      | true =>
        have HV : Hid (checkS R k = 22) := by show _ = _; simp [checkS, ht]
        by_cases h8 : (8 : Int) < k
        · clear ht
          go_wp2
          go_ret
          exact ⟨by rw [HV.out]; rfl, Below.refl _ _⟩
        · have h6 : 65536 < sumS R k := by
            have : ¬ (8 < k) := by omega
            simpa [tooS, this] using ht
          clear ht
          go_wp2
          go_ret
          exact ⟨by rw [HV.out]; rfl, Below.refl _ _⟩
      | false =>
        have hck : Hid (checkS R k = if goodS R k then 0 else 23) := by show _ = _; simp [checkS, ht]
        have h8 : ¬ (8 : Int) < k := by
          intro h
          have : 8 < k := by omega
          simp [tooS, this] at ht
        have h6 : ¬ 65536 < sumS R k := by
          intro h
          simp [tooS, h] at ht
        clear ht
        go_wp2_with fail
        go_loopw [5, 6] (fun s i wx => refRel w R k s i wx) (fun _ i _ => k - (intOf i).toNat)
        case atStart => exact ⟨0, Nat.zero_le _, rfl, rfl, rfl, Below.refl _ _⟩
        case round =>
          obtain ⟨j, hj, hg, rfl, rfl, hb⟩ := hrel
          obtain ⟨f0, f1⟩ := freeS_bounds R j (fun i hi => (hL.out.2 i (by omega)).1)
          by_cases hjk : j < k
          · obtain ⟨hw, b, o, rfl, h7⟩ := hL.out.2 j hjk
            obtain ⟨c0, c1, c2, c3, c4, c5, c6⟩ := h7.below hb h7.lt
            have hjk' : (j : Int) < k := by omega
            obtain ⟨q1, q2, q3, q4, q5⟩ := hw
            have HB : Hid (Below w.heap.size w wr) := hb
            clear hb h7
            have HG : Hid _ := hg
            clear hg h6 h8 hs0 hs1'
            by_cases p1 : (R j).fr % 4 = 0
            rotate_left
            · have p1' : ((R j).fr % 4 == 0) = false := by simpa using p1
              have HV : Hid (checkS R k = 23) := by rw [hck.out, goodS_bad R hjk (by simp [mayBeS, p1])]; rfl
              clear p1
              go_wp2
              go_ret
              exact ⟨by rw [HV.out]; rfl, HB.out.alloc HB.out.size _⟩
            have p1' : ((R j).fr % 4 == 0) = true := by simpa using p1
            by_cases p2 : (R j).ln % 4 = 0
            rotate_left
            · have p2' : ((R j).ln % 4 == 0) = false := by simpa using p2
              have HV : Hid (checkS R k = 23) := by rw [hck.out, goodS_bad R hjk (by simp [mayBeS, p2])]; rfl
              clear p2
              go_wp2
              go_ret
              exact ⟨by rw [HV.out]; rfl, HB.out.alloc HB.out.size _⟩
            have p2' : ((R j).ln % 4 == 0) = true := by simpa using p2
            by_cases p3 : (R j).ln ≠ 0
            rotate_left
            · have p3' : ((R j).ln == 0) = true := by simpa using p3
              have HV : Hid (checkS R k = 23) := by rw [hck.out, goodS_bad R hjk (by simp [mayBeS, p3])]; rfl
              clear p3
              go_wp2
              go_ret
              exact ⟨by rw [HV.out]; rfl, HB.out.alloc HB.out.size _⟩
            have p3' : ((R j).ln == 0) = false := by simpa using p3
            by_cases p4 : (R j).fr + (R j).ln ≤ 4294963200
            rotate_left
            · have p4' : 4294963200 < (R j).fr + (R j).ln := by omega
              have HV : Hid (checkS R k = 23) := by rw [hck.out, goodS_bad R hjk (by simp [mayBeS, p4])]; rfl
              clear p4
              go_wp2
              go_ret
              exact ⟨by rw [HV.out]; rfl, HB.out.alloc HB.out.size _⟩
            have p4' : ¬ 4294963200 < (R j).fr + (R j).ln := by omega
            by_cases p5 : freeS R j ≤ (R j).fr
            rotate_left
            · have p5' : (R j).fr < freeS R j := by omega
              have j0 : (0 : Int) < j := by
                rcases Nat.eq_zero_or_pos j with h | h
                · subst h
                  simp only [freeS] at p5
                  omega
                · omega
              have HV : Hid (checkS R k = 23) := by rw [hck.out, goodS_bad R hjk (by simp [p5])]; rfl
              clear p1 p2 p3 p4 p5
              go_wp2
              go_ret
              exact ⟨by rw [HV.out]; rfl, HB.out.alloc HB.out.size _⟩
            have p5' : ¬ (R j).fr < freeS R j := by omega
            by_cases p6 : ((R j).bl : Int) ≤ (R j).ln
            rotate_left
            · have p6' : (R j).ln < ((R j).bl : Int) := by omega
              have HV : Hid (checkS R k = 23) := by rw [hck.out, goodS_bad R hjk (by simp [mayBeS, p6])]; rfl
              clear p1 p2 p3 p4 p5 p6
              by_cases j0 : (0 : Int) < j
              · go_wp2
                go_ret
                exact ⟨by rw [HV.out]; rfl, HB.out.alloc HB.out.size _⟩
              · go_wp2
                go_ret
                exact ⟨by rw [HV.out]; rfl, HB.out.alloc HB.out.size _⟩
            have p6' : ¬ (R j).ln < ((R j).bl : Int) := by omega
            cases p7 : ((R j).ex && (R j).se)
            · have HG2 : Hid (goodS R (j + 1) = true) := by show _ = _; rw [goodS, HG.out, mayBeS, p7]; simp [p1, p2, p3, p4, p5, p6]
              clear p1 p2 p3 p4 p5 p6
              by_cases j0 : (0 : Int) < j
              · cases x1 : (R j).ex <;> cases x2 : (R j).se <;> simp only [x1, x2, Bool.and_true, Bool.and_false, Bool.false_eq_true, Bool.true_eq_false, reduceCtorEq] at p7 c4 c5
                all_goals
                  clear x1 x2
                  go_wp2
                  refine ⟨⟨j + 1, hjk, HG2.out, rfl, rfl, HB.out.alloc HB.out.size _⟩, ?_⟩
                  simp only [intOf]
                  omega
              · cases x1 : (R j).ex <;> cases x2 : (R j).se <;> simp only [x1, x2, Bool.and_true, Bool.and_false, Bool.false_eq_true, Bool.true_eq_false, reduceCtorEq] at p7 c4 c5
                all_goals
                  clear x1 x2
                  go_wp2
                  refine ⟨⟨j + 1, hjk, HG2.out, rfl, rfl, HB.out.alloc HB.out.size _⟩, ?_⟩
                  simp only [intOf]
                  omega
            · have HV : Hid (checkS R k = 23) := by rw [hck.out, goodS_bad R hjk (by simp [mayBeS, p7])]; rfl
              have x1 : (R j).ex = true := by
                cases h : (R j).ex
                · simp [h] at p7
                · rfl
              have x2 : (R j).se = true := by
                cases h : (R j).se
                · simp [h] at p7
                · rfl
              rw [x1] at c4
              rw [x2] at c5
              clear p1 p2 p3 p4 p5 p6 p7 x1 x2
              by_cases j0 : (0 : Int) < j
              · go_wp2
                go_ret
                exact ⟨by rw [HV.out]; rfl, HB.out.alloc HB.out.size _⟩
              · go_wp2
                go_ret
                exact ⟨by rw [HV.out]; rfl, HB.out.alloc HB.out.size _⟩
          · have jk : j = k := by omega
            subst jk
            have HV : Hid (checkS R j = 0) := by rw [hck.out, hg]; rfl
            clear hg hj hjk
            go_wp2
            go_ret
            exact ⟨by rw [HV.out]; rfl, hb⟩
end Go.Proofs.Yteflboidbogegaa
