/- sourdineref1's Find, and what asks it, walked: of at most ten regions. -/
import Derived.Test.YteflboidbogegaaReg4
import Derived.Test.YteflboidbogegaaReg5
namespace Go.Proofs.Yteflboidbogegaa
open Go.ChangeShapes Go.WideShapes Go.ChangeAt Go.RowKit
set_option linter.unusedVariables false
set_option linter.unusedSimpArgs false

theorem below_drewN {B : Nat} {w w1 : World} (m : Nat) (h : Below B w w1) : Below B w (w1.drewN m) := ⟨h.os, h.tape, h.output, h.size, h.block⟩

set_option maxHeartbeats 4000000 in
theorem rfind_c (A : Option Addr) (n c : Nat) (R : Nat → Reg) (a s : Int) (ha : 0 ≤ a) (ha' : a ≤ 4294967295) (w : World) (hn10 : n ≤ 10) (hl : Lies w A n R) :
    Calls Try.prog 70 #[.slice A n c, .int .u32 a, .int .u32 s] w fun e w' => e = .returned (.tuple #[.int .i64 ((findS R n a s).getD 0 : Nat), .bool (findS R n a s).isSome]) ∧ Below w.heap.size w w' := by
  have hn := hl.1
  have hL : Hid (Lies w A n R) := hl
  have T : Hid _ := rcheck_c A n c R w hn10 hl
  have W : Hid _ := fun (w : World) => size_c s w
  obtain ⟨v1, v2⟩ := widthS_bounds s
  clear hl
  by_cases hc : checkS R n = 0
  · have HF : Hid (findS R n a s = firstS R a (widthS s) n) := by show _ = _; simp [findS, hc]
    rw [hc] at T
    clear hc
    generalize widthS s = v at *
    go_enter Try.func70, Try.ntmps70
    go_wp2_with fail
    refine Calls.mono T.out ?_
    rintro e w1 ⟨rfl, hw1⟩
    have HW1 : Hid _ := hw1
    clear hw1 T
    go_wp2_with fail
    go_loopw [8] (fun i wr => fndRel w R n a v i wr) (fun i _ => n - (intOf i).toNat)
    case atStart => exact ⟨0, Nat.zero_le _, rfl, rfl, HW1.out⟩
    case round =>
      obtain ⟨k, hk, hg, rfl, hb⟩ := hrel
      by_cases hkn : k < n
      · obtain ⟨hw, b, o, rfl, h7⟩ := hL.out.2 k hkn
        obtain ⟨c0, c1, c2, c3, c4, c5, c6⟩ := h7.below hb h7.lt
        have hkn' : (k : Int) < n := by omega
        obtain ⟨q1, q2, q3, q4, q5⟩ := hw
        have HB : Hid _ := hb
        clear hb h7 c2 c3 c4 c5 c6
        have HG : Hid _ := hg
        clear hg
        by_cases hf : (R k).fr ≤ a
        · by_cases hh : a + v ≤ (R k).fr + (R k).ln
          · have HR : Hid (findS R n a s = some k) := HF.out.trans (firstS_hit R a v hkn HG.out (by simp [hitS, hf, hh]))
            go_wp2_with fail
            go_big_quiet (first | (go_at_call 71; refine Calls.quiet_of_same (W.out _)))
            go_wp2
            go_ret2
            exact ⟨by rw [HR.out]; rfl, below_drewN nq HB.out⟩
          · have HR : Hid (firstS R a v (k + 1) = none) := by show _ = _; simp [firstS, HG.out, hitS, hh]
            go_wp2_with fail
            go_big_quiet (first | (go_at_call 71; refine Calls.quiet_of_same (W.out _)))
            go_wp2
            refine ⟨⟨k + 1, hkn, HR.out, rfl, below_drewN nq HB.out⟩, ?_⟩
            simp only [intOf]
            omega
        · have HR : Hid (firstS R a v (k + 1) = none) := by show _ = _; simp [firstS, HG.out, hitS, hf]
          have hfd : decide ((R k).fr ≤ a) = false := by simp [hf]
          go_wp2_with fail
          go_big_quiet (first | (go_at_call 71; refine Calls.quiet_of_same (W.out _)))
          go_wp2
          refine ⟨⟨k + 1, hkn, HR.out, rfl, below_drewN nq HB.out⟩, ?_⟩
          simp only [intOf]
          omega
      · have kn : k = n := by omega
        subst kn
        have HR : Hid (findS R k a s = none) := HF.out.trans hg
        clear hg
        go_wp2_with fail
        go_ret2
        exact ⟨by rw [HR.out]; rfl, hb⟩
  · have HR : Hid (findS R n a s = none) := by show _ = _; simp [findS, hc]
    have hc' : (checkS R n == 0) = false := by simpa using hc
    clear hc
    go_enter Try.func70, Try.ntmps70
    go_wp2_with fail
    refine Calls.mono T.out ?_
    rintro e w1 ⟨rfl, hw1⟩
    go_wp2_with fail
    go_ret2
    exact ⟨by rw [HR.out]; rfl, hw1⟩
set_option maxHeartbeats 4000000 in
theorem rmay_c (A : Option Addr) (n c : Nat) (R : Nat → Reg) (a s : Int) (ha : 0 ≤ a) (ha' : a ≤ 4294967295) (wri : Bool) (w : World) (hn10 : n ≤ 10) (hl : Lies w A n R) :
    Calls Try.prog 69 #[.slice A n c, .int .u32 a, .int .u32 s, .bool wri] w fun e w' => e = .returned (.int .i64 (mayS R n a s wri)) ∧ Below w.heap.size w w' := by
  have hn := hl.1
  have F : Hid _ := fun (w : World) (hl : Lies w A n R) => rfind_c A n c R a s ha ha' w hn10 hl
  have hL : Hid (Lies w A n R) := hl
  have T : Hid _ := rcheck_c A n c R w hn10 hl
  have W : Hid _ := fun (w : World) => size_c s w
  obtain ⟨v1, v2⟩ := widthS_bounds s
  clear hl
  by_cases hc : checkS R n = 0
  · by_cases hm : a % widthS s = 0
    · have hm' : (a % widthS s == 0) = true := by simpa using hm
      have HV : Hid (mayS R n a s wri = if (findS R n a s).isSome && (if wri then (regS R (findS R n a s)).wr else (regS R (findS R n a s)).rd) then 0 else 24) := by
        show _ = _
        simp only [mayS, hc, hm, ne_eq, not_true_eq_false, if_false]
      generalize mayS R n a s wri = V at *
      rw [hc] at T
      clear hc hm
      generalize widthS s = v at *
      cases hf : findS R n a s with
      | none =>
        rw [hf] at F HV
        simp only [Option.isSome_none, Option.getD_none, Bool.and_false, Bool.false_and, Bool.false_eq_true, if_false] at F HV
        clear hf
        go_enter Try.func69, Try.ntmps69
        go_wp2_with fail
        refine Calls.mono T.out ?_
        rintro e w1 ⟨rfl, hw1⟩
        have HW1 : Hid _ := hw1
        clear hw1
        go_wp2_with fail
        refine (W.out _).mono ?_
        rintro e w2 ⟨rfl, hw2⟩
        replace hw2 := hw2.symm
        subst hw2
        go_wp2_with fail
        refine (F.out _ (hL.out.below HW1.out (Nat.le_refl _))).mono ?_
        rintro e w3 ⟨rfl, hw3⟩
        have HW3 : Hid (Below w.heap.size w w3) := HW1.out.trans (hw3.mono HW1.out.size)
        clear hw3
        go_wp2
        go_ret
        exact ⟨by rw [HV.out]; rfl, HW3.out⟩
      | some i =>
        rw [hf] at F HV
        have hi := findS_lt R hf
        have hi' : (i : Int) < n := by omega
        clear hf
        simp only [Option.isSome_some, Option.getD_some, Bool.true_and, regS] at F HV
        obtain ⟨hw, b, o, rfl, h7⟩ := hL.out.2 i hi
        clear hw
        cases wri <;> cases xrd : (R i).rd <;> cases xwr : (R i).wr
        all_goals
          rw [xrd, xwr] at HV
          simp only [Bool.and_true, Bool.and_false, Bool.true_and, Bool.false_and, if_true, if_false, Bool.false_eq_true, reduceIte] at HV
          go_enter Try.func69, Try.ntmps69
          go_wp2_with fail
          refine Calls.mono T.out ?_
          rintro e w1 ⟨rfl, hw1⟩
          have HW1 : Hid _ := hw1
          clear hw1
          go_wp2_with fail
          refine (W.out _).mono ?_
          rintro e w2 ⟨rfl, hw2⟩
          replace hw2 := hw2.symm
          subst hw2
          go_wp2_with fail
          refine (F.out _ (hL.out.below HW1.out (Nat.le_refl _))).mono ?_
          rintro e w3 ⟨rfl, hw3⟩
          have HW3 : Hid (Below w.heap.size w w3) := HW1.out.trans (hw3.mono HW1.out.size)
          clear hw3
          obtain ⟨c0, c1, c2, c3, c4, c5, c6⟩ := h7.below HW3.out h7.lt
          rw [xrd] at c2
          rw [xwr] at c3
          go_wp2
          go_ret
          exact ⟨by rw [HV.out]; rfl, HW3.out⟩
    · have hm' : (a % widthS s == 0) = false := by simpa using hm
      have HV : Hid (mayS R n a s wri = 25) := by
        show _ = _
        simp only [mayS, hc, hm, ne_eq, not_true_eq_false, not_false_eq_true, if_false, if_true]
      generalize mayS R n a s wri = V at *
      rw [hc] at T
      clear hc hm
      generalize widthS s = v at *
      go_enter Try.func69, Try.ntmps69
      go_wp2_with fail
      refine Calls.mono T.out ?_
      rintro e w1 ⟨rfl, hw1⟩
      have HW1 : Hid _ := hw1
      clear hw1
      go_wp2_with fail
      refine (W.out _).mono ?_
      rintro e w2 ⟨rfl, hw2⟩
      replace hw2 := hw2.symm
      subst hw2
      go_wp2
      go_ret
      exact ⟨by rw [HV.out]; rfl, HW1.out⟩
  · have hc' : (checkS R n == 0) = false := by simpa using hc
    have HV : Hid (mayS R n a s wri = 24) := by
      show _ = _
      simp [mayS, hc]
    generalize mayS R n a s wri = V at *
    clear hc
    go_enter Try.func69, Try.ntmps69
    go_wp2_with fail
    refine Calls.mono T.out ?_
    rintro e w1 ⟨rfl, hw1⟩
    go_wp2
    go_ret
    exact ⟨by rw [HV.out]; rfl, hw1⟩
end Go.Proofs.Yteflboidbogegaa
