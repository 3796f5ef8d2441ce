/- What asks region.found: May, Exec, Secret, Fixed, walked: for every list of regions that lies in memory. -/
import Derived.Test.YteflboidbogegaaReg3
namespace Go.Proofs.Yteflboidbogegaa
open Go.ChangeShapes Go.WideShapes Go.ChangeAt Go.RowKit
set_option linter.unusedVariables false
set_option linter.unusedSimpArgs false

set_option maxHeartbeats 2000000 in
theorem may_c (A : Option Addr) (n c : Nat) (R : Nat → Reg) (a s : Int) (ha : 0 ≤ a) (ha' : a ≤ 4294967295) (wri : Bool) (w : World) (hl : Lies w A n R) :
    Calls Try.prog 97 #[.slice A n c, .int .u32 a, .int .u32 s, .bool wri] w fun e w' => e = .returned (.int .i64 (mayS R n a s wri)) ∧ Below w.heap.size w w' := by
  have F : Hid _ := fun (w : World) (hl : Lies w A n R) => found_c A n c R a s ha ha' w hl
  have hL : Hid (Lies w A n R) := hl
  have T : Hid _ := check_c A n c R w hl
  have W : Hid _ := fun (w : World) => width_c s w
  obtain ⟨v1, v2⟩ := widthS_bounds s
  clear hl
  by_cases hc : checkS R n = 0
  · by_cases hm : a % widthS s = 0
    · have hm' : (a % widthS s == 0) = true := by simpa using hm
      have HV : Hid (mayS R n a s wri = if (findS R n a s).isSome && (if wri then (regS R (findS R n a s)).wr else (regS R (findS R n a s)).rd) then 0 else 24) := by
        show _ = _
        simp only [mayS, hc, hm, ne_eq, not_true_eq_false, if_false]
      generalize mayS R n a s wri = V at *
      rw [hc] at T
      clear hc hm
      generalize widthS s = v at *
      generalize regS R (findS R n a s) = g at *
      generalize (findS R n a s).isSome = ok at *
      obtain ⟨fr, ln, rd, wr, ex, se, ba, bl, bc⟩ := g
      simp only [Reg.val] at F
      cases ok <;> cases wri <;> cases rd <;> cases wr
      all_goals
        simp only [Bool.and_true, Bool.and_false, Bool.true_and, Bool.false_and, if_true, if_false, Bool.false_eq_true, reduceIte] at HV
        go_enter Try.func97, Try.ntmps97
        go_wp2_with fail
        refine Calls.mono T.out ?_
        rintro e w1 ⟨rfl, hw1⟩
        have HW1 : Hid _ := hw1
        clear hw1
        go_wp2_with fail
        refine (W.out _).mono ?_
        rintro e w2 ⟨rfl, hw2⟩
        replace hw2 := hw2.symm
        subst hw2
        go_wp2_with fail
        refine (F.out _ (hL.out.below HW1.out (Nat.le_refl _))).mono ?_
        rintro e w3 ⟨rfl, hw3⟩
        have HW3 : Hid (Below w.heap.size w w3) := HW1.out.trans (hw3.mono HW1.out.size)
        clear hw3
        go_wp2
        go_ret
        exact ⟨by rw [HV.out]; rfl, HW3.out.alloc HW3.out.size _⟩
    · have hm' : (a % widthS s == 0) = false := by simpa using hm
      have HV : Hid (mayS R n a s wri = 25) := by
        show _ = _
        simp only [mayS, hc, hm, ne_eq, not_true_eq_false, not_false_eq_true, if_false, if_true]
      generalize mayS R n a s wri = V at *
      rw [hc] at T
      clear hc hm
      generalize widthS s = v at *
      go_enter Try.func97, Try.ntmps97
      go_wp2_with fail
      refine Calls.mono T.out ?_
      rintro e w1 ⟨rfl, hw1⟩
      have HW1 : Hid _ := hw1
      clear hw1
      go_wp2_with fail
      refine (W.out _).mono ?_
      rintro e w2 ⟨rfl, hw2⟩
      replace hw2 := hw2.symm
      subst hw2
      go_wp2
      go_ret
      exact ⟨by rw [HV.out]; rfl, HW1.out⟩
  · have hc' : (checkS R n == 0) = false := by simpa using hc
    have HV : Hid (mayS R n a s wri = 24) := by
      show _ = _
      simp [mayS, hc]
    generalize mayS R n a s wri = V at *
    clear hc
    go_enter Try.func97, Try.ntmps97
    go_wp2_with fail
    refine Calls.mono T.out ?_
    rintro e w1 ⟨rfl, hw1⟩
    go_wp2
    go_ret
    exact ⟨by rw [HV.out]; rfl, hw1⟩
end Go.Proofs.Yteflboidbogegaa
