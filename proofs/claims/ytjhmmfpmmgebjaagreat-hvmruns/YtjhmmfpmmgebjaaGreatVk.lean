/- sourdineref1's Check, walked: of at most ten regions it tells what region.Check tells. -/
import Derived.Test.YtjhmmfpmmgebjaaGreatVa
import Derived.Test.YtjhmmfpmmgebjaaGreatVd
import Derived.Laws.CopyOwn
import Derived.BigRegion
namespace Go.Proofs.YtjhmmfpmmgebjaaGreat
open Go.ChangeShapes Go.WideShapes Go.ChangeAt Go.RowKit
set_option linter.unusedVariables false
set_option linter.unusedSimpArgs false

def allRel (w : World) (R : Nat → Reg) (n : Nat) (s i : Value) (wr : World) : Prop :=
  ∃ k : Nat, k ≤ n ∧ s = .int .i64 (sumS R k) ∧ i = .int .i64 k ∧ wr = w

def refRel (w : World) (R : Nat → Reg) (n : Nat) (s i : Value) (wr : World) : Prop :=
  ∃ k : Nat, k ≤ n ∧ goodS R k = true ∧ s = .int .u64 (freeS R k) ∧ i = .int .i64 k ∧ Below w.heap.size w wr

set_option maxHeartbeats 4000000 in
theorem rcheck_c (A : Option Addr) (n c : Nat) (R : Nat → Reg) (w : World) (hn10 : n ≤ 10) (hl : Lies w A n R) : Calls Tryz.prog 19 #[.slice A n c] w fun e w' => e = .returned (.int .i64 (checkS R n)) ∧ Below w.heap.size w w' := by
  have hn := hl.1
  have hL : Hid (Lies w A n R) := hl
  clear hl
  go_enter Tryz.func19, Tryz.ntmps19
  go_wp2_with fail
  go_loopw [3, 4] (fun s i wr => allRel w R n s i wr) (fun _ i _ => n - (intOf i).toNat)
  case atStart => exact ⟨0, Nat.zero_le _, rfl, rfl, rfl⟩
  case round =>
    obtain ⟨k, hk, rfl, rfl, hw⟩ := hrel
    replace hw := hw.symm
    subst hw
    obtain ⟨hs0, hs1⟩ := sumS_bounds R k (fun i hi => (hL.out.2 i (by omega)).1)
    have hs1' : sumS R k ≤ 42949672950 := by omega
    clear hs1
    by_cases hkn : k < n
    · obtain ⟨hw, b, o, rfl, h7⟩ := hL.out.2 k hkn
      obtain ⟨c0, c1, c2, c3, c4, c5, c6⟩ := h7
      have hkn' : (k : Int) < n := by omega
      obtain ⟨q1, q2, q3, q4, q5⟩ := hw
      go_wp2_with fail
      refine ⟨⟨k + 1, hkn, rfl, rfl, rfl⟩, ?_⟩
      simp only [intOf]
      omega
    · have kn : k = n := by omega
      subst kn
      clear hk hkn
      cases ht : tooS R k with
      | true =>
        have HV : Hid (checkS R k = 22) := by show _ = _; simp [checkS, ht]
        by_cases h8 : (8 : Int) < k
        · clear ht
          go_wp2
          go_ret
          exact ⟨by rw [HV.out]; rfl, Below.refl _ _⟩
        · have h6 : 65536 < sumS R k := by
            have : ¬ (8 < k) := by omega
            simpa [tooS, this] using ht
          clear ht
          go_wp2
          go_ret
          exact ⟨by rw [HV.out]; rfl, Below.refl _ _⟩
      | false =>
        have hck : Hid (checkS R k = if goodS R k then 0 else 23) := by show _ = _; simp [checkS, ht]
        have h8 : ¬ (8 : Int) < k := by
          intro h
          have : 8 < k := by omega
          simp [tooS, this] at ht
        have h6 : ¬ 65536 < sumS R k := by
          intro h
          simp [tooS, h] at ht
        clear ht
        go_wp2_with fail
        go_loopw [5, 6] (fun s i wx => refRel w R k s i wx) (fun _ i _ => k - (intOf i).toNat)
        case atStart => exact ⟨0, Nat.zero_le _, rfl, rfl, rfl, Below.refl _ _⟩
        case round =>
          obtain ⟨j, hj, hg, rfl, rfl, hb⟩ := hrel
          obtain ⟨f0, f1⟩ := freeS_bounds R j (fun i hi => (hL.out.2 i (by omega)).1)
          by_cases hjk : j < k
          · obtain ⟨hw, b, o, rfl, h7⟩ := hL.out.2 j hjk
            obtain ⟨c0, c1, c2, c3, c4, c5, c6⟩ := h7.below hb h7.lt
            have hjk' : (j : Int) < k := by omega
            obtain ⟨q1, q2, q3, q4, q5⟩ := hw
            have HB : Hid (Below w.heap.size w wr) := hb
            clear hb h7
            have HG : Hid _ := hg
            clear hg h6 h8 hs0 hs1'
            by_cases p1 : (R j).fr % 4 = 0
            rotate_left
            · have p1' : ((R j).fr % 4 == 0) = false := by simpa using p1
              have HV : Hid (checkS R k = 23) := by rw [hck.out, goodS_bad R hjk (by simp [mayBeS, p1])]; rfl
              clear p1
              go_wp2
              go_ret
              exact ⟨by rw [HV.out]; rfl, HB.out.alloc HB.out.size _⟩
            have p1' : ((R j).fr % 4 == 0) = true := by simpa using p1
            by_cases p2 : (R j).ln % 4 = 0
            rotate_left
            · have p2' : ((R j).ln % 4 == 0) = false := by simpa using p2
              have HV : Hid (checkS R k = 23) := by rw [hck.out, goodS_bad R hjk (by simp [mayBeS, p2])]; rfl
              clear p2
              go_wp2
              go_ret
              exact ⟨by rw [HV.out]; rfl, HB.out.alloc HB.out.size _⟩
            have p2' : ((R j).ln % 4 == 0) = true := by simpa using p2
            by_cases p3 : (R j).ln ≠ 0
            rotate_left
            · have p3' : ((R j).ln == 0) = true := by simpa using p3
              have HV : Hid (checkS R k = 23) := by rw [hck.out, goodS_bad R hjk (by simp [mayBeS, p3])]; rfl
              clear p3
              go_wp2
              go_ret
              exact ⟨by rw [HV.out]; rfl, HB.out.alloc HB.out.size _⟩
            have p3' : ((R j).ln == 0) = false := by simpa using p3
            by_cases p4 : (R j).fr + (R j).ln ≤ 4294963200
            rotate_left
            · have p4' : 4294963200 < (R j).fr + (R j).ln := by omega
              have HV : Hid (checkS R k = 23) := by rw [hck.out, goodS_bad R hjk (by simp [mayBeS, p4])]; rfl
              clear p4
              go_wp2
              go_ret
              exact ⟨by rw [HV.out]; rfl, HB.out.alloc HB.out.size _⟩
            have p4' : ¬ 4294963200 < (R j).fr + (R j).ln := by omega
            by_cases p5 : freeS R j ≤ (R j).fr
            rotate_left
            · have p5' : (R j).fr < freeS R j := by omega
              have j0 : (0 : Int) < j := by
                rcases Nat.eq_zero_or_pos j with h | h
                · subst h
                  simp only [freeS] at p5
                  omega
                · omega
              have HV : Hid (checkS R k = 23) := by rw [hck.out, goodS_bad R hjk (by simp [p5])]; rfl
              clear p1 p2 p3 p4 p5
              go_wp2
              go_ret
              exact ⟨by rw [HV.out]; rfl, HB.out.alloc HB.out.size _⟩
            have p5' : ¬ (R j).fr < freeS R j := by omega
            by_cases p6 : ((R j).bl : Int) ≤ (R j).ln
            rotate_left
            · have p6' : (R j).ln < ((R j).bl : Int) := by omega
              have HV : Hid (checkS R k = 23) := by rw [hck.out, goodS_bad R hjk (by simp [mayBeS, p6])]; rfl
              clear p1 p2 p3 p4 p5 p6
              by_cases j0 : (0 : Int) < j
              · go_wp2
                go_ret
                exact ⟨by rw [HV.out]; rfl, HB.out.alloc HB.out.size _⟩
              · go_wp2
                go_ret
                exact ⟨by rw [HV.out]; rfl, HB.out.alloc HB.out.size _⟩
            have p6' : ¬ (R j).ln < ((R j).bl : Int) := by omega
            cases p7 : ((R j).ex && (R j).se)
            · have HG2 : Hid (goodS R (j + 1) = true) := by show _ = _; rw [goodS, HG.out, mayBeS, p7]; simp [p1, p2, p3, p4, p5, p6]
              clear p1 p2 p3 p4 p5 p6
              by_cases j0 : (0 : Int) < j
              · cases x1 : (R j).ex <;> cases x2 : (R j).se <;> simp only [x1, x2, Bool.and_true, Bool.and_false, Bool.false_eq_true, Bool.true_eq_false, reduceCtorEq] at p7 c4 c5
                all_goals
                  clear x1 x2
                  go_wp2
                  refine ⟨⟨j + 1, hjk, HG2.out, rfl, rfl, HB.out.alloc HB.out.size _⟩, ?_⟩
                  simp only [intOf]
                  omega
              · cases x1 : (R j).ex <;> cases x2 : (R j).se <;> simp only [x1, x2, Bool.and_true, Bool.and_false, Bool.false_eq_true, Bool.true_eq_false, reduceCtorEq] at p7 c4 c5
                all_goals
                  clear x1 x2
                  go_wp2
                  refine ⟨⟨j + 1, hjk, HG2.out, rfl, rfl, HB.out.alloc HB.out.size _⟩, ?_⟩
                  simp only [intOf]
                  omega
            · have HV : Hid (checkS R k = 23) := by rw [hck.out, goodS_bad R hjk (by simp [mayBeS, p7])]; rfl
              have x1 : (R j).ex = true := by
                cases h : (R j).ex
                · simp [h] at p7
                · rfl
              have x2 : (R j).se = true := by
                cases h : (R j).se
                · simp [h] at p7
                · rfl
              rw [x1] at c4
              rw [x2] at c5
              clear p1 p2 p3 p4 p5 p6 p7 x1 x2
              by_cases j0 : (0 : Int) < j
              · go_wp2
                go_ret
                exact ⟨by rw [HV.out]; rfl, HB.out.alloc HB.out.size _⟩
              · go_wp2
                go_ret
                exact ⟨by rw [HV.out]; rfl, HB.out.alloc HB.out.size _⟩
          · have jk : j = k := by omega
            subst jk
            have HV : Hid (checkS R j = 0) := by rw [hck.out, hg]; rfl
            clear hg hj hjk
            go_wp2
            go_ret
            exact ⟨by rw [HV.out]; rfl, hb⟩
end Go.Proofs.YtjhmmfpmmgebjaaGreat
namespace Go.Proofs.YtjhmmfpmmgebjaaGreat
open Go.ChangeShapes Go.WideShapes Go.ChangeAt Go.RowKit
set_option linter.unusedVariables false
set_option linter.unusedSimpArgs false

theorem below_drewN {B : Nat} {w w1 : World} (m : Nat) (h : Below B w w1) : Below B w (w1.drewN m) := ⟨h.os, h.tape, h.output, h.size, h.block⟩

set_option maxHeartbeats 4000000 in
theorem rfind_c (A : Option Addr) (n c : Nat) (R : Nat → Reg) (a s : Int) (ha : 0 ≤ a) (ha' : a ≤ 4294967295) (w : World) (hn10 : n ≤ 10) (hl : Lies w A n R) :
    Calls Tryz.prog 78 #[.slice A n c, .int .u32 a, .int .u32 s] w fun e w' => e = .returned (.tuple #[.int .i64 ((findS R n a s).getD 0 : Nat), .bool (findS R n a s).isSome]) ∧ Below w.heap.size w w' := by
  have hn := hl.1
  have hL : Hid (Lies w A n R) := hl
  have T : Hid _ := rcheck_c A n c R w hn10 hl
  have W : Hid _ := fun (w : World) => size_c s w
  obtain ⟨v1, v2⟩ := widthS_bounds s
  clear hl
  by_cases hc : checkS R n = 0
  · have HF : Hid (findS R n a s = firstS R a (widthS s) n) := by show _ = _; simp [findS, hc]
    rw [hc] at T
    clear hc
    generalize widthS s = v at *
    go_enter Tryz.func78, Tryz.ntmps78
    go_wp2_with fail
    refine Calls.mono T.out ?_
    rintro e w1 ⟨rfl, hw1⟩
    have HW1 : Hid _ := hw1
    clear hw1 T
    go_wp2_with fail
    go_loopw [8] (fun i wr => fndRel w R n a v i wr) (fun i _ => n - (intOf i).toNat)
    case atStart => exact ⟨0, Nat.zero_le _, rfl, rfl, HW1.out⟩
    case round =>
      obtain ⟨k, hk, hg, rfl, hb⟩ := hrel
      by_cases hkn : k < n
      · obtain ⟨hw, b, o, rfl, h7⟩ := hL.out.2 k hkn
        obtain ⟨c0, c1, c2, c3, c4, c5, c6⟩ := h7.below hb h7.lt
        have hkn' : (k : Int) < n := by omega
        obtain ⟨q1, q2, q3, q4, q5⟩ := hw
        have HB : Hid _ := hb
        clear hb h7 c2 c3 c4 c5 c6
        have HG : Hid _ := hg
        clear hg
        by_cases hf : (R k).fr ≤ a
        · by_cases hh : a + v ≤ (R k).fr + (R k).ln
          · have HR : Hid (findS R n a s = some k) := HF.out.trans (firstS_hit R a v hkn HG.out (by simp [hitS, hf, hh]))
            go_wp2_with fail
            go_big_quiet (first | (go_at_call 79; refine Calls.quiet_of_same (W.out _)))
            go_wp2
            go_ret2
            exact ⟨by rw [HR.out]; rfl, below_drewN nq HB.out⟩
          · have HR : Hid (firstS R a v (k + 1) = none) := by show _ = _; simp [firstS, HG.out, hitS, hh]
            go_wp2_with fail
            go_big_quiet (first | (go_at_call 79; refine Calls.quiet_of_same (W.out _)))
            go_wp2
            refine ⟨⟨k + 1, hkn, HR.out, rfl, below_drewN nq HB.out⟩, ?_⟩
            simp only [intOf]
            omega
        · have HR : Hid (firstS R a v (k + 1) = none) := by show _ = _; simp [firstS, HG.out, hitS, hf]
          have hfd : decide ((R k).fr ≤ a) = false := by simp [hf]
          go_wp2_with fail
          go_big_quiet (first | (go_at_call 79; refine Calls.quiet_of_same (W.out _)))
          go_wp2
          refine ⟨⟨k + 1, hkn, HR.out, rfl, below_drewN nq HB.out⟩, ?_⟩
          simp only [intOf]
          omega
      · have kn : k = n := by omega
        subst kn
        have HR : Hid (findS R k a s = none) := HF.out.trans hg
        clear hg
        go_wp2_with fail
        go_ret2
        exact ⟨by rw [HR.out]; rfl, hb⟩
  · have HR : Hid (findS R n a s = none) := by show _ = _; simp [findS, hc]
    have hc' : (checkS R n == 0) = false := by simpa using hc
    clear hc
    go_enter Tryz.func78, Tryz.ntmps78
    go_wp2_with fail
    refine Calls.mono T.out ?_
    rintro e w1 ⟨rfl, hw1⟩
    go_wp2_with fail
    go_ret2
    exact ⟨by rw [HR.out]; rfl, hw1⟩
set_option maxHeartbeats 4000000 in
theorem rmay_c (A : Option Addr) (n c : Nat) (R : Nat → Reg) (a s : Int) (ha : 0 ≤ a) (ha' : a ≤ 4294967295) (wri : Bool) (w : World) (hn10 : n ≤ 10) (hl : Lies w A n R) :
    Calls Tryz.prog 77 #[.slice A n c, .int .u32 a, .int .u32 s, .bool wri] w fun e w' => e = .returned (.int .i64 (mayS R n a s wri)) ∧ Below w.heap.size w w' := by
  have hn := hl.1
  have F : Hid _ := fun (w : World) (hl : Lies w A n R) => rfind_c A n c R a s ha ha' w hn10 hl
  have hL : Hid (Lies w A n R) := hl
  have T : Hid _ := rcheck_c A n c R w hn10 hl
  have W : Hid _ := fun (w : World) => size_c s w
  obtain ⟨v1, v2⟩ := widthS_bounds s
  clear hl
  by_cases hc : checkS R n = 0
  · by_cases hm : a % widthS s = 0
    · have hm' : (a % widthS s == 0) = true := by simpa using hm
      have HV : Hid (mayS R n a s wri = if (findS R n a s).isSome && (if wri then (regS R (findS R n a s)).wr else (regS R (findS R n a s)).rd) then 0 else 24) := by
        show _ = _
        simp only [mayS, hc, hm, ne_eq, not_true_eq_false, if_false]
      generalize mayS R n a s wri = V at *
      rw [hc] at T
      clear hc hm
      generalize widthS s = v at *
      cases hf : findS R n a s with
      | none =>
        rw [hf] at F HV
        simp only [Option.isSome_none, Option.getD_none, Bool.and_false, Bool.false_and, Bool.false_eq_true, if_false] at F HV
        clear hf
        go_enter Tryz.func77, Tryz.ntmps77
        go_wp2_with fail
        refine Calls.mono T.out ?_
        rintro e w1 ⟨rfl, hw1⟩
        have HW1 : Hid _ := hw1
        clear hw1
        go_wp2_with fail
        refine (W.out _).mono ?_
        rintro e w2 ⟨rfl, hw2⟩
        replace hw2 := hw2.symm
        subst hw2
        go_wp2_with fail
        refine (F.out _ (hL.out.below HW1.out (Nat.le_refl _))).mono ?_
        rintro e w3 ⟨rfl, hw3⟩
        have HW3 : Hid (Below w.heap.size w w3) := HW1.out.trans (hw3.mono HW1.out.size)
        clear hw3
        go_wp2
        go_ret
        exact ⟨by rw [HV.out]; rfl, HW3.out⟩
      | some i =>
        rw [hf] at F HV
        have hi := findS_lt R hf
        have hi' : (i : Int) < n := by omega
        clear hf
        simp only [Option.isSome_some, Option.getD_some, Bool.true_and, regS] at F HV
        obtain ⟨hw, b, o, rfl, h7⟩ := hL.out.2 i hi
        clear hw
        cases wri <;> cases xrd : (R i).rd <;> cases xwr : (R i).wr
        all_goals
          rw [xrd, xwr] at HV
          simp only [Bool.and_true, Bool.and_false, Bool.true_and, Bool.false_and, if_true, if_false, Bool.false_eq_true, reduceIte] at HV
          go_enter Tryz.func77, Tryz.ntmps77
          go_wp2_with fail
          refine Calls.mono T.out ?_
          rintro e w1 ⟨rfl, hw1⟩
          have HW1 : Hid _ := hw1
          clear hw1
          go_wp2_with fail
          refine (W.out _).mono ?_
          rintro e w2 ⟨rfl, hw2⟩
          replace hw2 := hw2.symm
          subst hw2
          go_wp2_with fail
          refine (F.out _ (hL.out.below HW1.out (Nat.le_refl _))).mono ?_
          rintro e w3 ⟨rfl, hw3⟩
          have HW3 : Hid (Below w.heap.size w w3) := HW1.out.trans (hw3.mono HW1.out.size)
          clear hw3
          obtain ⟨c0, c1, c2, c3, c4, c5, c6⟩ := h7.below HW3.out h7.lt
          rw [xrd] at c2
          rw [xwr] at c3
          go_wp2
          go_ret
          exact ⟨by rw [HV.out]; rfl, HW3.out⟩
    · have hm' : (a % widthS s == 0) = false := by simpa using hm
      have HV : Hid (mayS R n a s wri = 25) := by
        show _ = _
        simp only [mayS, hc, hm, ne_eq, not_true_eq_false, not_false_eq_true, if_false, if_true]
      generalize mayS R n a s wri = V at *
      rw [hc] at T
      clear hc hm
      generalize widthS s = v at *
      go_enter Tryz.func77, Tryz.ntmps77
      go_wp2_with fail
      refine Calls.mono T.out ?_
      rintro e w1 ⟨rfl, hw1⟩
      have HW1 : Hid _ := hw1
      clear hw1
      go_wp2_with fail
      refine (W.out _).mono ?_
      rintro e w2 ⟨rfl, hw2⟩
      replace hw2 := hw2.symm
      subst hw2
      go_wp2
      go_ret
      exact ⟨by rw [HV.out]; rfl, HW1.out⟩
  · have hc' : (checkS R n == 0) = false := by simpa using hc
    have HV : Hid (mayS R n a s wri = 24) := by
      show _ = _
      simp [mayS, hc]
    generalize mayS R n a s wri = V at *
    clear hc
    go_enter Tryz.func77, Tryz.ntmps77
    go_wp2_with fail
    refine Calls.mono T.out ?_
    rintro e w1 ⟨rfl, hw1⟩
    go_wp2
    go_ret
    exact ⟨by rw [HV.out]; rfl, hw1⟩
end Go.Proofs.YtjhmmfpmmgebjaaGreat
namespace Go.Proofs.YtjhmmfpmmgebjaaGreat
open Go.ChangeShapes Go.WideShapes Go.ChangeAt Go.RowKit
set_option linter.unusedVariables false
set_option linter.unusedSimpArgs false

theorem rnew_bad (v : Value) (Bs : List Reg) (G : List (List Int)) (S : Nat → Prop) (w : World) (hn : Bs.length ≤ 10) (h : RL w S v Bs G) (hc : checkS (regAt Bs) Bs.length ≠ 0) :
    Calls Tryz.prog 8 #[v] w fun e w' => e = .returned (.tuple #[.pointer none, .int .i64 (checkS (regAt Bs) Bs.length)]) ∧ Below w.heap.size w w' := by
  obtain ⟨rs, rfl, _, A, c, rfl, _, _, hL, _⟩ := h
  have C := rcheck_c A rs.length c (regAt rs) w (by rw [List.length_map] at hn; exact hn) hL
  rw [regAt_bare, List.length_map, checkS_bare] at hc ⊢
  have HC : Hid _ := C
  clear C
  have hc' : (checkS (regAt rs) rs.length == 0) = false := by simpa using hc
  go_enter Tryz.func8, Tryz.ntmps8
  go_wp2_with fail
  refine Calls.mono HC.out ?_
  rintro e w1 ⟨rfl, hw1⟩
  go_wp2
  go_ret2
  exact ⟨rfl, hw1⟩

theorem ref_done {wr : World} {p l0 lo : Nat} {gv nv : Value} {vs : List Value} {q : Nat → Nat} {Bs : List Reg} {G D : List (List Int)}
    (hlen : D.length = Bs.length) (hlo : lo ≤ p) (hl0 : l0 ≤ lo) (hp0 : wr.cell? ⟨p, 0, none⟩ = some gv) (hp1 : wr.cell? ⟨p, 1, none⟩ = some nv) (hown : wr.ownsRow (p + 1) 40 1 nv D.length vs) (hplt : p < wr.heap.size)
    (hrows : ∀ (i : Nat) (d : List Int), i < D.length → D[i]? = some d → ∃ cap, vs[i]? = some (.slice (some ⟨q i, 0, none⟩) d.length cap) ∧
      wr.ownsRow (p + 1) 5 1 (.slice (some ⟨q i, 0, none⟩) d.length cap) d.length (cb d))
    (hq : ∀ i, i < D.length → nv.ownBlock ≠ some (q i) ∧ q i < wr.heap.size ∧ p < q i) (hqi : ∀ i j, i < D.length → j < D.length → q i = q j → i = j)
    (hg : RL wr (fun b => b < l0) gv Bs G) (hd : ∀ (i : Nat) (d : List Int) (r : Reg), D[i]? = some d → Bs[i]? = some r → okB d ∧ (d.length : Int) = r.ln) :
    MemAt wr p l0 lo wr.heap.size Bs G D q := by
  refine ⟨hlen, Nat.le_refl _, ⟨hlo, hplt, fun i hi => by have := (hq i (by omega)).2.2; omega⟩, fun i j hi hj e => hqi i j (by omega) (by omega) e, ⟨_, hp0, hg.mono fun b hb => ⟨.inl hb, fun i hi => by have := (hq i (by omega)).2.2; omega⟩⟩, ?_⟩
  have hown' := hown
  obtain ⟨_, ⟨rfl, h0⟩ | ⟨g, cap, cur, rfl, hgb, hgg, _⟩⟩ := hown'
  · have hBe : Bs = [] := List.eq_nil_of_length_eq_zero (by omega)
    refine ⟨none, 0, 0, ?_, fun _ => ⟨rfl, hBe⟩, fun h => absurd hBe h, fun i d r hd hr => ?_⟩
    · rw [hp1, ← hlen, h0]
    · rw [hBe] at hr; simp at hr
  · refine ⟨some ⟨g, 0, none⟩, g, cap, ?_, fun h => (by cases h), fun _ => ⟨rfl, by omega, (Array.getElem?_eq_some_iff.1 hgg).1, fun i hi => ?_⟩, fun i d r hd' hr => ?_⟩
    · rw [hp1, ← hlen]
    · intro e
      exact (hq i (by omega)).1 (by simp [Value.ownBlock, e])
    · have hi : i < D.length := (List.getElem?_eq_some_iff.1 hd').1
      obtain ⟨cp, e1, e2⟩ := hrows i d hi hd'
      obtain ⟨m1, m2⟩ := hd i d r hd' hr
      refine ⟨m1, m2, (hq i hi).2.1, cp, ?_, own_mono e2 (by omega)⟩
      rw [hown.cellAt i (by omega)]
      exact e1

/-- The document's memory is there. -/
def RefPost (w : World) (l0 : Nat) (Bs : List Reg) (G D : List (List Int)) (v : Value) (e : Ending) (w' : World) : Prop :=
  ∃ p q, e = .returned (.tuple #[.pointer (some ⟨p, 0, none⟩), .int .i64 0]) ∧ MemAt w' p l0 w.heap.size w'.heap.size Bs G D q ∧ Below w.heap.size w w' ∧ w'.cell? ⟨p, 0, none⟩ = some v

theorem made_bytes {w : World} {base n cap : Nat} {g : Nat} {xs : List Value} (h : w.ownsRow base 5 1 (.slice (some ⟨g, 0, none⟩) n n) n xs) : w.heap[g]? = some (.cells xs.toArray 5 (0, 0)) := by
  obtain ⟨hl, ⟨h', _⟩ | ⟨g', cap', cur, h', _, hg, _, _, hs, ht⟩⟩ := h
  · cases h'
  · simp only [Value.slice.injEq, Option.some.injEq, Addr.mk.injEq, and_true, true_and] at h'
    obtain ⟨rfl, rfl⟩ := h'
    rw [hg, ← ht, List.take_of_length_le (by rw [Array.length_toList]; omega)]
theorem own_of_heap {w : World} {base g n : Nat} {bs : List Int} (h : w.heap[g]? = some (.cells (cb bs).toArray 5 (0, 0))) (hb : base ≤ g) (hn : bs.length = n) (hm : n ≤ maxLen) : w.ownsRow base 5 1 (.slice (some ⟨g, 0, none⟩) n n) n (cb bs) := by
  subst hn
  refine ⟨by rw [cb_length]; omega, .inr ⟨g, bs.length, _, rfl, hb, h, Nat.le_refl _, hm, ?_, ?_⟩⟩
  · simp [cb_length]
  · rw [Nat.mul_one]
    exact List.take_of_length_le (by rw [cb_length]; exact Nat.le_refl _)
theorem splice_fill (ln : Int) (bs : List Int) (n : Nat) (hn : ln = n) (hle : bs.length ≤ n) : splice (List.replicate n (Value.int .u8 0)) 0 (cb bs) = cb (fillS ln bs) := by
  simp only [splice, fillS, cb_append, cb_zeros, List.take_zero, List.nil_append, Nat.zero_add, cb_length, List.drop_replicate]
  rw [hn]
  simp

set_option maxHeartbeats 8000000 in
set_option maxRecDepth 100000 in
theorem rnew_ok (v : Value) (Bs : List Reg) (G : List (List Int)) (l0 : Nat) (w : World) (h : RL w (fun b => b < l0) v Bs G) (hl0 : l0 ≤ w.heap.size) (hc : checkS (regAt Bs) Bs.length = 0) :
    Calls Tryz.prog 8 #[v] w fun e w' => RefPost w l0 Bs G (initD Bs G) v e w' := by
  obtain ⟨i0, hi, hz0, hz1, hz2⟩ := info_parts infoRow
  obtain ⟨i5, ji, jz0, jz1, jz2⟩ := info_parts infoByte
  have HRL : Hid (RL w (fun b => b < l0) v Bs G) := h
  obtain ⟨rs, hbs, hGl, A, c, rfl, hA, hA2, hL, hB⟩ := h
  have hbl : Bs.length = rs.length := by rw [← hbs, List.length_map]
  have hc2 : checkS (regAt rs) rs.length = 0 := by
    rw [← hbs, regAt_bare, List.length_map, checkS_bare] at hc
    exact hc
  have hok := check_ok hc2 (fun i hi => (hL.2 i hi).1)
  have C1 : Hid (Calls Tryz.prog 19 #[.slice A rs.length c] w fun e w' => e = .returned (.int .i64 0) ∧ Below w.heap.size w w') := by
    have := rcheck_c A rs.length c (regAt rs) w (by have := hok.1; omega) hL
    rw [hc2] at this
    exact this
  have hn8 : rs.length ≤ 8 := hok.1
  have HOK : Hid _ := hok.2
  have HL : Hid _ := hL
  have HB : Hid _ := hB
  have HGl : Hid _ := hGl
  have Hbl : Hid _ := hbl
  have Hbs : Hid _ := hbs
  clear hok hL hB hGl hbl hbs hc hc2 hA hA2
  go_enter Tryz.func8, Tryz.ntmps8
  go_wp2_with fail
  refine Calls.mono C1.out ?_
  rintro e w1 ⟨rfl, hw1⟩
  have HB1 : Hid (Below w.heap.size w w1) := hw1
  clear hw1
  go_wp2_with fail
  obtain ⟨P, hP⟩ : ∃ P, P = w1.heap.size := ⟨_, rfl⟩
  obtain ⟨W4, hW4⟩ : ∃ W, W = w1.alloc (Obj.cells #[.slice A rs.length c, .slice none 0 0] 46) := ⟨_, rfl⟩
  rw [← hP, ← hW4]
  have ST : Hid (newRel W4 P (.slice A rs.length c) (initD Bs G) (.int .i64 0) W4) := by
    rw [hP, hW4]
    exact newRel_start _ _ _ _
  have HDl : Hid ((initD Bs G).length = rs.length) := by
    have h1 := HGl.out
    have h2 := Hbl.out
    show _ = _
    simp only [initD, List.length_zipWith]
    omega
  have HW : Hid (Below w.heap.size w W4 ∧ w.heap.size ≤ P) := by
    rw [hP, hW4]
    exact ⟨HB1.out.alloc HB1.out.size _, HB1.out.size⟩
  clear hP hW4 C1
  go_loopw [6] (fun i wr => newRel W4 P (.slice A rs.length c) (initD Bs G) i wr) (fun i _ => rs.length - (intOf i).toNat)
  case atStart => exact ST.out
  case round =>
    obtain ⟨k, nv, vs, q, hk, rfl, hp0, hp1, hpf, hown, hplt, hrows, hq, hqi, hbe⟩ := hrel
    rw [HDl.out] at hk
    by_cases hkn : k < rs.length
    · have hkn' : (k : Int) < rs.length := by omega
      obtain ⟨gk, hgk⟩ : ∃ g, G[k]? = some g := ⟨G[k]'(by rw [HGl.out]; exact hkn), by simp⟩
      have hrk : rs[k]? = some (regAt rs k) := by simp [regAt, List.getD, hkn]
      obtain ⟨hbl, hBLk⟩ := HB.out k _ gk hrk hgk
      obtain ⟨hmb, hle, h4, h6⟩ := HOK.out k hkn
      obtain ⟨hwf, b, o, rfl, h7⟩ := HL.out.2 k hkn
      have hbw : Below w.heap.size w wr := HW.out.1.trans (hbe.mono HW.out.2)
      obtain ⟨_, d1, _, _, _, _, d6⟩ := h7.below hbw h7.lt
      obtain ⟨n, hn⟩ : ∃ n : Nat, (regAt rs k).ln = n := ⟨(regAt rs k).ln.toNat, by omega⟩
      have hbn : b < wr.heap.size := Nat.lt_of_lt_of_le h7.lt hbw.size
      rw [hn] at d1
      have hn0 : (0 : Int) ≤ n := by omega
      have hn1 : (n : Int) ≤ 65536 := by omega
      have HX : Hid _ := And.intro hbl (And.intro hBLk (And.intro hrk (And.intro hgk (And.intro hn hle))))
      have HY : Hid _ := And.intro hrows (And.intro hq (And.intro hqi hbe))
      have HO : Hid _ := hown
      have HBW : Hid _ := hbw
      clear hbl hmb hBLk hwf h7 hrk hrows hq hqi hbe hown hbw hle h4 h6
      go_wp2_with (first
        | (at_make; refine wpList_make_full _ rfl _ _ 40 rfl wr.heap.size 5 i5 _ 1 Tryz.underlying40 ji jz0 jz1 .u32 .u32 _ _ n rfl rfl rfl rfl (by rw [jz2]; omega) (by simp only [maxLen]; omega) (Nat.le_refl _) ?_)
        | fail)
      intro w5 hown5 hg5
      have hb5 : Below wr.heap.size wr w5 := ⟨hg5.os, hg5.tape, hg5.output, hg5.size, fun j hj => hg5.block j hj (by simp)⟩
      have hs5 : wr.heap.size < w5.heap.size := (hown5.lt _ rfl).2
      have e6 : w5.cell? ⟨b, o + k * 7 + 6, none⟩ = _ := (hb5.cell hbn).trans d6
      have hh5 : w5.heap[wr.heap.size]? = some (.cells (List.replicate n (Value.int .u8 0)).toArray 5 (0, 0)) := by
        have h := made_bytes (cap := n) hown5
        try rw [Nat.mul_one] at h
        rw [h, toList_madeCells_one]
      have HH5 : Hid _ := hh5
      have HB5 : Hid _ := hb5
      have hBL5 : BL w5 (fun b => b < l0) (.slice (regAt rs k).ba (regAt rs k).bl (regAt rs k).bc) gk := (HX.out.2.1.kept (w' := wr) fun j _ hj => HBW.out.block j hj).kept fun j _ hj => hb5.block j hj
      have HBL5 : Hid _ := hBL5
      obtain ⟨r6, hr6⟩ : ∃ r6, r6 = regAt rs k := ⟨_, rfl⟩
      have HR6' : Hid (gk.length ≤ n ∧ r6.bl = gk.length ∧ r6 = regAt rs k) := by
        refine ⟨?_, ?_, hr6⟩
        · have h1 := HX.out.2.2.2.2.2
          have h2 := HX.out.2.2.2.2.1
          have h3 := HX.out.1
          omega
        · rw [hr6]; exact HX.out.1
      rw [← hr6] at e6 HBL5
      have HPOS : Hid (0 < (cb gk).length → ∃ ad, r6.ba = some ad ∧ ∀ j v, (cb gk)[j]? = some v → w5.cell? (ad.add j) = some v) := by
        intro hpos
        obtain ⟨_, A', c', hv, hA', _⟩ := HBL5.out
        simp only [Value.slice.injEq] at hv
        cases hA : r6.ba with
        | none =>
          rw [hA] at hv
          rw [cb_length, (hA' hv.1.symm).2] at hpos
          exact absurd hpos (Nat.not_lt_zero _)
        | some ad =>
          refine ⟨ad, rfl, ?_⟩
          have := HBL5.out
          rw [hA] at this
          exact BL.news this
      clear hown5 hg5 hb5 hh5 hBL5 hr6 d6 d1
      go_wp2_with (first
        | (refine wpList_copy_splice rfl (.tmp 28) (.tmp 33) 40 40 rfl 5 Tryz.underlying40 (by rw [ji]; exact congrArg some jz1) (some ⟨wr.heap.size, 0, none⟩) r6.ba n n r6.bl r6.bc rfl rfl
            wr.heap.size 0 (List.replicate n (Value.int .u8 0)) 5 HH5.out (cb gk) (by rw [cb_length, HR6'.out.2.1]; exact (Nat.min_eq_left HR6'.out.1).symm) (fun h => ⟨rfl, HPOS.out h⟩) (by rw [cb_length, List.length_replicate, Nat.zero_add]; exact HR6'.out.1) (cb_one _) wr.heap.size wr HB5.out (Nat.le_refl _) ?_)
        | fail)
      intro w6 hh6 hb6
      have hs6 : wr.heap.size < w6.heap.size := by
        have := (Array.getElem?_eq_some_iff.1 hh6.out).1
        exact this
      have hsp := splice_fill (n : Int) gk n rfl HR6'.out.1
      have hlenf : (fillS (n : Int) gk).length = n := by
        have h1 := HR6'.out.1
        have := fillS_length (ln := (n : Int)) (bs := gk) (by omega) (by omega)
        omega
      have HOW6 : Hid (w6.ownsRow wr.heap.size 5 1 (.slice (some ⟨wr.heap.size, 0, none⟩) n n) n (cb (fillS (n : Int) gk))) := by
        have h := hh6.out
        rw [hsp] at h
        exact own_of_heap h (Nat.le_refl _) hlenf (by simp only [maxLen]; omega)
      have HLF : Hid _ := hlenf
      have HB6 : Hid _ := hb6
      have f1 : w6.cell? ⟨P, 1, none⟩ = some nv := (hb6.cell hplt).trans hp1
      have f2 : ∀ o, (w6.alloc o).cell? ⟨P, 1, none⟩ = some nv := fun o => (World.cell?_of_block (w := w6) (a := ⟨P, 1, none⟩) (Below.heap_alloc w6 o P (by show P < _; omega))).trans f1
      have HR6 : Hid (∀ o6, (w6.alloc o6).ownsRow (P + 1) 40 1 nv k vs) := fun o6 =>
        (World.ownsRow.kept (row := none) HO.out ⟨hb6.os, hb6.tape, hb6.output, hb6.size, fun j hj _ => hb6.block j hj⟩ (by cases hnv : nv.ownBlock <;> simp)).alloc _
      have HNP : Hid (∀ g, nv.ownBlock = some g → P < g ∧ g < wr.heap.size) := fun g hg => World.ownsRow.lt HO.out g hg
      clear hh6 hb6 hsp hlenf HBL5 HH5 HB5 e6
      go_wp2_with (first
        | (at_builtin; refine wpList_append_lies _ rfl _ _ 44 rfl (P + 1) 40 i0 _ 1 24 Tryz.underlying44 hi hz0 hz1 hz2 rfl (by decide) nv k vs rfl (HR6.out _)
                ⟨w6.heap.size, 0, none⟩ 1 1 [.slice (some ⟨wr.heap.size, 0, none⟩) n n] rfl rfl (cell_one_new _ _ _) (by simp [Value.oneCell'])
                (by decide) (by simp only [maxLen]; omega) (by omega) (by rw [alloc_size']; omega) (w6.heap.size + 1) (by rw [alloc_size']) ?_)
        | fail)
      intro g7 cap7 w7 hown7 hgrow7 hat7 hlt7
      have hP6 : Hid (P < (w6.alloc (Obj.cells #[.slice (some ⟨wr.heap.size, 0, none⟩) n n] 40)).heap.size) := by show P < _; rw [alloc_size']; omega
      have hP7 : Hid (some P ≠ nv.ownBlock) := by intro e; have := HNP.out P e.symm; omega
      have hf71 : w7.cell? ⟨P, 1, none⟩ = some nv := (hgrow7.cell_far _ hP6.out hP7.out).trans (f2 _)
      have hf7 : w7.frozen? ⟨P, 1, none⟩ = false := (hgrow7.frozen_far _ hP6.out hP7.out).trans ((World.frozen?_of_block (w := w6) (a := ⟨P, 1, none⟩) (Below.heap_alloc w6 _ P (by show P < _; omega))).trans ((HB6.out.frozen (p := ⟨P, 1, none⟩) hplt).trans hpf))
      have HZ : Hid (newRel W4 P (.slice (some ⟨b, o, none⟩) rs.length c) (initD Bs G) (.int .i64 ((k : Int) + 1)) (w7.setCell ⟨P, 1, none⟩ (.slice (some ⟨g7, 0, none⟩) (k + 1) cap7))) := by
        obtain ⟨_, _, hrk, hgk, hn, _⟩ := HX.out
        obtain ⟨hrows, hq, hqi, hbe⟩ := HY.out
        have hBk : Bs[k]? = some (regAt rs k).bare := by rw [← Hbs.out, List.getElem?_map, hrk]; rfl
        have hDk : (initD Bs G)[k]? = some (fillS (n : Int) gk) := by
          simp only [initD, List.getElem?_zipWith, hBk, hgk]
          rw [← hn]
          rfl
        have hlf := HLF.out
        have how := HOW6.out
        obtain ⟨dd, hdd⟩ : ∃ dd, dd = fillS (n : Int) gk := ⟨_, rfl⟩
        rw [← hdd] at how hlf hDk
        rw [← hlf] at how hown7
        refine new_next (wr := wr) (wA := w6.alloc (Obj.cells #[.slice (some ⟨wr.heap.size, 0, none⟩) n n] 40)) (d0 := dd) (q := q) (by rw [HDl.out]; exact hkn) hDk hp0 hf71 hf7 HO.out hplt hrows hq hqi hbe (HB6.out.alloc HB6.out.size _) (g6 := wr.heap.size) (c6 := dd.length) ?_ (by rw [alloc_size']; omega) hown7 hgrow7 ?_
        · exact World.ownsRow.alloc how _
        · rw [alloc_size']; exact hat7
      clear hown7 hgrow7 hat7 hlt7 HX HY HO HR6 HNP HOW6 HB6 f1 f2 hP6 hP7
      go_wp2
      go_roundw
      case rel => exact HZ.out
      case measure =>
        simp only [intOf]
        omega
    · have kn : k = rs.length := by omega
      have kn' : ¬ (k : Int) < rs.length := by omega
      have HE : Hid (RefPost w l0 Bs G (initD Bs G) (.slice A rs.length c) (.returned (.tuple #[.pointer (some ⟨P, 0, none⟩), .int .i64 0])) wr) := by
        have hbl := Hbl.out
        have hkD : k = (initD Bs G).length := by rw [HDl.out]; exact kn
        rw [hkD] at hown hrows hq hqi
        have hbw : Below w.heap.size w wr := HW.out.1.trans (hbe.mono HW.out.2)
        refine ⟨P, q, rfl, ref_done (by rw [HDl.out, hbl]) HW.out.2 hl0 hp0 hp1 hown hplt hrows hq hqi (HRL.out.below hbw) ?_, hbw, hp0⟩
        intro i d r hd hr
        obtain ⟨r', g, hr', hg, rfl⟩ := initD_at hd
        rw [hr] at hr'
        simp only [Option.some.injEq] at hr'
        subst hr'
        have hi : i < rs.length := by
          have := (List.getElem?_eq_some_iff.1 hr).1
          omega
        have hri : rs[i]? = some (regAt rs i) := by simp [regAt, List.getD, hi]
        have hrb : r = (regAt rs i).bare := by
          rw [← Hbs.out, List.getElem?_map, hri] at hr
          simpa using hr.symm
        obtain ⟨p1, p2⟩ := HB.out i _ g hri hg
        obtain ⟨_, m1, m2, _⟩ := HOK.out i hi
        have hln : r.ln = (regAt rs i).ln := by rw [hrb]; rfl
        exact ⟨fillS_ok p2.1, fillS_length (by omega) (by rw [hln, ← p1]; exact m1)⟩
      clear hrows hq hqi hbe hown hpf kn hkn hk
      go_wp2
      go_ret2
      exact HE.out
end Go.Proofs.YtjhmmfpmmgebjaaGreat
namespace Go.Proofs.YtjhmmfpmmgebjaaGreat
open Go.ChangeShapes Go.WideShapes Go.ChangeAt Go.RowKit
set_option linter.unusedVariables false
set_option linter.unusedSimpArgs false

set_option maxHeartbeats 8000000 in
set_option maxRecDepth 100000 in
theorem sameRegions_c (v1 v2 : Value) (Bs : List Reg) (G : List (List Int)) (S1 S2 : Nat → Prop) (w : World) (h1 : RL w S1 v1 Bs G) (h2 : RL w S2 v2 Bs G) :
    Calls Tryz.prog 33 #[v1, v2] w fun e w' => e = .returned (.bool true) ∧ Below w.heap.size w w' := by
  obtain ⟨rs1, hb1, hg1, A1, c1, rfl, _, _, hL1, hB1⟩ := h1
  obtain ⟨rs2, hb2, hg2, A2, c2, rfl, _, _, hL2, hB2⟩ := h2
  have hlen : rs2.length = rs1.length := by rw [← hg2, hg1]
  have hbare : rs1.map Reg.bare = rs2.map Reg.bare := by rw [hb1, hb2]
  have hn := hL1.1
  have HS : Hid (∀ k, k < rs1.length → ∃ g, ∀ w1, Below w.heap.size w w1 → (convert 40 9 (.slice (regAt rs1 k).ba (regAt rs1 k).bl (regAt rs1 k).bc)).run Tryz.prog w1 = .ok (.string (strS g)) w1 ∧
      (convert 40 9 (.slice (regAt rs2 k).ba (regAt rs2 k).bl (regAt rs2 k).bc)).run Tryz.prog w1 = .ok (.string (strS g)) w1) := fun k hk => by
    obtain ⟨g, hg⟩ : ∃ g, G[k]? = some g := ⟨G[k]'(by rw [hg1]; exact hk), by simp⟩
    have hr1 : rs1[k]? = some (regAt rs1 k) := by simp [regAt, List.getD, hk]
    have hr2 : rs2[k]? = some (regAt rs2 k) := by simp [regAt, List.getD, hlen, hk]
    exact ⟨g, fun w1 hw1 => ⟨((hB1 k _ g hr1 hg).2.below hw1).str, ((hB2 k _ g hr2 hg).2.below hw1).str⟩⟩
  have HBA : Hid (∀ k, (regAt rs1 k).bare = (regAt rs2 k).bare) := fun k => bare_at hbare k
  rw [hlen] at hL2 ⊢
  have H1 : Hid _ := hL1
  have H2 : Hid _ := hL2
  clear hB1 hB2 hb1 hb2 hg1 hg2 hL1 hL2 hbare hlen
  go_enter Tryz.func33, Tryz.ntmps33
  go_wp2_with fail
  go_loopw [5] (fun i wr => eqRel w rs1.length i wr) (fun i _ => rs1.length - (intOf i).toNat)
  case atStart => exact ⟨0, Nat.zero_le _, rfl, Below.refl _ _⟩
  case round =>
    obtain ⟨k, hk, rfl, hb⟩ := hrel
    by_cases hkn : k < rs1.length
    · have hkn' : (k : Int) < rs1.length := by omega
      have hk0 : (0 : Int) ≤ (k : Int) := by omega
      obtain ⟨_, b1, o1, rfl, h71⟩ := H1.out.2 k hkn
      obtain ⟨_, b2, o2, rfl, h72⟩ := H2.out.2 k hkn
      obtain ⟨c0, c1, c2, c3, c4, c5, c6⟩ := h71.below hb h71.lt
      obtain ⟨d0, d1, d2, d3, d4, d5, d6⟩ := h72.below hb h72.lt
      have hb1l : b1 < wr.heap.size := (h71.below hb h71.lt).lt
      have hb2l : b2 < wr.heap.size := (h72.below hb h72.lt).lt
      obtain ⟨g, hstr⟩ := HS.out k hkn
      have hbr := HBA.out k
      obtain ⟨r1, hr1⟩ : ∃ r1, r1 = regAt rs1 k := ⟨_, rfl⟩
      obtain ⟨r2, hr2⟩ : ∃ r2, r2 = regAt rs2 k := ⟨_, rfl⟩
      rw [← hr1] at c0 c1 c2 c3 c4 c5 c6 hstr hbr
      rw [← hr2] at d0 d1 d2 d3 d4 d5 d6 hstr hbr
      have HSTR : Hid _ := hstr
      clear hr1 hr2 hstr
      obtain ⟨fr, ln, rd, wri, ex, se, ba1, bl, bc1⟩ := r1
      obtain ⟨fr', ln', rd', wri', ex', se', ba2, bl', bc2⟩ := r2
      simp only [Reg.bare, Reg.mk.injEq] at hbr
      obtain ⟨rfl, rfl, rfl, rfl, rfl, rfl, _, rfl, _⟩ := hbr
      simp only at c0 c1 c2 c3 c4 c5 c6 d0 d1 d2 d3 d4 d5 d6
      have HB : Hid _ := hb
      clear h71 h72 hb
      go_wp2_with fail
      go_big_region
      all_goals
        have HW2 : Hid (∀ o o', Below w.heap.size w ((wr.alloc o).alloc o').drew) := fun o o' => ((HB.out.alloc HB.out.size o).alloc (by rw [alloc_size']; have := HB.out.size; omega) o').drew
        have s1 : ∀ o o', (convert 40 9 (.slice ba1 bl bc1)).run Tryz.prog ((wr.alloc o).alloc o').drew = .ok (.string (strS g)) ((wr.alloc o).alloc o').drew := fun o o' => (HSTR.out _ (HW2.out o o')).1
        have s2 : ∀ o o', (convert 40 9 (.slice ba2 bl bc2)).run Tryz.prog ((wr.alloc o).alloc o').drew = .ok (.string (strS g)) ((wr.alloc o).alloc o').drew := fun o o' => (HSTR.out _ (HW2.out o o')).2
        clear c0 c1 c2 c3 c4 c5 c6 d0 d1 d2 d3 d4 d5 d6 HSTR HB
        go_wp2
        refine ⟨⟨k + 1, hkn, by push_cast; rfl, HW2.out _ _⟩, ?_⟩
        simp only [intOf]
        omega
    · have kn' : ¬ (k : Int) < rs1.length := by omega
      have HB : Hid _ := hb
      clear hb
      go_wp2
      go_ret
      exact ⟨rfl, HB.out⟩
end Go.Proofs.YtjhmmfpmmgebjaaGreat
namespace Go.Proofs.YtjhmmfpmmgebjaaGreat
open Go.ChangeShapes Go.WideShapes Go.ChangeAt Go.RowKit
set_option linter.unusedVariables false
set_option linter.unusedSimpArgs false
attribute [local go_sem ↓] Go.wp_at_zero Go.wp_at_succ

set_option maxHeartbeats 8000000 in
set_option maxRecDepth 100000 in
theorem helpMem_c {w : World} {p1 lo1 hi1 p2 l2 lo2 hi2 : Nat} {Bs : List Reg} {G D : List (List Int)} {q1 q2 : Nat → Nat} (h1 : MemAt w p1 0 lo1 hi1 Bs G D q1) (h2 : MemAt w p2 l2 lo2 hi2 Bs G D q2) (hc : checkS (regAt Bs) Bs.length = 0) (hG : ∀ g ∈ G, g.length ≤ 65536) :
    Calls Tryz.prog 14 #[.pointer (some ⟨p1, 0, none⟩), .pointer (some ⟨p2, 0, none⟩)] w fun e w' => e = .returned (.bool true) ∧ Below w.heap.size w w' := by
  obtain ⟨h8, hlong⟩ := h1.long hc
  obtain ⟨g2, hg2, r2⟩ := h2.given
  obtain ⟨A2, nb2, cn2, hn2, hr2⟩ := h2.rowc
  have hDl : D.length ≤ 8 := by rw [h1.len]; exact h8
  have CR : Hid (∀ w1, Below w.heap.size w w1 → Calls Tryz.prog 34 #[.pointer (some ⟨p1, 0, none⟩)] w1 fun e w' => CopPost w1 Bs G e w') := fun w1 hb => regions_c (h1.below hb) (by omega) hG
  have CS : Hid (∀ v w1 S, Below w.heap.size w w1 → RL w1 S v Bs G → Calls Tryz.prog 33 #[v, g2] w1 fun e w' => e = .returned (.bool true) ∧ Below w1.heap.size w1 w') := fun v w1 S hb hv => sameRegions_c v g2 Bs G S _ w1 hv (r2.below hb)
  have CB : Hid (∀ (i : Nat) (d : List Int), D[i]? = some d → ∀ w1, Below w.heap.size w w1 → Calls Tryz.prog 35 #[.pointer (some ⟨p1, 0, none⟩), .int .i64 i] w1 fun e w' => OwnPost w1 d e w') := fun i d hd w1 hb => bytes_c (h1.below hb) hd (hlong i d hd).2
  have HP : Hid (p2 < w.heap.size) := World.block_lt_of_cell? w _ hg2
  have HR2 : Hid _ := hr2
  clear r2 hr2 h1 h2 hlong h8 hG hc
  go_enter Tryz.func14, Tryz.ntmps14
  go_wp2_with fail
  go_region_held3 (fun w' => w'.cell? ⟨p2, 0, none⟩ = some g2)
    (first
      | go_keep
      | (refine (hb7.cell (by have : w.heap.size ≤ w6.heap.size := hb6.size; have := HP.out; show p2 < w6.heap.size; omega)).trans ?_; assumption)
      | (refine (hb6.cell HP.out).trans ?_; assumption))
    (first
      | (go_at_call 34; refine (CR.out _ (Below.refl _ _).drew).mono ?_; rintro e w6 ⟨A6, c6, rfl, hrl6, hb6⟩)
      | (go_at_call 33; refine (CS.out _ _ _ ((Below.refl _ _).drew.trans hb6) hrl6).mono ?_; rintro e w7 ⟨rfl, hb7⟩))
  have HB7 : Hid (Below w.heap.size w w7) := (Below.refl _ _).drew.trans (hb6.trans (hb7.mono hb6.size))
  clear hb7 hb6 hrl6 CR CS
  go_wp2_with fail
  go_loopw [5] (fun i wr => eqRel w D.length i wr) (fun i _ => D.length - (intOf i).toNat)
  case atStart => exact ⟨0, Nat.zero_le _, rfl, HB7.out⟩
  case round =>
    obtain ⟨k, hk, rfl, hb⟩ := hrel
    have f2 : wr.cell? ⟨p2, 1, none⟩ = _ := (hb.cell HP.out).trans hn2
    by_cases hkn : k < D.length
    · have hkn' : (k : Int) < D.length := by omega
      have hk0 : (0 : Int) ≤ (k : Int) := by omega
      obtain ⟨d, hd⟩ : ∃ d, D[k]? = some d := ⟨D[k], by simp [hkn]⟩
      obtain ⟨rfl, hok, cap, m4, m5⟩ := HR2.out k d hd
      have hnb : nb2 < w.heap.size := World.block_lt_of_cell? w _ m4
      have f3 : wr.cell? ⟨nb2, k, none⟩ = _ := (hb.cell hnb).trans m4
      have HBLr : Hid (BL w (fun b => b < w.heap.size) (.slice (some ⟨q2 k, 0, none⟩) d.length cap) d) := (BL.own hok m5).mono fun b hb => hb.2
      have HCV : Hid (∀ w1, Below w.heap.size w w1 → (convert 40 9 (.slice (some ⟨q2 k, 0, none⟩) d.length cap)).run Tryz.prog w1 = .ok (.string (strS d)) w1) := fun w1 h => (HBLr.out.below h).str
      have f4 : (convert 40 9 (.slice (some ⟨q2 k, 0, none⟩) d.length cap)).run Tryz.prog wr = .ok (.string (strS d)) wr := HCV.out _ hb
      have f4d : (convert 40 9 (.slice (some ⟨q2 k, 0, none⟩) d.length cap)).run Tryz.prog wr.drew = .ok (.string (strS d)) wr.drew := HCV.out _ hb.drew
      have CC : Hid _ := CB.out k d hd
      have HB : Hid _ := hb
      have HOK : Hid _ := hok
      clear m4 m5 hd hok hb
      go_wp2_with fail
      go_region_law
        (first
          | (go_simp; go_at_call 35; refine (CC.out _ HB.out.drew).mono ?_; rintro e w8 ⟨A8, c8, rfl, hown8, hb8⟩
             have g1 : w8.cell? ⟨p2, 1, none⟩ = _ := (hb8.cell (Nat.lt_of_lt_of_le HP.out HB.out.size)).trans f2
             have g2 : w8.cell? ⟨nb2, k, none⟩ = _ := (hb8.cell (Nat.lt_of_lt_of_le hnb HB.out.size)).trans f3
             have g3 := HCV.out w8 (HB.out.drew.trans (hb8.mono HB.out.size))
             have g4 : (convert 40 9 (.slice A8 d.length c8)).run Tryz.prog w8 = .ok (.string (strS d)) w8 := (BL.own HOK.out hown8).str))
      all_goals
        have HB8 : Hid (Below w.heap.size w w8) := HB.out.drew.trans (hb8.mono HB.out.size)
        clear hb8 hown8 g4 g1 g2 g3 f4 f4d f2 f3 HB HCV HBLr CC
        go_wp2
        refine ⟨⟨k + 1, hkn, by push_cast; rfl, HB8.out⟩, ?_⟩
        simp only [intOf]
        omega
    · have kn' : ¬ (k : Int) < D.length := by omega
      have HB : Hid _ := hb
      clear hb
      go_wp2
      go_ret
      exact ⟨rfl, HB.out⟩
end Go.Proofs.YtjhmmfpmmgebjaaGreat
