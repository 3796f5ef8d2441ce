/- RegionOne, walked. -/
import Derived.Test.YtfeebbeailmieaaReg10
namespace Go.Proofs.Ytfeebbeailmieaa
open Go.ChangeShapes Go.WideShapes Go.ChangeAt Go.RowKit
set_option linter.unusedVariables false
set_option linter.unusedSimpArgs false

theorem good_next {R : Nat → Reg} {n k : Nat} (hg : goodS R n = true) (hk : k < n) : freeS R k ≤ (R k).fr ∧ mayBeS (R k) = true := by
  have h := goodS_le R (k := k + 1) hk hg
  simp only [goodS, Bool.and_eq_true, decide_eq_true_eq] at h
  exact h.2
theorem good_chain {R : Nat → Reg} {n : Nat} (hg : goodS R n = true) (hw : ∀ i, i < n → (R i).wf) : ∀ k i : Nat, i < k → k < n → (R i).fr + (R i).ln ≤ (R k).fr := by
  intro k
  induction k with
  | zero => intro i hi; omega
  | succ j ih =>
    intro i hi hk
    have h1 := (good_next hg hk).1
    simp only [freeS, endS] at h1
    rcases Nat.lt_or_ge i j with h | h
    · have h2 := ih i h (by omega)
      have h3 := hw j (by omega)
      unfold Reg.wf at h3
      omega
    · have : i = j := by omega
      subst this
      exact h1
theorem firstS_none {R : Nat → Reg} {a s : Int} {k : Nat} (h : ∀ i, i < k → hitS (R i) a s = false) : firstS R a s k = none := by
  induction k with
  | zero => rfl
  | succ k ih =>
    simp only [firstS, ih (fun i hi => h i (by omega)), h k (by omega)]
    rfl
theorem check_good {R : Nat → Reg} {n : Nat} (hc : checkS R n = 0) : goodS R n = true := by
  unfold checkS at hc
  split at hc
  · omega
  · split at hc
    · assumption
    · omega
theorem one_at {R : Nat → Reg} {n k : Nat} (hc : checkS R n = 0) (hk : k < n) : (R k).ln ≠ 0 ∧ (R k).fr + (R k).ln ≤ 4294963200 := by
  have h := (good_next (check_good hc) hk).2
  simp only [mayBeS, Bool.and_eq_true, decide_eq_true_eq] at h
  exact ⟨h.1.1.1.2, h.1.1.2⟩
theorem one_find {R : Nat → Reg} {n k : Nat} {p : Int} (hc : checkS R n = 0) (hw : ∀ i, i < n → (R i).wf) (hk : k < n) (h0 : (R k).fr ≤ p) (h1 : p < (R k).fr + (R k).ln) : findS R n p 1 = some k := by
  have e : findS R n p 1 = firstS R p 1 n := by
    simp only [findS, hc, if_true]
    rw [show widthS 1 = 1 by decide]
  rw [e]
  refine firstS_hit R p 1 hk (firstS_none fun i hi => ?_) ?_
  · have h2 := good_chain (check_good hc) hw k i hi hk
    simp only [hitS, Bool.and_eq_false_iff, decide_eq_false_iff_not]
    omega
  · simp only [hitS, Bool.and_eq_true, decide_eq_true_eq]
    omega
theorem find_hit1 {R : Nat → Reg} {n i : Nat} {a : Int} (h : findS R n a 1 = some i) : i < n ∧ (R i).fr ≤ a ∧ a < (R i).fr + (R i).ln := by
  unfold findS at h
  split at h
  · obtain ⟨h1, h2⟩ := firstS_lt R _ _ h
    rw [show widthS 1 = 1 by decide] at h2
    simp only [hitS, Bool.and_eq_true, decide_eq_true_eq] at h2
    exact ⟨h1, h2.1, by omega⟩
  · cases h

def oneRel (w1 : World) (n : Nat) (i : Value) (wr : World) : Prop := ∃ k : Nat, k ≤ n ∧ i = .int .i64 k ∧ Below w1.heap.size w1 wr

set_option maxRecDepth 100000 in
set_option maxHeartbeats 8000000 in
theorem one_walk (A1 A2 : Option Addr) (n1 c1 n2 c2 : Nat) (V1 : Nat → Nat → Int) (V2 : Nat → Int) (a : Int) (ha0 : 0 ≤ a) (ha1 : a ≤ 4294967295) (w : World) (hl1 : Lies4 w A1 n1 V1) (hl2 : Lies1 w A2 n2 V2) :
    Calls Try.prog 5 #[.slice A1 n1 c1, .slice A2 n2 c2, .int .u32 a] w fun e w' => e = .returned (.bool true) ∧ Below w.heap.size w w' := by
  have hm1 := hl1.1
  have K : Hid _ := known_c w
  by_cases h8 : (8 : Int) < n1
  · clear hl1 hl2
    go_enter Try.func5, Try.ntmps5
    go_wp2_with fail
    refine Calls.mono K.out ?_
    rintro e w0 ⟨rfl, hw0⟩
    go_wp2
    go_ret
    exact ⟨rfl, hw0⟩
  · have S : Hid _ := fun (v : World) (h : Below w.heap.size w v) => some_c A1 A2 n1 c1 n2 c2 V1 V2 v (by omega) (hl1.below h (Nat.le_refl _)) (hl2.below h (Nat.le_refl _))
    clear hl1 hl2
    go_enter Try.func5, Try.ntmps5
    go_wp2_with fail
    refine Calls.mono K.out ?_
    rintro e w0 ⟨rfl, hw0⟩
    have HB0 : Hid _ := hw0
    clear hw0
    go_wp2_with fail
    refine (S.out _ HB0.out).mono ?_
    rintro e w1 ⟨A, n, c, R, rfl, hn, hl, hb⟩
    have hL : Hid (Lies w1 A n R) := hl
    have HB1 : Hid (Below w.heap.size w w1) := HB0.out.trans (hb.mono HB0.out.size)
    have hnn : (n : Int) ≤ 9223372036854775807 := hL.out.1
    have C : Hid _ := check_c A n c R w1 hL.out
    have F : Hid _ := fun (v : World) (h : Below w1.heap.size w1 v) (p : Int) (p0 : 0 ≤ p) (p1 : p ≤ 4294967295) => (find_c A n c R p 1 p0 p1 v (hL.out.below h (Nat.le_refl _))).mono (fun e w' ⟨h1, h2⟩ => (⟨h1, h.trans (h2.mono h.size)⟩ : _ ∧ Below w1.heap.size w1 w'))
    clear hl hb S HB0 K
    by_cases hc : checkS R n = 0
    · rw [hc] at C
      have HC : Hid _ := hc
      clear hc
      go_wp2_with fail
      refine Calls.mono C.out ?_
      rintro e w2 ⟨rfl, hw2⟩
      have HB2 : Hid _ := hw2
      clear hw2 C
      go_wp2_with fail
      go_loopw [10] (fun i wr => oneRel w1 n i wr) (fun i _ => n - (intOf i).toNat)
      case atStart => exact ⟨0, Nat.zero_le _, rfl, HB2.out⟩
      case round =>
        obtain ⟨k, hk, rfl, hb⟩ := hrel
        by_cases hkn : k < n
        · obtain ⟨hw, b, o, rfl, h7⟩ := hL.out.2 k hkn
          obtain ⟨c0, c1', c2', c3, c4, c5, c6⟩ := h7.below hb h7.lt
          have hkn' : (k : Int) < n := by omega
          obtain ⟨q1, q2, q3, q4, q5⟩ := hw
          obtain ⟨o1, o2⟩ := one_at HC.out hkn
          have hbw : b < wr.heap.size := Nat.lt_of_lt_of_le h7.lt hb.size
          have HB : Hid _ := hb
          have HF : Hid (∀ p, (R k).fr ≤ p → p < (R k).fr + (R k).ln → findS R n p 1 = some k) := fun p h0 h1 => one_find HC.out (fun i hi => (hL.out.2 i hi).1) hkn h0 h1
          clear hb h7 c2' c3 c4 c5 c6
          generalize (R k).fr = fr at *
          generalize (R k).ln = ln at *
          have l4 : 0 < ln := by omega
          have hne : (ln == 0) = false := by simp; omega
          have m0 : 0 ≤ a % ln := Int.emod_nonneg _ (by omega)
          have m1 : a % ln < ln := Int.emod_lt_of_pos _ (by omega)
          go_wp2_with fail
          go_big_region
          obtain ⟨P, hP, hP2⟩ : ∃ P : Nat → Int, (∀ j, j < 3 → fr ≤ P j ∧ P j < fr + ln) ∧ #[Value.int IntKind.u32 fr, Value.int IntKind.u32 (fr + ln - 1), Value.int IntKind.u32 (fr + a % ln)] =
              #[Value.int IntKind.u32 (P 0), Value.int IntKind.u32 (P 1), Value.int IntKind.u32 (P 2)] := by
            refine ⟨fun j => match j with | 0 => fr | 1 => fr + ln - 1 | _ => fr + a % ln, fun j hj => ?_, rfl⟩
            have h4 : j = 0 ∨ j = 1 ∨ j = 2 := by omega
            rcases h4 with rfl | rfl | rfl
            · exact ⟨by simp, by simp; omega⟩
            · exact ⟨by simp only []; omega, by simp only []; omega⟩
            · exact ⟨by simp only []; omega, by simp only []; omega⟩
          rw [hP2]
          clear hP2
          have HW : Hid (∀ j, j < 3 → (wr.alloc (Obj.cells #[Value.int IntKind.u32 (P 0), Value.int IntKind.u32 (P 1), Value.int IntKind.u32 (P 2)] 25)).drew.cell? ⟨wr.heap.size, j, none⟩ = some (.int .u32 (P j))) := fun j hj => by
            have h4 : j = 0 ∨ j = 1 ∨ j = 2 := by omega
            rcases h4 with rfl | rfl | rfl <;> (rw [World.cell?_drew, World.cell?_alloc_new]; rfl)
          have HW2 : Hid (wr.heap.size < (wr.alloc (Obj.cells #[Value.int IntKind.u32 (P 0), Value.int IntKind.u32 (P 1), Value.int IntKind.u32 (P 2)] 25)).drew.heap.size) := by
            show wr.heap.size < (wr.alloc _).heap.size
            rw [alloc_size']; omega
          have HW3 : Hid (Below w1.heap.size w1 (wr.alloc (Obj.cells #[Value.int IntKind.u32 (P 0), Value.int IntKind.u32 (P 1), Value.int IntKind.u32 (P 2)] 25)).drew) := (HB.out.alloc HB.out.size _).drew
          generalize (wr.alloc (Obj.cells #[Value.int IntKind.u32 (P 0), Value.int IntKind.u32 (P 1), Value.int IntKind.u32 (P 2)] 25)).drew = W at *
          clear hbw
          generalize wr.heap.size = G at *
          generalize a % ln = j5 at *
          generalize fr + j5 = j6 at *
          generalize fr + ln - 1 = j7 at *
          have HP : Hid (∀ j, j < 3 → 0 ≤ P j ∧ P j ≤ 4294967295 ∧ findS R n (P j) 1 = some k) := fun j hj => ⟨by have := hP j hj; omega, by have := hP j hj; omega, HF.out _ (hP j hj).1 (hP j hj).2⟩
          clear hP c0 c1' hne m0 m1 q1 q2 q3 q4 q5 o1 o2 l4 HB HF
          go_wp2_with fail
          go_loopw [74] (fun i wx => ∃ l : Nat, l ≤ 3 ∧ i = .int .i64 l ∧ Below W.heap.size W wx) (fun i _ => 3 - (intOf i).toNat)
          case atStart => exact ⟨0, Nat.zero_le _, rfl, Below.refl _ _⟩
          case round =>
            obtain ⟨l, hl, rfl, hb⟩ := hrel
            have hx : Hid (∀ v, Below W.heap.size W v → Below w1.heap.size w1 v) := fun v h => HW3.out.trans (h.mono HW3.out.size)
            by_cases hl3 : l < 3
            · have hcl : wr.cell? ⟨G, l, none⟩ = some (.int .u32 (P l)) := (hb.cell HW2.out).trans (HW.out l hl3)
              have hl3' : (l : Int) < 3 := by omega
              obtain ⟨p0, p1, pf⟩ := HP.out l hl3
              clear HP HW hl
              have F1 : Hid _ := (find_c _ n c R (P l) 1 p0 p1 wr (hL.out.below (hx.out wr hb) (Nat.le_refl _)))
              rw [pf] at F1
              simp only [Option.getD_some, Option.isSome_some] at F1
              clear pf
              generalize P l = p at *
              have HBW : Hid _ := hb
              clear hb F
              go_wp2_with fail
              refine Calls.mono F1.out ?_
              rintro e w3 ⟨rfl, h3⟩
              have HB3 : Hid (Below W.heap.size W w3) := HBW.out.trans (h3.mono HBW.out.size)
              clear h3 HBW F1
              go_wp2
              refine ⟨⟨l + 1, by omega, by simp, HB3.out⟩, ?_⟩
              simp only [intOf]
              omega
            · have l3 : l = 3 := by omega
              subst l3
              have HBE : Hid (oneRel w1 n (.int .i64 ((k : Int) + 1)) wr) := ⟨k + 1, hkn, by push_cast; rfl, hx.out _ hb⟩
              clear hb hl hl3 HP HW
              go_wp2
              refine ⟨HBE.out, ?_⟩
              simp only [intOf]
              omega
        · have kn : k = n := by omega
          subst kn
          have HBE : Hid _ := hb
          have F1 : Hid _ := F.out wr hb a ha0 ha1
          clear hb hk hkn F
          cases hf : findS R k a 1 with
          | none =>
            rw [hf] at F1
            simp only [Option.getD_none, Option.isSome_none] at F1
            clear hf
            go_wp2_with fail
            refine Calls.mono F1.out ?_
            rintro e w3 ⟨rfl, h3⟩
            have HB3 : Hid (Below w.heap.size w w3) := HB1.out.trans (h3.mono HB1.out.size)
            clear h3 F1
            go_wp2_with fail
            go_big_quiet (fail)
            go_wp2
            go_ret
            exact ⟨rfl, ⟨HB3.out.os, HB3.out.tape, HB3.out.output, HB3.out.size, HB3.out.block⟩⟩
          | some i =>
            rw [hf] at F1
            simp only [Option.getD_some, Option.isSome_some] at F1
            obtain ⟨hi, g1, g2⟩ := find_hit1 hf
            clear hf
            have hi' : (i : Int) < k := by omega
            obtain ⟨hw, b, o, rfl, h7⟩ := hL.out.2 i hi
            obtain ⟨q1, q2, q3, q4, q5⟩ := hw
            have g2' : a - (R i).fr < (R i).ln := by omega
            go_wp2_with fail
            refine Calls.mono F1.out ?_
            rintro e w3 ⟨rfl, h3⟩
            obtain ⟨c0, c1', c2', c3, c4, c5, c6⟩ := h7.below h3 h7.lt
            have HB3 : Hid (Below w.heap.size w w3) := HB1.out.trans (h3.mono HB1.out.size)
            clear h3 F1 h7 c2' c3 c4 c5 c6
            go_wp2_with fail
            go_big_quiet (fail)
            go_wp2
            go_ret
            exact ⟨rfl, ⟨HB3.out.os, HB3.out.tape, HB3.out.output, HB3.out.size, HB3.out.block⟩⟩
    · have hc' : (checkS R n == 0) = false := by simpa using hc
      have hf : findS R n a 1 = none := by simp [findS, hc]
      go_wp2_with fail
      refine Calls.mono C.out ?_
      rintro e w2 ⟨rfl, hw2⟩
      have F1 : Hid _ := F.out w2 hw2 a ha0 ha1
      rw [hf] at F1
      simp only [Option.getD_none, Option.isSome_none] at F1
      clear hw2 C hf hc F
      go_wp2_with fail
      refine Calls.mono F1.out ?_
      rintro e w3 ⟨rfl, h3⟩
      have HB3 : Hid (Below w.heap.size w w3) := HB1.out.trans (h3.mono HB1.out.size)
      clear h3 F1
      go_wp2
      go_ret
      exact ⟨rfl, HB3.out⟩
end Go.Proofs.Ytfeebbeailmieaa
