/- The loops of package region, walked: tooMuch, Check, Find, for every list of regions that lies in memory. -/
import Derived.Test.YteflboidbogegaaReg1
namespace Go.Proofs.Yteflboidbogegaa
open Go.ChangeShapes Go.WideShapes Go.ChangeAt Go.RowKit
set_option linter.unusedVariables false
set_option linter.unusedSimpArgs false

/-- The regions that lie behind a slice. -/
def Lies (w : World) (A : Option Addr) (n : Nat) (R : Nat → Reg) : Prop :=
  (n : Int) ≤ 9223372036854775807 ∧ ∀ i, i < n → (R i).wf ∧ ∃ b o, A = some ⟨b, o, none⟩ ∧ At7 w b (o + i * 7) (R i)
theorem Lies.below {B : Nat} {w w' : World} {A : Option Addr} {n : Nat} {R : Nat → Reg} (h : Lies w A n R) (hb : Below B w w') (hB : w.heap.size ≤ B) : Lies w' A n R :=
  ⟨h.1, fun i hi => by
    obtain ⟨h1, b, o, ha, h7⟩ := h.2 i hi
    exact ⟨h1, b, o, ha, h7.below hb (Nat.lt_of_lt_of_le h7.lt hB)⟩⟩

def tooRel (w : World) (R : Nat → Reg) (n : Nat) (s i : Value) (wr : World) : Prop :=
  ∃ k : Nat, k ≤ n ∧ s = .int .u64 (sumS R k) ∧ i = .int .i64 k ∧ Below w.heap.size w wr

theorem tooMuch_c (A : Option Addr) (n c : Nat) (R : Nat → Reg) (w : World) (hl : Lies w A n R) : Calls Try.prog 78 #[.slice A n c] w fun e w' => e = .returned (.bool (tooS R n)) ∧ Below w.heap.size w w' := by
  have hn := hl.1
  by_cases h8 : 8 < n
  · have h8' : (8 : Int) < n := by omega
    have : tooS R n = true := by simp [tooS, h8]
    rw [this]
    go_enter Try.func78, Try.ntmps78
    go_wp2
    go_ret
    exact ⟨rfl, Below.refl _ _⟩
  · have h8' : ¬ (8 : Int) < n := by omega
    have hL : Hid (Lies w A n R) := hl
    clear hl
    have hst : tooRel w R n (.int .u64 0) (.int .i64 0) w := ⟨0, Nat.zero_le _, rfl, rfl, Below.refl _ _⟩
    go_enter Try.func78, Try.ntmps78
    go_wp2
    go_loopw [3, 11] (fun s i wr => tooRel w R n s i wr) (fun _ i _ => n - (intOf i).toNat)
    case atStart => exact hst
    case round =>
      obtain ⟨k, hk, rfl, rfl, hb⟩ := hrel
      have hs := sumS_bounds R k (fun i hi => (hL.out.2 i (by omega)).1)
      obtain ⟨hs0, hs1⟩ := hs
      have hs1' : sumS R k ≤ 4294967295 * 8 := by omega
      by_cases hkn : k < n
      · obtain ⟨hw, b, o, rfl, h7⟩ := hL.out.2 k hkn
        obtain ⟨c0, c1, c2, c3, c4, c5, c6⟩ := h7.below hb h7.lt
        have hkn' : (k : Int) < n := by omega
        obtain ⟨q1, q2, q3, q4, q5⟩ := hw
        have HB : Hid _ := And.intro hb h7
        clear hb h7 hs1
        go_wp2
        refine ⟨⟨k + 1, hkn, rfl, rfl, HB.out.1.alloc HB.out.1.size _⟩, ?_⟩
        simp only [intOf]
        omega
      · have kn : k = n := by omega
        subst kn
        have ht : tooS R k = decide (65536 < sumS R k) := by simp [tooS, h8]
        have HT : Hid _ := ht
        clear hs1 hkn ht
        go_wp2
        go_ret
        exact ⟨by rw [HT.out]; rfl, hb⟩

def chkRel (w : World) (R : Nat → Reg) (n : Nat) (s i : Value) (wr : World) : Prop :=
  ∃ k : Nat, k ≤ n ∧ goodS R k = true ∧ s = .int .u64 (freeS R k) ∧ i = .int .i64 k ∧ Below w.heap.size w wr

theorem freeS_bounds (R : Nat → Reg) (n : Nat) (h : ∀ i, i < n → (R i).wf) : 0 ≤ freeS R n ∧ freeS R n ≤ 8589934590 := by
  cases n with
  | zero => simp [freeS]
  | succ n =>
    have h2 := h n (by omega)
    unfold Reg.wf at h2
    simp only [freeS, endS]
    omega

set_option maxHeartbeats 2000000 in
theorem check_c (A : Option Addr) (n c : Nat) (R : Nat → Reg) (w : World) (hl : Lies w A n R) : Calls Try.prog 30 #[.slice A n c] w fun e w' => e = .returned (.int .i64 (checkS R n)) ∧ Below w.heap.size w w' := by
  have hn := hl.1
  have hL : Hid (Lies w A n R) := hl
  have T : Hid _ := tooMuch_c A n c R w hl
  clear hl
  cases ht : tooS R n with
  | true =>
    have : checkS R n = 22 := by simp [checkS, ht]
    rw [this]
    rw [ht] at T
    go_enter Try.func30, Try.ntmps30
    go_wp2_with fail
    refine Calls.mono T.out ?_
    rintro e w1 ⟨rfl, hw1⟩
    go_wp2
    go_ret
    exact ⟨rfl, hw1⟩
  | false =>
    have hck : Hid (checkS R n = if goodS R n then 0 else 23) := by show _ = _; simp [checkS, ht]
    rw [ht] at T
    go_enter Try.func30, Try.ntmps30
    go_wp2_with fail
    refine Calls.mono T.out ?_
    rintro e w1 ⟨rfl, hw1⟩
    have HW1 : Hid _ := hw1
    clear hw1 T
    go_wp2_with fail
    go_loopw [3, 10] (fun s i wr => chkRel w R n s i wr) (fun _ i _ => n - (intOf i).toNat)
    case atStart => exact ⟨0, Nat.zero_le _, rfl, rfl, rfl, HW1.out⟩
    case round =>
      obtain ⟨k, hk, hg, rfl, rfl, hb⟩ := hrel
      obtain ⟨f0, f1⟩ := freeS_bounds R k (fun i hi => (hL.out.2 i (by omega)).1)
      by_cases hkn : k < n
      · obtain ⟨hw, b, o, rfl, h7⟩ := hL.out.2 k hkn
        obtain ⟨c0, c1, c2, c3, c4, c5, c6⟩ := h7.below hb h7.lt
        have hkn' : (k : Int) < n := by omega
        have M : Hid _ := fun (w : World) => mayBe_c (R k) hw w
        have E : Hid _ := fun (w : World) => end_c (R k) hw w
        obtain ⟨q1, q2, q3, q4, q5⟩ := hw
        have HB : Hid _ := And.intro hb h7
        clear hb h7
        have HG : Hid _ := hg
        clear hg
        by_cases hf : freeS R k ≤ (R k).fr
        · have hf' : ¬ (R k).fr < freeS R k := by omega
          unfold Reg.val at M E
          go_wp2_with fail
          refine (M.out _).mono ?_
          rintro e w2 ⟨rfl, hw2⟩
          obtain ⟨d0, d1, d2, d3, d4, d5, d6⟩ := (At7.new wr (R k) 86).below hw2 (by simp [alloc_size'])
          simp only [Nat.zero_add] at d0 d1 d2 d3 d4 d5 d6
          have HB2 : Hid (Below w.heap.size w w2) := (HB.out.1.alloc HB.out.1.size _).trans (hw2.mono (by rw [alloc_size']; exact Nat.le_succ_of_le HB.out.1.size))
          clear hw2
          cases hm : mayBeS (R k) with
          | true =>
            have HG2 : Hid (goodS R (k + 1) = true) := by show _ = _; simp [goodS, HG.out, hm, hf]
            go_wp2_with fail
            refine (E.out _).mono ?_
            rintro e w3 ⟨rfl, hw3⟩
            go_wp2
            refine ⟨⟨k + 1, hkn, HG2.out, rfl, rfl, HB2.out.trans (hw3.mono HB2.out.size)⟩, ?_⟩
            simp only [intOf]
            omega
          | false =>
            have hgn : goodS R n = false := goodS_bad R hkn (by simp [hm])
            have HG2 : Hid (checkS R n = 23) := by rw [hck.out, hgn]; rfl
            clear hgn
            go_wp2_with fail
            go_ret
            exact ⟨by rw [HG2.out]; rfl, HB2.out⟩
        · have hf' : (R k).fr < freeS R k := by omega
          have hgn : goodS R n = false := goodS_bad R hkn (by simp [hf])
          have HG2 : Hid (checkS R n = 23) := by rw [hck.out, hgn]; rfl
          clear hgn
          go_wp2_with fail
          go_ret
          exact ⟨by rw [HG2.out]; rfl, HB.out.1.alloc HB.out.1.size _⟩
      · have kn : k = n := by omega
        subst kn
        have HG2 : Hid (checkS R k = 0) := by rw [hck.out, hg]; rfl
        clear hg
        go_wp2
        go_ret
        exact ⟨by rw [HG2.out]; rfl, hb⟩
end Go.Proofs.Yteflboidbogegaa
