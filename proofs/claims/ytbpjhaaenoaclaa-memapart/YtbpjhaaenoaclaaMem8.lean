/- slices.EqualFunc of rows, Same: walked where both sides are alike. -/
import Derived.Test.YtbpjhaaenoaclaaMem7
namespace Go.Proofs.Ytbpjhaaenoaclaa
open Go.ChangeShapes Go.WideShapes Go.ChangeAt Go.RowKit
set_option linter.unusedVariables false
set_option linter.unusedSimpArgs false
attribute [local go_sem ↓] Go.wp_at_zero Go.wp_at_succ

/-- Rows of bytes that lie behind a slice of slices. -/
def RW (w : World) (v : Value) (D : List (List Int)) : Prop :=
  ∃ A nb c, v = .slice A D.length c ∧ ∀ (i : Nat) (d : List Int), D[i]? = some d → A = some ⟨nb, 0, none⟩ ∧ ∃ A' c', w.cell? ⟨nb, i, none⟩ = some (.slice A' d.length c') ∧ BL w (fun b => b < w.heap.size) (.slice A' d.length c') d
theorem RW.below {w w' : World} {v : Value} {D : List (List Int)} (h : RW w v D) (hb : Below w.heap.size w w') : RW w' v D := by
  obtain ⟨A, nb, c, h1, h2⟩ := h
  refine ⟨A, nb, c, h1, fun i d hd => ?_⟩
  obtain ⟨e1, A', c', e2, e3⟩ := h2 i d hd
  exact ⟨e1, A', c', (hb.cell (World.block_lt_of_cell? w _ e2)).trans e2, (e3.below hb).mono fun b h => Nat.lt_of_lt_of_le h hb.size⟩
theorem MemAt.rw {w : World} {p l0 lo hi : Nat} {Bs : List Reg} {G D : List (List Int)} {q : Nat → Nat} (h : MemAt w p l0 lo hi Bs G D q) : ∃ v, w.cell? ⟨p, 1, none⟩ = some v ∧ RW w v D := by
  obtain ⟨A, nb, c, n1, n4⟩ := h.rowc
  refine ⟨_, n1, A, nb, c, rfl, fun i d hd => ?_⟩
  obtain ⟨e1, e2, cap, e3, e4⟩ := n4 i d hd
  exact ⟨e1, _, cap, e3, (BL.own e2 e4).mono fun b hb => hb.2⟩

def sameRel (w : World) (n : Nat) (i : Value) (wr : World) : Prop := ∃ k : Nat, k ≤ n ∧ i = .int .i64 k ∧ wr = w

set_option maxHeartbeats 2000000 in
theorem equalRows_c (v1 v2 : Value) (D : List (List Int)) (w : World) (hn : D.length ≤ 10) (h1 : RW w v1 D) (h2 : RW w v2 D) :
    Calls Try.prog 41 #[v1, v2, .func (.func 42) #[] #[]] w fun e w' => e = .returned (.bool true) ∧ w' = w := by
  obtain ⟨A1, nb1, c1, rfl, q1⟩ := h1
  obtain ⟨A2, nb2, c2, rfl, q2⟩ := h2
  have Q1 : Hid _ := q1
  have Q2 : Hid _ := q2
  clear q1 q2
  go_enter Try.func41, Try.ntmps41
  go_wp2_with fail
  go_loopw [17] (fun i wr => sameRel w D.length i wr) (fun i _ => D.length - (intOf i).toNat)
  case atStart => exact ⟨0, Nat.zero_le _, rfl, rfl⟩
  case round =>
    obtain ⟨k, hk, rfl, hw⟩ := hrel
    replace hw := hw.symm
    subst hw
    by_cases hkn : k < D.length
    · have hkn' : (k : Int) < D.length := by omega
      obtain ⟨d, hd⟩ : ∃ d, D[k]? = some d := ⟨D[k], by simp [hkn]⟩
      obtain ⟨rfl, A1', c1', e1, e2⟩ := Q1.out k d hd
      obtain ⟨rfl, A2', c2', f1, f2⟩ := Q2.out k d hd
      have C : Hid _ := equal_c _ _ d _ _ w e2 f2
      clear e2 f2 hd
      go_wp2_with fail
      refine Calls.mono C.out ?_
      rintro e w2 ⟨rfl, hw2⟩
      replace hw2 := hw2.symm
      subst hw2
      go_wp2
      refine ⟨⟨k + 1, hkn, by push_cast; rfl, rfl⟩, ?_⟩
      simp only [intOf]
      omega
    · have kn' : ¬ (k : Int) < D.length := by omega
      go_wp2
      go_ret
      exact ⟨rfl, rfl⟩

set_option maxHeartbeats 8000000 in
set_option maxRecDepth 100000 in
theorem same_c {w : World} {p1 l1 lo1 hi1 p2 l2 lo2 hi2 : Nat} {Bs : List Reg} {G D : List (List Int)} {q1 q2 : Nat → Nat} (h1 : MemAt w p1 l1 lo1 hi1 Bs G D q1) (h2 : MemAt w p2 l2 lo2 hi2 Bs G D q2) (hn : Bs.length ≤ 10) :
    Calls Try.prog 20 #[.pointer (some ⟨p1, 0, none⟩), .pointer (some ⟨p2, 0, none⟩)] w fun e w' => e = .returned (.bool true) ∧ Below w.heap.size w w' := by
  obtain ⟨g1, hg1, r1⟩ := h1.given
  obtain ⟨g2, hg2, r2⟩ := h2.given
  obtain ⟨n1, hn1, s1⟩ := h1.rw
  obtain ⟨n2, hn2, s2⟩ := h2.rw
  have hlen := h1.len
  have CR : Hid (∀ w1, Below w.heap.size w w1 → Calls Try.prog 39 #[g1, g2, .func (.func 40) #[] #[]] w1 fun e w' => e = .returned (.bool true) ∧ Below w1.heap.size w1 w') :=
    fun w1 hb => equalRegions_c g1 g2 Bs G _ _ w1 (r1.below hb) (r2.below hb)
  have CB : Hid (∀ w1, Below w.heap.size w w1 → Calls Try.prog 41 #[n1, n2, .func (.func 42) #[] #[]] w1 fun e w' => e = .returned (.bool true) ∧ w' = w1) :=
    fun w1 hb => equalRows_c n1 n2 D w1 (by omega) (s1.below hb) (s2.below hb)
  have HP : Hid (p1 < w.heap.size ∧ p2 < w.heap.size) := ⟨World.block_lt_of_cell? w _ hg1, World.block_lt_of_cell? w _ hg2⟩
  clear r1 r2 s1 s2 h1 h2 hlen
  go_enter Try.func20, Try.ntmps20
  go_wp2_with fail
  go_region_held3 (fun w' => w'.cell? ⟨p1, 0, none⟩ = some g1 ∧ w'.cell? ⟨p2, 0, none⟩ = some g2 ∧ w'.cell? ⟨p1, 1, none⟩ = some n1 ∧ w'.cell? ⟨p2, 1, none⟩ = some n2)
    (first
      | go_keep
      | (go_split_ands; refine ⟨(hb6.cell HP.out.1).trans ?_, (hb6.cell HP.out.2).trans ?_, (hb6.cell HP.out.1).trans ?_, (hb6.cell HP.out.2).trans ?_⟩ <;> assumption))
    (first
      | (go_at_call 39; refine (CR.out _ (Below.refl _ _).drew).mono ?_; rintro e w6 ⟨rfl, hb6⟩)
      | (go_at_call 41; refine (CB.out _ ((Below.refl _ _).drew.trans hb6)).mono ?_; rintro e w7 ⟨rfl, rfl⟩))
  have HB : Hid (Below w.heap.size w w7) := (Below.refl _ _).drew.trans hb6
  clear hb6
  go_wp2
  go_ret
  exact ⟨rfl, HB.out⟩
end Go.Proofs.Ytbpjhaaenoaclaa
