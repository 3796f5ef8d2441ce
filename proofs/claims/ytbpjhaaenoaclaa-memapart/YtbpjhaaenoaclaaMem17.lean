/- MemNew, walked. -/
import Derived.Test.YtbpjhaaenoaclaaMem15
import Derived.Test.YtbpjhaaenoaclaaMem10
namespace Go.Proofs.Ytbpjhaaenoaclaa
open Go.ChangeShapes Go.WideShapes Go.ChangeAt Go.RowKit
set_option linter.unusedVariables false
set_option linter.unusedSimpArgs false

def helpRel (w : World) (n : Nat) (G : List (List Int)) (i : Value) (wr : World) : Prop := ∃ k : Nat, k ≤ n ∧ i = .int .i64 k ∧ wr = w ∧ ∀ (j : Nat) (g : List Int), j < k → G[j]? = some g → g.length ≤ 200

theorem helpRegions_c (v : Value) (Bs : List Reg) (G : List (List Int)) (S : Nat → Prop) (w : World) (h : RL w S v Bs G) : Calls Try.prog 21 #[v] w fun e w' =>
    (∃ b, e = .returned (.bool b) ∧ (b = true → Bs.length ≤ 10 ∧ ∀ g ∈ G, g.length ≤ 200)) ∧ w' = w := by
  obtain ⟨rs, hbs, hgl, A, c, rfl, _, _, hL, hB⟩ := h
  have hn := hL.1
  have hlen : Bs.length = rs.length := by rw [← hbs, List.length_map]
  have HL : Hid _ := hL
  have HB : Hid _ := hB
  have HG : Hid _ := hgl
  have HN : Hid _ := hlen
  clear hL hB hgl hlen hbs
  go_enter Try.func21, Try.ntmps21
  go_wp2_with fail
  go_loopw [3] (fun i wr => helpRel w rs.length G i wr) (fun i _ => rs.length - (intOf i).toNat)
  case atStart => exact ⟨0, Nat.zero_le _, rfl, rfl, fun j g h => absurd h (Nat.not_lt_zero _)⟩
  case round =>
    obtain ⟨k, hk, rfl, hw, hall⟩ := hrel
    replace hw := hw.symm
    subst hw
    by_cases hkn : k < rs.length
    · obtain ⟨hw, b, o, rfl, h7⟩ := HL.out.2 k hkn
      obtain ⟨c0, c1, c2, c3, c4, c5, c6⟩ := h7
      have hkn' : (k : Int) < rs.length := by omega
      obtain ⟨q1, q2, q3, q4, q5⟩ := hw
      by_cases hb : (200 : Int) < (regAt rs k).bl
      · clear hall
        go_wp2
        go_ret
        exact ⟨⟨false, rfl, fun h => by cases h⟩, rfl⟩
      · have HA : Hid (∀ (j : Nat) (g : List Int), j < k + 1 → G[j]? = some g → g.length ≤ 200) := fun j g hj hg => by
          rcases Nat.lt_or_ge j k with h | h
          · exact hall j g h hg
          · have : j = k := by omega
            subst this
            have := (HB.out j (regAt rs j) g (by simp [regAt, List.getD, hkn]) hg).1
            omega
        clear hall
        go_wp2
        refine ⟨⟨k + 1, hkn, rfl, rfl, HA.out⟩, ?_⟩
        simp only [intOf]
        omega
    · have kn : k = rs.length := by omega
      subst kn
      have HA : Hid _ := hall
      clear hall
      go_wp2
      go_ret
      refine ⟨⟨decide ((rs.length : Int) ≤ 10), rfl, fun h => ⟨by have := of_decide_eq_true h; rw [HN.out]; omega, fun g hg => ?_⟩⟩, rfl⟩
      obtain ⟨j, hj, rfl⟩ := List.getElem_of_mem hg
      exact HA.out j _ (by rw [← HG.out]; exact hj) (by simp)

set_option maxHeartbeats 4000000 in
theorem memnew_c (v : Value) (Bs : List Reg) (G : List (List Int)) (w : World) (h : RL w (fun b => b < w.heap.size) v Bs G) :
    Calls Try.prog 5 #[v] w fun e w' => e = .returned (.bool true) ∧ Below w.heap.size w w' := by
  have H : Hid _ := h
  have K : Hid _ := known_c w
  have C1 : Hid (∀ w1, Below w.heap.size w w1 → Calls Try.prog 21 #[v] w1 fun e w' => (∃ b, e = .returned (.bool b) ∧ (b = true → Bs.length ≤ 10 ∧ ∀ g ∈ G, g.length ≤ 200)) ∧ w' = w1) := fun w1 hb => helpRegions_c v Bs G _ w1 (h.below hb)
  clear h
  go_enter Try.func5, Try.ntmps5
  go_wp2_with fail
  refine Calls.mono K.out ?_
  rintro e w1 ⟨rfl, hb1⟩
  have HB1 : Hid _ := hb1
  clear hb1 K
  go_wp2_with fail
  refine (C1.out _ HB1.out).mono ?_
  rintro e w2 ⟨⟨b, rfl, hb⟩, hw2⟩
  replace hw2 := hw2.symm
  subst hw2
  cases b with
  | false =>
    clear hb
    go_wp2
    go_ret
    exact ⟨rfl, HB1.out⟩
  | true =>
    have HQ : Hid (Bs.length ≤ 10 ∧ ∀ g ∈ G, g.length ≤ 200) := hb rfl
    clear hb
    by_cases hc : checkS (regAt Bs) Bs.length = 0
    · have HC : Hid _ := hc
      clear hc
      go_wp2_with fail
      refine (new_ok v Bs G _ _ (RL.below H.out HB1.out) (fun b hb => Nat.lt_of_lt_of_le hb HB1.out.size) HC.out (fun g hg => by have := HQ.out.2 g hg; omega)).mono ?_
      rintro e w3 ⟨p, q, rfl, hm3, hb3⟩
      have HM3 : Hid _ := hm3
      have HB3 : Hid (Below w.heap.size w w3) := HB1.out.trans (hb3.mono HB1.out.size)
      clear hm3 hb3
      go_wp2_with fail
      refine (rnew_ok v Bs G w.heap.size _ (RL.below H.out HB3.out) HB3.out.size HC.out).mono ?_
      rintro e w4 ⟨p2, q2, rfl, hm4, hb4⟩
      have HM4 : Hid _ := MemAt.below HM3.out hb4
      have HR4 : Hid _ := hm4
      have HB4 : Hid (Below w.heap.size w w4) := HB3.out.trans (hb4.mono HB3.out.size)
      clear hm4 hb4 HM3 HB3
      go_wp2_with fail
      refine (helpMem_c HM4.out HR4.out HC.out (fun g hg => by have := HQ.out.2 g hg; omega)).mono ?_
      rintro e w5 ⟨rfl, hb5⟩
      have HB5 : Hid (Below w.heap.size w w5) := HB4.out.trans (hb5.mono HB4.out.size)
      clear hb5
      go_wp2
      go_ret
      exact ⟨rfl, HB5.out⟩
    · have hc' : (checkS (regAt Bs) Bs.length == 0) = false := by simpa using hc
      have HC : Hid (checkS (regAt Bs) Bs.length ≠ 0) := hc
      have hc2 : (checkS (regAt Bs) Bs.length != 0) = true := by simpa using hc
      clear hc
      go_wp2_with fail
      refine (new_bad v Bs G _ _ (RL.below H.out HB1.out) HC.out).mono ?_
      rintro e w3 ⟨rfl, hb3⟩
      have HB3 : Hid (Below w.heap.size w w3) := HB1.out.trans (hb3.mono HB1.out.size)
      clear hb3
      go_wp2_with fail
      refine (rnew_bad v Bs G _ _ HQ.out.1 (RL.below H.out HB3.out) HC.out).mono ?_
      rintro e w4 ⟨rfl, hb4⟩
      have HB4 : Hid (Below w.heap.size w w4) := HB3.out.trans (hb4.mono HB3.out.size)
      clear hb4
      go_wp2
      go_ret
      exact ⟨rfl, HB4.out⟩
end Go.Proofs.Ytbpjhaaenoaclaa
