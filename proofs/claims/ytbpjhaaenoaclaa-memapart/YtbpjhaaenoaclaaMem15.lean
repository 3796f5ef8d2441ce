/- sourdinehelp.Mem, walked where both memories have the same. -/
import Derived.Test.YtbpjhaaenoaclaaMem14
namespace Go.Proofs.Ytbpjhaaenoaclaa
open Go.ChangeShapes Go.WideShapes Go.ChangeAt Go.RowKit
set_option linter.unusedVariables false
set_option linter.unusedSimpArgs false
attribute [local go_sem ↓] Go.wp_at_zero Go.wp_at_succ

set_option maxHeartbeats 8000000 in
set_option maxRecDepth 100000 in
theorem helpMem_c {w : World} {p1 lo1 hi1 p2 l2 lo2 hi2 : Nat} {Bs : List Reg} {G D : List (List Int)} {q1 q2 : Nat → Nat} (h1 : MemAt w p1 0 lo1 hi1 Bs G D q1) (h2 : MemAt w p2 l2 lo2 hi2 Bs G D q2) (hc : checkS (regAt Bs) Bs.length = 0) (hG : ∀ g ∈ G, g.length ≤ 65536) :
    Calls Try.prog 18 #[.pointer (some ⟨p1, 0, none⟩), .pointer (some ⟨p2, 0, none⟩)] w fun e w' => e = .returned (.bool true) ∧ Below w.heap.size w w' := by
  obtain ⟨h8, hlong⟩ := h1.long hc
  obtain ⟨g2, hg2, r2⟩ := h2.given
  obtain ⟨A2, nb2, cn2, hn2, hr2⟩ := h2.rowc
  have hDl : D.length ≤ 8 := by rw [h1.len]; exact h8
  have CR : Hid (∀ w1, Below w.heap.size w w1 → Calls Try.prog 24 #[.pointer (some ⟨p1, 0, none⟩)] w1 fun e w' => CopPost w1 Bs G e w') := fun w1 hb => regions_c (h1.below hb) (by omega) hG
  have CS : Hid (∀ v w1 S, Below w.heap.size w w1 → RL w1 S v Bs G → Calls Try.prog 23 #[v, g2] w1 fun e w' => e = .returned (.bool true) ∧ Below w1.heap.size w1 w') := fun v w1 S hb hv => sameRegions_c v g2 Bs G S _ w1 hv (r2.below hb)
  have CB : Hid (∀ (i : Nat) (d : List Int), D[i]? = some d → ∀ w1, Below w.heap.size w w1 → Calls Try.prog 22 #[.pointer (some ⟨p1, 0, none⟩), .int .i64 i] w1 fun e w' => OwnPost w1 d e w') := fun i d hd w1 hb => bytes_c (h1.below hb) hd (hlong i d hd).2
  have HP : Hid (p2 < w.heap.size) := World.block_lt_of_cell? w _ hg2
  have HR2 : Hid _ := hr2
  clear r2 hr2 h1 h2 hlong h8 hG hc
  go_enter Try.func18, Try.ntmps18
  go_wp2_with fail
  go_region_held3 (fun w' => w'.cell? ⟨p2, 0, none⟩ = some g2)
    (first
      | go_keep
      | (refine (hb7.cell (by have : w.heap.size ≤ w6.heap.size := hb6.size; have := HP.out; show p2 < w6.heap.size; omega)).trans ?_; assumption)
      | (refine (hb6.cell HP.out).trans ?_; assumption))
    (first
      | (go_at_call 24; refine (CR.out _ (Below.refl _ _).drew).mono ?_; rintro e w6 ⟨A6, c6, rfl, hrl6, hb6⟩)
      | (go_at_call 23; refine (CS.out _ _ _ ((Below.refl _ _).drew.trans hb6) hrl6).mono ?_; rintro e w7 ⟨rfl, hb7⟩))
  have HB7 : Hid (Below w.heap.size w w7) := (Below.refl _ _).drew.trans (hb6.trans (hb7.mono hb6.size))
  clear hb7 hb6 hrl6 CR CS
  go_wp2_with fail
  go_loopw [5] (fun i wr => eqRel w D.length i wr) (fun i _ => D.length - (intOf i).toNat)
  case atStart => exact ⟨0, Nat.zero_le _, rfl, HB7.out⟩
  case round =>
    obtain ⟨k, hk, rfl, hb⟩ := hrel
    have f2 : wr.cell? ⟨p2, 1, none⟩ = _ := (hb.cell HP.out).trans hn2
    by_cases hkn : k < D.length
    · have hkn' : (k : Int) < D.length := by omega
      have hk0 : (0 : Int) ≤ (k : Int) := by omega
      obtain ⟨d, hd⟩ : ∃ d, D[k]? = some d := ⟨D[k], by simp [hkn]⟩
      obtain ⟨rfl, hok, cap, m4, m5⟩ := HR2.out k d hd
      have hnb : nb2 < w.heap.size := World.block_lt_of_cell? w _ m4
      have f3 : wr.cell? ⟨nb2, k, none⟩ = _ := (hb.cell hnb).trans m4
      have HBLr : Hid (BL w (fun b => b < w.heap.size) (.slice (some ⟨q2 k, 0, none⟩) d.length cap) d) := (BL.own hok m5).mono fun b hb => hb.2
      have HCV : Hid (∀ w1, Below w.heap.size w w1 → (convert 22 9 (.slice (some ⟨q2 k, 0, none⟩) d.length cap)).run Try.prog w1 = .ok (.string (strS d)) w1) := fun w1 h => (HBLr.out.below h).str
      have f4 : (convert 22 9 (.slice (some ⟨q2 k, 0, none⟩) d.length cap)).run Try.prog wr = .ok (.string (strS d)) wr := HCV.out _ hb
      have f4d : (convert 22 9 (.slice (some ⟨q2 k, 0, none⟩) d.length cap)).run Try.prog wr.drew = .ok (.string (strS d)) wr.drew := HCV.out _ hb.drew
      have CC : Hid _ := CB.out k d hd
      have HB : Hid _ := hb
      have HOK : Hid _ := hok
      clear m4 m5 hd hok hb
      go_wp2_with fail
      go_region_law
        (first
          | (go_simp; go_at_call 22; refine (CC.out _ HB.out.drew).mono ?_; rintro e w8 ⟨A8, c8, rfl, hown8, hb8⟩
             have g1 : w8.cell? ⟨p2, 1, none⟩ = _ := (hb8.cell (Nat.lt_of_lt_of_le HP.out HB.out.size)).trans f2
             have g2 : w8.cell? ⟨nb2, k, none⟩ = _ := (hb8.cell (Nat.lt_of_lt_of_le hnb HB.out.size)).trans f3
             have g3 := HCV.out w8 (HB.out.drew.trans (hb8.mono HB.out.size))
             have g4 : (convert 22 9 (.slice A8 d.length c8)).run Try.prog w8 = .ok (.string (strS d)) w8 := (BL.own HOK.out hown8).str))
      all_goals
        have HB8 : Hid (Below w.heap.size w w8) := HB.out.drew.trans (hb8.mono HB.out.size)
        clear hb8 hown8 g4 g1 g2 g3 f4 f4d f2 f3 HB HCV HBLr CC
        go_wp2
        refine ⟨⟨k + 1, hkn, by push_cast; rfl, HB8.out⟩, ?_⟩
        simp only [intOf]
        omega
    · have kn' : ¬ (k : Int) < D.length := by omega
      have HB : Hid _ := hb
      clear hb
      go_wp2
      go_ret
      exact ⟨rfl, HB.out⟩
end Go.Proofs.Ytbpjhaaenoaclaa
