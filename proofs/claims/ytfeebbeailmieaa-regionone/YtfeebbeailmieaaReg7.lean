/- The helps of the statements: the regions of a seat, sourdinehelp's Regions, and what is known at some places, walked. -/
import Derived.Test.YtfeebbeailmieaaReg4
namespace Go.Proofs.Ytfeebbeailmieaa
open Go.ChangeShapes Go.WideShapes Go.ChangeAt Go.RowKit
set_option linter.unusedVariables false
set_option linter.unusedSimpArgs false

def seatR : Nat → Reg
  | 0 => ⟨32768, 1024, true, false, true, false, none, 0, 0⟩
  | 1 => ⟨536870912, 256, true, true, false, false, none, 0, 0⟩
  | 2 => ⟨805306368, 128, true, true, false, true, none, 0, 0⟩
  | _ => ⟨1073741824, 128, true, true, true, false, none, 0, 0⟩

theorem seatR_wf (i : Nat) : (seatR i).wf := by
  match i with
  | 0 => unfold Reg.wf seatR; decide
  | 1 => unfold Reg.wf seatR; decide
  | 2 => unfold Reg.wf seatR; decide
  | n + 3 => unfold Reg.wf; simp [seatR]

theorem seat_c (w : World) : Calls Try.prog 10 #[.slice none 0 0, .slice none 0 0, .slice none 0 0, .slice none 0 0] w fun e w' =>
    e = .returned (.slice (some ⟨w.heap.size, 0, none⟩) 4 4) ∧ Lies w' (some ⟨w.heap.size, 0, none⟩) 4 seatR ∧ w.heap.size < w'.heap.size ∧ Below w.heap.size w w' := by
  go_enter Try.func10, Try.ntmps10
  go_wp2
  go_ret
  refine ⟨rfl, ⟨by decide, fun i hi => ⟨seatR_wf i, w.heap.size, 0, rfl, ?_⟩⟩, by rw [alloc_size']; omega, (Below.refl _ _).alloc (Nat.le_refl _) _⟩
  have h4 : i = 0 ∨ i = 1 ∨ i = 2 ∨ i = 3 := by omega
  rcases h4 with rfl | rfl | rfl | rfl <;> (refine ⟨?_, ?_, ?_, ?_, ?_, ?_, ?_⟩ <;> (rw [World.cell?_alloc_new]; rfl))

def helpRel (w : World) (n : Nat) (i : Value) (wr : World) : Prop := ∃ k : Nat, k ≤ n ∧ i = .int .i64 k ∧ wr = w

theorem help_c (A : Option Addr) (n c : Nat) (R : Nat → Reg) (w : World) (hl : Lies w A n R) : Calls Try.prog 8 #[.slice A n c] w fun e w' =>
    (∃ v, e = .returned (.bool v) ∧ (v = true → n ≤ 10)) ∧ w' = w := by
  have hn := hl.1
  have hL : Hid (Lies w A n R) := hl
  clear hl
  go_enter Try.func8, Try.ntmps8
  go_wp2_with fail
  go_loopw [3] (fun i wr => helpRel w n i wr) (fun i _ => n - (intOf i).toNat)
  case atStart => exact ⟨0, Nat.zero_le _, rfl, rfl⟩
  case round =>
    obtain ⟨k, hk, rfl, hw⟩ := hrel
    replace hw := hw.symm
    subst hw
    by_cases hkn : k < n
    · obtain ⟨hw, b, o, rfl, h7⟩ := hL.out.2 k hkn
      obtain ⟨c0, c1, c2, c3, c4, c5, c6⟩ := h7
      have hkn' : (k : Int) < n := by omega
      obtain ⟨q1, q2, q3, q4, q5⟩ := hw
      by_cases hb : (200 : Int) < (R k).bl
      · go_wp2
        go_ret
        exact ⟨⟨false, rfl, fun h => by cases h⟩, rfl⟩
      · go_wp2
        refine ⟨⟨k + 1, hkn, rfl, rfl⟩, ?_⟩
        simp only [intOf]
        omega
    · have kn : k = n := by omega
      subst kn
      go_wp2
      go_ret
      exact ⟨⟨decide ((k : Int) ≤ 10), rfl, fun h => by have := of_decide_eq_true h; omega⟩, rfl⟩
theorem one_bad (w : World) : Calls Try.prog 11 #[.slice (some ⟨w.heap.size, 0, none⟩) 1 1] (w.alloc (Obj.cells #[.int .u32 0, .int .u32 0, .bool false, .bool false, .bool false, .bool false, .slice none 0 0] 36)) fun e w' =>
    e = .returned (.int .i64 23) ∧ Below (w.alloc (Obj.cells #[.int .u32 0, .int .u32 0, .bool false, .bool false, .bool false, .bool false, .slice none 0 0] 36)).heap.size (w.alloc (Obj.cells #[.int .u32 0, .int .u32 0, .bool false, .bool false, .bool false, .bool false, .slice none 0 0] 36)) w' := by
  have h := check_c (some ⟨w.heap.size, 0, none⟩) 1 1 (fun _ => noReg) (w.alloc (Obj.cells #[.int .u32 0, .int .u32 0, .bool false, .bool false, .bool false, .bool false, .slice none 0 0] 36))
    ⟨by decide, fun i hi => ⟨(by unfold Reg.wf noReg; decide : noReg.wf), w.heap.size, 0, rfl, by
      have : i = 0 := by omega
      subst this
      exact At7.new w noReg 36⟩⟩
  rw [show checkS (fun _ => noReg) 1 = 23 by decide +kernel] at h
  exact h

set_option maxHeartbeats 4000000 in
theorem known_c (w : World) : Calls Try.prog 7 #[] w fun e w' => e = .returned (.bool true) ∧ Below w.heap.size w w' := by
  have S0 : Hid _ := seat_c w
  have F1 : Hid _ := fun (v : World) (hl : Lies v (some ⟨w.heap.size, 0, none⟩) 4 seatR) => find_c (some ⟨w.heap.size, 0, none⟩) 4 4 seatR 536870916 4 (by decide) (by decide) v hl
  rw [show findS seatR 4 536870916 4 = some 1 by decide +kernel] at F1
  simp only [Option.getD_some, Option.getD_none, Option.isSome_some, Option.isSome_none] at F1
  have F2 : Hid _ := fun (v : World) (hl : Lies v (some ⟨w.heap.size, 0, none⟩) 4 seatR) => find_c (some ⟨w.heap.size, 0, none⟩) 4 4 seatR 536871166 4 (by decide) (by decide) v hl
  rw [show findS seatR 4 536871166 4 = none by decide +kernel] at F2
  simp only [Option.getD_some, Option.getD_none, Option.isSome_some, Option.isSome_none] at F2
  have C1 : Hid _ := fun (v : World) (hl : Lies v (some ⟨w.heap.size, 0, none⟩) 4 seatR) => check_c (some ⟨w.heap.size, 0, none⟩) 4 4 seatR  v hl
  rw [show checkS seatR 4 = 0 by decide +kernel] at C1
  have M1 : Hid _ := fun (v : World) (hl : Lies v (some ⟨w.heap.size, 0, none⟩) 4 seatR) => may_c (some ⟨w.heap.size, 0, none⟩) 4 4 seatR 536870912 4 (by decide) (by decide) true v hl
  rw [show mayS seatR 4 536870912 4 true = 0 by decide +kernel] at M1
  have M2 : Hid _ := fun (v : World) (hl : Lies v (some ⟨w.heap.size, 0, none⟩) 4 seatR) => may_c (some ⟨w.heap.size, 0, none⟩) 4 4 seatR 536870913 4 (by decide) (by decide) true v hl
  rw [show mayS seatR 4 536870913 4 true = 25 by decide +kernel] at M2
  have M3 : Hid _ := fun (v : World) (hl : Lies v (some ⟨w.heap.size, 0, none⟩) 4 seatR) => may_c (some ⟨w.heap.size, 0, none⟩) 4 4 seatR 32768 4 (by decide) (by decide) true v hl
  rw [show mayS seatR 4 32768 4 true = 24 by decide +kernel] at M3
  have E1 : Hid _ := fun (v : World) (hl : Lies v (some ⟨w.heap.size, 0, none⟩) 4 seatR) => exec_c (some ⟨w.heap.size, 0, none⟩) 4 4 seatR 32768 (by decide) (by decide) v hl
  rw [show execS seatR 4 32768 = 0 by decide +kernel] at E1
  have E2 : Hid _ := fun (v : World) (hl : Lies v (some ⟨w.heap.size, 0, none⟩) 4 seatR) => exec_c (some ⟨w.heap.size, 0, none⟩) 4 4 seatR 536870912 (by decide) (by decide) v hl
  rw [show execS seatR 4 536870912 = 26 by decide +kernel] at E2
  have S1 : Hid _ := fun (v : World) (hl : Lies v (some ⟨w.heap.size, 0, none⟩) 4 seatR) => secret_c (some ⟨w.heap.size, 0, none⟩) 4 4 seatR 805306368 4 (by decide) (by decide) v hl
  rw [show secretS seatR 4 805306368 4 = true by decide +kernel] at S1
  have X1 : Hid _ := fun (v : World) (hl : Lies v (some ⟨w.heap.size, 0, none⟩) 4 seatR) => fixed_c (some ⟨w.heap.size, 0, none⟩) 4 4 seatR 32768 4 (by decide) (by decide) v hl
  rw [show fixedS seatR 4 32768 4 = true by decide +kernel] at X1
  have X2 : Hid _ := fun (v : World) (hl : Lies v (some ⟨w.heap.size, 0, none⟩) 4 seatR) => fixed_c (some ⟨w.heap.size, 0, none⟩) 4 4 seatR 536870912 4 (by decide) (by decide) v hl
  rw [show fixedS seatR 4 536870912 4 = false by decide +kernel] at X2
  have Z : Hid _ := fun (v : World) => one_bad v
  go_enter Try.func7, Try.ntmps7
  go_wp2_with fail
  refine Calls.mono S0.out ?_
  rintro e w1 ⟨rfl, hl1, hs1, hb1⟩
  have hL : Hid (Lies w1 (some ⟨w.heap.size, 0, none⟩) 4 seatR) := hl1
  have HB0 : Hid (Below w.heap.size w w1) := hb1
  have HB : Hid (Below w1.heap.size w1 w1) := Below.refl _ _
  clear hl1 hs1 hb1 S0
  go_wp2_with fail
  refine (F1.out _ (hL.out.below HB.out (Nat.le_refl _))).mono ?_
  rintro e w2 ⟨rfl, hw2⟩
  replace HB : Hid (Below w1.heap.size w1 w2) := HB.out.trans (hw2.mono HB.out.size)
  clear hw2 F1
  go_wp2_with fail
  refine (F2.out _ (hL.out.below HB.out (Nat.le_refl _))).mono ?_
  rintro e w2 ⟨rfl, hw2⟩
  replace HB : Hid (Below w1.heap.size w1 w2) := HB.out.trans (hw2.mono HB.out.size)
  clear hw2 F2
  go_wp2_with fail
  refine (C1.out _ (hL.out.below HB.out (Nat.le_refl _))).mono ?_
  rintro e w2 ⟨rfl, hw2⟩
  replace HB : Hid (Below w1.heap.size w1 w2) := HB.out.trans (hw2.mono HB.out.size)
  clear hw2 C1
  go_wp2_with fail
  refine (M1.out _ (hL.out.below HB.out (Nat.le_refl _))).mono ?_
  rintro e w2 ⟨rfl, hw2⟩
  replace HB : Hid (Below w1.heap.size w1 w2) := HB.out.trans (hw2.mono HB.out.size)
  clear hw2 M1
  go_wp2_with fail
  refine (M2.out _ (hL.out.below HB.out (Nat.le_refl _))).mono ?_
  rintro e w2 ⟨rfl, hw2⟩
  replace HB : Hid (Below w1.heap.size w1 w2) := HB.out.trans (hw2.mono HB.out.size)
  clear hw2 M2
  go_wp2_with fail
  refine (M3.out _ (hL.out.below HB.out (Nat.le_refl _))).mono ?_
  rintro e w2 ⟨rfl, hw2⟩
  replace HB : Hid (Below w1.heap.size w1 w2) := HB.out.trans (hw2.mono HB.out.size)
  clear hw2 M3
  go_wp2_with fail
  refine (E1.out _ (hL.out.below HB.out (Nat.le_refl _))).mono ?_
  rintro e w2 ⟨rfl, hw2⟩
  replace HB : Hid (Below w1.heap.size w1 w2) := HB.out.trans (hw2.mono HB.out.size)
  clear hw2 E1
  go_wp2_with fail
  refine (E2.out _ (hL.out.below HB.out (Nat.le_refl _))).mono ?_
  rintro e w2 ⟨rfl, hw2⟩
  replace HB : Hid (Below w1.heap.size w1 w2) := HB.out.trans (hw2.mono HB.out.size)
  clear hw2 E2
  go_wp2_with fail
  refine (S1.out _ (hL.out.below HB.out (Nat.le_refl _))).mono ?_
  rintro e w2 ⟨rfl, hw2⟩
  replace HB : Hid (Below w1.heap.size w1 w2) := HB.out.trans (hw2.mono HB.out.size)
  clear hw2 S1
  go_wp2_with fail
  refine (X1.out _ (hL.out.below HB.out (Nat.le_refl _))).mono ?_
  rintro e w2 ⟨rfl, hw2⟩
  replace HB : Hid (Below w1.heap.size w1 w2) := HB.out.trans (hw2.mono HB.out.size)
  clear hw2 X1
  go_wp2_with fail
  refine (X2.out _ (hL.out.below HB.out (Nat.le_refl _))).mono ?_
  rintro e w2 ⟨rfl, hw2⟩
  replace HB : Hid (Below w1.heap.size w1 w2) := HB.out.trans (hw2.mono HB.out.size)
  clear hw2 X2
  go_wp2_with fail
  refine (Z.out _).mono ?_
  rintro e w3 ⟨rfl, hw3⟩
  go_wp2
  go_ret
  exact ⟨rfl, HB0.out.trans (((HB.out.alloc HB.out.size _).trans (hw3.mono (by rw [alloc_size']; exact Nat.le_succ_of_le HB.out.size))).mono HB0.out.size)⟩
end Go.Proofs.Ytfeebbeailmieaa
