/- CondTells returns true for every number, all flags, every word: package cond answers as the reference does. -/
import Derived.Test.YtmgnmoohfnaekaaDoorCKnown
import Derived.Test.YtmgnmoohfnaekaaDoorCond3
namespace Go.Proofs.YtmgnmoohfnaekaaDoor
open Go.ChangeShapes Go.WideShapes Go.ChangeAt Go.RowKit
set_option linter.unusedVariables false
set_option linter.unusedSimpArgs false

theorem below_on {w w1 w2 : World} (h : Below w.heap.size w w1) (h' : Below w1.heap.size w1 w2) : Below w.heap.size w w2 := Below.trans h (Below.mono h' h.size)

set_option maxHeartbeats 1000000 in
theorem tells_walk (c f v : Int) (a b : Bool) (v0 : 0 ≤ v) (v1 : v < 4294967296) (w : World) (h1 : 1 < w.heap.size) (hT : w.cell? ⟨1, 1, none⟩ = some (.int .u8 1)) :
    Calls Tryd.prog 3 #[.int .i64 c, .int .i64 f, .int .u32 v, .bool a, .bool b] w fun e w' => e = .returned (.bool true) ∧ Below w.heap.size w w' := by
  have KN : Hid _ := known_true w h1 hT
  clear h1 hT
  have C1 : Hid _ := fun w => holds_c c f w
  have C2 : Hid _ := fun w => rHolds_c c f w
  have C3 : Hid _ := fun w => name_c c w
  have C4 : Hid _ := fun w => rName_c c w
  have C5 : Hid _ := fun w => name_c (bits .and .i64 c 15) w
  have C6 : Hid _ := fun w => rName_c (bits .and .i64 c 15) w
  have C7 : Hid _ := fun w => not_c c w
  have C8 : Hid _ := fun w => rNot_c c w
  have C9 : Hid _ := fun w => not_c (bits .and .i64 c 15) w
  have C10 : Hid _ := fun w => rNot_c (bits .and .i64 c 15) w
  have C11 : Hid _ := fun w => result_c v a b v0 v1 w
  have C12 : Hid _ := fun w => rResult_c v a b v0 v1 w
  have hq0 := bits_lo_u32 .and v 1
  have hq1 := bits_hi_u32 .and v 1
  have C13 : Hid _ := fun w => result_c (bits .and .u32 v 1) a b hq0 (by omega) w
  have C14 : Hid _ := fun w => rResult_c (bits .and .u32 v 1) a b hq0 (by omega) w
  generalize flagsHold c f = p at *
  generalize nameS c = s1 at *
  generalize nameS (bits .and .i64 c 15) = s2 at *
  generalize notS c = m1 at *
  generalize notS (bits .and .i64 c 15) = m2 at *
  generalize resultS v a b = r1 at *
  generalize resultS (bits .and .u32 v 1) a b = r2 at *
  have HCS : Hid _ := And.intro C1 (And.intro C2 (And.intro C3 (And.intro C4 (And.intro C5 (And.intro C6 (And.intro C7 (And.intro C8 (And.intro C9 (And.intro C10 (And.intro C11 (And.intro C12 (And.intro C13 C14))))))))))))
  clear C1 C2 C3 C4 C5 C6 C7 C8 C9 C10 C11 C12 C13 C14 hq0 hq1
  go_enter Tryd.func3, Tryd.ntmps3
  go_wp2_with fail
  refine Calls.mono KN.out ?_
  rintro e w1 ⟨rfl, hb1⟩
  have HB : Hid _ := hb1
  clear hb1 KN
  go_wp2_with fail
  go_loopw [11] (fun i wr => ∃ k : Int, 0 ≤ k ∧ k ≤ 16 ∧ i = .int .i64 k ∧ Below w.heap.size w wr) (fun i _ => (16 - intOf i).toNat)
  case atStart => exact ⟨0, by decide, by decide, rfl, HB.out⟩
  case round =>
    clear HB
    obtain ⟨k, k0, k1, rfl, hb⟩ := hrel
    by_cases hk : k < 16
    · have hd : decide (k < 16) = true := decide_eq_true hk
      have HB : Hid _ := hb
      clear hb
      go_wp2_with fail
      go_loopw [12] (fun i wx => ∃ l : Int, -1 ≤ l ∧ l ≤ 17 ∧ i = .int .i64 l ∧ Below w.heap.size w wx) (fun i _ => (17 - intOf i).toNat)
      case atStart => exact ⟨-1, by decide, by decide, rfl, HB.out⟩
      case round =>
        clear HB HCS
        obtain ⟨l, l0, l1, rfl, hb⟩ := hrel
        by_cases hl : l < 17
        · have HB : Hid _ := hb
          clear hb
          have D1 : Hid _ := fun w => holds_c l k w
          have D2 : Hid _ := fun w => rHolds_c l k w
          generalize flagsHold l k = q at *
          go_wp2_with fail
          refine (D1.out _).mono ?_
          rintro e w2 ⟨rfl, hw2⟩
          replace hw2 := hw2.symm
          subst hw2
          go_wp2_with fail
          refine (D2.out _).mono ?_
          rintro e w2 ⟨rfl, hb2⟩
          have HB2 : Hid _ := below_on HB.out hb2
          clear hb2
          go_wp2
          refine ⟨⟨l + 1, by omega, by omega, rfl, HB2.out⟩, ?_⟩
          simp only [intOf]
          omega
        · have l17 : l = 17 := by omega
          subst l17
          have HB : Hid _ := hb
          clear hb
          go_wp2
          refine ⟨⟨k + 1, by omega, by omega, rfl, HB.out⟩, ?_⟩
          simp only [intOf]
          omega
    · have k16 : k = 16 := by omega
      subst k16
      have HB : Hid _ := hb
      clear hb
      obtain ⟨C1, C2, C3, C4, C5, C6, C7, C8, C9, C10, C11, C12, C13, C14⟩ := HCS.out
      clear HCS
      go_wp2_with fail
      refine (C1.out _).mono ?_
      rintro e w21 ⟨rfl, hw2⟩
      replace hw2 := hw2.symm
      subst hw2
      clear C1
      go_wp2_with fail
      refine (C2.out _).mono ?_
      rintro e w22 ⟨rfl, hb2⟩
      replace HB : Hid _ := below_on HB.out hb2
      clear hb2
      clear C2
      go_wp2_with fail
      refine (C3.out _).mono ?_
      rintro e w23 ⟨rfl, hw2⟩
      replace hw2 := hw2.symm
      subst hw2
      clear C3
      go_wp2_with fail
      refine (C4.out _).mono ?_
      rintro e w24 ⟨rfl, hb4⟩
      replace HB : Hid _ := below_on HB.out hb4
      clear hb4
      clear C4
      go_wp2_with fail
      refine (C5.out _).mono ?_
      rintro e w25 ⟨rfl, hw2⟩
      replace hw2 := hw2.symm
      subst hw2
      clear C5
      go_wp2_with fail
      refine (C6.out _).mono ?_
      rintro e w26 ⟨rfl, hb6⟩
      replace HB : Hid _ := below_on HB.out hb6
      clear hb6
      clear C6
      go_wp2_with fail
      refine (C7.out _).mono ?_
      rintro e w27 ⟨rfl, hw2⟩
      replace hw2 := hw2.symm
      subst hw2
      clear C7
      go_wp2_with fail
      refine (C8.out _).mono ?_
      rintro e w28 ⟨rfl, hw2⟩
      replace hw2 := hw2.symm
      subst hw2
      clear C8
      go_wp2_with fail
      refine (C9.out _).mono ?_
      rintro e w29 ⟨rfl, hw2⟩
      replace hw2 := hw2.symm
      subst hw2
      clear C9
      go_wp2_with fail
      refine (C10.out _).mono ?_
      rintro e w30 ⟨rfl, hw2⟩
      replace hw2 := hw2.symm
      subst hw2
      clear C10
      go_wp2_with fail
      refine (C11.out _).mono ?_
      rintro e w31 ⟨rfl, hw2⟩
      replace hw2 := hw2.symm
      subst hw2
      clear C11
      go_wp2_with fail
      refine (C12.out _).mono ?_
      rintro e w32 ⟨rfl, hw2⟩
      replace hw2 := hw2.symm
      subst hw2
      clear C12
      go_wp2_with fail
      refine (C13.out _).mono ?_
      rintro e w33 ⟨rfl, hw2⟩
      replace hw2 := hw2.symm
      subst hw2
      clear C13
      go_wp2_with fail
      refine (C14.out _).mono ?_
      rintro e w34 ⟨rfl, hw2⟩
      replace hw2 := hw2.symm
      subst hw2
      clear C14
      go_wp2
      go_ret
      exact ⟨rfl, HB.out⟩
end Go.Proofs.YtmgnmoohfnaekaaDoor
