/- HostTells, walked. -/
import Derived.Test.YtklhnaineeleoaaDoorHst8
import Derived.Test.YtklhnaineeleoaaDoorHst7r
namespace Go.Proofs.YtklhnaineeleoaaDoor
open Go.ChangeShapes Go.WideShapes Go.ChangeAt Go.RowKit
set_option linter.unusedVariables false
set_option linter.unusedSimpArgs false

theorem same_c (o : Int) (w : World) (hT : LT w) : Calls Tryd.prog 8 #[.int .i64 o] w fun e w' => e = .returned (.bool true) ∧ Below w.heap.size w w' := by
  have C1 : Hid _ := fun w => cost_c o w
  have C2 : Hid _ := fun w => rcost_c o w
  have C3 : Hid _ := fun w => loads_c o w
  have C4 : Hid _ := fun w => rloads_c o w
  have C5 : Hid _ := fun w => stores_c o w
  have C6 : Hid _ := fun w => rstores_c o w
  have C7 : Hid _ := name_c o w hT
  have C8 : Hid _ := fun w => rname_c o w
  clear hT
  generalize costS o = k1 at *
  generalize loadsS o = k2 at *
  generalize storesS o = k3 at *
  generalize nmS o = k4 at *
  go_enter Tryd.func8, Tryd.ntmps8
  go_wp2_with fail
  refine (C1.out _).mono ?_
  rintro e _ ⟨rfl, rfl⟩
  go_wp2_with fail
  refine (C2.out _).mono ?_
  rintro e _ ⟨rfl, rfl⟩
  go_wp2_with fail
  refine (C3.out _).mono ?_
  rintro e _ ⟨rfl, rfl⟩
  go_wp2_with fail
  refine (C4.out _).mono ?_
  rintro e _ ⟨rfl, rfl⟩
  go_wp2_with fail
  refine (C5.out _).mono ?_
  rintro e _ ⟨rfl, rfl⟩
  go_wp2_with fail
  refine (C6.out _).mono ?_
  rintro e _ ⟨rfl, rfl⟩
  go_wp2_with fail
  refine Calls.mono C7.out ?_
  rintro e w2 ⟨rfl, hw2⟩
  replace hw2 := hw2.symm
  subst hw2
  go_wp2_with fail
  refine (C8.out _).mono ?_
  rintro e w3 ⟨rfl, hb⟩
  go_wp2
  go_ret
  exact ⟨rfl, hb⟩

def tlRel (w : World) (i : Value) (wr : World) : Prop := ∃ k : Int, -1 ≤ k ∧ k ≤ 34 ∧ i = .int .i64 k ∧ Below w.heap.size w wr

set_option maxHeartbeats 2000000 in
theorem tells_walk (o : Int) (w : World) (hT : LT w) : Calls Tryd.prog 3 #[.int .i64 o] w fun e w' => e = .returned (.bool true) ∧ Below w.heap.size w w' := by
  have K : Hid _ := known_c w hT
  have HT : Hid (LT w) := hT
  clear hT
  go_enter Tryd.func3, Tryd.ntmps3
  go_wp2_with fail
  refine Calls.mono K.out ?_
  rintro e w1 ⟨rfl, hb1⟩
  have HB1 : Hid (Below w.heap.size w w1) := hb1
  clear hb1 K
  go_wp2_with fail
  go_loopw [3] (fun i wr => tlRel w i wr) (fun i _ => (34 - intOf i).toNat)
  case atStart => exact ⟨-1, by decide, by decide, rfl, HB1.out⟩
  case round =>
    obtain ⟨k, h0, h1, rfl, hb⟩ := hrel
    have HB : Hid (Below w.heap.size w wr) := hb
    clear hb
    by_cases hk : k ≤ 33
    · go_wp2_with fail
      refine (same_c k _ (HT.out.next HB.out)).mono ?_
      rintro e w2 ⟨rfl, hb2⟩
      have HB2 : Hid (Below w.heap.size w w2) := HB.out.trans (hb2.mono HB.out.size)
      clear hb2 HB
      go_wp2
      exact ⟨⟨k + 1, by omega, by omega, rfl, HB2.out⟩, by simp only [intOf]; omega⟩
    · go_wp2_with fail
      refine (same_c o _ (HT.out.next HB.out)).mono ?_
      rintro e w2 ⟨rfl, hb2⟩
      have HB2 : Hid (Below w.heap.size w w2) := HB.out.trans (hb2.mono HB.out.size)
      clear hb2 HB
      go_wp2
      go_ret
      exact ⟨rfl, HB2.out⟩
end Go.Proofs.YtklhnaineeleoaaDoor
