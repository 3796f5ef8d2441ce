/- What is known: walked. -/
import Derived.Test.YtbpjhaaenoaclaaMem9
namespace Go.Proofs.Ytbpjhaaenoaclaa
open Go.ChangeShapes Go.WideShapes Go.ChangeAt Go.RowKit
set_option linter.unusedVariables false
set_option linter.unusedSimpArgs false

def kB : List Reg := seatBs 4 0 0 0
def kG : List (List Int) := [[1, 2, 3, 4], [], [], []]
def kD : List (List Int) := initD kB kG
def kD1 : List (List Int) := storeS kB kD 536870912 2 305419896

theorem four_bytes (w : World) : BL (w.alloc (Obj.cells #[.int .u8 1, .int .u8 2, .int .u8 3, .int .u8 4] 5)) (fun b => b < (w.alloc (Obj.cells #[.int .u8 1, .int .u8 2, .int .u8 3, .int .u8 4] 5)).heap.size) (.slice (some ⟨w.heap.size, 0, none⟩) 4 4) [1, 2, 3, 4] := by
  refine ⟨by unfold okB; decide, some ⟨w.heap.size, 0, none⟩, 4, rfl, fun h => (by cases h), fun j x hx => ⟨w.heap.size, 0, rfl, by rw [alloc_size']; omega, ?_⟩⟩
  have hj : j < 4 := (List.getElem?_eq_some_iff.1 hx).1
  have h4 : j = 0 ∨ j = 1 ∨ j = 2 ∨ j = 3 := by omega
  rcases h4 with rfl | rfl | rfl | rfl
  all_goals
    simp at hx
    subst hx
    rw [World.cell?_alloc_new]
    rfl

theorem kG_le : ∀ g ∈ kG, g.length ≤ 65536 := by decide

set_option maxHeartbeats 8000000 in
set_option maxRecDepth 100000 in
theorem known_c (w : World) : Calls Try.prog 8 #[] w fun e w' => e = .returned (.bool true) ∧ Below w.heap.size w w' := by
  have F1 : Hid (mayS (regAt kB) kB.length 32768 4 false = 0 ∧ gotS kB kD 32768 4 = 67305985) := by constructor <;> decide +kernel
  have F2 : Hid (mayS (regAt kB) kB.length 536870912 2 true = 0) := by show _ = _; decide +kernel
  have F3 : Hid (gotS kB kD1 536870912 4 = 22136) := by show _ = _; decide +kernel
  have F4 : Hid (halfS kB kD1 32770 = 1027 ∧ execS (regAt kB) kB.length 32770 = 0) := by constructor <;> decide +kernel
  have F5 : Hid (checkS (regAt kB) kB.length = 0) := by show _ = _; decide +kernel
  have F6 : Hid (kD1[0]? = some (fillS 1024 [1, 2, 3, 4]) ∧ (fillS 1024 [1, 2, 3, 4]).length = 1024 ∧ kD1.length = 4) := by
    refine ⟨?_, ?_, ?_⟩ <;> decide +kernel
  obtain ⟨W0, hW0⟩ : ∃ W0, W0 = w.alloc (Obj.cells #[.int .u8 1, .int .u8 2, .int .u8 3, .int .u8 4] 5) := ⟨_, rfl⟩
  have hBL := four_bytes w
  rw [← hW0] at hBL
  have S0 : Hid _ := seat_c (.slice (some ⟨w.heap.size, 0, none⟩) 4 4) (.slice none 0 0) (.slice none 0 0) (.slice none 0 0) [1, 2, 3, 4] [] [] [] W0 hBL (bl_nil _ _) (bl_nil _ _) (bl_nil _ _) (by decide) (by decide) (by decide) (by decide)
  have HB0 : Hid (Below w.heap.size w W0) := by rw [hW0]; exact (Below.refl _ _).alloc (Nat.le_refl _) _
  clear hBL
  go_enter Try.func8, Try.ntmps8
  go_wp2_with fail
  rw [← hW0]
  clear hW0
  refine Calls.mono S0.out ?_
  rintro e w1 ⟨rfl, hrl, hb1⟩
  have HB1 : Hid (Below w.heap.size w w1) := HB0.out.trans (hb1.mono HB0.out.size)
  have N1 : Hid (Calls Try.prog 10 #[.slice (some ⟨W0.heap.size, 0, none⟩) 4 4] w1 fun e w' => NewPost w1 kB kG kD e w') := new_ok _ kB kG _ w1 hrl (fun b h => h) F5.out kG_le
  clear hb1 hrl S0 HB0
  go_wp2_with fail
  refine Calls.mono N1.out ?_
  rintro e w2 ⟨p, q, rfl, hm2, hb2⟩
  have HM2 : Hid _ := hm2
  have HB2 : Hid (Below w.heap.size w w2) := HB1.out.trans (hb2.mono HB1.out.size)
  have HL : Hid (w.heap.size ≤ w1.heap.size ∧ w1.heap.size ≤ w2.heap.size) := ⟨HB1.out.size, hb2.size⟩
  obtain ⟨lo, hlo⟩ : ∃ lo, lo = w1.heap.size := ⟨_, rfl⟩
  obtain ⟨hi, hhi⟩ : ∃ hi, hi = w2.heap.size := ⟨_, rfl⟩
  rw [← hlo, ← hhi] at HM2 HL
  clear hm2 hb2 N1 HB1
  go_wp2_with fail
  refine (load_c HM2.out 32768 4 (by decide) (by decide)).mono ?_
  rintro e w3 ⟨he, hb3⟩
  rw [F1.out.1, F1.out.2] at he
  subst he
  have HM3 : Hid _ := HM2.out.below hb3
  have HB3 : Hid (Below w.heap.size w w3) := HB2.out.trans (hb3.mono HB2.out.size)
  have HS3 : Hid (hi ≤ w3.heap.size) := by rw [hhi]; exact hb3.size
  clear hb3 HM2 HB2 hhi hlo
  go_wp2_with fail
  refine (store_c HM3.out 536870912 2 305419896 (by decide) (by decide) (by decide) (by decide)).mono ?_
  rintro e w4 ⟨he, hm4, hmid4⟩
  rw [F2.out] at he
  subst he
  have HM4 : Hid (MemAt w4 p 0 lo hi kB kG kD1 q) := hm4
  have HB4 : Hid (Below w.heap.size w w4) := hmid4.low HB3.out HL.out.1 (Nat.le_trans HL.out.2 HS3.out)
  clear hm4 hmid4 HM3 HB3
  go_wp2_with fail
  refine (load_c HM4.out 536870912 4 (by decide) (by decide)).mono ?_
  rintro e w5 ⟨he, hb5⟩
  rw [F3.out] at he
  subst he
  have HM5 : Hid _ := HM4.out.below hb5
  have HB5 : Hid (Below w.heap.size w w5) := HB4.out.trans (hb5.mono HB4.out.size)
  clear hb5 HM4 HB4
  go_wp2_with fail
  refine (half_c HM5.out 32770 (by decide) (by decide)).mono ?_
  rintro e w6 ⟨he, hb6⟩
  rw [F4.out.1, F4.out.2] at he
  subst he
  have HM6 : Hid _ := HM5.out.below hb6
  have HB6 : Hid (Below w.heap.size w w6) := HB5.out.trans (hb6.mono HB5.out.size)
  clear hb6 HM5 HB5
  go_wp2_with fail
  refine (copy_c HM6.out F5.out kG_le).mono ?_
  rintro e w7 ⟨pc, qc, rfl, hc7, hb7⟩
  have HM7 : Hid _ := HM6.out.below hb7
  have HC7 : Hid _ := hc7
  have HB7 : Hid (Below w.heap.size w w7) := HB6.out.trans (hb7.mono HB6.out.size)
  clear hb7 hc7 HM6 HB6
  go_wp2_with fail
  refine (one_bad w7).mono ?_
  rintro e w8 ⟨rfl, hb8⟩
  have HM8 : Hid _ := HM7.out.below hb8
  have HC8 : Hid _ := HC7.out.below hb8
  have HB8 : Hid (Below w.heap.size w w8) := HB7.out.trans (hb8.mono HB7.out.size)
  clear hb8 HM7 HC7 HB7
  go_wp2_with fail
  refine (same_c HC8.out HM8.out (by decide)).mono ?_
  rintro e w9 ⟨rfl, hb9⟩
  have HM9 : Hid _ := HM8.out.below hb9
  have HB9 : Hid (Below w.heap.size w w9) := HB8.out.trans (hb9.mono HB8.out.size)
  clear hb9 HM8 HC8 HB8
  go_wp2_with fail
  refine (bytes_c HM9.out (i := 0) F6.out.1 (by rw [F6.out.2.1]; decide)).mono ?_
  rintro e wa ⟨Aa, ca, rfl, _, hba⟩
  rw [F6.out.2.1]
  have HMa : Hid _ := HM9.out.below hba
  have HBa : Hid (Below w.heap.size w wa) := HB9.out.trans (hba.mono HB9.out.size)
  clear hba HM9 HB9
  go_wp2_with fail
  refine (regions_c HMa.out (by decide) kG_le).mono ?_
  rintro e wb ⟨Ab, cb', he, _, hbb⟩
  rw [show kB.length = 4 from rfl] at he
  subst he
  have HMb : Hid _ := HMa.out.below hbb
  have HBb : Hid (Below w.heap.size w wb) := HBa.out.trans (hbb.mono HBa.out.size)
  clear hbb HMa HBa
  go_wp2_with fail
  refine (bytes_out HMb.out (i := 9) (by rw [F6.out.2.2]; decide)).mono ?_
  rintro e wc ⟨rfl, hwc⟩
  replace hwc := hwc.symm
  subst hwc
  go_wp2
  go_ret
  exact ⟨rfl, HBb.out⟩
end Go.Proofs.Ytbpjhaaenoaclaa
