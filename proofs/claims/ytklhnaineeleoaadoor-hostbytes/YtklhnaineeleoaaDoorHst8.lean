/- The statements' helper 'known', walked. -/
import Derived.Test.YtklhnaineeleoaaDoorHst5
import Derived.Test.YtklhnaineeleoaaDoorHst7
namespace Go.Proofs.YtklhnaineeleoaaDoor
open Go.ChangeShapes Go.WideShapes Go.ChangeAt Go.RowKit
set_option linter.unusedVariables false
set_option linter.unusedSimpArgs false

def kHV : HV := ⟨3, 1, 2, 3, 0, 0⟩
theorem k_right (w : World) : Calls Tryd.prog 9 #[.agg #[.int .i64 3, .int .i64 1, .int .i64 2, .int .i64 3, .int .i64 0, .int .u32 0]] w fun e w' => e = .returned (.bool true) ∧ Below w.heap.size w w' := by
  have h := right_c kHV w
  rw [show rightS kHV = true by decide +kernel] at h
  exact h
theorem k_wrong (w : World) : Calls Tryd.prog 9 #[.agg #[.int .i64 3, .int .i64 0, .int .i64 0, .int .i64 0, .int .i64 1, .int .u32 0]] w fun e w' => e = .returned (.bool false) ∧ Below w.heap.size w w' := by
  have h := right_c ⟨3, 0, 0, 0, 1, 0⟩ w
  rw [show rightS ⟨3, 0, 0, 0, 1, 0⟩ = false by decide +kernel] at h
  exact h
def k9 : List Int := [3, 1, 2, 3, 0, 0, 0, 0, 0]
theorem k_put (w : World) : Calls Tryd.prog 11 #[.agg #[.int .i64 3, .int .i64 1, .int .i64 2, .int .i64 3, .int .i64 0, .int .u32 0]] w fun e w' => ∃ A c, e = .returned (.slice A 9 c) ∧ BL w' (fun b => b < w'.heap.size) (.slice A 9 c) k9 ∧ Below w.heap.size w w' := by
  have h := put_c kHV ⟨by decide, by decide⟩ w
  rw [show putS kHV = k9 by decide +kernel] at h
  refine Calls.mono h ?_
  rintro e w' ⟨A, c, rfl, ho, hb⟩
  exact ⟨A, c, rfl, (BL.own (by unfold okB k9; decide) ho).mono fun b h => h.2, hb⟩
theorem k_read (v : Value) (S : Nat → Prop) (w : World) (h : BL w S v k9) : Calls Tryd.prog 13 #[v] w fun e w' => e = .returned (.tuple #[.agg #[.int .i64 3, .int .i64 1, .int .i64 2, .int .i64 3, .int .i64 0, .int .u32 0], .int .i64 0]) ∧ Below w.heap.size w w' := by
  have h := read_c v k9 S w h (by decide)
  unfold ReadPost at h
  rw [show (readS k9) = (kHV, 0) by
    unfold readS
    rw [if_neg (by decide), if_neg (by decide), show ofNine k9 = kHV from rfl, show rightS kHV = true by decide +kernel]
    rfl] at h
  exact h
theorem k_nil (w : World) : Calls Tryd.prog 13 #[.slice none 0 0] w fun e w' => e = .returned (.tuple #[.agg #[.int .i64 0, .int .i64 0, .int .i64 0, .int .i64 0, .int .i64 0, .int .u32 0], .int .i64 20]) ∧ Below w.heap.size w w' := by
  have h := read_c (.slice none 0 0) [] (fun _ => True) w ⟨fun x hx => (by cases hx), none, 0, rfl, fun _ => ⟨rfl, rfl⟩, fun j x hx => (by simp at hx)⟩ (by decide)
  exact h
theorem k_zero (g c : Nat) (w : World) (h : BL w (fun _ => True) (.slice (some ⟨g, 0, none⟩) 9 c) (List.replicate 9 0)) : Calls Tryd.prog 13 #[.slice (some ⟨g, 0, none⟩) 9 c] w fun e w' => e = .returned (.tuple #[.agg #[.int .i64 0, .int .i64 0, .int .i64 0, .int .i64 0, .int .i64 0, .int .u32 0], .int .i64 21]) ∧ Below w.heap.size w w' := by
  have h := read_c _ _ _ w h (by decide)
  unfold ReadPost at h
  rw [show (readS (List.replicate 9 0)) = (zHV, 21) by
    unfold readS
    rw [if_neg (by decide), if_neg (by decide), show ofNine (List.replicate 9 0) = zHV from rfl, show rightS zHV = false by decide +kernel]
    rfl] at h
  exact h
theorem k_cost (w : World) : Calls Tryd.prog 15 #[.int .i64 15] w fun e w' => e = .returned (.int .i64 12) ∧ w' = w := cost_15 w
theorem k_loads (w : World) : Calls Tryd.prog 16 #[.int .i64 23] w fun e w' => e = .returned (.int .i64 2) ∧ w' = w := loads_23 w
theorem k_stores (w : World) : Calls Tryd.prog 17 #[.int .i64 27] w fun e w' => e = .returned (.int .i64 4) ∧ w' = w := stores_27 w
theorem k_name (w : World) (hT : LT w) : Calls Tryd.prog 18 #[.int .i64 21] w fun e w' => e = .returned (.string ⟨#[83, 101, 108]⟩) ∧ w' = w := by
  have h := name_c 21 w hT
  rw [show nmS 21 = ⟨#[83, 101, 108]⟩ by kernel_rfl] at h
  exact h

theorem make9 (w : World) : (Instr.makeSlice 29 (.int .i64 9) (.int .i64 9)).run Tryd.prog w = .ok (.slice (some ⟨w.heap.size, 0, none⟩) 9 9) (w.alloc (.cells #[.int .u8 0, .int .u8 0, .int .u8 0, .int .u8 0, .int .u8 0, .int .u8 0, .int .u8 0, .int .u8 0, .int .u8 0] 5)) := by kernel_rfl
theorem zero9 (w : World) : BL (w.alloc (.cells #[.int .u8 0, .int .u8 0, .int .u8 0, .int .u8 0, .int .u8 0, .int .u8 0, .int .u8 0, .int .u8 0, .int .u8 0] 5)) (fun _ => True) (.slice (some ⟨w.heap.size, 0, none⟩) 9 9) (List.replicate 9 0) :=
  (BL.own (by unfold okB; decide) (World.ownsRow_lit (base := 0) w #[.int .u8 0, .int .u8 0, .int .u8 0, .int .u8 0, .int .u8 0, .int .u8 0, .int .u8 0, .int .u8 0, .int .u8 0] 9 (Nat.zero_le _) (by decide) rfl)).mono fun _ _ => trivial

theorem zero9b (w : World) (o : Obj) : BL ((w.alloc o).alloc (.cells #[.int .u8 0, .int .u8 0, .int .u8 0, .int .u8 0, .int .u8 0, .int .u8 0, .int .u8 0, .int .u8 0, .int .u8 0] 5)) (fun _ => True) (.slice (some ⟨w.heap.size + 1, 0, none⟩) 9 9) (List.replicate 9 0) := by
  have h := zero9 (w.alloc o)
  rw [alloc_size'] at h
  exact h

set_option maxHeartbeats 4000000 in
theorem known_c (w : World) (hT : LT w) : Calls Tryd.prog 7 #[] w fun e w' => e = .returned (.bool true) ∧ Below w.heap.size w w' := by
  have HT : Hid (LT w) := hT
  clear hT
  go_enter Tryd.func7, Tryd.ntmps7
  go_wp2_with fail
  refine (k_put _).mono ?_
  rintro e w1 ⟨A1, c1, rfl, hbl1, hb1⟩
  have HL1 : Hid (BL w1 (fun b => b < w1.heap.size) (.slice A1 9 c1) k9) := hbl1
  have H1 : Hid (At6 w1 w.heap.size 0 kHV) := (At6.new w kHV 26).below hb1 (by simp [alloc_size'])
  have HB1 : Hid (Below w.heap.size w w1) := ((Below.refl _ _).alloc (Nat.le_refl _) _).trans (hb1.mono (by simp [alloc_size']))
  clear hbl1 hb1
  go_wp2_with fail
  refine (k_read _ _ _ HL1.out).mono ?_
  rintro e w2 ⟨rfl, hb2⟩
  have H2 : Hid (At6 w2 w.heap.size 0 kHV) := H1.out.below hb2 H1.out.lt
  have HB2 : Hid (Below w.heap.size w w2) := HB1.out.trans (hb2.mono HB1.out.size)
  clear hb2 HL1 H1 HB1
  go_wp2_with fail
  refine (k_nil _).mono ?_
  rintro e w3 ⟨rfl, hb3⟩
  have H3 : Hid (At6 w3 w.heap.size 0 kHV) := (H2.out.below ((Below.refl _ _).alloc (Nat.le_refl _) _) H2.out.lt).below hb3 (by rw [alloc_size']; have := H2.out.lt; omega)
  have X3 : Hid (At6 w3 w2.heap.size 0 kHV) := (At6.new w2 kHV 26).below hb3 (by rw [alloc_size']; omega)
  have HB3 : Hid (Below w.heap.size w w3) := (HB2.out.alloc HB2.out.size _).trans (hb3.mono (by rw [alloc_size']; have := HB2.out.size; omega))
  have HN : Hid (w.heap.size < w2.heap.size) := H2.out.lt
  clear hb3 H2 HB2
  have hmk : ∀ w, (Instr.makeSlice 29 (.int .i64 9) (.int .i64 9)).run Tryd.prog w = .ok (.slice (some ⟨w.heap.size, 0, none⟩) 9 9) (w.alloc (.cells #[.int .u8 0, .int .u8 0, .int .u8 0, .int .u8 0, .int .u8 0, .int .u8 0, .int .u8 0, .int .u8 0, .int .u8 0] 5)) := make9
  go_wp2_with fail
  refine (k_zero _ _ _ (zero9b _ _)).mono ?_
  rintro e w4 ⟨rfl, hb4⟩
  have L4 : Hid (∀ o o', Below w3.heap.size w3 ((w3.alloc o).alloc o')) := fun o o' => ((Below.refl _ _).alloc (Nat.le_refl _) _).alloc (by rw [alloc_size']; omega) _
  have H4 : Hid (At6 w4 w.heap.size 0 kHV) := (H3.out.below (L4.out _ _) H3.out.lt).below hb4 (Nat.lt_of_lt_of_le H3.out.lt (L4.out _ _).size)
  have X4 : Hid (At6 w4 w2.heap.size 0 kHV) := (X3.out.below (L4.out _ _) X3.out.lt).below hb4 (Nat.lt_of_lt_of_le X3.out.lt (L4.out _ _).size)
  have HB4 : Hid (Below w.heap.size w w4) := HB3.out.trans (((L4.out _ _).trans (hb4.mono (L4.out _ _).size)).mono HB3.out.size)
  clear hb4 H3 X3 HB3 L4 hmk
  obtain ⟨h0, h1, h2, h3, h4, h5⟩ := H4.out
  obtain ⟨x0, x1, x2, x3, x4, x5⟩ := X4.out
  simp only [Nat.zero_add, kHV] at h0 h1 h2 h3 h4 h5 x0 x1 x2 x3 x4 x5
  have hlt : w.heap.size < w4.heap.size := H4.out.lt
  have hlt2 : w2.heap.size < w4.heap.size := X4.out.lt
  go_wp2_with fail
  refine (k_right _).mono ?_
  rintro e w5 ⟨rfl, hb5⟩
  clear h0 h1 h2 h3 h4 h5 x0 x1 x2 x3 x4 x5
  have L5 : Hid (∀ o, Below w4.heap.size w4 (w4.alloc o)) := fun o => (Below.refl _ _).alloc (Nat.le_refl _) _
  have H5 : Hid (At6 w5 w.heap.size 0 kHV) := (H4.out.below (L5.out _) hlt).below hb5 (Nat.lt_of_lt_of_le hlt (L5.out _).size)
  have X5 : Hid (At6 w5 w2.heap.size 0 kHV) := (X4.out.below (L5.out _) hlt2).below hb5 (Nat.lt_of_lt_of_le hlt2 (L5.out _).size)
  have HB5 : Hid (Below w.heap.size w w5) := HB4.out.trans (((L5.out _).trans (hb5.mono (L5.out _).size)).mono HB4.out.size)
  have HT5 : Hid (LT w5) := HT.out.next HB5.out
  obtain ⟨h0, h1, h2, h3, h4, h5⟩ := H5.out
  obtain ⟨x0, x1, x2, x3, x4, x5⟩ := X5.out
  simp only [Nat.zero_add, kHV] at h0 h1 h2 h3 h4 h5 x0 x1 x2 x3 x4 x5
  clear hb5 H4 X4 HB4 L5 HT
  go_wp2_with fail
  refine (k_cost _).mono ?_
  rintro e w6 ⟨rfl, hw6⟩
  replace hw6 := hw6.symm
  subst hw6
  clear h0 h1 h2 h3 h4 h5 x0 x1 x2 x3 x4 x5
  go_wp2_with fail
  refine (k_loads _).mono ?_
  rintro e w6 ⟨rfl, hw6⟩
  replace hw6 := hw6.symm
  subst hw6
  go_wp2_with fail
  refine (k_stores _).mono ?_
  rintro e w6 ⟨rfl, hw6⟩
  replace hw6 := hw6.symm
  subst hw6
  go_wp2_with fail
  refine (k_name _ HT5.out).mono ?_
  rintro e w6 ⟨rfl, hw6⟩
  replace hw6 := hw6.symm
  subst hw6
  go_wp2_with fail
  refine (k_wrong _).mono ?_
  rintro e w6 ⟨rfl, hb6⟩
  have HB6 : Hid (Below w.heap.size w w6) := HB5.out.trans (hb6.mono HB5.out.size)
  clear hb6 HB5 HT5 H5 X5
  go_wp2
  go_ret
  exact ⟨rfl, HB6.out⟩
end Go.Proofs.YtklhnaineeleoaaDoor
