/- Stage 7: known. -/
import Derived.Test.YtplhblhopaheeaaGreatDoorYc
import Derived.Test.YtplhblhopaheeaaGreatDoorRgD
namespace Go.Proofs.YtplhblhopaheeaaGreatDoor
open Go.ChangeShapes Go.WideShapes Go.ChangeAt Go.RowKit
set_option linter.unusedVariables false
set_option linter.unusedSimpArgs false

set_option maxHeartbeats 20000000 in
set_option maxRecDepth 100000 in
theorem rclass_c (o : Int) (w : World) : Calls Tryz.prog 51 #[.int .i64 o] w fun e w' => e = .returned (.int .i64 (classS o)) ∧ w' = w := by
  rcases (show (o ≤ 0) ∨ (1 ≤ o ∧ o ≤ 20) ∨ (21 ≤ o ∧ o ≤ 29) ∨ (30 ≤ o ∧ o ≤ 42) ∨ (o = 43) ∨ (44 ≤ o ∧ o ≤ 51) ∨ (o = 52) ∨ (o = 53) ∨ (54 ≤ o ∧ o ≤ 59) ∨ (60 ≤ o ∧ o ≤ 65) ∨ (66 ≤ o) by omega) with h | h | h | h | h | h | h | h | h | h | h
  · have hs : classS o = 0 := by
      unfold classS
      repeat' split
      all_goals omega
    rw [hs]
    clear hs
    have g1 : decide (1 ≤ o) = false := by simp; omega
    have g21 : decide (21 ≤ o) = false := by simp; omega
    have g30 : decide (30 ≤ o) = false := by simp; omega
    have g44 : decide (44 ≤ o) = false := by simp; omega
    have g54 : decide (54 ≤ o) = false := by simp; omega
    have g60 : decide (60 ≤ o) = false := by simp; omega
    have l20 : decide (o ≤ 20) = true := by simp; omega
    have l29 : decide (o ≤ 29) = true := by simp; omega
    have l42 : decide (o ≤ 42) = true := by simp; omega
    have l51 : decide (o ≤ 51) = true := by simp; omega
    have l59 : decide (o ≤ 59) = true := by simp; omega
    have l66 : decide (o < 66) = true := by simp; omega
    have e43 : (o == 43) = false := by simp; omega
    have e52 : (o == 52) = false := by simp; omega
    have e53 : (o == 53) = false := by simp; omega
    go_enter Tryz.func51, Tryz.ntmps51
    go_wp2
    go_ret
    exact ⟨rfl, rfl⟩
  · have hs : classS o = 1 := by
      unfold classS
      repeat' split
      all_goals omega
    rw [hs]
    clear hs
    have g1 : decide (1 ≤ o) = true := by simp; omega
    have g21 : decide (21 ≤ o) = false := by simp; omega
    have g30 : decide (30 ≤ o) = false := by simp; omega
    have g44 : decide (44 ≤ o) = false := by simp; omega
    have g54 : decide (54 ≤ o) = false := by simp; omega
    have g60 : decide (60 ≤ o) = false := by simp; omega
    have l20 : decide (o ≤ 20) = true := by simp; omega
    have l29 : decide (o ≤ 29) = true := by simp; omega
    have l42 : decide (o ≤ 42) = true := by simp; omega
    have l51 : decide (o ≤ 51) = true := by simp; omega
    have l59 : decide (o ≤ 59) = true := by simp; omega
    have l66 : decide (o < 66) = true := by simp; omega
    have e43 : (o == 43) = false := by simp; omega
    have e52 : (o == 52) = false := by simp; omega
    have e53 : (o == 53) = false := by simp; omega
    go_enter Tryz.func51, Tryz.ntmps51
    go_wp2
    go_ret
    exact ⟨rfl, rfl⟩
  · have hs : classS o = 2 := by
      unfold classS
      repeat' split
      all_goals omega
    rw [hs]
    clear hs
    have g1 : decide (1 ≤ o) = true := by simp; omega
    have g21 : decide (21 ≤ o) = true := by simp; omega
    have g30 : decide (30 ≤ o) = false := by simp; omega
    have g44 : decide (44 ≤ o) = false := by simp; omega
    have g54 : decide (54 ≤ o) = false := by simp; omega
    have g60 : decide (60 ≤ o) = false := by simp; omega
    have l20 : decide (o ≤ 20) = false := by simp; omega
    have l29 : decide (o ≤ 29) = true := by simp; omega
    have l42 : decide (o ≤ 42) = true := by simp; omega
    have l51 : decide (o ≤ 51) = true := by simp; omega
    have l59 : decide (o ≤ 59) = true := by simp; omega
    have l66 : decide (o < 66) = true := by simp; omega
    have e43 : (o == 43) = false := by simp; omega
    have e52 : (o == 52) = false := by simp; omega
    have e53 : (o == 53) = false := by simp; omega
    go_enter Tryz.func51, Tryz.ntmps51
    go_wp2
    go_ret
    exact ⟨rfl, rfl⟩
  · have hs : classS o = 3 := by
      unfold classS
      repeat' split
      all_goals omega
    rw [hs]
    clear hs
    have g1 : decide (1 ≤ o) = true := by simp; omega
    have g21 : decide (21 ≤ o) = true := by simp; omega
    have g30 : decide (30 ≤ o) = true := by simp; omega
    have g44 : decide (44 ≤ o) = false := by simp; omega
    have g54 : decide (54 ≤ o) = false := by simp; omega
    have g60 : decide (60 ≤ o) = false := by simp; omega
    have l20 : decide (o ≤ 20) = false := by simp; omega
    have l29 : decide (o ≤ 29) = false := by simp; omega
    have l42 : decide (o ≤ 42) = true := by simp; omega
    have l51 : decide (o ≤ 51) = true := by simp; omega
    have l59 : decide (o ≤ 59) = true := by simp; omega
    have l66 : decide (o < 66) = true := by simp; omega
    have e43 : (o == 43) = false := by simp; omega
    have e52 : (o == 52) = false := by simp; omega
    have e53 : (o == 53) = false := by simp; omega
    go_enter Tryz.func51, Tryz.ntmps51
    go_wp2
    go_ret
    exact ⟨rfl, rfl⟩
  · have hs : classS o = 1 := by
      unfold classS
      repeat' split
      all_goals omega
    rw [hs]
    clear hs
    have g1 : decide (1 ≤ o) = true := by simp; omega
    have g21 : decide (21 ≤ o) = true := by simp; omega
    have g30 : decide (30 ≤ o) = true := by simp; omega
    have g44 : decide (44 ≤ o) = false := by simp; omega
    have g54 : decide (54 ≤ o) = false := by simp; omega
    have g60 : decide (60 ≤ o) = false := by simp; omega
    have l20 : decide (o ≤ 20) = false := by simp; omega
    have l29 : decide (o ≤ 29) = false := by simp; omega
    have l42 : decide (o ≤ 42) = false := by simp; omega
    have l51 : decide (o ≤ 51) = true := by simp; omega
    have l59 : decide (o ≤ 59) = true := by simp; omega
    have l66 : decide (o < 66) = true := by simp; omega
    have e43 : (o == 43) = true := by simp; omega
    have e52 : (o == 52) = false := by simp; omega
    have e53 : (o == 53) = false := by simp; omega
    go_enter Tryz.func51, Tryz.ntmps51
    go_wp2
    go_ret
    exact ⟨rfl, rfl⟩
  · have hs : classS o = 4 := by
      unfold classS
      repeat' split
      all_goals omega
    rw [hs]
    clear hs
    have g1 : decide (1 ≤ o) = true := by simp; omega
    have g21 : decide (21 ≤ o) = true := by simp; omega
    have g30 : decide (30 ≤ o) = true := by simp; omega
    have g44 : decide (44 ≤ o) = true := by simp; omega
    have g54 : decide (54 ≤ o) = false := by simp; omega
    have g60 : decide (60 ≤ o) = false := by simp; omega
    have l20 : decide (o ≤ 20) = false := by simp; omega
    have l29 : decide (o ≤ 29) = false := by simp; omega
    have l42 : decide (o ≤ 42) = false := by simp; omega
    have l51 : decide (o ≤ 51) = true := by simp; omega
    have l59 : decide (o ≤ 59) = true := by simp; omega
    have l66 : decide (o < 66) = true := by simp; omega
    have e43 : (o == 43) = false := by simp; omega
    have e52 : (o == 52) = false := by simp; omega
    have e53 : (o == 53) = false := by simp; omega
    go_enter Tryz.func51, Tryz.ntmps51
    go_wp2
    go_ret
    exact ⟨rfl, rfl⟩
  · have hs : classS o = 5 := by
      unfold classS
      repeat' split
      all_goals omega
    rw [hs]
    clear hs
    have g1 : decide (1 ≤ o) = true := by simp; omega
    have g21 : decide (21 ≤ o) = true := by simp; omega
    have g30 : decide (30 ≤ o) = true := by simp; omega
    have g44 : decide (44 ≤ o) = true := by simp; omega
    have g54 : decide (54 ≤ o) = false := by simp; omega
    have g60 : decide (60 ≤ o) = false := by simp; omega
    have l20 : decide (o ≤ 20) = false := by simp; omega
    have l29 : decide (o ≤ 29) = false := by simp; omega
    have l42 : decide (o ≤ 42) = false := by simp; omega
    have l51 : decide (o ≤ 51) = false := by simp; omega
    have l59 : decide (o ≤ 59) = true := by simp; omega
    have l66 : decide (o < 66) = true := by simp; omega
    have e43 : (o == 43) = false := by simp; omega
    have e52 : (o == 52) = true := by simp; omega
    have e53 : (o == 53) = false := by simp; omega
    go_enter Tryz.func51, Tryz.ntmps51
    go_wp2
    go_ret
    exact ⟨rfl, rfl⟩
  · have hs : classS o = 5 := by
      unfold classS
      repeat' split
      all_goals omega
    rw [hs]
    clear hs
    have g1 : decide (1 ≤ o) = true := by simp; omega
    have g21 : decide (21 ≤ o) = true := by simp; omega
    have g30 : decide (30 ≤ o) = true := by simp; omega
    have g44 : decide (44 ≤ o) = true := by simp; omega
    have g54 : decide (54 ≤ o) = false := by simp; omega
    have g60 : decide (60 ≤ o) = false := by simp; omega
    have l20 : decide (o ≤ 20) = false := by simp; omega
    have l29 : decide (o ≤ 29) = false := by simp; omega
    have l42 : decide (o ≤ 42) = false := by simp; omega
    have l51 : decide (o ≤ 51) = false := by simp; omega
    have l59 : decide (o ≤ 59) = true := by simp; omega
    have l66 : decide (o < 66) = true := by simp; omega
    have e43 : (o == 43) = false := by simp; omega
    have e52 : (o == 52) = false := by simp; omega
    have e53 : (o == 53) = true := by simp; omega
    go_enter Tryz.func51, Tryz.ntmps51
    go_wp2
    go_ret
    exact ⟨rfl, rfl⟩
  · have hs : classS o = 6 := by
      unfold classS
      repeat' split
      all_goals omega
    rw [hs]
    clear hs
    have g1 : decide (1 ≤ o) = true := by simp; omega
    have g21 : decide (21 ≤ o) = true := by simp; omega
    have g30 : decide (30 ≤ o) = true := by simp; omega
    have g44 : decide (44 ≤ o) = true := by simp; omega
    have g54 : decide (54 ≤ o) = true := by simp; omega
    have g60 : decide (60 ≤ o) = false := by simp; omega
    have l20 : decide (o ≤ 20) = false := by simp; omega
    have l29 : decide (o ≤ 29) = false := by simp; omega
    have l42 : decide (o ≤ 42) = false := by simp; omega
    have l51 : decide (o ≤ 51) = false := by simp; omega
    have l59 : decide (o ≤ 59) = true := by simp; omega
    have l66 : decide (o < 66) = true := by simp; omega
    have e43 : (o == 43) = false := by simp; omega
    have e52 : (o == 52) = false := by simp; omega
    have e53 : (o == 53) = false := by simp; omega
    go_enter Tryz.func51, Tryz.ntmps51
    go_wp2
    go_ret
    exact ⟨rfl, rfl⟩
  · have hs : classS o = 7 := by
      unfold classS
      repeat' split
      all_goals omega
    rw [hs]
    clear hs
    have g1 : decide (1 ≤ o) = true := by simp; omega
    have g21 : decide (21 ≤ o) = true := by simp; omega
    have g30 : decide (30 ≤ o) = true := by simp; omega
    have g44 : decide (44 ≤ o) = true := by simp; omega
    have g54 : decide (54 ≤ o) = true := by simp; omega
    have g60 : decide (60 ≤ o) = true := by simp; omega
    have l20 : decide (o ≤ 20) = false := by simp; omega
    have l29 : decide (o ≤ 29) = false := by simp; omega
    have l42 : decide (o ≤ 42) = false := by simp; omega
    have l51 : decide (o ≤ 51) = false := by simp; omega
    have l59 : decide (o ≤ 59) = false := by simp; omega
    have l66 : decide (o < 66) = true := by simp; omega
    have e43 : (o == 43) = false := by simp; omega
    have e52 : (o == 52) = false := by simp; omega
    have e53 : (o == 53) = false := by simp; omega
    go_enter Tryz.func51, Tryz.ntmps51
    go_wp2
    go_ret
    exact ⟨rfl, rfl⟩
  · have hs : classS o = 0 := by
      unfold classS
      repeat' split
      all_goals omega
    rw [hs]
    clear hs
    have g1 : decide (1 ≤ o) = true := by simp; omega
    have g21 : decide (21 ≤ o) = true := by simp; omega
    have g30 : decide (30 ≤ o) = true := by simp; omega
    have g44 : decide (44 ≤ o) = true := by simp; omega
    have g54 : decide (54 ≤ o) = true := by simp; omega
    have g60 : decide (60 ≤ o) = true := by simp; omega
    have l20 : decide (o ≤ 20) = false := by simp; omega
    have l29 : decide (o ≤ 29) = false := by simp; omega
    have l42 : decide (o ≤ 42) = false := by simp; omega
    have l51 : decide (o ≤ 51) = false := by simp; omega
    have l59 : decide (o ≤ 59) = false := by simp; omega
    have l66 : decide (o < 66) = false := by simp; omega
    have e43 : (o == 43) = false := by simp; omega
    have e52 : (o == 52) = false := by simp; omega
    have e53 : (o == 53) = false := by simp; omega
    go_enter Tryz.func51, Tryz.ntmps51
    go_wp2
    go_ret
    exact ⟨rfl, rfl⟩
theorem il_blk {w : World} {g : Nat} {xs : List Int} (h : Blk w g (ic xs)) : IL w (.slice (some ⟨g, 0, none⟩) xs.length xs.length) xs := ⟨_, _, rfl, fun j x hx => ⟨g, 0, rfl, by
  rw [Nat.zero_add, h.cell]
  simp [ic, hx]⟩⟩
theorem SH.sliceB {P : Program} {M : Zn} {w0 w : World} {L : List (Nat × Cel)} {ops : Array Oper} {rest : List Oper} {o : Oper} {a : Act} {Q : Exit → Act → World → Prop} (S : SH M w0 w L) (ty n : Nat) (xs : Array (Nat × Operand)) (ho : o.op = .buildSlice ty n xs) (cs : List Value) (e : TypeId)
    (hr : (execOp a.eval o).run P w = .ok (.value (.slice (some ⟨w.heap.size, 0, none⟩) n n)) (w.alloc (.cells cs.toArray e))) (hw : Region.wanted o (yielded ops a.tmps) = true)
    (h : ∀ g w1, SH M w0 w1 ((g, Cel.any cs) :: L) → Below w.heap.size w w1 → wpList P ops Q rest (a.put o.dst (.slice (some ⟨g, 0, none⟩) n n)) w1) : wpList P ops Q (o :: rest) a w :=
  wpList_step fun K hK => by
    rw [if_pos hw]
    unfold Oper.wp
    rw [hr]
    exact hK _ _ (h _ _ (S.new (Cel.any cs) e) ((Below.refl _ _).alloc (Nat.le_refl _) _))
def I1 : IV := ⟨5, false, true, 14, 0, 1, 2, 0, 0, false, 0, 0, 0, false, false⟩
def I2 : IV := ⟨52, false, false, 14, 0, 13, 0, 0, 0, false, 0, 0, 32769, true, false⟩
theorem dec1 : (decN 6280 false).iv = I1 := by kernel_rfl
theorem dec2 : (decN 48385 false).iv = I2 := by kernel_rfl
theorem rd1 : readsI I1 0 = [1, 2] := by decide +kernel
theorem wr1 : writesI I1 0 = [0] := by decide +kernel
theorem wr2 : writesI I2 32769 = [0, 13, 15] := by decide +kernel
set_option maxHeartbeats 8000000 in
set_option maxRecDepth 100000 in
theorem known_c (w : World) (hT : NT w) : Calls Tryz.prog 5 #[] w fun e w' => e = .returned (.bool true) ∧ Below w.heap.size w w' := by
  have HT : Hid (NT w) := hT
  have D1 : Hid (∀ w1, Calls Tryz.prog 7 #[.int .u16 6280, .bool false] w1 fun e w' => e = .returned I1.val ∧ Below w1.heap.size w1 w') := fun w1 => by
    have h := rdecode_c 6280 (by decide) false w1
    unfold Says at h
    rw [dec1] at h
    exact h
  have D2 : Hid (∀ w1, Calls Tryz.prog 7 #[.int .u16 48385, .bool false] w1 fun e w' => e = .returned I2.val ∧ Below w1.heap.size w1 w') := fun w1 => by
    have h := rdecode_c 48385 (by decide) false w1
    unfold Says at h
    rw [dec2] at h
    exact h
  have CN : Hid (∀ w1, NT w1 → Calls Tryz.prog 22 #[.int .i64 5] w1 fun e w' => e = .returned (.string ⟨#[97, 100, 100]⟩) ∧ w' = w1) := fun w1 h => name_c 5 w1 h
  have CC : Hid (∀ w1, Calls Tryz.prog 23 #[.int .i64 52] w1 fun e w' => e = .returned (.int .i64 5) ∧ w' = w1) := fun w1 => class_c 52 w1
  have R1 : Hid (∀ w1, Calls Tryz.prog 20 #[I1.val] w1 fun e w' => ∃ u, e = .returned u ∧ IL w' u [1, 2] ∧ Below w1.heap.size w1 w') := fun w1 => by
    have h := reads_c I1 0 rfl (by decide) w1
    rw [rd1] at h
    exact h
  have W1 : Hid (∀ w1, Calls Tryz.prog 17 #[(Cel.iv I1).val] w1 fun e w' => ∃ u, e = .returned u ∧ IL w' u [0] ∧ Below w1.heap.size w1 w') := fun w1 => by
    have h := writes_c I1 0 rfl (by decide) w1
    rw [wr1] at h
    exact h
  have W2 : Hid (∀ w1, Calls Tryz.prog 17 #[(Cel.iv I2).val] w1 fun e w' => ∃ u, e = .returned u ∧ IL w' u [0, 13, 15] ∧ Below w1.heap.size w1 w') := fun w1 => by
    have h := writes_c I2 32769 rfl (by decide) w1
    rw [wr2] at h
    exact h
  have C1 : Hid (∀ w1, Calls Tryz.prog 19 #[I1.val] w1 fun e w' => e = .returned (.int .i64 15) ∧ Below w1.heap.size w1 w') := fun w1 => sets_c I1 w1
  have C2 : Hid (∀ w1, Calls Tryz.prog 25 #[I1.val] w1 fun e w' => e = .returned (.bool false) ∧ Below w1.heap.size w1 w') := fun w1 => (usesI_c I1 w1).mono fun e w' h => ⟨h.1, by rw [h.2]; exact low_one _ _⟩
  have C3 : Hid (∀ w1, Calls Tryz.prog 26 #[I1.val] w1 fun e w' => e = .returned (.int .u32 2) ∧ Below w1.heap.size w1 w') := fun w1 => (size_c I1 w1).mono fun e w' h => ⟨h.1, by rw [h.2]; exact low_one _ _⟩
  have C4 : Hid (∀ w1, Calls Tryz.prog 27 #[I2.val] w1 fun e w' => e = .returned (.bool true) ∧ Below w1.heap.size w1 w') := fun w1 => branches_c I2 32769 rfl (by decide) w1
  have C5 : Hid (∀ w1, Calls Tryz.prog 28 #[I2.val] w1 fun e w' => e = .returned (.bool true) ∧ Below w1.heap.size w1 w') := fun w1 => (loadsI_c I2 w1).mono fun e w' h => ⟨h.1, by rw [h.2]; exact low_one _ _⟩
  have C6 : Hid (∀ w1, Calls Tryz.prog 29 #[I2.val] w1 fun e w' => e = .returned (.bool false) ∧ Below w1.heap.size w1 w') := fun w1 => (storesI_c I2 w1).mono fun e w' h => ⟨h.1, by rw [h.2]; exact low_one _ _⟩
  clear hT
  go_enter Tryz.func5, Tryz.ntmps5
  have S := SH.start w
  go_wp2_with (first
    | (go_at_call 7; first | ((with_reducible refine (D1.out _).mono ?_); rintro e wf ⟨rfl, hbf⟩; replace S := S.below hbf; clear hbf) | ((with_reducible refine (D2.out _).mono ?_); rintro e wf ⟨rfl, hbf⟩; replace S := S.below hbf; clear hbf))
    | ((with_reducible refine wpl_isDst 1 ?_); refine SH.alloc (L := []) S rfl 28 rfl (Cel.iv IV.zero) zeroIV ?_; clear S; intro b1 w1 S)
    | ((with_reducible refine wpl_isDst 2 ?_); refine S.alloc rfl 28 rfl (Cel.iv IV.zero) zeroIV ?_; clear S; intro b2 w2 S)
    | ((with_reducible refine wpl_isStoreAt 1 ?_); refine S.storeAll rfl 28 _ _ rfl b1 (Cel.iv I1) rfl rfl 0 _ rfl rfl (one_iv _) (szIV _) ?_; clear S; intro w3 S; simp only [List.set_cons_zero, List.set_cons_succ] at S)
    | ((with_reducible refine wpl_isStoreAt 2 ?_); refine S.storeAll rfl 28 _ _ rfl b2 (Cel.iv I2) rfl rfl 0 _ rfl rfl (one_iv _) (szIV _) ?_; clear S; intro w3 S; simp only [List.set_cons_zero, List.set_cons_succ] at S)
    | (go_at_call 22; refine (CN.out _ (HT.out.next S.low)).mono ?_; rintro e wf ⟨rfl, rfl⟩)
    | ((with_reducible refine wpl_isDst 6 ?_); refine wpl_dst 6 rfl (.bool true) (by kernel_rfl) rfl ?_)
    | (go_at_call 23; refine (CC.out _).mono ?_; rintro e wf ⟨rfl, rfl⟩)
    | ((with_reducible refine wpl_isDst 14 ?_); refine S.ldAll 28 _ rfl b1 rfl 1 (Cel.iv I1) rfl _ Tryz.underlying28 rfl (szIV _) rfl ?_)
    | (go_at_call 20; refine (R1.out _).mono ?_; rintro e wf ⟨u15, rfl, hil, hbf⟩; replace S := S.below hbf; have HL15 : Hid (IL wf u15 [1, 2]) := hil; clear hil hbf)
    | ((with_reducible refine wpl_isDst 16 ?_); refine S.sliceB 51 2 _ rfl (ic [1, 2]) 3 (by kernel_rfl) rfl ?_; clear S; intro g16 w16 S hbs; have HB16 : Hid (IL w16 u15 [1, 2]) := IL.below HL15.out hbs; have HG16 : Hid (IL w16 (.slice (some ⟨g16, 0, none⟩) 2 2) [1, 2]) := il_blk (S.at (i := 0) rfl).1; clear hbs)
    | ((with_reducible refine wpl_isDst 20 ?_); refine S.ldAll 28 _ rfl b1 rfl 2 (Cel.iv I1) rfl _ Tryz.underlying28 rfl (szIV _) rfl ?_)
    | ((with_reducible refine wpl_isDst 22 ?_); refine S.sliceB 51 1 _ rfl (ic [0]) 3 (by kernel_rfl) rfl ?_; clear S; intro g22 w22 S hbs; have HB22 : Hid (IL w22 u21 [0]) := IL.below HL21.out hbs; have HG22 : Hid (IL w22 (.slice (some ⟨g22, 0, none⟩) 1 1) [0]) := il_blk (S.at (i := 0) rfl).1; clear hbs)
    | ((with_reducible refine wpl_isDst 26 ?_); refine S.ldAll 28 _ rfl b1 rfl 3 (Cel.iv I1) rfl _ Tryz.underlying28 rfl (szIV _) rfl ?_)
    | ((with_reducible refine wpl_isDst 31 ?_); refine S.ldAll 28 _ rfl b1 rfl 3 (Cel.iv I1) rfl _ Tryz.underlying28 rfl (szIV _) rfl ?_)
    | ((with_reducible refine wpl_isDst 36 ?_); refine S.ldAll 28 _ rfl b1 rfl 3 (Cel.iv I1) rfl _ Tryz.underlying28 rfl (szIV _) rfl ?_)
    | ((with_reducible refine wpl_isDst 41 ?_); refine S.ldAll 28 _ rfl b2 rfl 2 (Cel.iv I2) rfl _ Tryz.underlying28 rfl (szIV _) rfl ?_)
    | ((with_reducible refine wpl_isDst 45 ?_); refine S.ldAll 28 _ rfl b2 rfl 2 (Cel.iv I2) rfl _ Tryz.underlying28 rfl (szIV _) rfl ?_)
    | ((with_reducible refine wpl_isDst 49 ?_); refine S.ldAll 28 _ rfl b2 rfl 2 (Cel.iv I2) rfl _ Tryz.underlying28 rfl (szIV _) rfl ?_)
    | ((with_reducible refine wpl_isDst 54 ?_); refine S.ldAll 28 _ rfl b2 rfl 2 (Cel.iv I2) rfl _ Tryz.underlying28 rfl (szIV _) rfl ?_)
    | ((with_reducible refine wpl_isDst 56 ?_); refine S.sliceB 51 3 _ rfl (ic [0, 13, 15]) 3 (by kernel_rfl) rfl ?_; clear S; intro g56 w56 S hbs; have HB56 : Hid (IL w56 u55 [0, 13, 15]) := IL.below HL55.out hbs; have HG56 : Hid (IL w56 (.slice (some ⟨g56, 0, none⟩) 3 3) [0, 13, 15]) := il_blk (S.at (i := 0) rfl).1; clear hbs)
    | (go_at_call 17; first | ((with_reducible refine (W1.out _).mono ?_); rintro e wf ⟨u21, rfl, hil, hbf⟩; replace S := S.below hbf; have HL21 : Hid (IL wf u21 [0]) := hil; clear hil hbf) | ((with_reducible refine (W2.out _).mono ?_); rintro e wf ⟨u55, rfl, hil, hbf⟩; replace S := S.below hbf; have HL55 : Hid (IL wf u55 [0, 13, 15]) := hil; clear hil hbf))
    | (go_at_call 24; first | (refine (ints_c [0, 13, 15] _ _ _ HB56.out HG56.out (by decide)).mono ?_; rintro e wf ⟨rfl, hbf⟩; replace S := S.below hbf; clear hbf) | (refine (ints_c [0] _ _ _ HB22.out HG22.out (by decide)).mono ?_; rintro e wf ⟨rfl, hbf⟩; replace S := S.below hbf; clear hbf) | (refine (ints_c [1, 2] _ _ _ HB16.out HG16.out (by decide)).mono ?_; rintro e wf ⟨rfl, hbf⟩; replace S := S.below hbf; clear hbf))
    | (go_at_call 19; refine (C1.out _).mono ?_; rintro e wf ⟨rfl, hbf⟩; replace S := S.below hbf; clear hbf)
    | (go_at_call 25; refine (C2.out _).mono ?_; rintro e wf ⟨rfl, hbf⟩; replace S := S.below hbf; clear hbf)
    | (go_at_call 26; refine (C3.out _).mono ?_; rintro e wf ⟨rfl, hbf⟩; replace S := S.below hbf; clear hbf)
    | (go_at_call 27; refine (C4.out _).mono ?_; rintro e wf ⟨rfl, hbf⟩; replace S := S.below hbf; clear hbf)
    | (go_at_call 28; refine (C5.out _).mono ?_; rintro e wf ⟨rfl, hbf⟩; replace S := S.below hbf; clear hbf)
    | (go_at_call 29; refine (C6.out _).mono ?_; rintro e wf ⟨rfl, hbf⟩; replace S := S.below hbf; clear hbf)
    )
  go_ret
  exact ⟨rfl, S.low⟩
end Go.Proofs.YtplhblhopaheeaaGreatDoor
