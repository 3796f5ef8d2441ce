/- HostBytes returns true: the strings of two instructions are alike just where they are. -/
import Derived.Test.YtklhnaineeleoaaDoorHstB1
import Derived.Test.YtklhnaineeleoaaDoorHstB2
import Derived.Laws.Strings
namespace Go.Proofs.YtklhnaineeleoaaDoor
open Go.ChangeShapes Go.WideShapes Go.ChangeAt Go.RowKit
set_option linter.unusedVariables false
set_option linter.unusedSimpArgs false

theorem strS_data : ∀ (bs : List Int) (r : ByteArray), (bs.foldl (fun r n => r.push (UInt8.ofNat n.toNat)) r).data.toList = r.data.toList ++ bs.map fun n => UInt8.ofNat n.toNat
  | [], r => by simp
  | x :: l, r => by
    rw [List.foldl_cons, strS_data l]
    simp [ByteArray.push]
theorem strS_list (bs : List Int) : (strS bs).toList = bs.map fun n => UInt8.ofNat n.toNat := by
  rw [ByteArray.toList_eq]
  unfold strS
  rw [strS_data]
  rfl
theorem u8_inj {a b : Int} (ha : 0 ≤ a ∧ a ≤ 255) (hb : 0 ≤ b ∧ b ≤ 255) (h : UInt8.ofNat a.toNat = UInt8.ofNat b.toNat) : a = b := by
  have h2 := congrArg UInt8.toNat h
  simp only [UInt8.toNat_ofNat'] at h2
  omega
theorem map_u8_inj : ∀ {x y : List Int}, okB x → okB y → (x.map fun n => UInt8.ofNat n.toNat) = (y.map fun n => UInt8.ofNat n.toNat) → x = y
  | [], [], _, _, _ => rfl
  | [], _ :: _, _, _, h => by simp at h
  | _ :: _, [], _, _, h => by simp at h
  | a :: x, b :: y, hx, hy, h => by
    simp only [List.map_cons, List.cons.injEq] at h
    rw [u8_inj (hx a List.mem_cons_self) (hy b List.mem_cons_self) h.1, map_u8_inj (fun z hz => hx z (List.mem_cons_of_mem _ hz)) (fun z hz => hy z (List.mem_cons_of_mem _ hz)) h.2]
theorem str_ne {x y : List Int} (hx : okB x) (hy : okB y) (h : x ≠ y) : ((strS x).toList == (strS y).toList) = false := by
  rw [strS_list, strS_list]
  cases e : ((x.map fun n => UInt8.ofNat n.toNat) == (y.map fun n => UInt8.ofNat n.toNat)) with
  | false => rfl
  | true => exact absurd (map_u8_inj hx hy (by simpa using e)) h

theorem right_mov (A v : Int) (h : 0 ≤ A ∧ A ≤ 31) : rightS ⟨1, A, 0, 0, 0, v⟩ = true := by
  have e1 : usedS 1 1 = true := by decide +kernel
  have e2 : usedS 1 2 = false := by decide +kernel
  have e3 : usedS 1 4 = false := by decide +kernel
  have e4 : usedS 1 8 = false := by decide +kernel
  have e5 : usedS 1 16 = true := by decide +kernel
  have e6 : isS 1 = true := by decide +kernel
  have e7 : regOk A true = true := by simp [regOk]; omega
  simp only [rightS, immOk, e1, e2, e3, e4, e5, e6, e7]
  rfl
theorem uses7 (op : Int) (h : 3 ≤ op ∧ op ≤ 16) : usesS op = 7 := by
  unfold usesS
  rw [if_neg (by omega), if_neg (by omega), if_neg (by omega), if_neg (by omega), if_neg (by omega), if_neg (by omega), if_neg (by omega), if_neg (by omega), if_neg (by omega), if_neg (by omega), if_neg (by omega), if_neg (by omega), if_neg (by omega), if_neg (by omega)]
theorem right_three (op D A B : Int) (ho : 3 ≤ op ∧ op ≤ 16) (hd : 0 ≤ D ∧ D ≤ 31) (ha : 0 ≤ A ∧ A ≤ 31) (hb : 0 ≤ B ∧ B ≤ 31) : rightS ⟨op, D, A, B, 0, 0⟩ = true := by
  have u := uses7 op ho
  have e1 : usedS op 1 = true := by unfold usedS; rw [u]; decide +kernel
  have e2 : usedS op 2 = true := by unfold usedS; rw [u]; decide +kernel
  have e3 : usedS op 4 = true := by unfold usedS; rw [u]; decide +kernel
  have e4 : usedS op 8 = false := by unfold usedS; rw [u]; decide +kernel
  have e5 : usedS op 16 = false := by unfold usedS; rw [u]; decide +kernel
  have e6 : isS op = true := by simp [isS]; omega
  have e7 : ∀ r : Int, 0 ≤ r ∧ r ≤ 31 → regOk r true = true := fun r h => by simp [regOk]; omega
  have e8 : (if op = 31 then decide (1 ≤ (0 : Int)) && decide ((0 : Int) ≤ 99) else true) = true := by rw [if_neg (by omega)]
  simp only [rightS, immOk, e1, e2, e3, e4, e5, e6, e7 D hd, e7 A ha, e7 B hb]
  rw [if_neg (by omega)]
  rfl

def strF (op d a b c im : Int) : ByteArray := strS (nineS ⟨op, d, a, b, c, im⟩)
theorem put_str (op d a b c im : Int) (h : Hid (rightS ⟨op, d, a, b, c, im⟩ = true ∧ 0 ≤ im ∧ im ≤ 4294967295)) (W w6 : World) (hb : Below W.heap.size W w6) :
    Calls Tryd.prog 11 #[.agg #[.int .i64 op, .int .i64 d, .int .i64 a, .int .i64 b, .int .i64 c, .int .u32 im]] w6 fun e w' =>
        ∃ A cc, e = .returned (.slice A 9 cc) ∧ (∀ wx, Below w'.heap.size w' wx → (convert 29 9 (.slice A 9 cc)).run Tryd.prog wx = .ok (.string (strF op d a b c im)) wx) ∧ Below w'.heap.size w' w' ∧ Below w6.heap.size w6 w' ∧ Below W.heap.size W w' := by
  have hw : HV.wf ⟨op, d, a, b, c, im⟩ := h.out.2
  have hp := put_c ⟨op, d, a, b, c, im⟩ hw w6
  unfold putS at hp
  rw [h.out.1] at hp
  refine Calls.mono hp ?_
  rintro e w' ⟨A, cc, rfl, ho, hb'⟩
  refine ⟨A, cc, rfl, fun wx hx => ?_, Below.refl _ _, hb', hb.trans (hb'.mono hb.size)⟩
  exact ((BL.own (nine_ok (right_small h.out.1) hw) ho).below hx).str
theorem cost_pos (op : Int) (h : 3 ≤ op ∧ op ≤ 16) : 0 < costS op := by
  rcases (show op = 3 ∨ op = 4 ∨ op = 5 ∨ op = 6 ∨ op = 7 ∨ op = 8 ∨ op = 9 ∨ op = 10 ∨ op = 11 ∨ op = 12 ∨ op = 13 ∨ op = 14 ∨ op = 15 ∨ op = 16 by omega) with rfl | rfl | rfl | rfl | rfl | rfl | rfl | rfl | rfl | rfl | rfl | rfl | rfl | rfl <;> decide +kernel
theorem loads_none (op : Int) (h : 3 ≤ op ∧ op ≤ 16) : loadsS op = 0 := by
  unfold loadsS
  rw [if_neg (by omega), if_neg (by omega), if_neg (by omega)]
theorem stores_none (op : Int) (h : 3 ≤ op ∧ op ≤ 16) : storesS op = 0 := by
  unfold storesS
  rw [if_neg (by omega), if_neg (by omega), if_neg (by omega)]

theorem bytes_walk (o p d a b v u : Int) (ho : 0 ≤ o ∧ o ≤ 255) (hp : 0 ≤ p ∧ p ≤ 255) (hd : 0 ≤ d ∧ d ≤ 255) (ha : 0 ≤ a ∧ a ≤ 255) (hb : 0 ≤ b ∧ b ≤ 255) (hv : 0 ≤ v ∧ v ≤ 4294967295) (hu : 0 ≤ u ∧ u ≤ 4294967295) (w : World) (hT : LT w) :
    Calls Tryd.prog 6 #[.int .u8 o, .int .u8 p, .int .u8 d, .int .u8 a, .int .u8 b, .int .u32 v, .int .u32 u] w fun e w' => e = .returned (.bool true) ∧ Below w.heap.size w w' := by
  obtain ⟨op1, e1⟩ : ∃ x, o % 14 + 3 = x := ⟨_, rfl⟩
  obtain ⟨op2, e2⟩ : ∃ x, p % 14 + 3 = x := ⟨_, rfl⟩
  obtain ⟨D, e3⟩ : ∃ x, d % 32 = x := ⟨_, rfl⟩
  obtain ⟨A, e4⟩ : ∃ x, a % 32 = x := ⟨_, rfl⟩
  obtain ⟨B, e5⟩ : ∃ x, b % 32 = x := ⟨_, rfl⟩
  have hA : 0 ≤ A ∧ A ≤ 31 := by omega
  have hD : 0 ≤ D ∧ D ≤ 31 := by omega
  have hB : 0 ≤ B ∧ B ≤ 31 := by omega
  have h1 : 3 ≤ op1 ∧ op1 ≤ 16 := by omega
  have h2 : 3 ≤ op2 ∧ op2 ≤ 16 := by omega
  have r1 := right_three op1 D A B h1 hD hA hB
  have r2 := right_mov A v hA
  have r3 := right_mov A u hA
  have r4 := right_three op2 D A B h2 hD hA hB
  have q1 : ((strF 1 A 0 0 0 v).toList == (strF 1 A 0 0 0 u).toList) = (v == u) := by
    by_cases h : v = u
    · subst h
      simp
    · rw [show (v == u) = false by simpa using h]
      refine str_ne (nine_ok (right_small r2) hv) (nine_ok (right_small r3) hu) fun e => h ?_
      simp only [nineS, List.cons.injEq, and_true, true_and] at e
      omega
  have CC : Hid (∀ (W w6 : World), Below W.heap.size W w6 → Calls Tryd.prog 15 #[.int .i64 op1] w6 fun e w' => e = .returned (.int .i64 (costS op1)) ∧ Below w6.heap.size w6 w' ∧ Below W.heap.size W w') := fun W w6 hb => (cost_c op1 w6).mono fun e w' ⟨x1, x2⟩ => by subst x2; exact ⟨x1, Below.refl _ _, hb⟩
  have CL : Hid (∀ (W w6 : World), Below W.heap.size W w6 → Calls Tryd.prog 16 #[.int .i64 op1] w6 fun e w' => e = .returned (.int .i64 0) ∧ Below w6.heap.size w6 w' ∧ Below W.heap.size W w') := fun W w6 hb => (loads_c op1 w6).mono fun e w' ⟨x1, x2⟩ => by subst x2; rw [loads_none op1 h1] at x1; exact ⟨x1, Below.refl _ _, hb⟩
  have CS : Hid (∀ (W w6 : World), Below W.heap.size W w6 → Calls Tryd.prog 17 #[.int .i64 op1] w6 fun e w' => e = .returned (.int .i64 0) ∧ Below w6.heap.size w6 w' ∧ Below W.heap.size W w') := fun W w6 hb => (stores_c op1 w6).mono fun e w' ⟨x1, x2⟩ => by subst x2; rw [stores_none op1 h1] at x1; exact ⟨x1, Below.refl _ _, hb⟩
  by_cases hop : op1 = op2
  · subst hop
    exact bytes_same o p d a b v u op1 D A B (costS op1) strF (v == u) w ho.1 ho.2 hp.1 hp.2 hd.1 hd.2 ha.1 ha.2 hb.1 hb.2 hv.1 hv.2 hu.1 hu.2 e1 e2 e3 e4 e5 (known_c w hT) put_str ⟨r1, by decide, by decide⟩ ⟨r2, hv⟩ ⟨r3, hu⟩ q1 rfl CC (cost_pos op1 h1) CL CS
  · have q3 : ((strF op1 D A B 0 0).toList == (strF op2 D A B 0 0).toList) = false := by
      refine str_ne (nine_ok (right_small r1) ⟨Int.le_refl _, by show (0 : Int) ≤ _; decide⟩) (nine_ok (right_small r4) ⟨Int.le_refl _, by show (0 : Int) ≤ _; decide⟩) fun e => hop ?_
      simp only [nineS, List.cons.injEq] at e
      exact e.1
    exact bytes_diff o p d a b v u op1 op2 D A B (costS op1) strF (v == u) w ho.1 ho.2 hp.1 hp.2 hd.1 hd.2 ha.1 ha.2 hb.1 hb.2 hv.1 hv.2 hu.1 hu.2 e1 e2 e3 e4 e5 (known_c w hT) put_str ⟨r1, by decide, by decide⟩ ⟨r2, hv⟩ ⟨r3, hu⟩ ⟨r4, by decide, by decide⟩ q1 rfl q3 (by simpa using hop) CC (cost_pos op1 h1) CL CS
end Go.Proofs.YtklhnaineeleoaaDoor
