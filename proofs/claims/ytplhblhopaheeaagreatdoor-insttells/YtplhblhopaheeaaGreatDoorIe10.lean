/- Stage 9: InstTells' own walk, over whatever decoders tell fitting instructions -/
import Derived.Test.YtplhblhopaheeaaGreatDoorYe
import Derived.Test.YtplhblhopaheeaaGreatDoorYa
namespace Go.Proofs.YtplhblhopaheeaaGreatDoor
open Go.ChangeShapes Go.WideShapes Go.ChangeAt Go.RowKit
set_option linter.unusedVariables false
set_option linter.unusedSimpArgs false
set_option maxHeartbeats 20000000
set_option maxRecDepth 100000

theorem SH.sliceF {P : Program} {M : Zn} {w0 w : World} {L : List (Nat × Cel)} {ops : Array Oper} {rest : List Oper} {o : Oper} {a : Act} {Q : Exit → Act → World → Prop} (S : SH M w0 w L) (ty n : Nat) (xs : Array (Nat × Operand)) (ho : o.op = .buildSlice ty n xs) (cs : List Value) (e : TypeId)
    (hr : (execOp a.eval o).run P w = .ok (.value (.slice (some ⟨w.heap.size, 0, none⟩) n n)) (w.alloc (.cells cs.toArray e))) (hw : Region.wanted o (yielded ops a.tmps) = true)
    (h : ∀ g w1, SH M w0 w1 ((g, Cel.any cs) :: L) → Below w.heap.size w w1 → wpList P ops Q rest (a.put o.dst (.slice (some ⟨g, 0, none⟩) n n)) w1) : wpList P ops Q (o :: rest) a w :=
  wpList_step fun K hK => by
    rw [if_pos hw]
    unfold Oper.wp
    rw [hr]
    exact hK _ _ (h _ _ (S.new (Cel.any cs) e) ((Below.refl _ _).alloc (Nat.le_refl _) _))
/-- A load of a whole row amid a block. -/
theorem wpl_mid {P : Program} {w : World} {ops : Array Oper} {rest : List Oper} {o : Oper} {a : Act} {Q : Exit → Act → World → Prop} (b j : Nat) (cs : List Value) (hr : w.rangeAt b j cs) (ty : TypeId) (x : Operand) (ho : o.op = .load ty x) (hx : a.eval x = .pointer (some ⟨b, j, none⟩))
    (d : TypeDesc) (hu : P.underlying ty = some d) (hd : d.isRow = true) (hi : (P.info? ty).map (·.size) = some cs.length) (hw : Region.wanted o (yielded ops a.tmps) = true)
    (h : wpList P ops Q rest (a.put o.dst (.agg cs.toArray)) w) : wpList P ops Q (o :: rest) a w :=
  wpList_step fun K hK => by
    rw [if_pos hw]
    exact wp_load_mid ty x ho b j hx cs d hr hu hd hi (hK _ _ h)
def withQ (i : IV) (c : Int) : IV := { i with cond := c }
def five (i0 i1 i2 i3 i4 : IV) : Nat → IV
  | 0 => i0
  | 1 => i1
  | 2 => i2
  | 3 => i3
  | _ => i4
def fiveL (i0 i1 i2 i3 i4 : IV) : List Value := (Cel.iv i0).cells ++ ((Cel.iv i1).cells ++ ((Cel.iv i2).cells ++ ((Cel.iv i3).cells ++ (Cel.iv i4).cells)))
theorem five_at (i0 i1 i2 i3 i4 : IV) (k j : Nat) (hk : k < 5) (v : Value) (h : (Cel.iv (five i0 i1 i2 i3 i4 k)).cells[j]? = some v) : (fiveL i0 i1 i2 i3 i4)[15 * k + j]? = some v := by
  have hj : j < 15 := (List.getElem?_eq_some_iff.1 h).1
  unfold fiveL
  have hl : ∀ i : IV, (Cel.iv i).cells.length = 15 := fun i => rfl
  rcases (show k = 0 ∨ k = 1 ∨ k = 2 ∨ k = 3 ∨ k = 4 by omega) with rfl | rfl | rfl | rfl | rfl
  · rw [List.getElem?_append_left (by rw [hl]; omega)]
    simpa [five] using h
  · rw [List.getElem?_append_right (by rw [hl]; omega), List.getElem?_append_left (by rw [hl, hl]; omega), hl, show 15 * 1 + j - 15 = j by omega]
    exact h
  · rw [List.getElem?_append_right (by rw [hl]; omega), List.getElem?_append_right (by rw [hl, hl]; omega), List.getElem?_append_left (by rw [hl, hl, hl]; omega), hl, hl, show 15 * 2 + j - 15 - 15 = j by omega]
    exact h
  · rw [List.getElem?_append_right (by rw [hl]; omega), List.getElem?_append_right (by rw [hl, hl]; omega), List.getElem?_append_right (by rw [hl, hl, hl]; omega), List.getElem?_append_left (by rw [hl, hl, hl, hl]; omega), hl, hl, hl, show 15 * 3 + j - 15 - 15 - 15 = j by omega]
    exact h
  · rw [List.getElem?_append_right (by rw [hl]; omega), List.getElem?_append_right (by rw [hl, hl]; omega), List.getElem?_append_right (by rw [hl, hl, hl]; omega), List.getElem?_append_right (by rw [hl, hl, hl, hl]; omega), hl, hl, hl, hl, show 15 * 4 + j - 15 - 15 - 15 - 15 = j by omega]
    exact h
theorem u16or (h : Int) (h0 : 0 ≤ h) (h1 : h ≤ 65535) : 0 ≤ bits .or .u16 h 59392 ∧ bits .or .u16 h 59392 ≤ 65535 := by
  obtain ⟨n, rfl⟩ : ∃ n : Nat, h = (n : Int) := ⟨h.toNat, by omega⟩
  have e : bits .or .u16 (n : Int) 59392 = ((n ||| 59392 : Nat) : Int) := (bits_nat .u16 16 (by decide) (fun n h1 h2 => by rw [IntKind.wrap_u16]; omega) n 59392 (by omega) (by decide)).2
  have l : n ||| 59392 < 2 ^ 16 := Nat.or_lt_two_pow (by omega) (by decide)
  rw [e]
  omega
theorem tells_g (h k n x y c : Int) (b : Bool) (w : World) (hh : 0 ≤ h ∧ h ≤ 65535) (hk : 0 ≤ k ∧ k ≤ 65535) (hc : 0 ≤ c ∧ c ≤ 255)
    (CK : Hid (Calls Tryz.prog 5 #[] w fun e w' => e = .returned (.bool true) ∧ Below w.heap.size w w'))
    (CP : Hid (∀ w1, Calls Tryz.prog 6 #[.int .u8 n, .int .u16 x, .int .u16 y] w1 fun e w' => ∃ p q : Int, e = .returned (.tuple #[.int .u16 p, .int .u16 q]) ∧ (0 ≤ p ∧ p ≤ 65535) ∧ (0 ≤ q ∧ q ≤ 65535) ∧ Below w1.heap.size w1 w'))
    (CH : Hid (∀ w1, Calls Tryz.prog 9 #[.int .u8 n, .int .u16 x] w1 fun e w' => ∃ p : Int, e = .returned (.int .u16 p) ∧ (0 ≤ p ∧ p ≤ 65535) ∧ Below w1.heap.size w1 w'))
    (CD : Hid (∀ z : Int, (0 ≤ z ∧ z ≤ 65535) → ∀ w1, Calls Tryz.prog 7 #[.int .u16 z, .bool b] w1 fun e w' => ∃ i : IV, FitI i ∧ e = .returned (Cel.iv i).val ∧ Below w1.heap.size w1 w'))
    (CW : Hid (∀ z z2 : Int, (0 ≤ z ∧ z ≤ 65535) → (0 ≤ z2 ∧ z2 ≤ 65535) → ∀ w1, Calls Tryz.prog 8 #[.int .u16 z, .int .u16 z2, .bool b] w1 fun e w' => ∃ i : IV, FitI i ∧ e = .returned (Cel.iv i).val ∧ Below w1.heap.size w1 w')) :
    Calls Tryz.prog 3 #[.int .u16 h, .int .u16 k, .int .u8 n, .int .u16 x, .int .u16 y, .bool b, .int .u8 c] w fun e w' => e = .returned (.bool true) ∧ Below w.heap.size w w' := by
  have HH : Hid (0 ≤ h ∧ h ≤ 65535) := hh
  have HK : Hid (0 ≤ k ∧ k ≤ 65535) := hk
  obtain ⟨hc0, hc1⟩ := hc
  obtain ⟨q, hq, hq0, hq1⟩ : ∃ q : Int, c.tmod 14 = q ∧ 0 ≤ q ∧ q < 14 := ⟨c % 14, by rw [Int.tmod_eq_emod_of_nonneg hc0], by omega, by omega⟩
  have hqw : IntKind.i64.wrap q = q := by rw [IntKind.wrap_i64]; omega
  have HSM : Hid (∀ i : IV, FitI i → ∀ w1, Calls Tryz.prog 10 #[(Cel.iv i).val] w1 fun e w' => e = .returned (.bool true) ∧ Below w1.heap.size w1 w') := fun i hi w1 => same_fit i hi w1
  clear hh hk hc0 hc1
  go_enter Tryz.func3, Tryz.ntmps3
  have S := SH.start w
  go_upto_region 4 with (first
    | (go_at_call 5; refine CK.out.mono ?_; rintro e wf ⟨rfl, hbf⟩; replace S := S.below hbf; clear hbf)
    | (go_at_call 6; refine (CP.out _).mono ?_; rintro e wf ⟨p1, p2, rfl, hp1, hp2, hbf⟩; have HP1 : Hid (0 ≤ p1 ∧ p1 ≤ 65535) := hp1; have HP2 : Hid (0 ≤ p2 ∧ p2 ≤ 65535) := hp2; replace S := S.below hbf; clear hbf hp1 hp2))
  go_upto_region 5 with (first
    | (go_at_call 7; first | ((with_reducible refine (CD.out _ HH.out _).mono ?_); rintro e wf ⟨i0, hf0, rfl, hbf⟩; have F0 : Hid (FitI i0) := hf0; replace S := S.below hbf; clear hbf hf0) | ((with_reducible refine (CD.out _ HP3.out _).mono ?_); rintro e wf ⟨i3, hf3, rfl, hbf⟩; have F3 : Hid (FitI i3) := hf3; replace S := S.below hbf; clear hbf hf3))
    | (go_at_call 8; first | ((with_reducible refine (CW.out _ _ HH.out HK.out _).mono ?_); rintro e wf ⟨i1, hf1, rfl, hbf⟩; have F1 : Hid (FitI i1) := hf1; replace S := S.below hbf; clear hbf hf1) | ((with_reducible refine (CW.out _ _ (u16or _ HH.out.1 HH.out.2) HK.out _).mono ?_); rintro e wf ⟨i2, hf2, rfl, hbf⟩; have F2 : Hid (FitI i2) := hf2; replace S := S.below hbf; clear hbf hf2) | ((with_reducible refine (CW.out _ _ HP1.out HP2.out _).mono ?_); rintro e wf ⟨i4, hf4, rfl, hbf⟩; have F4 : Hid (FitI i4) := hf4; replace S := S.below hbf; clear hbf hf4))
    | (go_at_call 9; refine (CH.out _).mono ?_; rintro e wf ⟨p3, rfl, hp3, hbf⟩; have HP3 : Hid (0 ≤ p3 ∧ p3 ≤ 65535) := hp3; replace S := S.below hbf; clear hbf hp3)
    | ((with_reducible refine wpl_isDst 49 ?_); refine SH.sliceF (L := []) S 32 5 _ rfl (fiveL i0 i1 i2 i3 i4) 28 (by kernel_rfl) rfl ?_; clear S; intro g49 w49 S hbs; clear hbs))
  have FF : Hid (∀ k : Nat, FitI (five i0 i1 i2 i3 i4 k)) := fun k => by
    rcases k with _ | _ | _ | _ | k
    · exact F0.out
    · exact F1.out
    · exact F2.out
    · exact F3.out
    · exact F4.out
  clear F0 F1 F2 F3 F4
  go_loopw [51] (fun i wr => ∃ j : Nat, j ≤ 5 ∧ i = .int .i64 j ∧ SH noZ w wr [(g49, Cel.any (fiveL i0 i1 i2 i3 i4))]) (fun i _ => 5 - (intOf i).toNat)
  case atStart => exact ⟨0, Nat.zero_le _, rfl, S⟩
  case round =>
    clear S
    obtain ⟨j, hj, rfl, S⟩ := hrel
    by_cases hlt : j < 5
    · have hlt' : (j : Int) < 5 := by omega
      have h0 : 0 ≤ (j : Int) := by omega
      have HRG : Hid (wr.rangeAt g49 (15 * j) (Cel.iv (five i0 i1 i2 i3 i4 j)).cells) := fun z v hv => by
        rw [(S.at (i := 0) rfl).1.cell]
        exact five_at i0 i1 i2 i3 i4 j z hlt v hv
      have HFI : Hid (FitI (five i0 i1 i2 i3 i4 j)) := FF.out j
      generalize five i0 i1 i2 i3 i4 j = i at HRG HFI
      obtain ⟨io, hio⟩ : ∃ u, i.op = u := ⟨_, rfl⟩
      obtain ⟨wd, hwd⟩ : ∃ u, i.wide = u := ⟨_, rfl⟩
      have HOP : Hid ((Cel.iv i).cells[0]? = some (.int .i64 io)) := by
        show some (Value.int .i64 i.op) = _
        rw [hio]
      have HWD : Hid ((Cel.iv i).cells[1]? = some (.bool wd)) := by
        show some (Value.bool i.wide) = _
        rw [hwd]
      have HS1 : Hid (∀ w1, Calls Tryz.prog 10 #[(Cel.iv i).val] w1 fun e w' => e = .returned (.bool true) ∧ Below w1.heap.size w1 w') := fun w1 => HSM.out i HFI.out w1
      have HS2 : Hid (∀ w1, Calls Tryz.prog 10 #[(Cel.iv (withQ i q)).val] w1 fun e w' => e = .returned (.bool true) ∧ Below w1.heap.size w1 w') := fun w1 => HSM.out (withQ i q) (fit_with i q HFI.out) w1
      clear hio hwd HSM FF
      cases b
      · cases wd
        · go_wp2_with (first
           | ((with_reducible refine wpl_isDst 54 ?_); refine wpl_mid g49 (15 * j) _ HRG.out 28 _ rfl (by go_simp; try omega) _ Tryz.underlying28 rfl (szIV _) rfl ?_)
           | ((with_reducible refine wpl_isDst 18 ?_); refine S.alloc rfl 28 rfl (Cel.iv IV.zero) zeroIV ?_; clear S; intro b18 w18 S)
           | ((with_reducible refine wpl_isStoreAt 18 ?_); refine S.storeAll rfl 28 _ _ rfl b18 (Cel.iv i) rfl rfl 0 _ rfl rfl (one_iv _) (szIV _) ?_; clear S; intro w3 S; simp only [List.set_cons_zero, List.set_cons_succ] at S)
           | ((with_reducible refine wpl_isDst 55 ?_); refine S.ldAll 28 _ rfl b18 rfl 0 _ rfl _ Tryz.underlying28 rfl (szIV _) rfl ?_)
           | (go_at_call 10; first | ((with_reducible refine (HS1.out _).mono ?_); rintro e wf ⟨rfl, hbf⟩; replace S := S.below hbf; clear hbf) | ((with_reducible refine (HS2.out _).mono ?_); rintro e wf ⟨rfl, hbf⟩; replace S := S.below hbf; clear hbf))
           | ((with_reducible refine g_ld 4 ?_); first | (refine wpl_skip rfl ?_) | (refine S.ld 4 _ rfl b18 1 rfl 0 _ rfl (.bool _) HWD.out _ Tryz.underlying4 rfl rfl ?_))
           | ((with_reducible refine g_ld 3 ?_); first | (refine wpl_skip rfl ?_) | (refine S.ld 3 _ rfl b18 0 rfl 0 _ rfl (.int .i64 _) HOP.out _ Tryz.underlying3 rfl rfl ?_))
           | ((with_reducible refine wpl_isDst 97 ?_); refine wpl_dst 97 rfl (.int .i64 q) (by go_simp; try exact hqw) rfl ?_)
           | ((with_reducible refine wpl_isStoreAt 98 ?_); refine S.store1 rfl 3 _ _ rfl b18 3 (.int .i64 q) rfl rfl 0 _ rfl rfl (by show 3 < 15; decide) (Cel.iv (withQ i q)) rfl (by kernel_rfl) ?_; clear S; intro w3 S; simp only [List.set_cons_zero, List.set_cons_succ] at S)
           | ((with_reducible refine wpl_isDst 99 ?_); refine S.ldAll 28 _ rfl b18 rfl 0 (Cel.iv (withQ i q)) rfl _ Tryz.underlying28 rfl (szIV _) rfl ?_))
          go_roundw
          case rel => exact ⟨j + 1, hlt, by push_cast; rfl, S.fewer 1⟩
          case measure =>
            simp only [intOf]
            omega
        · cases e64 : (io == 64)
          · cases e65 : (io == 65)
            · cases e54 : (io == 54)
              · cases e60 : (io == 60)
                · cases e58 : (io == 58)
                  · cases e59 : (io == 59)
                    · go_wp2_with (first
                       | ((with_reducible refine wpl_isDst 54 ?_); refine wpl_mid g49 (15 * j) _ HRG.out 28 _ rfl (by go_simp; try omega) _ Tryz.underlying28 rfl (szIV _) rfl ?_)
                       | ((with_reducible refine wpl_isDst 18 ?_); refine S.alloc rfl 28 rfl (Cel.iv IV.zero) zeroIV ?_; clear S; intro b18 w18 S)
                       | ((with_reducible refine wpl_isStoreAt 18 ?_); refine S.storeAll rfl 28 _ _ rfl b18 (Cel.iv i) rfl rfl 0 _ rfl rfl (one_iv _) (szIV _) ?_; clear S; intro w3 S; simp only [List.set_cons_zero, List.set_cons_succ] at S)
                       | ((with_reducible refine wpl_isDst 55 ?_); refine S.ldAll 28 _ rfl b18 rfl 0 _ rfl _ Tryz.underlying28 rfl (szIV _) rfl ?_)
                       | (go_at_call 10; first | ((with_reducible refine (HS1.out _).mono ?_); rintro e wf ⟨rfl, hbf⟩; replace S := S.below hbf; clear hbf) | ((with_reducible refine (HS2.out _).mono ?_); rintro e wf ⟨rfl, hbf⟩; replace S := S.below hbf; clear hbf))
                       | ((with_reducible refine g_ld 4 ?_); first | (refine wpl_skip rfl ?_) | (refine S.ld 4 _ rfl b18 1 rfl 0 _ rfl (.bool _) HWD.out _ Tryz.underlying4 rfl rfl ?_))
                       | ((with_reducible refine g_ld 3 ?_); first | (refine wpl_skip rfl ?_) | (refine S.ld 3 _ rfl b18 0 rfl 0 _ rfl (.int .i64 _) HOP.out _ Tryz.underlying3 rfl rfl ?_))
                       | ((with_reducible refine wpl_isDst 97 ?_); refine wpl_dst 97 rfl (.int .i64 q) (by go_simp; try exact hqw) rfl ?_)
                       | ((with_reducible refine wpl_isStoreAt 98 ?_); refine S.store1 rfl 3 _ _ rfl b18 3 (.int .i64 q) rfl rfl 0 _ rfl rfl (by show 3 < 15; decide) (Cel.iv (withQ i q)) rfl (by kernel_rfl) ?_; clear S; intro w3 S; simp only [List.set_cons_zero, List.set_cons_succ] at S)
                       | ((with_reducible refine wpl_isDst 99 ?_); refine S.ldAll 28 _ rfl b18 rfl 0 (Cel.iv (withQ i q)) rfl _ Tryz.underlying28 rfl (szIV _) rfl ?_))
                      go_roundw
                      case rel => exact ⟨j + 1, hlt, by push_cast; rfl, S.fewer 1⟩
                      case measure =>
                        simp only [intOf]
                        omega
                    · go_wp2_with (first
                       | ((with_reducible refine wpl_isDst 54 ?_); refine wpl_mid g49 (15 * j) _ HRG.out 28 _ rfl (by go_simp; try omega) _ Tryz.underlying28 rfl (szIV _) rfl ?_)
                       | ((with_reducible refine wpl_isDst 18 ?_); refine S.alloc rfl 28 rfl (Cel.iv IV.zero) zeroIV ?_; clear S; intro b18 w18 S)
                       | ((with_reducible refine wpl_isStoreAt 18 ?_); refine S.storeAll rfl 28 _ _ rfl b18 (Cel.iv i) rfl rfl 0 _ rfl rfl (one_iv _) (szIV _) ?_; clear S; intro w3 S; simp only [List.set_cons_zero, List.set_cons_succ] at S)
                       | ((with_reducible refine wpl_isDst 55 ?_); refine S.ldAll 28 _ rfl b18 rfl 0 _ rfl _ Tryz.underlying28 rfl (szIV _) rfl ?_)
                       | (go_at_call 10; first | ((with_reducible refine (HS1.out _).mono ?_); rintro e wf ⟨rfl, hbf⟩; replace S := S.below hbf; clear hbf) | ((with_reducible refine (HS2.out _).mono ?_); rintro e wf ⟨rfl, hbf⟩; replace S := S.below hbf; clear hbf))
                       | ((with_reducible refine g_ld 4 ?_); first | (refine wpl_skip rfl ?_) | (refine S.ld 4 _ rfl b18 1 rfl 0 _ rfl (.bool _) HWD.out _ Tryz.underlying4 rfl rfl ?_))
                       | ((with_reducible refine g_ld 3 ?_); first | (refine wpl_skip rfl ?_) | (refine S.ld 3 _ rfl b18 0 rfl 0 _ rfl (.int .i64 _) HOP.out _ Tryz.underlying3 rfl rfl ?_))
                       | ((with_reducible refine wpl_isDst 97 ?_); refine wpl_dst 97 rfl (.int .i64 q) (by go_simp; try exact hqw) rfl ?_)
                       | ((with_reducible refine wpl_isStoreAt 98 ?_); refine S.store1 rfl 3 _ _ rfl b18 3 (.int .i64 q) rfl rfl 0 _ rfl rfl (by show 3 < 15; decide) (Cel.iv (withQ i q)) rfl (by kernel_rfl) ?_; clear S; intro w3 S; simp only [List.set_cons_zero, List.set_cons_succ] at S)
                       | ((with_reducible refine wpl_isDst 99 ?_); refine S.ldAll 28 _ rfl b18 rfl 0 (Cel.iv (withQ i q)) rfl _ Tryz.underlying28 rfl (szIV _) rfl ?_))
                      go_roundw
                      case rel => exact ⟨j + 1, hlt, by push_cast; rfl, S.fewer 1⟩
                      case measure =>
                        simp only [intOf]
                        omega
                  · go_wp2_with (first
                     | ((with_reducible refine wpl_isDst 54 ?_); refine wpl_mid g49 (15 * j) _ HRG.out 28 _ rfl (by go_simp; try omega) _ Tryz.underlying28 rfl (szIV _) rfl ?_)
                     | ((with_reducible refine wpl_isDst 18 ?_); refine S.alloc rfl 28 rfl (Cel.iv IV.zero) zeroIV ?_; clear S; intro b18 w18 S)
                     | ((with_reducible refine wpl_isStoreAt 18 ?_); refine S.storeAll rfl 28 _ _ rfl b18 (Cel.iv i) rfl rfl 0 _ rfl rfl (one_iv _) (szIV _) ?_; clear S; intro w3 S; simp only [List.set_cons_zero, List.set_cons_succ] at S)
                     | ((with_reducible refine wpl_isDst 55 ?_); refine S.ldAll 28 _ rfl b18 rfl 0 _ rfl _ Tryz.underlying28 rfl (szIV _) rfl ?_)
                     | (go_at_call 10; first | ((with_reducible refine (HS1.out _).mono ?_); rintro e wf ⟨rfl, hbf⟩; replace S := S.below hbf; clear hbf) | ((with_reducible refine (HS2.out _).mono ?_); rintro e wf ⟨rfl, hbf⟩; replace S := S.below hbf; clear hbf))
                     | ((with_reducible refine g_ld 4 ?_); first | (refine wpl_skip rfl ?_) | (refine S.ld 4 _ rfl b18 1 rfl 0 _ rfl (.bool _) HWD.out _ Tryz.underlying4 rfl rfl ?_))
                     | ((with_reducible refine g_ld 3 ?_); first | (refine wpl_skip rfl ?_) | (refine S.ld 3 _ rfl b18 0 rfl 0 _ rfl (.int .i64 _) HOP.out _ Tryz.underlying3 rfl rfl ?_))
                     | ((with_reducible refine wpl_isDst 97 ?_); refine wpl_dst 97 rfl (.int .i64 q) (by go_simp; try exact hqw) rfl ?_)
                     | ((with_reducible refine wpl_isStoreAt 98 ?_); refine S.store1 rfl 3 _ _ rfl b18 3 (.int .i64 q) rfl rfl 0 _ rfl rfl (by show 3 < 15; decide) (Cel.iv (withQ i q)) rfl (by kernel_rfl) ?_; clear S; intro w3 S; simp only [List.set_cons_zero, List.set_cons_succ] at S)
                     | ((with_reducible refine wpl_isDst 99 ?_); refine S.ldAll 28 _ rfl b18 rfl 0 (Cel.iv (withQ i q)) rfl _ Tryz.underlying28 rfl (szIV _) rfl ?_))
                    go_roundw
                    case rel => exact ⟨j + 1, hlt, by push_cast; rfl, S.fewer 1⟩
                    case measure =>
                      simp only [intOf]
                      omega
                · go_wp2_with (first
                   | ((with_reducible refine wpl_isDst 54 ?_); refine wpl_mid g49 (15 * j) _ HRG.out 28 _ rfl (by go_simp; try omega) _ Tryz.underlying28 rfl (szIV _) rfl ?_)
                   | ((with_reducible refine wpl_isDst 18 ?_); refine S.alloc rfl 28 rfl (Cel.iv IV.zero) zeroIV ?_; clear S; intro b18 w18 S)
                   | ((with_reducible refine wpl_isStoreAt 18 ?_); refine S.storeAll rfl 28 _ _ rfl b18 (Cel.iv i) rfl rfl 0 _ rfl rfl (one_iv _) (szIV _) ?_; clear S; intro w3 S; simp only [List.set_cons_zero, List.set_cons_succ] at S)
                   | ((with_reducible refine wpl_isDst 55 ?_); refine S.ldAll 28 _ rfl b18 rfl 0 _ rfl _ Tryz.underlying28 rfl (szIV _) rfl ?_)
                   | (go_at_call 10; first | ((with_reducible refine (HS1.out _).mono ?_); rintro e wf ⟨rfl, hbf⟩; replace S := S.below hbf; clear hbf) | ((with_reducible refine (HS2.out _).mono ?_); rintro e wf ⟨rfl, hbf⟩; replace S := S.below hbf; clear hbf))
                   | ((with_reducible refine g_ld 4 ?_); first | (refine wpl_skip rfl ?_) | (refine S.ld 4 _ rfl b18 1 rfl 0 _ rfl (.bool _) HWD.out _ Tryz.underlying4 rfl rfl ?_))
                   | ((with_reducible refine g_ld 3 ?_); first | (refine wpl_skip rfl ?_) | (refine S.ld 3 _ rfl b18 0 rfl 0 _ rfl (.int .i64 _) HOP.out _ Tryz.underlying3 rfl rfl ?_))
                   | ((with_reducible refine wpl_isDst 97 ?_); refine wpl_dst 97 rfl (.int .i64 q) (by go_simp; try exact hqw) rfl ?_)
                   | ((with_reducible refine wpl_isStoreAt 98 ?_); refine S.store1 rfl 3 _ _ rfl b18 3 (.int .i64 q) rfl rfl 0 _ rfl rfl (by show 3 < 15; decide) (Cel.iv (withQ i q)) rfl (by kernel_rfl) ?_; clear S; intro w3 S; simp only [List.set_cons_zero, List.set_cons_succ] at S)
                   | ((with_reducible refine wpl_isDst 99 ?_); refine S.ldAll 28 _ rfl b18 rfl 0 (Cel.iv (withQ i q)) rfl _ Tryz.underlying28 rfl (szIV _) rfl ?_))
                  go_roundw
                  case rel => exact ⟨j + 1, hlt, by push_cast; rfl, S.fewer 1⟩
                  case measure =>
                    simp only [intOf]
                    omega
              · go_wp2_with (first
                 | ((with_reducible refine wpl_isDst 54 ?_); refine wpl_mid g49 (15 * j) _ HRG.out 28 _ rfl (by go_simp; try omega) _ Tryz.underlying28 rfl (szIV _) rfl ?_)
                 | ((with_reducible refine wpl_isDst 18 ?_); refine S.alloc rfl 28 rfl (Cel.iv IV.zero) zeroIV ?_; clear S; intro b18 w18 S)
                 | ((with_reducible refine wpl_isStoreAt 18 ?_); refine S.storeAll rfl 28 _ _ rfl b18 (Cel.iv i) rfl rfl 0 _ rfl rfl (one_iv _) (szIV _) ?_; clear S; intro w3 S; simp only [List.set_cons_zero, List.set_cons_succ] at S)
                 | ((with_reducible refine wpl_isDst 55 ?_); refine S.ldAll 28 _ rfl b18 rfl 0 _ rfl _ Tryz.underlying28 rfl (szIV _) rfl ?_)
                 | (go_at_call 10; first | ((with_reducible refine (HS1.out _).mono ?_); rintro e wf ⟨rfl, hbf⟩; replace S := S.below hbf; clear hbf) | ((with_reducible refine (HS2.out _).mono ?_); rintro e wf ⟨rfl, hbf⟩; replace S := S.below hbf; clear hbf))
                 | ((with_reducible refine g_ld 4 ?_); first | (refine wpl_skip rfl ?_) | (refine S.ld 4 _ rfl b18 1 rfl 0 _ rfl (.bool _) HWD.out _ Tryz.underlying4 rfl rfl ?_))
                 | ((with_reducible refine g_ld 3 ?_); first | (refine wpl_skip rfl ?_) | (refine S.ld 3 _ rfl b18 0 rfl 0 _ rfl (.int .i64 _) HOP.out _ Tryz.underlying3 rfl rfl ?_))
                 | ((with_reducible refine wpl_isDst 97 ?_); refine wpl_dst 97 rfl (.int .i64 q) (by go_simp; try exact hqw) rfl ?_)
                 | ((with_reducible refine wpl_isStoreAt 98 ?_); refine S.store1 rfl 3 _ _ rfl b18 3 (.int .i64 q) rfl rfl 0 _ rfl rfl (by show 3 < 15; decide) (Cel.iv (withQ i q)) rfl (by kernel_rfl) ?_; clear S; intro w3 S; simp only [List.set_cons_zero, List.set_cons_succ] at S)
                 | ((with_reducible refine wpl_isDst 99 ?_); refine S.ldAll 28 _ rfl b18 rfl 0 (Cel.iv (withQ i q)) rfl _ Tryz.underlying28 rfl (szIV _) rfl ?_))
                go_roundw
                case rel => exact ⟨j + 1, hlt, by push_cast; rfl, S.fewer 1⟩
                case measure =>
                  simp only [intOf]
                  omega
            · go_wp2_with (first
               | ((with_reducible refine wpl_isDst 54 ?_); refine wpl_mid g49 (15 * j) _ HRG.out 28 _ rfl (by go_simp; try omega) _ Tryz.underlying28 rfl (szIV _) rfl ?_)
               | ((with_reducible refine wpl_isDst 18 ?_); refine S.alloc rfl 28 rfl (Cel.iv IV.zero) zeroIV ?_; clear S; intro b18 w18 S)
               | ((with_reducible refine wpl_isStoreAt 18 ?_); refine S.storeAll rfl 28 _ _ rfl b18 (Cel.iv i) rfl rfl 0 _ rfl rfl (one_iv _) (szIV _) ?_; clear S; intro w3 S; simp only [List.set_cons_zero, List.set_cons_succ] at S)
               | ((with_reducible refine wpl_isDst 55 ?_); refine S.ldAll 28 _ rfl b18 rfl 0 _ rfl _ Tryz.underlying28 rfl (szIV _) rfl ?_)
               | (go_at_call 10; first | ((with_reducible refine (HS1.out _).mono ?_); rintro e wf ⟨rfl, hbf⟩; replace S := S.below hbf; clear hbf) | ((with_reducible refine (HS2.out _).mono ?_); rintro e wf ⟨rfl, hbf⟩; replace S := S.below hbf; clear hbf))
               | ((with_reducible refine g_ld 4 ?_); first | (refine wpl_skip rfl ?_) | (refine S.ld 4 _ rfl b18 1 rfl 0 _ rfl (.bool _) HWD.out _ Tryz.underlying4 rfl rfl ?_))
               | ((with_reducible refine g_ld 3 ?_); first | (refine wpl_skip rfl ?_) | (refine S.ld 3 _ rfl b18 0 rfl 0 _ rfl (.int .i64 _) HOP.out _ Tryz.underlying3 rfl rfl ?_))
               | ((with_reducible refine wpl_isDst 97 ?_); refine wpl_dst 97 rfl (.int .i64 q) (by go_simp; try exact hqw) rfl ?_)
               | ((with_reducible refine wpl_isStoreAt 98 ?_); refine S.store1 rfl 3 _ _ rfl b18 3 (.int .i64 q) rfl rfl 0 _ rfl rfl (by show 3 < 15; decide) (Cel.iv (withQ i q)) rfl (by kernel_rfl) ?_; clear S; intro w3 S; simp only [List.set_cons_zero, List.set_cons_succ] at S)
               | ((with_reducible refine wpl_isDst 99 ?_); refine S.ldAll 28 _ rfl b18 rfl 0 (Cel.iv (withQ i q)) rfl _ Tryz.underlying28 rfl (szIV _) rfl ?_))
              go_roundw
              case rel => exact ⟨j + 1, hlt, by push_cast; rfl, S.fewer 1⟩
              case measure =>
                simp only [intOf]
                omega
          · go_wp2_with (first
             | ((with_reducible refine wpl_isDst 54 ?_); refine wpl_mid g49 (15 * j) _ HRG.out 28 _ rfl (by go_simp; try omega) _ Tryz.underlying28 rfl (szIV _) rfl ?_)
             | ((with_reducible refine wpl_isDst 18 ?_); refine S.alloc rfl 28 rfl (Cel.iv IV.zero) zeroIV ?_; clear S; intro b18 w18 S)
             | ((with_reducible refine wpl_isStoreAt 18 ?_); refine S.storeAll rfl 28 _ _ rfl b18 (Cel.iv i) rfl rfl 0 _ rfl rfl (one_iv _) (szIV _) ?_; clear S; intro w3 S; simp only [List.set_cons_zero, List.set_cons_succ] at S)
             | ((with_reducible refine wpl_isDst 55 ?_); refine S.ldAll 28 _ rfl b18 rfl 0 _ rfl _ Tryz.underlying28 rfl (szIV _) rfl ?_)
             | (go_at_call 10; first | ((with_reducible refine (HS1.out _).mono ?_); rintro e wf ⟨rfl, hbf⟩; replace S := S.below hbf; clear hbf) | ((with_reducible refine (HS2.out _).mono ?_); rintro e wf ⟨rfl, hbf⟩; replace S := S.below hbf; clear hbf))
             | ((with_reducible refine g_ld 4 ?_); first | (refine wpl_skip rfl ?_) | (refine S.ld 4 _ rfl b18 1 rfl 0 _ rfl (.bool _) HWD.out _ Tryz.underlying4 rfl rfl ?_))
             | ((with_reducible refine g_ld 3 ?_); first | (refine wpl_skip rfl ?_) | (refine S.ld 3 _ rfl b18 0 rfl 0 _ rfl (.int .i64 _) HOP.out _ Tryz.underlying3 rfl rfl ?_))
             | ((with_reducible refine wpl_isDst 97 ?_); refine wpl_dst 97 rfl (.int .i64 q) (by go_simp; try exact hqw) rfl ?_)
             | ((with_reducible refine wpl_isStoreAt 98 ?_); refine S.store1 rfl 3 _ _ rfl b18 3 (.int .i64 q) rfl rfl 0 _ rfl rfl (by show 3 < 15; decide) (Cel.iv (withQ i q)) rfl (by kernel_rfl) ?_; clear S; intro w3 S; simp only [List.set_cons_zero, List.set_cons_succ] at S)
             | ((with_reducible refine wpl_isDst 99 ?_); refine S.ldAll 28 _ rfl b18 rfl 0 (Cel.iv (withQ i q)) rfl _ Tryz.underlying28 rfl (szIV _) rfl ?_))
            go_roundw
            case rel => exact ⟨j + 1, hlt, by push_cast; rfl, S.fewer 1⟩
            case measure =>
              simp only [intOf]
              omega
      · cases e64 : (io == 64)
        · cases e65 : (io == 65)
          · cases e54 : (io == 54)
            · cases e60 : (io == 60)
              · cases e58 : (io == 58)
                · cases e59 : (io == 59)
                  · go_wp2_with (first
                     | ((with_reducible refine wpl_isDst 54 ?_); refine wpl_mid g49 (15 * j) _ HRG.out 28 _ rfl (by go_simp; try omega) _ Tryz.underlying28 rfl (szIV _) rfl ?_)
                     | ((with_reducible refine wpl_isDst 18 ?_); refine S.alloc rfl 28 rfl (Cel.iv IV.zero) zeroIV ?_; clear S; intro b18 w18 S)
                     | ((with_reducible refine wpl_isStoreAt 18 ?_); refine S.storeAll rfl 28 _ _ rfl b18 (Cel.iv i) rfl rfl 0 _ rfl rfl (one_iv _) (szIV _) ?_; clear S; intro w3 S; simp only [List.set_cons_zero, List.set_cons_succ] at S)
                     | ((with_reducible refine wpl_isDst 55 ?_); refine S.ldAll 28 _ rfl b18 rfl 0 _ rfl _ Tryz.underlying28 rfl (szIV _) rfl ?_)
                     | (go_at_call 10; first | ((with_reducible refine (HS1.out _).mono ?_); rintro e wf ⟨rfl, hbf⟩; replace S := S.below hbf; clear hbf) | ((with_reducible refine (HS2.out _).mono ?_); rintro e wf ⟨rfl, hbf⟩; replace S := S.below hbf; clear hbf))
                     | ((with_reducible refine g_ld 4 ?_); first | (refine wpl_skip rfl ?_) | (refine S.ld 4 _ rfl b18 1 rfl 0 _ rfl (.bool _) HWD.out _ Tryz.underlying4 rfl rfl ?_))
                     | ((with_reducible refine g_ld 3 ?_); first | (refine wpl_skip rfl ?_) | (refine S.ld 3 _ rfl b18 0 rfl 0 _ rfl (.int .i64 _) HOP.out _ Tryz.underlying3 rfl rfl ?_))
                     | ((with_reducible refine wpl_isDst 97 ?_); refine wpl_dst 97 rfl (.int .i64 q) (by go_simp; try exact hqw) rfl ?_)
                     | ((with_reducible refine wpl_isStoreAt 98 ?_); refine S.store1 rfl 3 _ _ rfl b18 3 (.int .i64 q) rfl rfl 0 _ rfl rfl (by show 3 < 15; decide) (Cel.iv (withQ i q)) rfl (by kernel_rfl) ?_; clear S; intro w3 S; simp only [List.set_cons_zero, List.set_cons_succ] at S)
                     | ((with_reducible refine wpl_isDst 99 ?_); refine S.ldAll 28 _ rfl b18 rfl 0 (Cel.iv (withQ i q)) rfl _ Tryz.underlying28 rfl (szIV _) rfl ?_))
                    go_roundw
                    case rel => exact ⟨j + 1, hlt, by push_cast; rfl, S.fewer 1⟩
                    case measure =>
                      simp only [intOf]
                      omega
                  · go_wp2_with (first
                     | ((with_reducible refine wpl_isDst 54 ?_); refine wpl_mid g49 (15 * j) _ HRG.out 28 _ rfl (by go_simp; try omega) _ Tryz.underlying28 rfl (szIV _) rfl ?_)
                     | ((with_reducible refine wpl_isDst 18 ?_); refine S.alloc rfl 28 rfl (Cel.iv IV.zero) zeroIV ?_; clear S; intro b18 w18 S)
                     | ((with_reducible refine wpl_isStoreAt 18 ?_); refine S.storeAll rfl 28 _ _ rfl b18 (Cel.iv i) rfl rfl 0 _ rfl rfl (one_iv _) (szIV _) ?_; clear S; intro w3 S; simp only [List.set_cons_zero, List.set_cons_succ] at S)
                     | ((with_reducible refine wpl_isDst 55 ?_); refine S.ldAll 28 _ rfl b18 rfl 0 _ rfl _ Tryz.underlying28 rfl (szIV _) rfl ?_)
                     | (go_at_call 10; first | ((with_reducible refine (HS1.out _).mono ?_); rintro e wf ⟨rfl, hbf⟩; replace S := S.below hbf; clear hbf) | ((with_reducible refine (HS2.out _).mono ?_); rintro e wf ⟨rfl, hbf⟩; replace S := S.below hbf; clear hbf))
                     | ((with_reducible refine g_ld 4 ?_); first | (refine wpl_skip rfl ?_) | (refine S.ld 4 _ rfl b18 1 rfl 0 _ rfl (.bool _) HWD.out _ Tryz.underlying4 rfl rfl ?_))
                     | ((with_reducible refine g_ld 3 ?_); first | (refine wpl_skip rfl ?_) | (refine S.ld 3 _ rfl b18 0 rfl 0 _ rfl (.int .i64 _) HOP.out _ Tryz.underlying3 rfl rfl ?_))
                     | ((with_reducible refine wpl_isDst 97 ?_); refine wpl_dst 97 rfl (.int .i64 q) (by go_simp; try exact hqw) rfl ?_)
                     | ((with_reducible refine wpl_isStoreAt 98 ?_); refine S.store1 rfl 3 _ _ rfl b18 3 (.int .i64 q) rfl rfl 0 _ rfl rfl (by show 3 < 15; decide) (Cel.iv (withQ i q)) rfl (by kernel_rfl) ?_; clear S; intro w3 S; simp only [List.set_cons_zero, List.set_cons_succ] at S)
                     | ((with_reducible refine wpl_isDst 99 ?_); refine S.ldAll 28 _ rfl b18 rfl 0 (Cel.iv (withQ i q)) rfl _ Tryz.underlying28 rfl (szIV _) rfl ?_))
                    go_roundw
                    case rel => exact ⟨j + 1, hlt, by push_cast; rfl, S.fewer 1⟩
                    case measure =>
                      simp only [intOf]
                      omega
                · go_wp2_with (first
                   | ((with_reducible refine wpl_isDst 54 ?_); refine wpl_mid g49 (15 * j) _ HRG.out 28 _ rfl (by go_simp; try omega) _ Tryz.underlying28 rfl (szIV _) rfl ?_)
                   | ((with_reducible refine wpl_isDst 18 ?_); refine S.alloc rfl 28 rfl (Cel.iv IV.zero) zeroIV ?_; clear S; intro b18 w18 S)
                   | ((with_reducible refine wpl_isStoreAt 18 ?_); refine S.storeAll rfl 28 _ _ rfl b18 (Cel.iv i) rfl rfl 0 _ rfl rfl (one_iv _) (szIV _) ?_; clear S; intro w3 S; simp only [List.set_cons_zero, List.set_cons_succ] at S)
                   | ((with_reducible refine wpl_isDst 55 ?_); refine S.ldAll 28 _ rfl b18 rfl 0 _ rfl _ Tryz.underlying28 rfl (szIV _) rfl ?_)
                   | (go_at_call 10; first | ((with_reducible refine (HS1.out _).mono ?_); rintro e wf ⟨rfl, hbf⟩; replace S := S.below hbf; clear hbf) | ((with_reducible refine (HS2.out _).mono ?_); rintro e wf ⟨rfl, hbf⟩; replace S := S.below hbf; clear hbf))
                   | ((with_reducible refine g_ld 4 ?_); first | (refine wpl_skip rfl ?_) | (refine S.ld 4 _ rfl b18 1 rfl 0 _ rfl (.bool _) HWD.out _ Tryz.underlying4 rfl rfl ?_))
                   | ((with_reducible refine g_ld 3 ?_); first | (refine wpl_skip rfl ?_) | (refine S.ld 3 _ rfl b18 0 rfl 0 _ rfl (.int .i64 _) HOP.out _ Tryz.underlying3 rfl rfl ?_))
                   | ((with_reducible refine wpl_isDst 97 ?_); refine wpl_dst 97 rfl (.int .i64 q) (by go_simp; try exact hqw) rfl ?_)
                   | ((with_reducible refine wpl_isStoreAt 98 ?_); refine S.store1 rfl 3 _ _ rfl b18 3 (.int .i64 q) rfl rfl 0 _ rfl rfl (by show 3 < 15; decide) (Cel.iv (withQ i q)) rfl (by kernel_rfl) ?_; clear S; intro w3 S; simp only [List.set_cons_zero, List.set_cons_succ] at S)
                   | ((with_reducible refine wpl_isDst 99 ?_); refine S.ldAll 28 _ rfl b18 rfl 0 (Cel.iv (withQ i q)) rfl _ Tryz.underlying28 rfl (szIV _) rfl ?_))
                  go_roundw
                  case rel => exact ⟨j + 1, hlt, by push_cast; rfl, S.fewer 1⟩
                  case measure =>
                    simp only [intOf]
                    omega
              · go_wp2_with (first
                 | ((with_reducible refine wpl_isDst 54 ?_); refine wpl_mid g49 (15 * j) _ HRG.out 28 _ rfl (by go_simp; try omega) _ Tryz.underlying28 rfl (szIV _) rfl ?_)
                 | ((with_reducible refine wpl_isDst 18 ?_); refine S.alloc rfl 28 rfl (Cel.iv IV.zero) zeroIV ?_; clear S; intro b18 w18 S)
                 | ((with_reducible refine wpl_isStoreAt 18 ?_); refine S.storeAll rfl 28 _ _ rfl b18 (Cel.iv i) rfl rfl 0 _ rfl rfl (one_iv _) (szIV _) ?_; clear S; intro w3 S; simp only [List.set_cons_zero, List.set_cons_succ] at S)
                 | ((with_reducible refine wpl_isDst 55 ?_); refine S.ldAll 28 _ rfl b18 rfl 0 _ rfl _ Tryz.underlying28 rfl (szIV _) rfl ?_)
                 | (go_at_call 10; first | ((with_reducible refine (HS1.out _).mono ?_); rintro e wf ⟨rfl, hbf⟩; replace S := S.below hbf; clear hbf) | ((with_reducible refine (HS2.out _).mono ?_); rintro e wf ⟨rfl, hbf⟩; replace S := S.below hbf; clear hbf))
                 | ((with_reducible refine g_ld 4 ?_); first | (refine wpl_skip rfl ?_) | (refine S.ld 4 _ rfl b18 1 rfl 0 _ rfl (.bool _) HWD.out _ Tryz.underlying4 rfl rfl ?_))
                 | ((with_reducible refine g_ld 3 ?_); first | (refine wpl_skip rfl ?_) | (refine S.ld 3 _ rfl b18 0 rfl 0 _ rfl (.int .i64 _) HOP.out _ Tryz.underlying3 rfl rfl ?_))
                 | ((with_reducible refine wpl_isDst 97 ?_); refine wpl_dst 97 rfl (.int .i64 q) (by go_simp; try exact hqw) rfl ?_)
                 | ((with_reducible refine wpl_isStoreAt 98 ?_); refine S.store1 rfl 3 _ _ rfl b18 3 (.int .i64 q) rfl rfl 0 _ rfl rfl (by show 3 < 15; decide) (Cel.iv (withQ i q)) rfl (by kernel_rfl) ?_; clear S; intro w3 S; simp only [List.set_cons_zero, List.set_cons_succ] at S)
                 | ((with_reducible refine wpl_isDst 99 ?_); refine S.ldAll 28 _ rfl b18 rfl 0 (Cel.iv (withQ i q)) rfl _ Tryz.underlying28 rfl (szIV _) rfl ?_))
                go_roundw
                case rel => exact ⟨j + 1, hlt, by push_cast; rfl, S.fewer 1⟩
                case measure =>
                  simp only [intOf]
                  omega
            · go_wp2_with (first
               | ((with_reducible refine wpl_isDst 54 ?_); refine wpl_mid g49 (15 * j) _ HRG.out 28 _ rfl (by go_simp; try omega) _ Tryz.underlying28 rfl (szIV _) rfl ?_)
               | ((with_reducible refine wpl_isDst 18 ?_); refine S.alloc rfl 28 rfl (Cel.iv IV.zero) zeroIV ?_; clear S; intro b18 w18 S)
               | ((with_reducible refine wpl_isStoreAt 18 ?_); refine S.storeAll rfl 28 _ _ rfl b18 (Cel.iv i) rfl rfl 0 _ rfl rfl (one_iv _) (szIV _) ?_; clear S; intro w3 S; simp only [List.set_cons_zero, List.set_cons_succ] at S)
               | ((with_reducible refine wpl_isDst 55 ?_); refine S.ldAll 28 _ rfl b18 rfl 0 _ rfl _ Tryz.underlying28 rfl (szIV _) rfl ?_)
               | (go_at_call 10; first | ((with_reducible refine (HS1.out _).mono ?_); rintro e wf ⟨rfl, hbf⟩; replace S := S.below hbf; clear hbf) | ((with_reducible refine (HS2.out _).mono ?_); rintro e wf ⟨rfl, hbf⟩; replace S := S.below hbf; clear hbf))
               | ((with_reducible refine g_ld 4 ?_); first | (refine wpl_skip rfl ?_) | (refine S.ld 4 _ rfl b18 1 rfl 0 _ rfl (.bool _) HWD.out _ Tryz.underlying4 rfl rfl ?_))
               | ((with_reducible refine g_ld 3 ?_); first | (refine wpl_skip rfl ?_) | (refine S.ld 3 _ rfl b18 0 rfl 0 _ rfl (.int .i64 _) HOP.out _ Tryz.underlying3 rfl rfl ?_))
               | ((with_reducible refine wpl_isDst 97 ?_); refine wpl_dst 97 rfl (.int .i64 q) (by go_simp; try exact hqw) rfl ?_)
               | ((with_reducible refine wpl_isStoreAt 98 ?_); refine S.store1 rfl 3 _ _ rfl b18 3 (.int .i64 q) rfl rfl 0 _ rfl rfl (by show 3 < 15; decide) (Cel.iv (withQ i q)) rfl (by kernel_rfl) ?_; clear S; intro w3 S; simp only [List.set_cons_zero, List.set_cons_succ] at S)
               | ((with_reducible refine wpl_isDst 99 ?_); refine S.ldAll 28 _ rfl b18 rfl 0 (Cel.iv (withQ i q)) rfl _ Tryz.underlying28 rfl (szIV _) rfl ?_))
              go_roundw
              case rel => exact ⟨j + 1, hlt, by push_cast; rfl, S.fewer 1⟩
              case measure =>
                simp only [intOf]
                omega
          · go_wp2_with (first
             | ((with_reducible refine wpl_isDst 54 ?_); refine wpl_mid g49 (15 * j) _ HRG.out 28 _ rfl (by go_simp; try omega) _ Tryz.underlying28 rfl (szIV _) rfl ?_)
             | ((with_reducible refine wpl_isDst 18 ?_); refine S.alloc rfl 28 rfl (Cel.iv IV.zero) zeroIV ?_; clear S; intro b18 w18 S)
             | ((with_reducible refine wpl_isStoreAt 18 ?_); refine S.storeAll rfl 28 _ _ rfl b18 (Cel.iv i) rfl rfl 0 _ rfl rfl (one_iv _) (szIV _) ?_; clear S; intro w3 S; simp only [List.set_cons_zero, List.set_cons_succ] at S)
             | ((with_reducible refine wpl_isDst 55 ?_); refine S.ldAll 28 _ rfl b18 rfl 0 _ rfl _ Tryz.underlying28 rfl (szIV _) rfl ?_)
             | (go_at_call 10; first | ((with_reducible refine (HS1.out _).mono ?_); rintro e wf ⟨rfl, hbf⟩; replace S := S.below hbf; clear hbf) | ((with_reducible refine (HS2.out _).mono ?_); rintro e wf ⟨rfl, hbf⟩; replace S := S.below hbf; clear hbf))
             | ((with_reducible refine g_ld 4 ?_); first | (refine wpl_skip rfl ?_) | (refine S.ld 4 _ rfl b18 1 rfl 0 _ rfl (.bool _) HWD.out _ Tryz.underlying4 rfl rfl ?_))
             | ((with_reducible refine g_ld 3 ?_); first | (refine wpl_skip rfl ?_) | (refine S.ld 3 _ rfl b18 0 rfl 0 _ rfl (.int .i64 _) HOP.out _ Tryz.underlying3 rfl rfl ?_))
             | ((with_reducible refine wpl_isDst 97 ?_); refine wpl_dst 97 rfl (.int .i64 q) (by go_simp; try exact hqw) rfl ?_)
             | ((with_reducible refine wpl_isStoreAt 98 ?_); refine S.store1 rfl 3 _ _ rfl b18 3 (.int .i64 q) rfl rfl 0 _ rfl rfl (by show 3 < 15; decide) (Cel.iv (withQ i q)) rfl (by kernel_rfl) ?_; clear S; intro w3 S; simp only [List.set_cons_zero, List.set_cons_succ] at S)
             | ((with_reducible refine wpl_isDst 99 ?_); refine S.ldAll 28 _ rfl b18 rfl 0 (Cel.iv (withQ i q)) rfl _ Tryz.underlying28 rfl (szIV _) rfl ?_))
            go_roundw
            case rel => exact ⟨j + 1, hlt, by push_cast; rfl, S.fewer 1⟩
            case measure =>
              simp only [intOf]
              omega
        · go_wp2_with (first
           | ((with_reducible refine wpl_isDst 54 ?_); refine wpl_mid g49 (15 * j) _ HRG.out 28 _ rfl (by go_simp; try omega) _ Tryz.underlying28 rfl (szIV _) rfl ?_)
           | ((with_reducible refine wpl_isDst 18 ?_); refine S.alloc rfl 28 rfl (Cel.iv IV.zero) zeroIV ?_; clear S; intro b18 w18 S)
           | ((with_reducible refine wpl_isStoreAt 18 ?_); refine S.storeAll rfl 28 _ _ rfl b18 (Cel.iv i) rfl rfl 0 _ rfl rfl (one_iv _) (szIV _) ?_; clear S; intro w3 S; simp only [List.set_cons_zero, List.set_cons_succ] at S)
           | ((with_reducible refine wpl_isDst 55 ?_); refine S.ldAll 28 _ rfl b18 rfl 0 _ rfl _ Tryz.underlying28 rfl (szIV _) rfl ?_)
           | (go_at_call 10; first | ((with_reducible refine (HS1.out _).mono ?_); rintro e wf ⟨rfl, hbf⟩; replace S := S.below hbf; clear hbf) | ((with_reducible refine (HS2.out _).mono ?_); rintro e wf ⟨rfl, hbf⟩; replace S := S.below hbf; clear hbf))
           | ((with_reducible refine g_ld 4 ?_); first | (refine wpl_skip rfl ?_) | (refine S.ld 4 _ rfl b18 1 rfl 0 _ rfl (.bool _) HWD.out _ Tryz.underlying4 rfl rfl ?_))
           | ((with_reducible refine g_ld 3 ?_); first | (refine wpl_skip rfl ?_) | (refine S.ld 3 _ rfl b18 0 rfl 0 _ rfl (.int .i64 _) HOP.out _ Tryz.underlying3 rfl rfl ?_))
           | ((with_reducible refine wpl_isDst 97 ?_); refine wpl_dst 97 rfl (.int .i64 q) (by go_simp; try exact hqw) rfl ?_)
           | ((with_reducible refine wpl_isStoreAt 98 ?_); refine S.store1 rfl 3 _ _ rfl b18 3 (.int .i64 q) rfl rfl 0 _ rfl rfl (by show 3 < 15; decide) (Cel.iv (withQ i q)) rfl (by kernel_rfl) ?_; clear S; intro w3 S; simp only [List.set_cons_zero, List.set_cons_succ] at S)
           | ((with_reducible refine wpl_isDst 99 ?_); refine S.ldAll 28 _ rfl b18 rfl 0 (Cel.iv (withQ i q)) rfl _ Tryz.underlying28 rfl (szIV _) rfl ?_))
          go_roundw
          case rel => exact ⟨j + 1, hlt, by push_cast; rfl, S.fewer 1⟩
          case measure =>
            simp only [intOf]
            omega
    · have hj5 : j = 5 := by omega
      subst hj5
      simp only [show ((5 : Nat) : Int) = 5 from rfl]
      go_wp2
      go_ret
      exact ⟨rfl, S.low⟩
end Go.Proofs.YtplhblhopaheeaaGreatDoor
