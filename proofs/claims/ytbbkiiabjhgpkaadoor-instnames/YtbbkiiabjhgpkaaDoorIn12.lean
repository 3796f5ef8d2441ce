/- Stage 7: InstNames. -/
import Derived.Test.YtbbkiiabjhgpkaaDoorIn11
namespace Go.Proofs.YtbbkiiabjhgpkaaDoor
open Go.ChangeShapes Go.WideShapes Go.ChangeAt Go.RowKit
set_option linter.unusedVariables false
set_option linter.unusedSimpArgs false

def nmRel (w : World) (g : Nat) (xs : List Int) (i : Value) (wr : World) : Prop := ∃ k : Nat, k ≤ 5 ∧ i = .int .i64 k ∧ SH noZ w wr [(g, Cel.any (ic xs))]
theorem class_none (x : Int) : (classS x == 0) = (decide (x < 1) || decide (66 ≤ x)) := by
  unfold classS
  (repeat' split) <;> (rw [Bool.eq_iff_iff]; simp; omega)
set_option maxHeartbeats 8000000 in
set_option maxRecDepth 100000 in
theorem names_i (o a b : Int) (ha : 0 ≤ a ∧ a ≤ 255) (hb : 0 ≤ b ∧ b ≤ 255) (w : World) (hT : NT w) : Calls Tryd.prog 3 #[.int .i64 o, .int .u8 a, .int .u8 b] w fun e w' => e = .returned (.bool true) ∧ Below w.heap.size w w' := by
  obtain ⟨ha0, ha1⟩ := ha
  obtain ⟨hb0, hb1⟩ := hb
  have HT : Hid (NT w) := hT
  have CK : Hid (∀ w1, NT w1 → Calls Tryd.prog 5 #[] w1 fun e w' => e = .returned (.bool true) ∧ Below w1.heap.size w1 w') := fun w1 h => known_c w1 h
  obtain ⟨m, hm⟩ : ∃ m : Int, a.tmod 70 = m := ⟨_, rfl⟩
  have hmw : IntKind.i64.wrap m = m := by
    rw [IntKind.wrap_i64, ← hm, Int.tmod_eq_emod_of_nonneg ha0]
    omega
  obtain ⟨p, hp, hp1⟩ : ∃ p : Nat, a.tmod 65 = (p : Int) ∧ p < 65 := ⟨(a % 65).toNat, by rw [Int.tmod_eq_emod_of_nonneg ha0]; omega, by omega⟩
  obtain ⟨q, hq, hq1⟩ : ∃ q : Nat, b.tmod 65 = (q : Int) ∧ q < 65 := ⟨(b % 65).toNat, by rw [Int.tmod_eq_emod_of_nonneg hb0]; omega, by omega⟩
  have hpw : IntKind.i64.wrap (p : Int) = (p : Int) := by rw [IntKind.wrap_i64]; omega
  have hqw : IntKind.i64.wrap (q : Int) = (q : Int) := by rw [IntKind.wrap_i64]; omega
  have hpw1 : IntKind.i64.wrap ((p : Int) + 1) = (p : Int) + 1 := by rw [IntKind.wrap_i64]; omega
  have hqw1 : IntKind.i64.wrap ((q : Int) + 1) = (q : Int) + 1 := by rw [IntKind.wrap_i64]; omega
  obtain ⟨e, he⟩ : ∃ e, (p == q) = e := ⟨_, rfl⟩
  have HXY : Hid (((nmS ((p : Int) + 1)).toList == (nmS ((q : Int) + 1)).toList) = e) := (nm_eq hp1 hq1).trans he
  have HPQ : Hid ((((p : Int) + 1) == ((q : Int) + 1)) = e) := by
    show (_ == _) = e
    rw [← he, Bool.eq_iff_iff]
    simp
    omega
  have HX0 : Hid (((nmS ((p : Int) + 1)).toList == ([] : List UInt8)) = false) := nm_ne hp1
  have CNP : Hid (∀ w1, NT w1 → Calls Tryd.prog 6 #[.int .i64 ((p : Int) + 1)] w1 fun e w' => e = .returned (.string (nmS ((p : Int) + 1))) ∧ w' = w1) := fun w1 h => name_c _ w1 h
  have CNQ : Hid (∀ w1, NT w1 → Calls Tryd.prog 6 #[.int .i64 ((q : Int) + 1)] w1 fun e w' => e = .returned (.string (nmS ((q : Int) + 1))) ∧ w' = w1) := fun w1 h => name_c _ w1 h
  generalize nmS ((p : Int) + 1) = X at *
  generalize nmS ((q : Int) + 1) = Y at *
  obtain ⟨pp, hpp⟩ : ∃ pp : Int, pp = (p : Int) + 1 := ⟨_, rfl⟩
  obtain ⟨qq, hqq⟩ : ∃ qq : Int, qq = (q : Int) + 1 := ⟨_, rfl⟩
  rw [← hpp] at HPQ CNP hpw1
  rw [← hqq] at HPQ CNQ hqw1
  have hpp' : (p : Int) + 1 = pp := hpp.symm
  have hqq' : (q : Int) + 1 = qq := hqq.symm
  clear hT ha0 ha1 hb0 hb1 hp1 hq1 he hpp hqq
  go_enter Tryd.func3, Tryd.ntmps3
  have S := SH.start w
  go_upto_region 4 with (first
    | (go_at_call 5; refine (CK.out _ HT.out).mono ?_; rintro e wf ⟨rfl, hbf⟩; replace S := S.below hbf; clear hbf)
    | ((with_reducible refine wpl_isDst 16 ?_); refine wpl_dst 16 rfl (.int .i64 m) (by go_simp; try exact hmw) rfl ?_)
    | ((with_reducible refine wpl_isDst 17 ?_); refine SH.sliceQ (L := []) S rfl 23 5 _ rfl (ic [o, m, -1, 66, 65]) 3 (by kernel_rfl) ?_; clear S; intro g17 w17 S))
  have ST : Hid (nmRel w g17 [o, m, -1, 66, 65] (.int .i64 0) _) := ⟨0, Nat.zero_le _, rfl, S⟩
  clear S
  go_loopw [19] (fun i wr => nmRel w g17 [o, m, -1, 66, 65] i wr) (fun i _ => 5 - (intOf i).toNat)
  case atStart => exact ST.out
  case round =>
    clear ST
    obtain ⟨k, hk, rfl, S⟩ := hrel
    by_cases hlt : k < 5
    · have hlt' : (k : Int) < 5 := by omega
      have h0 : 0 ≤ (k : Int) := by omega
      obtain ⟨x, hx⟩ : ∃ x, ([o, m, -1, 66, 65] : List Int)[k]? = some x := ⟨_, List.getElem?_eq_getElem (by simpa using hlt)⟩
      have HX : Hid ((ic [o, m, -1, 66, 65])[k]? = some (.int .i64 x)) := by
        show (ic [o, m, -1, 66, 65])[k]? = _
        unfold ic
        rw [List.getElem?_map, hx]
        rfl
      have C1 : Hid (∀ w1, NT w1 → Calls Tryd.prog 6 #[.int .i64 x] w1 fun e w' => e = .returned (.string (nmS x)) ∧ w' = w1) := fun w1 h => name_c x w1 h
      have C2 : Hid (∀ w1, Calls Tryd.prog 7 #[.int .i64 x] w1 fun e w' => e = .returned (.string (nmS x)) ∧ Below w1.heap.size w1 w') := fun w1 => rname_c x w1
      have C3 : Hid (∀ w1, Calls Tryd.prog 8 #[.int .i64 x] w1 fun e w' => e = .returned (.int .i64 (classS x)) ∧ w' = w1) := fun w1 => class_c x w1
      have C4 : Hid (∀ w1, Calls Tryd.prog 9 #[.int .i64 x] w1 fun e w' => e = .returned (.int .i64 (classS x)) ∧ w' = w1) := fun w1 => rclass_c x w1
      have hcn := class_none x
      generalize nmS x = Z at *
      generalize classS x = c at *
      clear hx
      by_cases h1 : x < 1
      · have hc : (c == 0) = true := by rw [hcn]; simp [h1]
        clear hcn
        go_wp2_with (first
          | ((with_reducible refine wpl_isDst 22 ?_); refine S.ld 3 _ rfl g17 k rfl 0 (Cel.any (ic [o, m, -1, 66, 65])) rfl (.int .i64 x) HX.out _ Tryd.underlying3 rfl rfl ?_)
          | (go_at_call 6; refine (C1.out _ (HT.out.next S.low)).mono ?_; rintro e wf ⟨rfl, rfl⟩)
          | (go_at_call 7; refine (C2.out _).mono ?_; rintro e wf ⟨rfl, hbf⟩; replace S := S.below hbf; clear hbf)
          | (go_at_call 8; refine (C3.out _).mono ?_; rintro e wf ⟨rfl, rfl⟩)
          | (go_at_call 9; refine (C4.out _).mono ?_; rintro e wf ⟨rfl, rfl⟩))
        go_roundw
        case rel => exact ⟨k + 1, hlt, by push_cast; rfl, S⟩
        case measure =>
          simp only [intOf]
          omega
      · by_cases h2 : 66 ≤ x
        · have hc : (c == 0) = true := by rw [hcn]; simp [h2]
          clear hcn
          go_wp2_with (first
            | ((with_reducible refine wpl_isDst 22 ?_); refine S.ld 3 _ rfl g17 k rfl 0 (Cel.any (ic [o, m, -1, 66, 65])) rfl (.int .i64 x) HX.out _ Tryd.underlying3 rfl rfl ?_)
            | (go_at_call 6; refine (C1.out _ (HT.out.next S.low)).mono ?_; rintro e wf ⟨rfl, rfl⟩)
            | (go_at_call 7; refine (C2.out _).mono ?_; rintro e wf ⟨rfl, hbf⟩; replace S := S.below hbf; clear hbf)
            | (go_at_call 8; refine (C3.out _).mono ?_; rintro e wf ⟨rfl, rfl⟩)
            | (go_at_call 9; refine (C4.out _).mono ?_; rintro e wf ⟨rfl, rfl⟩))
          go_roundw
          case rel => exact ⟨k + 1, hlt, by push_cast; rfl, S⟩
          case measure =>
            simp only [intOf]
            omega
        · have hc : (c == 0) = false := by rw [hcn]; simp [h1, h2]
          clear hcn
          go_wp2_with (first
            | ((with_reducible refine wpl_isDst 22 ?_); refine S.ld 3 _ rfl g17 k rfl 0 (Cel.any (ic [o, m, -1, 66, 65])) rfl (.int .i64 x) HX.out _ Tryd.underlying3 rfl rfl ?_)
            | (go_at_call 6; refine (C1.out _ (HT.out.next S.low)).mono ?_; rintro e wf ⟨rfl, rfl⟩)
            | (go_at_call 7; refine (C2.out _).mono ?_; rintro e wf ⟨rfl, hbf⟩; replace S := S.below hbf; clear hbf)
            | (go_at_call 8; refine (C3.out _).mono ?_; rintro e wf ⟨rfl, rfl⟩)
            | (go_at_call 9; refine (C4.out _).mono ?_; rintro e wf ⟨rfl, rfl⟩))
          go_roundw
          case rel => exact ⟨k + 1, hlt, by push_cast; rfl, S⟩
          case measure =>
            simp only [intOf]
            omega
    · have hlt' : ¬ (k : Int) < 5 := by omega
      go_wp2_with (first
        | ((with_reducible refine wpl_isDst 51 ?_); refine wpl_dst 51 rfl (.int .i64 pp) (by go_simp; try exact hpw1) rfl ?_)
        | ((with_reducible refine wpl_isDst 55 ?_); refine wpl_dst 55 rfl (.int .i64 qq) (by go_simp; try exact hqw1) rfl ?_)
        | (go_at_call 6; first | ((with_reducible refine (CNP.out _ (HT.out.next S.low)).mono ?_); rintro e wf ⟨rfl, rfl⟩) | ((with_reducible refine (CNQ.out _ (HT.out.next S.low)).mono ?_); rintro e wf ⟨rfl, rfl⟩))
        | ((with_reducible refine wpl_isDst 60 ?_); refine wpl_dst 60 rfl (.bool e) (by go_simp; rw [HXY.out]) rfl ?_)
        | ((with_reducible refine wpl_isDst 63 ?_); refine wpl_dst 63 rfl (.bool e) (by go_simp; rw [HPQ.out]) rfl ?_)
        | ((with_reducible refine wpl_isDst 64 ?_); refine wpl_dst 64 rfl (.bool true) (by go_simp; try simp) rfl ?_)
        | ((with_reducible refine wpl_isDst 68 ?_); refine wpl_dst 68 rfl (.bool true) (by go_simp; have h := HX0.out; simp_all) rfl ?_))
      go_ret
      exact ⟨rfl, S.low⟩
end Go.Proofs.YtbbkiiabjhgpkaaDoor
