/- Stage 8: ThumbLeast, walked -/
import Derived.Test.YtblcklknlfofgaaDoorThH5
import Derived.Test.YtblcklknlfofgaaDoorThH3
namespace Go.Proofs.YtblcklknlfofgaaDoor
open Go.ChangeShapes Go.WideShapes Go.ChangeAt Go.RowKit
set_option linter.unusedVariables false
set_option linter.unusedSimpArgs false

theorem n16 (x : Int) (h0 : 0 ≤ x) (h1 : x ≤ 65535) : ∃ n : Nat, x = n ∧ n < 65536 := ⟨x.toNat, by omega, by omega⟩
def leRes (w : World) (i : IV) (b4 b9 : Nat) (wr : World) : Prop := ∃ j : IV, SH noZ w wr [(b9, Cel.iv j), (b4, Cel.iv i)]
set_option maxHeartbeats 4000000 in
set_option maxRecDepth 100000 in
theorem least_f (i : IV) (hi : OKi i) (h : Nat) (hh : h < 65536) (b : Bool) (w : World) (HT : LT w) : Calls Tryd.prog 5 #[i.val, .int .u16 h, .bool b, .bool false] w fun e w' => e = .returned (.bool true) ∧ Below w.heap.size w w' := by
  have CK : Hid (∀ w1, LT w1 → Calls Tryd.prog 8 #[] w1 fun e w' => e = .returned (.bool true) ∧ Below w1.heap.size w1 w') := known_c
  obtain ⟨R, hR⟩ : ∃ R, encZ i b = R := ⟨_, rfl⟩
  have E1 : Hid (∀ w1, LT w1 → Calls Tryd.prog 14 #[i.val, .bool b] w1 fun e w' => e = .returned (.tuple #[.int .u16 (R.1 : Nat), .bool R.2]) ∧ Below w1.heap.size w1 w') := fun w1 h1 => by
    have := encode_c i hi b w1 h1
    rw [hR] at this
    exact this
  have E2 : Hid (∀ w1, Calls Tryd.prog 15 #[i.val, .bool b] w1 fun e w' => e = .returned (.tuple #[.int .u16 (R.1 : Nat), .bool R.2]) ∧ Below w1.heap.size w1 w') := fun w1 => by
    have := rencode_c i b w1
    rw [hR] at this
    exact this
  clear hR
  go_enter Tryd.func5, Tryd.ntmps5
  have S := SH.start w
  cases hq : R.2
  all_goals
    have HQ : Hid (R.2 = _) := hq
    clear hq
    go_wp2_with (first
      | (go_at_call 8; refine (CK.out _ (HT.next S.low)).mono ?_; rintro e wf ⟨rfl, hbf⟩; replace S := S.below hbf; clear hbf)
      | (go_at_call 13; refine (rdecode_c h hh b _).mono ?_; rintro e wf ⟨rfl, hbf⟩; replace S := S.below hbf; clear hbf)
      | (go_at_call 14; refine (E1.out _ (HT.next S.low)).mono ?_; rintro e wf ⟨rfl, hbf⟩; rw [HQ.out]; replace S := S.below hbf; clear hbf)
      | (go_at_call 15; refine (E2.out _).mono ?_; rintro e wf ⟨rfl, hbf⟩; rw [HQ.out]; replace S := S.below hbf; clear hbf)
      | ((with_reducible refine wpl_isStore ?_); first
          | (refine S.storeAll rfl 29 _ _ rfl b9 (Cel.iv i) rfl rfl 0 _ rfl rfl (one_iv _) (szIV _) ?_; clear S; intro w2 S; simp only [List.set_cons_zero, List.set_cons_succ] at S)
          | (refine S.storeAll rfl 29 _ _ rfl b9 (Cel.iv (decN h b).iv) rfl rfl 0 _ rfl rfl (one_iv _) (szIV _) ?_; clear S; intro w2 S; simp only [List.set_cons_zero, List.set_cons_succ] at S))
      | ((with_reducible refine wpl_isDst 9 ?_); refine S.alloc rfl 29 rfl (Cel.iv IV.zero) zeroIV ?_; clear S; intro b9 w1 S)
      | ((with_reducible refine wpl_isLoad ?_); first
          | (refine S.ldAll 29 _ rfl b9 rfl 0 (Cel.iv i) rfl _ Tryd.underlying29 rfl (szIV _) rfl ?_)
          | (refine S.ldAll 29 _ rfl b4 rfl 0 (Cel.iv i) rfl _ Tryd.underlying29 rfl (szIV _) rfl ?_))
      | ((with_reducible refine wpl_is ?_); first
          | (refine SH.box (L := []) S rfl 29 _ rfl (Cel.iv i) rfl ?_; clear S; intro b4 w0 S)))
    go_ret
    exact ⟨rfl, S.low⟩
set_option maxHeartbeats 4000000 in
set_option maxRecDepth 100000 in
theorem least_t (i : IV) (hi : OKi i) (h : Nat) (hh : h < 65536) (b : Bool) (w : World) (HT : LT w) : Calls Tryd.prog 5 #[i.val, .int .u16 h, .bool b, .bool true] w fun e w' => e = .returned (.bool true) ∧ Below w.heap.size w w' := by
  have CK : Hid (∀ w1, LT w1 → Calls Tryd.prog 8 #[] w1 fun e w' => e = .returned (.bool true) ∧ Below w1.heap.size w1 w') := known_c
  obtain ⟨R, hR⟩ : ∃ R, encZ (decN h b).iv b = R := ⟨_, rfl⟩
  have E1 : Hid (∀ w1, LT w1 → Calls Tryd.prog 14 #[(decN h b).iv.val, .bool b] w1 fun e w' => e = .returned (.tuple #[.int .u16 (R.1 : Nat), .bool R.2]) ∧ Below w1.heap.size w1 w') := fun w1 h1 => by
    have := encode_c (decN h b).iv (okD h hh b) b w1 h1
    rw [hR] at this
    exact this
  have E2 : Hid (∀ w1, Calls Tryd.prog 15 #[(decN h b).iv.val, .bool b] w1 fun e w' => e = .returned (.tuple #[.int .u16 (R.1 : Nat), .bool R.2]) ∧ Below w1.heap.size w1 w') := fun w1 => by
    have := rencode_c (decN h b).iv b w1
    rw [hR] at this
    exact this
  clear hR
  go_enter Tryd.func5, Tryd.ntmps5
  have S := SH.start w
  cases hq : R.2
  all_goals
    have HQ : Hid (R.2 = _) := hq
    clear hq
    go_wp2_with (first
      | (go_at_call 8; refine (CK.out _ (HT.next S.low)).mono ?_; rintro e wf ⟨rfl, hbf⟩; replace S := S.below hbf; clear hbf)
      | (go_at_call 13; refine (rdecode_c h hh b _).mono ?_; rintro e wf ⟨rfl, hbf⟩; replace S := S.below hbf; clear hbf)
      | (go_at_call 14; refine (E1.out _ (HT.next S.low)).mono ?_; rintro e wf ⟨rfl, hbf⟩; rw [HQ.out]; replace S := S.below hbf; clear hbf)
      | (go_at_call 15; refine (E2.out _).mono ?_; rintro e wf ⟨rfl, hbf⟩; rw [HQ.out]; replace S := S.below hbf; clear hbf)
      | ((with_reducible refine wpl_isStore ?_); first
          | (refine S.storeAll rfl 29 _ _ rfl b9 (Cel.iv i) rfl rfl 0 _ rfl rfl (one_iv _) (szIV _) ?_; clear S; intro w2 S; simp only [List.set_cons_zero, List.set_cons_succ] at S)
          | (refine S.storeAll rfl 29 _ _ rfl b9 (Cel.iv (decN h b).iv) rfl rfl 0 _ rfl rfl (one_iv _) (szIV _) ?_; clear S; intro w2 S; simp only [List.set_cons_zero, List.set_cons_succ] at S))
      | ((with_reducible refine wpl_isDst 9 ?_); refine S.alloc rfl 29 rfl (Cel.iv IV.zero) zeroIV ?_; clear S; intro b9 w1 S)
      | ((with_reducible refine wpl_isLoad ?_); first
          | (refine S.ldAll 29 _ rfl b9 rfl 0 (Cel.iv (decN h b).iv) rfl _ Tryd.underlying29 rfl (szIV _) rfl ?_)
          | (refine S.ldAll 29 _ rfl b4 rfl 0 (Cel.iv i) rfl _ Tryd.underlying29 rfl (szIV _) rfl ?_))
      | ((with_reducible refine wpl_is ?_); first
          | (refine SH.box (L := []) S rfl 29 _ rfl (Cel.iv i) rfl ?_; clear S; intro b4 w0 S)))
    go_ret
    exact ⟨rfl, S.low⟩
theorem least_i (i : IV) (hi : OKi i) (x : Int) (h0 : 0 ≤ x) (h1 : x ≤ 65535) (b o : Bool) (w : World) (HT : LT w) : Calls Tryd.prog 5 #[i.val, .int .u16 x, .bool b, .bool o] w fun e w' => e = .returned (.bool true) ∧ Below w.heap.size w w' := by
  obtain ⟨n, rfl, m⟩ := n16 x h0 h1
  cases o
  · exact least_f i hi n m b w HT
  · exact least_t i hi n m b w HT
end Go.Proofs.YtblcklknlfofgaaDoor
