/- Stage 7: the registers that an instruction has at some places, as they come. -/
import Derived.Test.YtbbkiiabjhgpkaaDoorShR
import Derived.Test.YtbbkiiabjhgpkaaDoorIn6
namespace Go.Proofs.YtbbkiiabjhgpkaaDoor
open Go.ChangeShapes Go.WideShapes Go.ChangeAt Go.RowKit
set_option linter.unusedVariables false
set_option linter.unusedSimpArgs false

def ic (xs : List Int) : List Value := xs.map fun x => Value.int .i64 x
theorem ic_length (xs : List Int) : (ic xs).length = xs.length := by simp [ic]
theorem ic_append (a b : List Int) : ic (a ++ b) = ic a ++ ic b := by simp [ic]
theorem ic_one (xs : List Int) : ∀ u ∈ ic xs, u.oneCell' = true := by
  intro u hu
  obtain ⟨x, _, rfl⟩ := List.mem_map.1 hu
  rfl
theorem infoInt : (Tryd.prog.info? 3).map (fun i => (i.zero, i.size, i.bytes)) = some (some (.int .i64 0), 1, 8) := by kernel_rfl
theorem bits64 (a b : Nat) (ha : a < 9223372036854775808) (hb : b < 9223372036854775808) : bits .and .i64 (a : Int) (b : Int) = ((a &&& b : Nat) : Int) ∧ bits .or .i64 (a : Int) (b : Int) = ((a ||| b : Nat) : Int) := by
  have e1 : bits .and .i64 (a : Int) (b : Int) = IntKind.i64.wrap (((BitVec.ofInt 64 a &&& BitVec.ofInt 64 b).toNat : Nat) : Int) := rfl
  have e2 : bits .or .i64 (a : Int) (b : Int) = IntKind.i64.wrap (((BitVec.ofInt 64 a ||| BitVec.ofInt 64 b).toNat : Nat) : Int) := rfl
  have h1 : (BitVec.ofInt 64 (a : Int)).toNat = a := by rw [BitVec.toNat_ofInt]; omega
  have h2 : (BitVec.ofInt 64 (b : Int)).toNat = b := by rw [BitVec.toNat_ofInt]; omega
  have l1 : a &&& b ≤ a := Nat.and_le_left
  have l2 : a ||| b < 2 ^ 63 := Nat.or_lt_two_pow (by omega) (by omega)
  rw [e1, e2, BitVec.toNat_and, BitVec.toNat_or, h1, h2, IntKind.wrap_i64, IntKind.wrap_i64]
  constructor <;> omega
theorem andPow (W k : Nat) (hW : W < 65536) (hk : k < 16) (p : Int) (hp : p = ((2 ^ k : Nat) : Int)) : bits .and .i64 (W : Int) p = bif W.testBit k then p else 0 := by
  have h2 : 2 ^ k ≤ 2 ^ 15 := Nat.pow_le_pow_right (by decide) (by omega)
  rw [hp, (bits64 W (2 ^ k) (by omega) (by omega)).1]
  have e : W &&& 2 ^ k = bif W.testBit k then 2 ^ k else 0 := by
    apply Nat.eq_of_testBit_eq
    intro j
    rw [Nat.testBit_and, Nat.testBit_two_pow]
    by_cases hj : k = j
    · subst hj
      cases h : W.testBit k <;> simp [Nat.testBit_two_pow]
    · cases h : W.testBit k <;> simp [Nat.testBit_two_pow, hj]
  rw [e]
  cases W.testBit k <;> rfl
theorem bit1 (l k : Nat) (hl : l < 65536) : bits .and .i64 ((l : Int) / 2 ^ k) 1 = bif l.testBit k then 1 else 0 := by
  have e : (l : Int) / 2 ^ k = ((l / 2 ^ k : Nat) : Int) := by push_cast; rfl
  have h : l / 2 ^ k ≤ l := Nat.div_le_self _ _
  rw [e, andPow (l / 2 ^ k) 0 (by omega) (by decide) 1 rfl, Nat.testBit_zero, Nat.testBit_eq_decide_div_mod_eq]
def fourL (d n m a : Int) (W : Nat) : List Int := (bif W.testBit 0 then [d] else []) ++ ((bif W.testBit 1 then [n] else []) ++ ((bif W.testBit 2 then [m] else []) ++ (bif W.testBit 3 then [a] else [])))
def listL (W l k : Nat) : List Int := bif W.testBit 4 then ((List.range k).filter fun r => l.testBit r).map fun r : Nat => (r : Int) else []
def restL (W : Nat) : List Int := (bif W.testBit 5 then [0] else []) ++ ((bif W.testBit 6 then [14] else []) ++ (bif W.testBit 7 then [15] else []))
def regsL (d n m a : Int) (l W : Nat) : List Int := fourL d n m a W ++ (listL W l 16 ++ restL W)
def fourP (d n m a : Int) (W : Nat) : Nat → List Int
  | 0 => []
  | 1 => (bif W.testBit 0 then [d] else [])
  | 2 => (bif W.testBit 0 then [d] else []) ++ (bif W.testBit 1 then [n] else [])
  | 3 => (bif W.testBit 0 then [d] else []) ++ ((bif W.testBit 1 then [n] else []) ++ (bif W.testBit 2 then [m] else []))
  | _ => fourL d n m a W
def restP (W : Nat) : Nat → List Int
  | 0 => []
  | 1 => (bif W.testBit 5 then [0] else [])
  | 2 => (bif W.testBit 5 then [0] else []) ++ (bif W.testBit 6 then [14] else [])
  | _ => restL W
theorem bif_len (b : Bool) (x : Int) : (bif b then [x] else []).length ≤ 1 := by cases b <;> simp
theorem fourP_len (d n m a : Int) (W k : Nat) : (fourP d n m a W k).length ≤ 4 := by
  have h0 := bif_len (W.testBit 0) d
  have h1 := bif_len (W.testBit 1) n
  have h2 := bif_len (W.testBit 2) m
  have h3 := bif_len (W.testBit 3) a
  rcases k with _ | _ | _ | _ | k <;> simp only [fourP, fourL, List.length_append, List.length_nil] <;> omega
theorem restP_len (W k : Nat) : (restP W k).length ≤ 3 := by
  have h0 := bif_len (W.testBit 5) 0
  have h1 := bif_len (W.testBit 6) 14
  have h2 := bif_len (W.testBit 7) 15
  rcases k with _ | _ | _ | k <;> simp only [restP, restL, List.length_append, List.length_nil] <;> omega
theorem listL_len (W l k : Nat) : (listL W l k).length ≤ k := by
  unfold listL
  cases W.testBit 4
  · simp
  · simp only [cond_true, List.length_map]
    exact Nat.le_trans (List.length_filter_le _ _) (by simp)
theorem listL_succ (W l k : Nat) : listL W l (k + 1) = listL W l k ++ (bif (W.testBit 4 && l.testBit k) then [(k : Int)] else []) := by
  unfold listL
  cases W.testBit 4
  · simp
  · simp only [cond_true, Bool.true_and, List.range_succ, List.filter_append, List.map_append]
    cases h : l.testBit k <;> simp [h]
def rgRel (w : World) (b : Nat) (i : IV) (f : Nat → List Int) (n : Nat) (v k : Value) (wr : World) : Prop := ∃ j : Nat, j ≤ n ∧ k = .int .i64 j ∧ SH (rowZ w.heap.size 3 v (ic (f j))) w wr [(b, Cel.iv i)]
def rg4Rel (w : World) (b g : Nat) (cs : List Value) (i : IV) (f : Nat → List Int) (n : Nat) (v k : Value) (wr : World) : Prop := ∃ j : Nat, j ≤ n ∧ k = .int .i64 j ∧ SH (rowZ w.heap.size 3 v (ic (f j))) w wr [(g, Cel.any cs), (b, Cel.iv i)]
def RowPost (w : World) (xs : List Int) (e : Ending) (w' : World) : Prop := ∃ v, e = .returned v ∧ w'.ownsRow w.heap.size 3 1 v xs.length (ic xs) ∧ Below w.heap.size w w'
theorem wpl_skip {P : Program} {ops : Array Oper} {rest : List Oper} {o : Oper} {a : Act} {Q : Exit → Act → World → Prop} {w : World} (hw : Region.wanted o (yielded ops a.tmps) = false) (h : wpList P ops Q rest (a.put o.dst undef) w) : wpList P ops Q (o :: rest) a w :=
  wpList_step fun K hK => by
    rw [if_neg (by simp [hw])]
    exact hK _ _ h
set_option maxHeartbeats 8000000 in
set_option maxRecDepth 100000 in
theorem registers_c (i : IV) (W l : Nat) (hW : W < 256) (hl : i.list = (l : Int)) (hl2 : l < 65536) (w : World) : Calls Tryd.prog 36 #[i.val, .int .i64 (W : Int)] w fun e w' => RowPost w (regsL i.d i.n i.m i.a l W) e w' := by
  obtain ⟨op, wide, s, cond, d, n, m, a, imm, useImm, sh, amt, list, back, down⟩ := i
  simp only at hl
  subst hl
  have HW0 : Hid (bits .and .i64 (W : Int) 1 = bif W.testBit 0 then 1 else 0) := andPow W 0 (by omega) (by decide) 1 rfl
  have HW1 : Hid (bits .and .i64 (W : Int) 2 = bif W.testBit 1 then 2 else 0) := andPow W 1 (by omega) (by decide) 2 rfl
  have HW2 : Hid (bits .and .i64 (W : Int) 4 = bif W.testBit 2 then 4 else 0) := andPow W 2 (by omega) (by decide) 4 rfl
  have HW3 : Hid (bits .and .i64 (W : Int) 8 = bif W.testBit 3 then 8 else 0) := andPow W 3 (by omega) (by decide) 8 rfl
  have HW4 : Hid (bits .and .i64 (W : Int) 16 = bif W.testBit 4 then 16 else 0) := andPow W 4 (by omega) (by decide) 16 rfl
  have HW5 : Hid (bits .and .i64 (W : Int) 32 = bif W.testBit 5 then 32 else 0) := andPow W 5 (by omega) (by decide) 32 rfl
  have HW6 : Hid (bits .and .i64 (W : Int) 64 = bif W.testBit 6 then 64 else 0) := andPow W 6 (by omega) (by decide) 64 rfl
  have HW7 : Hid (bits .and .i64 (W : Int) 128 = bif W.testBit 7 then 128 else 0) := andPow W 7 (by omega) (by decide) 128 rfl
  have HB : Hid (∀ k : Nat, bits .and .i64 ((l : Int) / 2 ^ k) 1 = bif l.testBit k then 1 else 0) := fun k => bit1 l k hl2
  have hl0 : 0 ≤ (l : Int) := by omega
  have hl3 : (l : Int) < 65536 := by omega
  have hW0 : 0 ≤ (W : Int) := by omega
  have hW3 : (W : Int) < 256 := by omega
  clear hW hl2
  obtain ⟨J, hJ⟩ : ∃ J : IV, J = ⟨op, wide, s, cond, d, n, m, a, imm, useImm, sh, amt, l, back, down⟩ := ⟨_, rfl⟩
  go_enter Tryd.func36, Tryd.ntmps36
  have S := SH.start w
  go_upto_region 3 with (first
    | ((with_reducible refine wpl_isDst 2 ?_); refine SH.box (L := []) S rfl 31 _ rfl (Cel.iv ⟨op, wide, s, cond, d, n, m, a, imm, useImm, sh, amt, l, back, down⟩) rfl ?_; clear S; intro b2 w2 S)
    | ((with_reducible refine wpl_isDst 12 ?_); refine S.ld 3 _ rfl b2 4 rfl 0 _ rfl _ rfl _ Tryd.underlying3 rfl rfl ?_)
    | ((with_reducible refine wpl_isDst 14 ?_); refine S.ld 3 _ rfl b2 5 rfl 0 _ rfl _ rfl _ Tryd.underlying3 rfl rfl ?_)
    | ((with_reducible refine wpl_isDst 16 ?_); refine S.ld 3 _ rfl b2 6 rfl 0 _ rfl _ rfl _ Tryd.underlying3 rfl rfl ?_)
    | ((with_reducible refine wpl_isDst 18 ?_); refine S.ld 3 _ rfl b2 7 rfl 0 _ rfl _ rfl _ Tryd.underlying3 rfl rfl ?_)
    | ((with_reducible refine wpl_isDst 19 ?_); refine S.sliceQ rfl 23 4 _ rfl (ic [d, n, m, a]) 3 (by kernel_rfl) ?_; clear S; intro g19 w19 S))
  rw [← hJ] at S
  have ST : Hid (rg4Rel w b2 g19 (ic [d, n, m, a]) J (fourP d n m a W) 4 (.slice none 0 0) (.int .i64 0) _) := ⟨0, Nat.zero_le _, rfl, S.rowNil _⟩
  clear S
  go_loopw [5, 21] (fun v k wr => rg4Rel w b2 g19 (ic [d, n, m, a]) J (fourP d n m a W) 4 v k wr) (fun _ k _ => 4 - (intOf k).toNat)
  case atStart => exact ST.out
  case round =>
    clear ST
    obtain ⟨j, hj, rfl, S⟩ := hrel
    by_cases hlt : j < 4
    · have hlen := fourP_len d n m a W j
      rcases (show j = 0 ∨ j = 1 ∨ j = 2 ∨ j = 3 by omega) with rfl | rfl | rfl | rfl
      · cases ht : W.testBit 0
        · have HF : Hid (fourP d n m a W 1 = fourP d n m a W 0) := by
            show _ = _
            simp only [fourP, fourL, ht, cond_false, List.append_nil, List.nil_append]
          have h0 : bits .and .i64 (W : Int) 1 = 0 := by
            have := HW0.out
            rw [ht] at this
            exact this
          go_wp2_with (first
            | ((with_reducible refine wpl_isDst 25 ?_); refine S.ld 3 _ rfl g19 0 rfl 0 (Cel.any (ic [d, n, m, a])) rfl (.int .i64 d) rfl _ Tryd.underlying3 rfl rfl ?_)
            | ((with_reducible refine wpl_isDst 29 ?_); refine wpl_dst 29 rfl (.int .i64 0) (by go_simp; exact h0) rfl ?_)
            )
          go_roundw
          case rel => exact ⟨1, by decide, rfl, by rw [HF.out]; exact S⟩
          case measure =>
            simp only [intOf]
            decide
        · have HF : Hid (fourP d n m a W 0 ++ [d] = fourP d n m a W 1) := by
            show _ = _
            simp only [fourP, fourL, ht, cond_true, List.append_assoc, List.nil_append]
          have h0 : bits .and .i64 (W : Int) 1 = 1 := by
            have := HW0.out
            rw [ht] at this
            exact this
          go_wp2_with (first
            | ((with_reducible refine wpl_isDst 25 ?_); refine S.ld 3 _ rfl g19 0 rfl 0 (Cel.any (ic [d, n, m, a])) rfl (.int .i64 d) rfl _ Tryd.underlying3 rfl rfl ?_)
            | ((with_reducible refine wpl_isDst 29 ?_); refine wpl_dst 29 rfl (.int .i64 1) (by go_simp; exact h0) rfl ?_)
            | ((with_reducible refine wpl_isDst 33 ?_); refine S.sliceQ rfl 23 1 _ rfl (ic [d]) 3 (by kernel_rfl) ?_; clear S; intro g33 w33 S)
            | ((with_reducible refine wpl_isDst 34 ?_); refine S.appendG rfl 23 _ _ rfl Tryd.underlying23 (.int .i64 0) 8 infoInt rfl rfl g33 1 1 rfl 0 (ic [d]) rfl rfl (ic_one _) (by decide) (by rw [ic_length]; omega) (by rw [ic_length]; omega) ?_; clear S; intro g34 c34 w34 S)
            )
          go_roundw
          case rel =>
            have S1 := S.fewer 1
            rw [← ic_append, HF.out] at S1
            exact ⟨1, by decide, rfl, S1⟩
          case measure =>
            simp only [intOf]
            decide
      · cases ht : W.testBit 1
        · have HF : Hid (fourP d n m a W 2 = fourP d n m a W 1) := by
            show _ = _
            simp only [fourP, fourL, ht, cond_false, List.append_nil, List.nil_append]
          have h0 : bits .and .i64 (W : Int) 2 = 0 := by
            have := HW1.out
            rw [ht] at this
            exact this
          go_wp2_with (first
            | ((with_reducible refine wpl_isDst 25 ?_); refine S.ld 3 _ rfl g19 1 rfl 0 (Cel.any (ic [d, n, m, a])) rfl (.int .i64 n) rfl _ Tryd.underlying3 rfl rfl ?_)
            | ((with_reducible refine wpl_isDst 29 ?_); refine wpl_dst 29 rfl (.int .i64 0) (by go_simp; exact h0) rfl ?_)
            )
          go_roundw
          case rel => exact ⟨2, by decide, rfl, by rw [HF.out]; exact S⟩
          case measure =>
            simp only [intOf]
            decide
        · have HF : Hid (fourP d n m a W 1 ++ [n] = fourP d n m a W 2) := by
            show _ = _
            simp only [fourP, fourL, ht, cond_true, List.append_assoc, List.nil_append]
          have h0 : bits .and .i64 (W : Int) 2 = 2 := by
            have := HW1.out
            rw [ht] at this
            exact this
          go_wp2_with (first
            | ((with_reducible refine wpl_isDst 25 ?_); refine S.ld 3 _ rfl g19 1 rfl 0 (Cel.any (ic [d, n, m, a])) rfl (.int .i64 n) rfl _ Tryd.underlying3 rfl rfl ?_)
            | ((with_reducible refine wpl_isDst 29 ?_); refine wpl_dst 29 rfl (.int .i64 2) (by go_simp; exact h0) rfl ?_)
            | ((with_reducible refine wpl_isDst 33 ?_); refine S.sliceQ rfl 23 1 _ rfl (ic [n]) 3 (by kernel_rfl) ?_; clear S; intro g33 w33 S)
            | ((with_reducible refine wpl_isDst 34 ?_); refine S.appendG rfl 23 _ _ rfl Tryd.underlying23 (.int .i64 0) 8 infoInt rfl rfl g33 1 1 rfl 0 (ic [n]) rfl rfl (ic_one _) (by decide) (by rw [ic_length]; omega) (by rw [ic_length]; omega) ?_; clear S; intro g34 c34 w34 S)
            )
          go_roundw
          case rel =>
            have S1 := S.fewer 1
            rw [← ic_append, HF.out] at S1
            exact ⟨2, by decide, rfl, S1⟩
          case measure =>
            simp only [intOf]
            decide
      · cases ht : W.testBit 2
        · have HF : Hid (fourP d n m a W 3 = fourP d n m a W 2) := by
            show _ = _
            simp only [fourP, fourL, ht, cond_false, List.append_nil, List.nil_append]
          have h0 : bits .and .i64 (W : Int) 4 = 0 := by
            have := HW2.out
            rw [ht] at this
            exact this
          go_wp2_with (first
            | ((with_reducible refine wpl_isDst 25 ?_); refine S.ld 3 _ rfl g19 2 rfl 0 (Cel.any (ic [d, n, m, a])) rfl (.int .i64 m) rfl _ Tryd.underlying3 rfl rfl ?_)
            | ((with_reducible refine wpl_isDst 29 ?_); refine wpl_dst 29 rfl (.int .i64 0) (by go_simp; exact h0) rfl ?_)
            )
          go_roundw
          case rel => exact ⟨3, by decide, rfl, by rw [HF.out]; exact S⟩
          case measure =>
            simp only [intOf]
            decide
        · have HF : Hid (fourP d n m a W 2 ++ [m] = fourP d n m a W 3) := by
            show _ = _
            simp only [fourP, fourL, ht, cond_true, List.append_assoc, List.nil_append]
          have h0 : bits .and .i64 (W : Int) 4 = 4 := by
            have := HW2.out
            rw [ht] at this
            exact this
          go_wp2_with (first
            | ((with_reducible refine wpl_isDst 25 ?_); refine S.ld 3 _ rfl g19 2 rfl 0 (Cel.any (ic [d, n, m, a])) rfl (.int .i64 m) rfl _ Tryd.underlying3 rfl rfl ?_)
            | ((with_reducible refine wpl_isDst 29 ?_); refine wpl_dst 29 rfl (.int .i64 4) (by go_simp; exact h0) rfl ?_)
            | ((with_reducible refine wpl_isDst 33 ?_); refine S.sliceQ rfl 23 1 _ rfl (ic [m]) 3 (by kernel_rfl) ?_; clear S; intro g33 w33 S)
            | ((with_reducible refine wpl_isDst 34 ?_); refine S.appendG rfl 23 _ _ rfl Tryd.underlying23 (.int .i64 0) 8 infoInt rfl rfl g33 1 1 rfl 0 (ic [m]) rfl rfl (ic_one _) (by decide) (by rw [ic_length]; omega) (by rw [ic_length]; omega) ?_; clear S; intro g34 c34 w34 S)
            )
          go_roundw
          case rel =>
            have S1 := S.fewer 1
            rw [← ic_append, HF.out] at S1
            exact ⟨3, by decide, rfl, S1⟩
          case measure =>
            simp only [intOf]
            decide
      · cases ht : W.testBit 3
        · have HF : Hid (fourP d n m a W 4 = fourP d n m a W 3) := by
            show _ = _
            simp only [fourP, fourL, ht, cond_false, List.append_nil, List.nil_append]
          have h0 : bits .and .i64 (W : Int) 8 = 0 := by
            have := HW3.out
            rw [ht] at this
            exact this
          go_wp2_with (first
            | ((with_reducible refine wpl_isDst 25 ?_); refine S.ld 3 _ rfl g19 3 rfl 0 (Cel.any (ic [d, n, m, a])) rfl (.int .i64 a) rfl _ Tryd.underlying3 rfl rfl ?_)
            | ((with_reducible refine wpl_isDst 29 ?_); refine wpl_dst 29 rfl (.int .i64 0) (by go_simp; exact h0) rfl ?_)
            )
          go_roundw
          case rel => exact ⟨4, by decide, rfl, by rw [HF.out]; exact S⟩
          case measure =>
            simp only [intOf]
            decide
        · have HF : Hid (fourP d n m a W 3 ++ [a] = fourP d n m a W 4) := by
            show _ = _
            simp only [fourP, fourL, ht, cond_true, List.append_assoc, List.nil_append]
          have h0 : bits .and .i64 (W : Int) 8 = 8 := by
            have := HW3.out
            rw [ht] at this
            exact this
          go_wp2_with (first
            | ((with_reducible refine wpl_isDst 25 ?_); refine S.ld 3 _ rfl g19 3 rfl 0 (Cel.any (ic [d, n, m, a])) rfl (.int .i64 a) rfl _ Tryd.underlying3 rfl rfl ?_)
            | ((with_reducible refine wpl_isDst 29 ?_); refine wpl_dst 29 rfl (.int .i64 8) (by go_simp; exact h0) rfl ?_)
            | ((with_reducible refine wpl_isDst 33 ?_); refine S.sliceQ rfl 23 1 _ rfl (ic [a]) 3 (by kernel_rfl) ?_; clear S; intro g33 w33 S)
            | ((with_reducible refine wpl_isDst 34 ?_); refine S.appendG rfl 23 _ _ rfl Tryd.underlying23 (.int .i64 0) 8 infoInt rfl rfl g33 1 1 rfl 0 (ic [a]) rfl rfl (ic_one _) (by decide) (by rw [ic_length]; omega) (by rw [ic_length]; omega) ?_; clear S; intro g34 c34 w34 S)
            )
          go_roundw
          case rel =>
            have S1 := S.fewer 1
            rw [← ic_append, HF.out] at S1
            exact ⟨4, by decide, rfl, S1⟩
          case measure =>
            simp only [intOf]
            decide
    · have hj4 : j = 4 := by omega
      subst hj4
      replace S := S.fewer 1
      rw [show List.drop 1 [(g19, Cel.any (ic [d, n, m, a])), (b2, Cel.iv J)] = [(b2, Cel.iv J)] from rfl] at S
      have HLEN : Hid ((fourP d n m a W 4).length ≤ 4) := fourP_len d n m a W 4
      obtain ⟨P, hP⟩ : ∃ P, P = fourP d n m a W 4 := ⟨_, rfl⟩
      rw [← hP] at S HLEN
      have HPP : Hid (P = fourP d n m a W 4) := hP
      clear hP
      obtain ⟨wO, hwO⟩ : ∃ y, y = wr := ⟨_, rfl⟩
      rw [← hwO]
      rw [← hwO] at S
      clear hwO wr
      simp only [show ((4 : Nat) : Int) = 4 from rfl]
      go_upto_region 9 with fail
      have ST : Hid (rgRel w b2 J (fun k => P ++ listL W l k) 16 u5 (.int .i64 0) wO) := ⟨0, Nat.zero_le _, rfl, by
        have e : P ++ listL W l 0 = P := by
          unfold listL
          cases W.testBit 4 <;> simp
        show SH (rowZ _ _ _ (ic (P ++ listL W l 0))) _ _ _
        rw [e]
        exact S⟩
      clear S
      go_loopw [5, 36] (fun v k wr => rgRel w b2 J (fun k => P ++ listL W l k) 16 v k wr) (fun _ k _ => 16 - (intOf k).toNat)
      case atStart => exact ST.out
      case round =>
        clear ST
        obtain ⟨r, hr, rfl, S⟩ := hrel
        have S' : SH (rowZ w.heap.size 3 u5 (ic (P ++ listL W l r))) w wr [(b2, Cel.iv J)] := S
        clear S
        have S := S'
        clear S'
        by_cases hlt2 : r < 16
        · have hr2 : (r : Int) < 16 := by omega
          have hr0 : 0 ≤ (r : Int) := by omega
          have hlen := listL_len W l r
          have HS := listL_succ W l r
          cases h4 : W.testBit 4
          · have h0 : bits .and .i64 (W : Int) 16 = 0 := by
              have := HW4.out
              rw [h4] at this
              exact this
            rw [h4] at HS
            simp only [Bool.false_and, cond_false, List.append_nil] at HS
            have HF : Hid (listL W l (r + 1) = listL W l r) := HS
            clear HS hlen
            go_wp2_with (first
              | ((with_reducible refine wpl_isDst 40 ?_); refine wpl_dst 40 rfl (.int .i64 0) (by go_simp; exact h0) rfl ?_)
              | ((with_reducible refine wpl_isDst 44 ?_); refine wpl_skip rfl ?_)
              )
            go_roundw
            case rel => exact ⟨r + 1, hlt2, by push_cast; rfl, by show SH (rowZ _ _ _ (ic (P ++ listL W l (r + 1)))) _ _ _; rw [HF.out]; exact S⟩
            case measure =>
              simp only [intOf]
              omega
          · have h0 : bits .and .i64 (W : Int) 16 = 16 := by
              have := HW4.out
              rw [h4] at this
              exact this
            have hb := HB.out r
            cases hrb : l.testBit r
            · rw [hrb] at hb
              rw [h4, hrb] at HS
              simp only [Bool.and_false, cond_false, List.append_nil] at HS
              have HF : Hid (listL W l (r + 1) = listL W l r) := HS
              clear HS hlen
              simp only [cond_false] at hb
              rw [hJ] at S
              go_wp2_with (first
                | ((with_reducible refine wpl_isDst 40 ?_); refine wpl_dst 40 rfl (.int .i64 16) (by go_simp; exact h0) rfl ?_)
                | ((with_reducible refine wpl_isDst 44 ?_); refine S.ld 3 _ rfl b2 12 rfl 0 _ rfl (.int .i64 l) rfl _ Tryd.underlying3 rfl rfl ?_)
                | ((with_reducible refine wpl_isDst 47 ?_); refine wpl_dst 47 rfl (.int .i64 0) (by go_simp; exact hb) rfl ?_)
                )
              rw [← hJ] at S
              go_roundw
              case rel => exact ⟨r + 1, hlt2, by push_cast; rfl, by show SH (rowZ _ _ _ (ic (P ++ listL W l (r + 1)))) _ _ _; rw [HF.out]; exact S⟩
              case measure =>
                simp only [intOf]
                omega
            · rw [hrb] at hb
              rw [h4, hrb] at HS
              simp only [Bool.and_true, cond_true] at HS
              have HF : Hid (listL W l (r + 1) = listL W l r ++ [(r : Int)]) := HS
              have HN : Hid ((P ++ listL W l r).length ≤ 20) := by
                have := HLEN.out
                show (P ++ listL W l r).length ≤ 20
                rw [List.length_append]
                omega
              clear HS hlen
              simp only [cond_true] at hb
              rw [hJ] at S
              go_wp2_with (first
                | ((with_reducible refine wpl_isDst 40 ?_); refine wpl_dst 40 rfl (.int .i64 16) (by go_simp; exact h0) rfl ?_)
                | ((with_reducible refine wpl_isDst 44 ?_); refine S.ld 3 _ rfl b2 12 rfl 0 _ rfl (.int .i64 l) rfl _ Tryd.underlying3 rfl rfl ?_)
                | ((with_reducible refine wpl_isDst 47 ?_); refine wpl_dst 47 rfl (.int .i64 1) (by go_simp; exact hb) rfl ?_)
                | ((with_reducible refine wpl_isDst 52 ?_); refine S.sliceQ rfl 23 1 _ rfl (ic [(r : Int)]) 3 (by kernel_rfl) ?_; clear S; intro g52 w52 S)
                | ((with_reducible refine wpl_isDst 53 ?_); refine S.appendG rfl 23 _ _ rfl Tryd.underlying23 (.int .i64 0) 8 infoInt rfl rfl g52 1 1 rfl 0 (ic [(r : Int)]) rfl rfl (ic_one _) (by decide) (by rw [ic_length]; have := HN.out; omega) (by rw [ic_length]; have := HN.out; omega) ?_; clear S; intro g53 c53 w53 S)
                )
              rw [← hJ] at S
              go_roundw
              case rel =>
                have S1 := S.fewer 1
                rw [← ic_append, List.append_assoc, ← HF.out] at S1
                exact ⟨r + 1, hlt2, by push_cast; rfl, S1⟩
              case measure =>
                simp only [intOf]
                omega
        · have hr16 : r = 16 := by omega
          subst hr16
          obtain ⟨Q, hQ⟩ : ∃ Q, Q = P ++ listL W l 16 := ⟨_, rfl⟩
          have HLQ : Hid (Q.length ≤ 20) := by
            show Q.length ≤ 20
            have h1 := HLEN.out
            have h2 := listL_len W l 16
            rw [hQ, List.length_append]
            omega
          rw [← hQ] at S
          have HQQ : Hid (Q = P ++ listL W l 16) := hQ
          clear hQ
          obtain ⟨wP, hwP⟩ : ∃ y, y = wr := ⟨_, rfl⟩
          rw [← hwP]
          rw [← hwP] at S
          clear hwP wr
          simp only [show ((16 : Nat) : Int) = 16 from rfl]
          go_upto_region 15 with (first
            | ((with_reducible refine wpl_isDst 55 ?_); refine S.sliceQ rfl 23 3 _ rfl (ic [0, 14, 15]) 3 (by kernel_rfl) ?_; clear S; intro g55 w55 S))
          have ST : Hid (rg4Rel w b2 g55 (ic [0, 14, 15]) J (fun k => Q ++ restP W k) 3 u5 (.int .i64 0) w55) := ⟨0, Nat.zero_le _, rfl, by
            show SH (rowZ _ _ _ (ic (Q ++ []))) _ _ _
            rw [List.append_nil]
            exact S⟩
          clear S
          go_loopw [5, 57] (fun v k wr => rg4Rel w b2 g55 (ic [0, 14, 15]) J (fun k => Q ++ restP W k) 3 v k wr) (fun _ k _ => 3 - (intOf k).toNat)
          case atStart => exact ST.out
          case round =>
            clear ST
            obtain ⟨j, hj, rfl, S⟩ := hrel
            have S' : SH (rowZ w.heap.size 3 u5 (ic (Q ++ restP W j))) w wr [(g55, Cel.any (ic [0, 14, 15])), (b2, Cel.iv J)] := S
            clear S
            have S := S'
            clear S'
            by_cases hlt3 : j < 3
            · have HN : Hid ((Q ++ restP W j).length ≤ 23) := by
                show (Q ++ restP W j).length ≤ 23
                have h1 := HLQ.out
                have h2 := restP_len W j
                rw [List.length_append]
                omega
              rcases (show j = 0 ∨ j = 1 ∨ j = 2 by omega) with rfl | rfl | rfl
              · cases ht : W.testBit 5
                · have HF : Hid (Q ++ restP W 1 = Q ++ restP W 0) := by
                    show _ = _
                    simp only [restP, restL, ht, cond_false, List.append_nil, List.nil_append]
                  have h0 : bits .and .i64 (W : Int) 32 = 0 := by
                    have := HW5.out
                    rw [ht] at this
                    exact this
                  go_wp2_with (first
                    | ((with_reducible refine wpl_isDst 61 ?_); refine S.ld 3 _ rfl g55 0 rfl 0 (Cel.any (ic [0, 14, 15])) rfl (.int .i64 0) rfl _ Tryd.underlying3 rfl rfl ?_)
                    | ((with_reducible refine wpl_isDst 65 ?_); refine wpl_dst 65 rfl (.int .i64 0) (by go_simp; exact h0) rfl ?_)
                    )
                  go_roundw
                  case rel => exact ⟨1, by decide, rfl, by show SH (rowZ _ _ _ (ic (Q ++ restP W 1))) _ _ _; rw [HF.out]; exact S⟩
                  case measure =>
                    simp only [intOf]
                    decide
                · have HF : Hid (Q ++ (restP W 0 ++ [0]) = Q ++ restP W 1) := by
                    show _ = _
                    simp only [restP, restL, ht, cond_true, List.append_assoc, List.nil_append]
                  have h0 : bits .and .i64 (W : Int) 32 = 32 := by
                    have := HW5.out
                    rw [ht] at this
                    exact this
                  go_wp2_with (first
                    | ((with_reducible refine wpl_isDst 61 ?_); refine S.ld 3 _ rfl g55 0 rfl 0 (Cel.any (ic [0, 14, 15])) rfl (.int .i64 0) rfl _ Tryd.underlying3 rfl rfl ?_)
                    | ((with_reducible refine wpl_isDst 65 ?_); refine wpl_dst 65 rfl (.int .i64 32) (by go_simp; exact h0) rfl ?_)
                    | ((with_reducible refine wpl_isDst 69 ?_); refine S.sliceQ rfl 23 1 _ rfl (ic [0]) 3 (by kernel_rfl) ?_; clear S; intro g69 w69 S)
                    | ((with_reducible refine wpl_isDst 70 ?_); refine S.appendG rfl 23 _ _ rfl Tryd.underlying23 (.int .i64 0) 8 infoInt rfl rfl g69 1 1 rfl 0 (ic [0]) rfl rfl (ic_one _) (by decide) (by rw [ic_length]; have := HN.out; omega) (by rw [ic_length]; have := HN.out; omega) ?_; clear S; intro g70 c70 w70 S)
                    )
                  go_roundw
                  case rel =>
                    have S1 := S.fewer 1
                    rw [← ic_append, List.append_assoc, HF.out] at S1
                    exact ⟨1, by decide, rfl, S1⟩
                  case measure =>
                    simp only [intOf]
                    decide
              · cases ht : W.testBit 6
                · have HF : Hid (Q ++ restP W 2 = Q ++ restP W 1) := by
                    show _ = _
                    simp only [restP, restL, ht, cond_false, List.append_nil, List.nil_append]
                  have h0 : bits .and .i64 (W : Int) 64 = 0 := by
                    have := HW6.out
                    rw [ht] at this
                    exact this
                  go_wp2_with (first
                    | ((with_reducible refine wpl_isDst 61 ?_); refine S.ld 3 _ rfl g55 1 rfl 0 (Cel.any (ic [0, 14, 15])) rfl (.int .i64 14) rfl _ Tryd.underlying3 rfl rfl ?_)
                    | ((with_reducible refine wpl_isDst 65 ?_); refine wpl_dst 65 rfl (.int .i64 0) (by go_simp; exact h0) rfl ?_)
                    )
                  go_roundw
                  case rel => exact ⟨2, by decide, rfl, by show SH (rowZ _ _ _ (ic (Q ++ restP W 2))) _ _ _; rw [HF.out]; exact S⟩
                  case measure =>
                    simp only [intOf]
                    decide
                · have HF : Hid (Q ++ (restP W 1 ++ [14]) = Q ++ restP W 2) := by
                    show _ = _
                    simp only [restP, restL, ht, cond_true, List.append_assoc, List.nil_append]
                  have h0 : bits .and .i64 (W : Int) 64 = 64 := by
                    have := HW6.out
                    rw [ht] at this
                    exact this
                  go_wp2_with (first
                    | ((with_reducible refine wpl_isDst 61 ?_); refine S.ld 3 _ rfl g55 1 rfl 0 (Cel.any (ic [0, 14, 15])) rfl (.int .i64 14) rfl _ Tryd.underlying3 rfl rfl ?_)
                    | ((with_reducible refine wpl_isDst 65 ?_); refine wpl_dst 65 rfl (.int .i64 64) (by go_simp; exact h0) rfl ?_)
                    | ((with_reducible refine wpl_isDst 69 ?_); refine S.sliceQ rfl 23 1 _ rfl (ic [14]) 3 (by kernel_rfl) ?_; clear S; intro g69 w69 S)
                    | ((with_reducible refine wpl_isDst 70 ?_); refine S.appendG rfl 23 _ _ rfl Tryd.underlying23 (.int .i64 0) 8 infoInt rfl rfl g69 1 1 rfl 0 (ic [14]) rfl rfl (ic_one _) (by decide) (by rw [ic_length]; have := HN.out; omega) (by rw [ic_length]; have := HN.out; omega) ?_; clear S; intro g70 c70 w70 S)
                    )
                  go_roundw
                  case rel =>
                    have S1 := S.fewer 1
                    rw [← ic_append, List.append_assoc, HF.out] at S1
                    exact ⟨2, by decide, rfl, S1⟩
                  case measure =>
                    simp only [intOf]
                    decide
              · cases ht : W.testBit 7
                · have HF : Hid (Q ++ restP W 3 = Q ++ restP W 2) := by
                    show _ = _
                    simp only [restP, restL, ht, cond_false, List.append_nil, List.nil_append]
                  have h0 : bits .and .i64 (W : Int) 128 = 0 := by
                    have := HW7.out
                    rw [ht] at this
                    exact this
                  go_wp2_with (first
                    | ((with_reducible refine wpl_isDst 61 ?_); refine S.ld 3 _ rfl g55 2 rfl 0 (Cel.any (ic [0, 14, 15])) rfl (.int .i64 15) rfl _ Tryd.underlying3 rfl rfl ?_)
                    | ((with_reducible refine wpl_isDst 65 ?_); refine wpl_dst 65 rfl (.int .i64 0) (by go_simp; exact h0) rfl ?_)
                    )
                  go_roundw
                  case rel => exact ⟨3, by decide, rfl, by show SH (rowZ _ _ _ (ic (Q ++ restP W 3))) _ _ _; rw [HF.out]; exact S⟩
                  case measure =>
                    simp only [intOf]
                    decide
                · have HF : Hid (Q ++ (restP W 2 ++ [15]) = Q ++ restP W 3) := by
                    show _ = _
                    simp only [restP, restL, ht, cond_true, List.append_assoc, List.nil_append]
                  have h0 : bits .and .i64 (W : Int) 128 = 128 := by
                    have := HW7.out
                    rw [ht] at this
                    exact this
                  go_wp2_with (first
                    | ((with_reducible refine wpl_isDst 61 ?_); refine S.ld 3 _ rfl g55 2 rfl 0 (Cel.any (ic [0, 14, 15])) rfl (.int .i64 15) rfl _ Tryd.underlying3 rfl rfl ?_)
                    | ((with_reducible refine wpl_isDst 65 ?_); refine wpl_dst 65 rfl (.int .i64 128) (by go_simp; exact h0) rfl ?_)
                    | ((with_reducible refine wpl_isDst 69 ?_); refine S.sliceQ rfl 23 1 _ rfl (ic [15]) 3 (by kernel_rfl) ?_; clear S; intro g69 w69 S)
                    | ((with_reducible refine wpl_isDst 70 ?_); refine S.appendG rfl 23 _ _ rfl Tryd.underlying23 (.int .i64 0) 8 infoInt rfl rfl g69 1 1 rfl 0 (ic [15]) rfl rfl (ic_one _) (by decide) (by rw [ic_length]; have := HN.out; omega) (by rw [ic_length]; have := HN.out; omega) ?_; clear S; intro g70 c70 w70 S)
                    )
                  go_roundw
                  case rel =>
                    have S1 := S.fewer 1
                    rw [← ic_append, List.append_assoc, HF.out] at S1
                    exact ⟨3, by decide, rfl, S1⟩
                  case measure =>
                    simp only [intOf]
                    decide
            · have hj3 : j = 3 := by omega
              subst hj3
              have HE : Hid (Q ++ restP W 3 = regsL d n m a l W) := by
                show _ = _
                rw [HQQ.out, HPP.out]
                simp only [regsL, restP, fourP, List.append_assoc]
              rw [HE.out] at S
              have OUT := S.rowOut
              rw [ic_length] at OUT
              have OUT' : Hid (RowPost w (regsL d n m a l W) (.returned u5) wr) := ⟨u5, rfl, OUT.1, OUT.2⟩
              clear OUT S
              go_wp2
              go_ret
              exact OUT'.out
end Go.Proofs.YtbbkiiabjhgpkaaDoor
