/- Stage 7: the names, the program's and the document's; lists of numbers held against one another. -/
import Derived.Test.YtbbkiiabjhgpkaaDoorNLaid
import Derived.Test.YtbbkiiabjhgpkaaDoorIn9
namespace Go.Proofs.YtbbkiiabjhgpkaaDoor
open Go.ChangeShapes Go.WideShapes Go.ChangeAt Go.RowKit
set_option linter.unusedVariables false
set_option linter.unusedSimpArgs false

def nmS (o : Int) : ByteArray := if 0 ≤ o ∧ o < 66 then nmT o.toNat else ⟨#[]⟩
def nmC : List Value := (nmL.drop 1).map fun z => Value.string ⟨z.toArray⟩
theorem nmC_at (k : Nat) (hk : k < 65) : nmC[k]? = some (.string (nmT (k + 1))) := by
  have h : nmL.length = 66 := by decide
  unfold nmC nmT
  rw [List.getElem?_map, List.getElem?_drop, List.getElem?_eq_getElem (by omega)]
  simp [List.getD_eq_getElem?_getD, Nat.add_comm 1 k, List.getElem?_eq_getElem (show k + 1 < nmL.length by omega)]
theorem name_lo (o : Int) (h : o < 0) (w : World) : Calls Tryd.prog 6 #[.int .i64 o] w fun e w' => e = .returned (.string (nmS o)) ∧ w' = w := by
  have hn : nmS o = ⟨#[]⟩ := by unfold nmS; rw [if_neg (by omega)]
  rw [hn]
  clear hn
  go_enter Tryd.func6, Tryd.ntmps6
  go_wp2
  go_ret
  exact ⟨rfl, rfl⟩
theorem name_hi (o : Int) (h : 66 ≤ o) (w : World) : Calls Tryd.prog 6 #[.int .i64 o] w fun e w' => e = .returned (.string (nmS o)) ∧ w' = w := by
  have hn : nmS o = ⟨#[]⟩ := by unfold nmS; rw [if_neg (by omega)]
  rw [hn]
  have h2 : ¬ o < 0 := by omega
  clear hn
  go_enter Tryd.func6, Tryd.ntmps6
  go_wp2
  go_ret
  exact ⟨rfl, rfl⟩
theorem name_in (k : Nat) (hk : k < 66) (w : World) (hc : w.cell? ⟨0, k, none⟩ = some (.string (nmT k))) : Calls Tryd.prog 6 #[.int .i64 (k : Int)] w fun e w' => e = .returned (.string (nmS (k : Int))) ∧ w' = w := by
  have hn : nmS (k : Int) = nmT k := by unfold nmS; rw [if_pos (by omega)]; rfl
  rw [hn]
  have k1 : (0 : Int) ≤ (k : Int) := by omega
  have k2 : (k : Int) < 66 := by omega
  have k3 : ¬ (k : Int) < 0 := by omega
  generalize nmT k = s at *
  clear hn
  go_enter Tryd.func6, Tryd.ntmps6
  go_wp2
  go_ret
  exact ⟨rfl, rfl⟩
theorem name_c (o : Int) (w : World) (hT : NT w) : Calls Tryd.prog 6 #[.int .i64 o] w fun e w' => e = .returned (.string (nmS o)) ∧ w' = w := by
  by_cases h1 : o < 0
  · exact name_lo o h1 w
  · by_cases h2 : 66 ≤ o
    · exact name_hi o h2 w
    · obtain ⟨k, rfl⟩ : ∃ k : Nat, o = (k : Int) := ⟨o.toNat, by omega⟩
      exact name_in k (by omega) w (hT.2 k (by omega))
set_option maxHeartbeats 4000000 in
set_option maxRecDepth 100000 in
theorem rname_out (o : Int) (h : o < 1 ∨ 65 < o) (w : World) : Calls Tryd.prog 7 #[.int .i64 o] w fun e w' => e = .returned (.string (nmS o)) ∧ Below w.heap.size w w' := by
  have hn : nmS o = ⟨#[]⟩ := by
    unfold nmS
    by_cases h0 : o = 0
    · subst h0; rfl
    · rw [if_neg (by omega)]
  rw [hn]
  clear hn
  rcases h with h | h
  · go_enter Tryd.func7, Tryd.ntmps7
    have S := SH.start w
    go_wp2_with (first
      | ((with_reducible refine wpl_isDst 4 ?_); refine SH.sliceQ (L := []) S rfl 42 65 _ rfl nmC 9 (by kernel_rfl) ?_; clear S; intro g4 w4 S))
    go_ret
    exact ⟨rfl, S.low⟩
  · have h2 : ¬ o < 1 := by omega
    go_enter Tryd.func7, Tryd.ntmps7
    have S := SH.start w
    go_wp2_with (first
      | ((with_reducible refine wpl_isDst 4 ?_); refine SH.sliceQ (L := []) S rfl 42 65 _ rfl nmC 9 (by kernel_rfl) ?_; clear S; intro g4 w4 S))
    go_ret
    exact ⟨rfl, S.low⟩
set_option maxHeartbeats 4000000 in
set_option maxRecDepth 100000 in
theorem rname_in (k : Nat) (hk : k < 65) (w : World) : Calls Tryd.prog 7 #[.int .i64 ((k : Int) + 1)] w fun e w' => e = .returned (.string (nmS ((k : Int) + 1))) ∧ Below w.heap.size w w' := by
  have hn : nmS ((k : Int) + 1) = nmT (k + 1) := by unfold nmS; rw [if_pos (by omega)]; rfl
  rw [hn]
  have HC : Hid (nmC[k]? = some (.string (nmT (k + 1)))) := nmC_at k hk
  generalize nmT (k + 1) = s at *
  have k1 : (0 : Int) ≤ (k : Int) := by omega
  have k2 : (k : Int) < 65 := by omega
  have k3 : ¬ (k : Int) + 1 < 1 := by omega
  have k4 : ¬ (65 : Int) < (k : Int) + 1 := by omega
  have k5 : (k : Int) + 1 - 1 = (k : Int) := by omega
  have k6 : IntKind.i64.wrap (k : Int) = (k : Int) := by rw [IntKind.wrap_i64]; omega
  clear hn hk
  go_enter Tryd.func7, Tryd.ntmps7
  have S := SH.start w
  go_wp2_with (first
    | ((with_reducible refine wpl_isDst 4 ?_); refine SH.sliceQ (L := []) S rfl 42 65 _ rfl nmC 9 (by kernel_rfl) ?_; clear S; intro g4 w4 S)
    | ((with_reducible refine wpl_isDst 15 ?_); refine wpl_dst 15 rfl (.int .i64 (k : Int)) (by go_simp; try exact k6) rfl ?_)
    | ((with_reducible refine wpl_isDst 17 ?_); refine S.ld 9 _ rfl g4 k rfl 0 (Cel.any nmC) rfl (.string s) HC.out _ Tryd.underlying9 rfl rfl ?_))
  go_ret
  exact ⟨rfl, S.low⟩
theorem rname_c (o : Int) (w : World) : Calls Tryd.prog 7 #[.int .i64 o] w fun e w' => e = .returned (.string (nmS o)) ∧ Below w.heap.size w w' := by
  by_cases h : o < 1 ∨ 65 < o
  · exact rname_out o h w
  · obtain ⟨k, rfl⟩ : ∃ k : Nat, o = (k : Int) + 1 := ⟨(o - 1).toNat, by omega⟩
    exact rname_in k (by omega) w
theorem nmL_inj : ((List.range 65).all fun x => (List.range 65).all fun y => (nmL.getD (x + 1) [] == nmL.getD (y + 1) []) == (x == y)) = true := by decide +kernel
theorem toList_mk (l : List UInt8) : (⟨l.toArray⟩ : ByteArray).toList = l := by
  rw [ByteArray.toList_eq]
theorem nm_eq {x y : Nat} (hx : x < 65) (hy : y < 65) : ((nmS ((x : Int) + 1)).toList == (nmS ((y : Int) + 1)).toList) = (x == y) := by
  have h := List.all_eq_true.1 (List.all_eq_true.1 nmL_inj x (List.mem_range.2 hx)) y (List.mem_range.2 hy)
  have e : ∀ z : Nat, z < 65 → (nmS ((z : Int) + 1)).toList = nmL.getD (z + 1) [] := fun z hz => by
    unfold nmS
    rw [if_pos (by omega), show ((z : Int) + 1).toNat = z + 1 by omega]
    unfold nmT
    rw [toList_mk]
  rw [e x hx, e y hy]
  simpa using h
theorem nm_some : ((List.range 65).all fun x => !(nmL.getD (x + 1) [] == [])) = true := by decide +kernel
theorem nm_ne {x : Nat} (hx : x < 65) : ((nmS ((x : Int) + 1)).toList == ([] : List UInt8)) = false := by
  have h := List.all_eq_true.1 nm_some x (List.mem_range.2 hx)
  unfold nmS
  rw [if_pos (by omega), show ((x : Int) + 1).toNat = x + 1 by omega]
  unfold nmT
  rw [toList_mk]
  simpa using h

/-! ### Ints, at lists that are alike -/
def intsRel (w : World) (n : Nat) (i : Value) (wr : World) : Prop := ∃ k : Nat, k ≤ n ∧ i = .int .i64 k ∧ Below w.heap.size w wr
set_option maxHeartbeats 4000000 in
set_option maxRecDepth 100000 in
theorem ints_c (xs : List Int) (u v : Value) (w : World) (hu : IL w u xs) (hv : IL w v xs) (hn : xs.length < 1000) : Calls Tryd.prog 17 #[u, v] w fun e w' => e = .returned (.bool true) ∧ Below w.heap.size w w' := by
  obtain ⟨A, c, rfl, hA⟩ := hu
  obtain ⟨B, d, rfl, hB⟩ := hv
  rcases xs with _ | ⟨x0, xs⟩
  · go_enter Tryd.func17, Tryd.ntmps17
    go_upto_region 4 with fail
    go_loopw [5] (fun i wr => i = .int .i64 0 ∧ wr = w) (fun i _ => 0)
    case atStart => exact ⟨rfl, rfl⟩
    case round =>
      obtain ⟨rfl, rfl⟩ := hrel
      go_wp2
      go_ret
      exact ⟨rfl, Below.refl _ _⟩
  · obtain ⟨ba, oa, rfl, _⟩ := hA 0 x0 rfl
    obtain ⟨bb, ob, rfl, _⟩ := hB 0 x0 rfl
    have HA : Hid (∀ j x, (x0 :: xs)[j]? = some x → w.cell? ⟨ba, oa + j, none⟩ = some (.int .i64 x)) := fun j x hx => by
      obtain ⟨b, o, e, h⟩ := hA j x hx
      simp only [Option.some.injEq, Addr.mk.injEq, and_true] at e
      obtain ⟨rfl, rfl⟩ := e
      exact h
    have HB : Hid (∀ j x, (x0 :: xs)[j]? = some x → w.cell? ⟨bb, ob + j, none⟩ = some (.int .i64 x)) := fun j x hx => by
      obtain ⟨b, o, e, h⟩ := hB j x hx
      simp only [Option.some.injEq, Addr.mk.injEq, and_true] at e
      obtain ⟨rfl, rfl⟩ := e
      exact h
    clear hA hB
    generalize hys : x0 :: xs = ys at *
    clear hys
    obtain ⟨n, hN⟩ : ∃ n, n = ys.length := ⟨_, rfl⟩
    have HN : Hid (n = ys.length) := hN
    rw [← hN] at hn ⊢
    clear hN
    go_enter Tryd.func17, Tryd.ntmps17
    go_upto_region 4 with fail
    go_loopw [5] (fun i wr => intsRel w n i wr) (fun i _ => n - (intOf i).toNat)
    case atStart => exact ⟨0, Nat.zero_le _, rfl, Below.refl _ _⟩
    case round =>
      obtain ⟨k, hk, rfl, S⟩ := hrel
      by_cases hlt : k < n
      · have hlt' : (k : Int) < (n : Int) := by omega
        have h0 : 0 ≤ (k : Int) := by omega
        obtain ⟨x, hx⟩ : ∃ x, ys[k]? = some x := ⟨ys[k]'(by have := HN.out; omega), List.getElem?_eq_getElem (by have := HN.out; omega)⟩
        have HXA : Hid (w.cell? ⟨ba, oa + k, none⟩ = some (.int .i64 x)) := HA.out k x hx
        have HXB : Hid (w.cell? ⟨bb, ob + k, none⟩ = some (.int .i64 x)) := HB.out k x hx
        clear hx
        go_upto_region 6 with fail
        refine wp_region_held_drew (S := fun w' => Below w.heap.size w w') (by kernel_rfl) (by first | exact S.drew | exact S.drew.dropR) (fun _ => ?_)
        replace S := S.drew
        refine wpAnyH_take (i := 0) (oi := { dst := some 17, op := Op.move (Operand.tmp 0), type := 23, pos := "sourdinehelp.go:29", after := #[], guard := none }) (v := ?_) rfl (by kernel_rfl) (by kernel_rfl) (by kernel_rfl) (fun _ _ _ h => h) (Or.inl ⟨by rfl, ?_⟩) (by exact (by assumption)) ?_
        rotate_left 1
        · intro w hSw
          clear hSw
          go_simp
          try with_reducible rfl
        simp only [Act.put, List.setIfInBounds_toArray, List.set_cons_zero, List.set_cons_succ]
        refine wpAnyH_take (i := 1) (oi := { dst := some 18, op := Op.move (Operand.tmp 5), type := 3, pos := "sourdinehelp.go:29", after := #[], guard := none }) (v := ?_) rfl (by kernel_rfl) (by kernel_rfl) (by kernel_rfl) (fun _ _ _ h => h) (Or.inl ⟨by rfl, ?_⟩) (by exact (by assumption)) ?_
        rotate_left 1
        · intro w hSw
          clear hSw
          go_simp
          try with_reducible rfl
        simp only [Act.put, List.setIfInBounds_toArray, List.set_cons_zero, List.set_cons_succ]
        refine wpAnyH_take (i := 2) (oi := { dst := some 19, op := Op.indexAddr 23 (Operand.tmp 17) (Operand.tmp 18), type := 0, pos := "sourdinehelp.go:29", after := #[{ on := 0, ground := Ground.data }, { on := 1, ground := Ground.data }], guard := none }) (v := ?_) rfl (by kernel_rfl) (by kernel_rfl) (by kernel_rfl) (fun _ _ _ h => h) (Or.inl ⟨by rfl, ?_⟩) (by exact (by assumption)) ?_
        rotate_left 1
        · intro w hSw
          clear hSw
          go_simp
          try with_reducible rfl
        simp only [Act.put, List.setIfInBounds_toArray, List.set_cons_zero, List.set_cons_succ]
        refine wpAnyH_take (i := 3) (oi := { dst := some 20, op := Op.load 3 (Operand.tmp 19), type := 3, pos := "sourdinehelp.go:29", after := #[{ on := 2, ground := Ground.data }], guard := none }) (v := _) rfl (by kernel_rfl) (by kernel_rfl) (by kernel_rfl) (fun _ _ _ h => h) (y_cell (by rfl) 3 _ rfl ba (oa + k) rfl (.int .i64 x) (fun _ h => Below.cellAt h HXA.out) _ Tryd.underlying3 rfl) (by exact (by assumption)) ?_
        simp only [Act.put, List.setIfInBounds_toArray, List.set_cons_zero, List.set_cons_succ]
        refine wpAnyH_take (i := 4) (oi := { dst := some 21, op := Op.move (Operand.tmp 1), type := 23, pos := "sourdinehelp.go:29", after := #[], guard := none }) (v := ?_) rfl (by kernel_rfl) (by kernel_rfl) (by kernel_rfl) (fun _ _ _ h => h) (Or.inl ⟨by rfl, ?_⟩) (by exact (by assumption)) ?_
        rotate_left 1
        · intro w hSw
          clear hSw
          go_simp
          try with_reducible rfl
        simp only [Act.put, List.setIfInBounds_toArray, List.set_cons_zero, List.set_cons_succ]
        refine wpAnyH_take (i := 5) (oi := { dst := some 22, op := Op.move (Operand.tmp 5), type := 3, pos := "sourdinehelp.go:29", after := #[], guard := none }) (v := ?_) rfl (by kernel_rfl) (by kernel_rfl) (by kernel_rfl) (fun _ _ _ h => h) (Or.inl ⟨by rfl, ?_⟩) (by exact (by assumption)) ?_
        rotate_left 1
        · intro w hSw
          clear hSw
          go_simp
          try with_reducible rfl
        simp only [Act.put, List.setIfInBounds_toArray, List.set_cons_zero, List.set_cons_succ]
        refine wpAnyH_take (i := 6) (oi := { dst := some 23, op := Op.indexAddr 23 (Operand.tmp 21) (Operand.tmp 22), type := 0, pos := "sourdinehelp.go:29", after := #[{ on := 4, ground := Ground.data }, { on := 5, ground := Ground.data }], guard := none }) (v := ?_) rfl (by kernel_rfl) (by kernel_rfl) (by kernel_rfl) (fun _ _ _ h => h) (Or.inl ⟨by rfl, ?_⟩) (by exact (by assumption)) ?_
        rotate_left 1
        · intro w hSw
          clear hSw
          go_simp
          try with_reducible rfl
        simp only [Act.put, List.setIfInBounds_toArray, List.set_cons_zero, List.set_cons_succ]
        refine wpAnyH_take (i := 7) (oi := { dst := some 24, op := Op.load 3 (Operand.tmp 23), type := 3, pos := "sourdinehelp.go:29", after := #[{ on := 6, ground := Ground.data }], guard := none }) (v := _) rfl (by kernel_rfl) (by kernel_rfl) (by kernel_rfl) (fun _ _ _ h => h) (y_cell (by rfl) 3 _ rfl bb (ob + k) rfl (.int .i64 x) (fun _ h => Below.cellAt h HXB.out) _ Tryd.underlying3 rfl) (by exact (by assumption)) ?_
        simp only [Act.put, List.setIfInBounds_toArray, List.set_cons_zero, List.set_cons_succ]
        refine wpAnyH_take (i := 8) (oi := { dst := some 25, op := Op.binOp BinOp.neq 3 (Operand.tmp 20) (Operand.tmp 24) 3, type := 4, pos := "sourdinehelp.go:29", after := #[{ on := 3, ground := Ground.data }, { on := 7, ground := Ground.data }], guard := none }) (v := ?_) rfl (by kernel_rfl) (by kernel_rfl) (by kernel_rfl) (fun _ _ _ h => h) (Or.inl ⟨by rfl, ?_⟩) (by exact (by assumption)) ?_
        rotate_left 1
        · intro w hSw
          clear hSw
          go_simp
          try with_reducible rfl
        simp only [Act.put, List.setIfInBounds_toArray, List.set_cons_zero, List.set_cons_succ]
        refine wpAnyH_done (by kernel_rfl) ?_ _
        go_wp2
        go_roundw
        case rel => exact ⟨k + 1, hlt, by push_cast; rfl, S⟩
        case measure =>
          simp only [intOf]
          omega
      · have hlt' : ¬ (k : Int) < (n : Int) := by omega
        go_wp2
        go_ret
        exact ⟨rfl, S⟩
end Go.Proofs.YtbbkiiabjhgpkaaDoor
