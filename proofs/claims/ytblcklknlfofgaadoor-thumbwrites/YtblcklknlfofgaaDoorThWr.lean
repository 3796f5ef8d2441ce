/- Stage 8: ThumbWrites, walked -/
import Derived.Test.YtblcklknlfofgaaDoorThH5
import Derived.Test.YtblcklknlfofgaaDoorThH3
import Derived.Test.YtblcklknlfofgaaDoorRdHy
namespace Go.Proofs.YtblcklknlfofgaaDoor
open Go.ChangeShapes Go.WideShapes Go.ChangeAt Go.RowKit
set_option linter.unusedVariables false
set_option linter.unusedSimpArgs false

theorem n16 (x : Int) (h0 : 0 ≤ x) (h1 : x ≤ 65535) : ∃ n : Nat, x = n ∧ n < 65536 := ⟨x.toNat, by omega, by omega⟩
def wrRel (w : World) (i : IV) (g b5 : Nat) (hs : List Nat) (j : Value) (wr : World) : Prop := ∃ k : Nat, k ≤ 2 ∧ j = .int .i64 k ∧ SH noZ w wr [(g, Cel.any (uc hs)), (b5, Cel.iv i)]
theorem y_neqB {S : World → Prop} {ops : Array Oper} {o : Oper} {a : Act} (hw : Region.wanted o (yielded ops a.tmps) = true) (x y : Operand) (t : TypeId) (ho : o.op = .binOp .neq 29 x y t) (i j : IV) (hx : a.eval x = i.val) (hy : a.eval y = j.val) (v : Bool) (hv : (!ivEq i j) = v) : YieldsIf Tryd.prog ops S o (.bool v) a :=
  .inl ⟨hw, fun w _ => by
    unfold execOp
    simp only [ho, hx, hy, Sem.run_bind, iv_guard, Result.andThen_ok, iv_neq, Sem.run_pure, hv]⟩
theorem y_eqlB {S : World → Prop} {ops : Array Oper} {o : Oper} {a : Act} (hw : Region.wanted o (yielded ops a.tmps) = true) (x y : Operand) (t : TypeId) (ho : o.op = .binOp .eql 29 x y t) (i j : IV) (hx : a.eval x = i.val) (hy : a.eval y = j.val) (v : Bool) (hv : ivEq i j = v) : YieldsIf Tryd.prog ops S o (.bool v) a :=
  .inl ⟨hw, fun w _ => by
    unfold execOp
    simp only [ho, hx, hy, Sem.run_bind, iv_guard, Result.andThen_ok, iv_eql, Sem.run_pure, hv]⟩
set_option maxHeartbeats 4000000 in
set_option maxRecDepth 100000 in
theorem writes_c (h : Nat) (hh : h < 65536) (i : IV) (hi : OKi i) (q : Int) (q0 : 0 ≤ q) (b : Bool) (w : World) (HT : LT w) : Calls Tryd.prog 4 #[.int .u16 h, i.val, .int .u8 q, .bool b] w fun e w' => e = .returned (.bool true) ∧ Below w.heap.size w w' := by
  have CK : Hid (∀ w1, LT w1 → Calls Tryd.prog 8 #[] w1 fun e w' => e = .returned (.bool true) ∧ Below w1.heap.size w1 w') := known_c
  have CH : Hid (∀ (w1 : World), Calls Tryd.prog 9 #[.int .u8 q, .int .u16 h] w1 fun e w' => Some16 w1 e w') := fun w1 => half_c q h q0 (by omega) (by omega) w1
  go_enter Tryd.func4, Tryd.ntmps4
  have S := SH.start w
  go_wp2_with (first
    | (go_at_call 8; refine (CK.out _ (HT.next S.low)).mono ?_; rintro e wf ⟨rfl, hbf⟩; replace S := S.below hbf; clear hbf)
    | (go_at_call 9; refine (CH.out _).mono ?_; rintro e wf ⟨⟨y, rfl, y0, y1⟩, hbf⟩; replace S := S.below hbf; clear hbf)
    | ((with_reducible refine wpl_isDst 23 ?_); obtain ⟨n2, rfl, m2⟩ := n16 y y0 y1; refine S.sliceAny rfl 25 2 _ rfl (uc [h, n2]) 22 (by kernel_rfl) ?_; clear S; intro g w1 S)
    | ((with_reducible refine wpl_is ?_); first
      | (refine SH.box (L := []) S rfl 29 _ rfl (Cel.iv i) rfl ?_; clear S; intro b5 w0 S)))
  obtain ⟨hs, hhs⟩ : ∃ hs : List Nat, hs = [h, n2] := ⟨_, rfl⟩
  have HS : Hid (hs.length = 2 ∧ ∀ x ∈ hs, x < 65536) := by
    rw [hhs]
    refine ⟨rfl, fun x hx => ?_⟩
    simp only [List.mem_cons, List.not_mem_nil, or_false] at hx
    rcases hx with rfl | rfl <;> assumption
  rw [← hhs] at S
  clear hhs m2 y0 y1 CH CK
  have ST : Hid (wrRel w i g b5 hs (.int .i64 0) w1) := ⟨0, by decide, rfl, S⟩
  clear S
  go_loopw [25] (fun j wr => wrRel w i g b5 hs j wr) (fun j _ => 2 - (intOf j).toNat)
  case atStart => exact ST.out
  case round =>
    clear ST
    obtain ⟨k, hk2, rfl, S⟩ := hrel
    by_cases hlt : k < 2
    · have hlt' : (k : Int) < 2 := by omega
      obtain ⟨x, hx⟩ : ∃ x, hs[k]? = some x := ⟨hs[k]'(by have := HS.out.1; omega), by simp⟩
      have hx16 : x < 65536 := HS.out.2 x (List.mem_of_getElem? hx)
      have HX : Hid ((Cel.any (uc hs)).cells[k]? = some (.int .u16 (x : Nat))) := by
        show (uc hs)[k]? = _
        simp [uc, hx]
      clear hx
      have DX : Hid (∀ w1, Calls Tryd.prog 13 #[.int .u16 (x : Int), .bool b] w1 fun e w' => e = .returned (decN x b).iv.val ∧ Below w1.heap.size w1 w') := fun w1 => rdecode_c x hx16 b w1
      have HO : Hid (LT w) := HT
      have hE := fun w1 h1 => encode_c (decN x b).iv (okD x hx16 b) b w1 h1
      obtain ⟨hu, hm⟩ := encZ_word b x hx16
      have hT := encZ_T (decN x b).iv b
      obtain ⟨wO, rfl⟩ : ∃ x, x = w := ⟨w, rfl⟩
      cases hd : undec (decN x b)
      · obtain ⟨r1, r2, _⟩ := hm hd
        obtain ⟨t1, t2, _, _⟩ := hT r1
        have DR0 : ∀ w1, Calls Tryd.prog 13 #[.int .u16 ((encZ (decN x b).iv b).1 : Nat), .bool b] w1 fun e w' => e = .returned (decN x b).iv.val ∧ Below w1.heap.size w1 w' := fun w1 => by
          have := rdecode_c (encZ (decN x b).iv b).1 t1 b w1
          unfold Says at this
          rw [t2] at this
          exact this
        have n64 : ((decN x b).iv.op != 64) = true := by
          unfold undec at hd
          simp only [nbeq, Bool.or_eq_false_iff, decide_eq_false_iff_not] at hd
          simp only [NV.iv, bne_iff_ne, ne_eq]
          omega
        have n65 : ((decN x b).iv.op != 65) = true := by
          unfold undec at hd
          simp only [nbeq, Bool.or_eq_false_iff, decide_eq_false_iff_not] at hd
          simp only [NV.iv, bne_iff_ne, ne_eq]
          omega
        rw [r1] at hE
        clear hu hm hT t2 hd
        generalize (encZ (decN x b).iv b).1 = v at *
        generalize (decN x b).iv = J at *
        have EX : Hid (∀ w1, LT w1 → Calls Tryd.prog 14 #[J.val, .bool b] w1 fun e w' => e = .returned (.tuple #[.int .u16 (v : Nat), .bool true]) ∧ Below w1.heap.size w1 w') := hE
        have DR : Hid (∀ w1, Calls Tryd.prog 13 #[.int .u16 (v : Nat), .bool b] w1 fun e w' => e = .returned J.val ∧ Below w1.heap.size w1 w') := DR0
        have hvx : ((x : Int) < (v : Int)) = False := by simp; omega
        have hvx2 : (x < v) = False := by simp; omega
        have hvx3 : decide ((x : Int) < (v : Int)) = false := by simp; omega
        clear hE DR0 r1 hx16
        go_wp2_with (first
          | (go_at_call 13; refine (DX.out _).mono ?_; rintro e wf ⟨rfl, hbf⟩; replace S := S.below hbf; clear hbf)
          | (go_at_call 14; refine (EX.out _ (HO.out.next S.low)).mono ?_; rintro e wf ⟨rfl, hbf⟩; replace S := S.below hbf; clear hbf)
          | ((with_reducible refine wpl_isDst 11 ?_); refine S.alloc rfl 29 rfl (Cel.iv IV.zero) zeroIV ?_; clear S; intro b11 w1 S)
          | ((with_reducible refine wpl_isStore ?_); refine S.storeAll rfl 29 _ _ rfl b11 (Cel.iv J) rfl rfl 0 _ rfl rfl (one_iv _) (szIV _) ?_; clear S; intro w2 S; simp only [List.set_cons_zero, List.set_cons_succ] at S)
          | ((with_reducible refine wpl_isLoad ?_); first
                  | (refine S.ld 22 _ rfl g k rfl 0 (Cel.any (uc hs)) rfl (.int .u16 (x : Nat)) HX.out _ Tryd.underlying22 rfl rfl ?_)
                  | (refine S.ldAll 29 _ rfl b11 rfl 0 (Cel.iv J) rfl _ Tryd.underlying29 rfl (szIV _) rfl ?_)
                  | (refine S.ld 3 _ rfl b11 0 rfl 0 (Cel.iv J) rfl _ rfl _ Tryd.underlying3 rfl rfl ?_)))
        refine wp_region_held_drew (S := fun w' => SH noZ wO w' [(b11, Cel.iv J), (g, Cel.any (uc hs)), (b5, Cel.iv i)]) (by kernel_rfl) (by exact S.drew) (fun _ => ?_)
        replace S := S.drew
        refine wpAnyH_take (i := 0) (oi := { dst := some 46, op := Op.move (Operand.tmp 13), type := 4, pos := "law.go:43", after := #[], guard := none }) (v := ?_) rfl (by kernel_rfl) (by kernel_rfl) (by kernel_rfl) (fun _ _ _ h => h) (Or.inl ⟨by rfl, ?_⟩) (by exact S) ?_
        rotate_left 1
        · intro w hSw
          clear hSw
          go_simp
          try with_reducible rfl
        simp only [Act.put, List.setIfInBounds_toArray, List.set_cons_zero, List.set_cons_succ]
        refine wpAnyH_take (i := 1) (oi := { dst := some 47, op := Op.move (Operand.tmp 14), type := 4, pos := "law.go:43", after := #[], guard := none }) (v := ?_) rfl (by kernel_rfl) (by kernel_rfl) (by kernel_rfl) (fun _ _ _ h => h) (Or.inl ⟨by rfl, ?_⟩) (by exact S) ?_
        rotate_left 1
        · intro w hSw
          clear hSw
          go_simp
          try with_reducible rfl
        simp only [Act.put, List.setIfInBounds_toArray, List.set_cons_zero, List.set_cons_succ]
        refine wpAnyH_take (i := 2) (oi := { dst := some 48, op := Op.binOp BinOp.neq 4 (Operand.tmp 46) (Operand.tmp 47) 4, type := 4, pos := "law.go:43", after := #[{ on := 0, ground := Ground.data }, { on := 1, ground := Ground.data }], guard := none }) (v := ?_) rfl (by kernel_rfl) (by kernel_rfl) (by kernel_rfl) (fun _ _ _ h => h) (Or.inl ⟨by rfl, ?_⟩) (by exact S) ?_
        rotate_left 1
        · intro w hSw
          clear hSw
          go_simp
          try with_reducible rfl
        simp only [Act.put, List.setIfInBounds_toArray, List.set_cons_zero, List.set_cons_succ]
        refine wpAnyH_take (i := 3) (oi := { dst := some 49, op := Op.move (Operand.tmp 48), type := 4, pos := "law.go:43", after := #[{ on := 2, ground := Ground.data }], guard := none }) (v := ?_) rfl (by kernel_rfl) (by kernel_rfl) (by kernel_rfl) (fun _ _ _ h => h) (Or.inl ⟨by rfl, ?_⟩) (by exact S) ?_
        rotate_left 1
        · intro w hSw
          clear hSw
          go_simp
          try with_reducible rfl
        simp only [Act.put, List.setIfInBounds_toArray, List.set_cons_zero, List.set_cons_succ]
        refine wpAnyH_take (i := 4) (oi := { dst := some 50, op := Op.move (Operand.tmp 14), type := 4, pos := "law.go:43", after := #[{ on := 3, ground := Ground.guard }], guard := some (3, false) }) (v := ?_) rfl (by kernel_rfl) (by kernel_rfl) (by kernel_rfl) (fun _ _ _ h => h) (Or.inl ⟨by rfl, ?_⟩) (by exact S) ?_
        rotate_left 1
        · intro w hSw
          clear hSw
          go_simp
          try with_reducible rfl
        simp only [Act.put, List.setIfInBounds_toArray, List.set_cons_zero, List.set_cons_succ]
        refine wpAnyH_take (i := 5) (oi := { dst := some 51, op := Op.move (Operand.tmp 50), type := 4, pos := "law.go:43", after := #[{ on := 4, ground := Ground.data }, { on := 3, ground := Ground.chain }, { on := 3, ground := Ground.guard }], guard := some (3, false) }) (v := ?_) rfl (by kernel_rfl) (by kernel_rfl) (by kernel_rfl) (fun _ _ _ h => h) (Or.inl ⟨by rfl, ?_⟩) (by exact S) ?_
        rotate_left 1
        · intro w hSw
          clear hSw
          go_simp
          try with_reducible rfl
        simp only [Act.put, List.setIfInBounds_toArray, List.set_cons_zero, List.set_cons_succ]
        refine wpAnyH_take (i := 6) (oi := { dst := some 52, op := Op.move (Operand.tmp 12), type := 22, pos := "law.go:43", after := #[{ on := 5, ground := Ground.guard }], guard := some (5, true) }) (v := ?_) rfl (by kernel_rfl) (by kernel_rfl) (by kernel_rfl) (fun _ _ _ h => h) (Or.inl ⟨by rfl, ?_⟩) (by exact S) ?_
        rotate_left 1
        · intro w hSw
          clear hSw
          go_simp
          try with_reducible rfl
        simp only [Act.put, List.setIfInBounds_toArray, List.set_cons_zero, List.set_cons_succ]
        refine wpAnyH_take (i := 7) (oi := { dst := some 53, op := Op.move (Operand.tmp 10), type := 22, pos := "law.go:43", after := #[{ on := 5, ground := Ground.guard }], guard := some (5, true) }) (v := ?_) rfl (by kernel_rfl) (by kernel_rfl) (by kernel_rfl) (fun _ _ _ h => h) (Or.inl ⟨by rfl, ?_⟩) (by exact S) ?_
        rotate_left 1
        · intro w hSw
          clear hSw
          go_simp
          try with_reducible rfl
        simp only [Act.put, List.setIfInBounds_toArray, List.set_cons_zero, List.set_cons_succ]
        refine wpAnyH_take (i := 8) (oi := { dst := some 54, op := Op.binOp BinOp.gtr 22 (Operand.tmp 52) (Operand.tmp 53) 22, type := 4, pos := "law.go:43", after := #[{ on := 6, ground := Ground.data }, { on := 7, ground := Ground.data }, { on := 5, ground := Ground.guard }], guard := some (5, true) }) (v := ?_) rfl (by kernel_rfl) (by kernel_rfl) (by kernel_rfl) (fun _ _ _ h => h) (Or.inl ⟨by rfl, ?_⟩) (by exact S) ?_
        rotate_left 1
        · intro w hSw
          clear hSw
          go_simp
          try with_reducible rfl
        simp only [Act.put, List.setIfInBounds_toArray, List.set_cons_zero, List.set_cons_succ]
        refine wpAnyH_take (i := 9) (oi := { dst := some 55, op := Op.move (Operand.tmp 54), type := 4, pos := "law.go:43", after := #[{ on := 8, ground := Ground.data }, { on := 5, ground := Ground.chain }, { on := 5, ground := Ground.guard }], guard := some (5, true) }) (v := ?_) rfl (by kernel_rfl) (by kernel_rfl) (by kernel_rfl) (fun _ _ _ h => h) (Or.inl ⟨by rfl, ?_⟩) (by exact S) ?_
        rotate_left 1
        · intro w hSw
          clear hSw
          go_simp
          try with_reducible rfl
        simp only [Act.put, List.setIfInBounds_toArray, List.set_cons_zero, List.set_cons_succ]
        refine wpAnyH_take (i := 10) (oi := { dst := some 56, op := Op.move (Operand.tmp 12), type := 22, pos := "law.go:43", after := #[{ on := 9, ground := Ground.guard }], guard := some (9, false) }) (v := ?_) rfl (by kernel_rfl) (by kernel_rfl) (by kernel_rfl) (fun _ _ _ h => h) (Or.inl ⟨by rfl, ?_⟩) (by exact S) ?_
        rotate_left 1
        · intro w hSw
          clear hSw
          go_simp
          try with_reducible rfl
        simp only [Act.put, List.setIfInBounds_toArray, List.set_cons_zero, List.set_cons_succ]
        refine wpAnyH_take (i := 11) (oi := { dst := some 57, op := Op.move (Operand.tmp 3), type := 4, pos := "law.go:43", after := #[{ on := 9, ground := Ground.guard }], guard := some (9, false) }) (v := ?_) rfl (by kernel_rfl) (by kernel_rfl) (by kernel_rfl) (fun _ _ _ h => h) (Or.inl ⟨by rfl, ?_⟩) (by exact S) ?_
        rotate_left 1
        · intro w hSw
          clear hSw
          go_simp
          try with_reducible rfl
        simp only [Act.put, List.setIfInBounds_toArray, List.set_cons_zero, List.set_cons_succ]
        refine wpAnyH_take (i := 13) (oi := { dst := some 59, op := Op.load 29 (Operand.tmp 11), type := 29, pos := "law.go:43", after := #[{ on := 9, ground := Ground.guard }], guard := some (9, false) }) (v := _) rfl (by kernel_rfl) (by kernel_rfl) (by kernel_rfl) (fun _ _ _ h => h) (y_loadAll (by rfl) _ _ rfl _ rfl 0 _ rfl _ Tryd.underlying29 rfl (szIV _)) (by exact S) ?_
        simp only [Act.put, List.setIfInBounds_toArray, List.set_cons_zero, List.set_cons_succ]
        refine wpAnyH_ready (rs := [12]) (by kernel_rfl) (by simp) ?_
        refine AllReadyH.cons rfl (fun K hK => ?_) AllReadyH.nil
        go_simp
        go_wp2_with (go_at_call 13; refine (DR.out _).mono ?_; rintro e wf ⟨rfl, hbf⟩)
        replace S := S.below hbf
        clear hbf
        refine hK.out _ _ (by exact S) (fun _ => ?_)
        clear hK K
        refine wpAnyH_take (i := 14) (oi := { dst := some 60, op := Op.binOp BinOp.neq 29 (Operand.tmp 58) (Operand.tmp 59) 29, type := 4, pos := "law.go:43", after := #[{ on := 12, ground := Ground.data }, { on := 13, ground := Ground.data }, { on := 9, ground := Ground.guard }], guard := some (9, false) }) (v := _) rfl (by kernel_rfl) (by kernel_rfl) (by kernel_rfl) (fun _ _ _ h => h) (y_neqB (by rfl) _ _ _ rfl J J rfl rfl false (by rw [ivEq_self]; rfl)) (by exact S) ?_
        simp only [Act.put, List.setIfInBounds_toArray, List.set_cons_zero, List.set_cons_succ]
        refine wpAnyH_take (i := 15) (oi := { dst := some 61, op := Op.pick (Operand.tmp 55) (Operand.const (Value.bool true)) (Operand.tmp 60), type := 4, pos := "law.go:43", after := #[{ on := 9, ground := Ground.data }, { on := 14, ground := Ground.data }, { on := 5, ground := Ground.guard }], guard := some (5, true) }) (v := ?_) rfl (by kernel_rfl) (by kernel_rfl) (by kernel_rfl) (fun _ _ _ h => h) (Or.inl ⟨by rfl, ?_⟩) (by exact S) ?_
        rotate_left 1
        · intro w hSw
          clear hSw
          go_simp
          try with_reducible rfl
        simp only [Act.put, List.setIfInBounds_toArray, List.set_cons_zero, List.set_cons_succ]
        refine wpAnyH_take (i := 16) (oi := { dst := some 62, op := Op.pick (Operand.tmp 51) (Operand.tmp 61) (Operand.const (Value.bool false)), type := 4, pos := "law.go:43", after := #[{ on := 5, ground := Ground.data }, { on := 15, ground := Ground.data }, { on := 3, ground := Ground.guard }], guard := some (3, false) }) (v := ?_) rfl (by kernel_rfl) (by kernel_rfl) (by kernel_rfl) (fun _ _ _ h => h) (Or.inl ⟨by rfl, ?_⟩) (by exact S) ?_
        rotate_left 1
        · intro w hSw
          clear hSw
          go_simp
          try with_reducible rfl
        simp only [Act.put, List.setIfInBounds_toArray, List.set_cons_zero, List.set_cons_succ]
        refine wpAnyH_take (i := 17) (oi := { dst := some 63, op := Op.pick (Operand.tmp 49) (Operand.const (Value.bool true)) (Operand.tmp 62), type := 4, pos := "law.go:43", after := #[{ on := 3, ground := Ground.data }, { on := 16, ground := Ground.data }], guard := none }) (v := ?_) rfl (by kernel_rfl) (by kernel_rfl) (by kernel_rfl) (fun _ _ _ h => h) (Or.inl ⟨by rfl, ?_⟩) (by exact S) ?_
        rotate_left 1
        · intro w hSw
          clear hSw
          go_simp
          try with_reducible rfl
        simp only [Act.put, List.setIfInBounds_toArray, List.set_cons_zero, List.set_cons_succ]
        refine wpAnyH_done (by kernel_rfl) ?_ _
        go_wp2
        go_roundw
        case rel => exact ⟨k + 1, by omega, by push_cast; rfl, S.fewer 1⟩
        case measure =>
          simp only [intOf]
          omega
      · have r1 := hu hd
        have nn : ((decN x b).iv.op = 64) ∨ ((decN x b).iv.op ≠ 64 ∧ (decN x b).iv.op = 65) := by
          unfold undec at hd
          simp only [nbeq, Bool.or_eq_true, decide_eq_true_eq] at hd
          simp only [NV.iv]
          omega
        rw [r1, encZ_N _ _ r1] at hE
        clear hu hm hT hd r1
        generalize (decN x b).iv = J at *
        have EX : Hid (∀ w1, LT w1 → Calls Tryd.prog 14 #[J.val, .bool b] w1 fun e w' => e = .returned (.tuple #[.int .u16 ((0 : Nat) : Int), .bool false]) ∧ Below w1.heap.size w1 w') := hE
        clear hE hx16
        rcases nn with h1 | ⟨h1, h2⟩
        · have n64 : (J.op != 64) = false := by simp [h1]
          clear h1
          go_wp2_with (first
            | (go_at_call 13; refine (DX.out _).mono ?_; rintro e wf ⟨rfl, hbf⟩; replace S := S.below hbf; clear hbf)
            | (go_at_call 14; refine (EX.out _ (HO.out.next S.low)).mono ?_; rintro e wf ⟨rfl, hbf⟩; replace S := S.below hbf; clear hbf)
            | ((with_reducible refine wpl_isDst 11 ?_); refine S.alloc rfl 29 rfl (Cel.iv IV.zero) zeroIV ?_; clear S; intro b11 w1 S)
            | ((with_reducible refine wpl_isStore ?_); refine S.storeAll rfl 29 _ _ rfl b11 (Cel.iv J) rfl rfl 0 _ rfl rfl (one_iv _) (szIV _) ?_; clear S; intro w2 S; simp only [List.set_cons_zero, List.set_cons_succ] at S)
            | ((with_reducible refine wpl_isLoad ?_); first
                    | (refine S.ld 22 _ rfl g k rfl 0 (Cel.any (uc hs)) rfl (.int .u16 (x : Nat)) HX.out _ Tryd.underlying22 rfl rfl ?_)
                    | (refine S.ldAll 29 _ rfl b11 rfl 0 (Cel.iv J) rfl _ Tryd.underlying29 rfl (szIV _) rfl ?_)
                    | (refine S.ld 3 _ rfl b11 0 rfl 0 (Cel.iv J) rfl _ rfl _ Tryd.underlying3 rfl rfl ?_)))
          go_big_region
          replace S := S.drew
          go_wp2
          go_roundw
          case rel => exact ⟨k + 1, by omega, by push_cast; rfl, S.fewer 1⟩
          case measure =>
            simp only [intOf]
            omega
        · have n64 : (J.op != 64) = true := by simpa using h1
          have n65 : (J.op != 65) = false := by simp [h2]
          clear h1 h2
          go_wp2_with (first
            | (go_at_call 13; refine (DX.out _).mono ?_; rintro e wf ⟨rfl, hbf⟩; replace S := S.below hbf; clear hbf)
            | (go_at_call 14; refine (EX.out _ (HO.out.next S.low)).mono ?_; rintro e wf ⟨rfl, hbf⟩; replace S := S.below hbf; clear hbf)
            | ((with_reducible refine wpl_isDst 11 ?_); refine S.alloc rfl 29 rfl (Cel.iv IV.zero) zeroIV ?_; clear S; intro b11 w1 S)
            | ((with_reducible refine wpl_isStore ?_); refine S.storeAll rfl 29 _ _ rfl b11 (Cel.iv J) rfl rfl 0 _ rfl rfl (one_iv _) (szIV _) ?_; clear S; intro w2 S; simp only [List.set_cons_zero, List.set_cons_succ] at S)
            | ((with_reducible refine wpl_isLoad ?_); first
                    | (refine S.ld 22 _ rfl g k rfl 0 (Cel.any (uc hs)) rfl (.int .u16 (x : Nat)) HX.out _ Tryd.underlying22 rfl rfl ?_)
                    | (refine S.ldAll 29 _ rfl b11 rfl 0 (Cel.iv J) rfl _ Tryd.underlying29 rfl (szIV _) rfl ?_)
                    | (refine S.ld 3 _ rfl b11 0 rfl 0 (Cel.iv J) rfl _ rfl _ Tryd.underlying3 rfl rfl ?_)))
          go_big_region
          replace S := S.drew
          go_wp2
          go_roundw
          case rel => exact ⟨k + 1, by omega, by push_cast; rfl, S.fewer 1⟩
          case measure =>
            simp only [intOf]
            omega
    · have hlt' : ¬ (k : Int) < 2 := by omega
      have hE := fun w1 h1 => encode_c i hi b w1 h1
      have hT := encZ_T i b
      have hN := encZ_N i b
      cases hd : (encZ i b).2
      · rw [hd, hN hd] at hE
        have EX : Hid (∀ w1, LT w1 → Calls Tryd.prog 14 #[i.val, .bool b] w1 fun e w' => e = .returned (.tuple #[.int .u16 ((0 : Nat) : Int), .bool false]) ∧ Below w1.heap.size w1 w') := hE
        clear hE hT hN hd
        go_wp2_with (first
          | (go_at_call 14; refine (EX.out _ (HT.next S.low)).mono ?_; rintro e wf ⟨rfl, hbf⟩; replace S := S.below hbf; clear hbf)
          | ((with_reducible refine wpl_isLoad ?_); refine S.ldAll 29 _ rfl b5 rfl 1 (Cel.iv i) rfl _ Tryd.underlying29 rfl (szIV _) rfl ?_))
        go_ret
        exact ⟨rfl, S.low⟩
      · obtain ⟨t1, t2, _, _⟩ := hT hd
        have DR0 : ∀ w1, Calls Tryd.prog 13 #[.int .u16 ((encZ i b).1 : Nat), .bool b] w1 fun e w' => e = .returned i.val ∧ Below w1.heap.size w1 w' := fun w1 => by
          have := rdecode_c (encZ i b).1 t1 b w1
          unfold Says at this
          rw [t2] at this
          exact this
        rw [hd] at hE
        clear hT hN hd t2
        generalize (encZ i b).1 = v at *
        have EX : Hid (∀ w1, LT w1 → Calls Tryd.prog 14 #[i.val, .bool b] w1 fun e w' => e = .returned (.tuple #[.int .u16 (v : Nat), .bool true]) ∧ Below w1.heap.size w1 w') := hE
        have DR : Hid (∀ w1, Calls Tryd.prog 13 #[.int .u16 (v : Nat), .bool b] w1 fun e w' => e = .returned i.val ∧ Below w1.heap.size w1 w') := DR0
        clear hE DR0
        go_wp2_with (first
          | (go_at_call 14; refine (EX.out _ (HT.next S.low)).mono ?_; rintro e wf ⟨rfl, hbf⟩; replace S := S.below hbf; clear hbf)
          | ((with_reducible refine wpl_isLoad ?_); refine S.ldAll 29 _ rfl b5 rfl 1 (Cel.iv i) rfl _ Tryd.underlying29 rfl (szIV _) rfl ?_))
        refine wp_region_held_drew (S := fun w' => SH noZ w w' [(g, Cel.any (uc hs)), (b5, Cel.iv i)]) (by kernel_rfl) (by exact S.drew) (fun _ => ?_)
        replace S := S.drew
        refine wpAnyH_take (i := 0) (oi := { dst := some 75, op := Op.move (Operand.tmp 15), type := 22, pos := "law.go:51", after := #[], guard := none }) (v := ?_) rfl (by kernel_rfl) (by kernel_rfl) (by kernel_rfl) (fun _ _ _ h => h) (Or.inl ⟨by rfl, ?_⟩) (by exact S) ?_
        rotate_left 1
        · intro w hSw
          clear hSw
          go_simp
          try with_reducible rfl
        simp only [Act.put, List.setIfInBounds_toArray, List.set_cons_zero, List.set_cons_succ]
        refine wpAnyH_take (i := 1) (oi := { dst := some 76, op := Op.move (Operand.tmp 3), type := 4, pos := "law.go:51", after := #[], guard := none }) (v := ?_) rfl (by kernel_rfl) (by kernel_rfl) (by kernel_rfl) (fun _ _ _ h => h) (Or.inl ⟨by rfl, ?_⟩) (by exact S) ?_
        rotate_left 1
        · intro w hSw
          clear hSw
          go_simp
          try with_reducible rfl
        simp only [Act.put, List.setIfInBounds_toArray, List.set_cons_zero, List.set_cons_succ]
        refine wpAnyH_take (i := 3) (oi := { dst := some 78, op := Op.load 29 (Operand.tmp 5), type := 29, pos := "law.go:51", after := #[], guard := none }) (v := _) rfl (by kernel_rfl) (by kernel_rfl) (by kernel_rfl) (fun _ _ _ h => h) (y_loadAll (by rfl) _ _ rfl _ rfl 1 _ rfl _ Tryd.underlying29 rfl (szIV _)) (by exact S) ?_
        simp only [Act.put, List.setIfInBounds_toArray, List.set_cons_zero, List.set_cons_succ]
        refine wpAnyH_ready (rs := [2]) (by kernel_rfl) (by simp) ?_
        refine AllReadyH.cons rfl (fun K hK => ?_) AllReadyH.nil
        go_simp
        go_wp2_with (go_at_call 13; refine (DR.out _).mono ?_; rintro e wf ⟨rfl, hbf⟩)
        replace S := S.below hbf
        clear hbf
        refine hK.out _ _ (by exact S) (fun _ => ?_)
        clear hK K
        refine wpAnyH_take (i := 4) (oi := { dst := some 79, op := Op.binOp BinOp.eql 29 (Operand.tmp 77) (Operand.tmp 78) 29, type := 4, pos := "law.go:51", after := #[{ on := 2, ground := Ground.data }, { on := 3, ground := Ground.data }], guard := none }) (v := _) rfl (by kernel_rfl) (by kernel_rfl) (by kernel_rfl) (fun _ _ _ h => h) (y_eqlB (by rfl) _ _ _ rfl i i rfl rfl true (ivEq_self i)) (by exact S) ?_
        simp only [Act.put, List.setIfInBounds_toArray, List.set_cons_zero, List.set_cons_succ]
        refine wpAnyH_take (i := 5) (oi := { dst := some 8, op := Op.assign (Operand.tmp 79), type := 4, pos := "law.go:51", after := #[{ on := 4, ground := Ground.data }, { on := 2, ground := Ground.chain }, { on := 0, ground := Ground.phase }, { on := 1, ground := Ground.phase }, { on := 2, ground := Ground.phase }, { on := 3, ground := Ground.phase }, { on := 4, ground := Ground.phase }], guard := none }) (v := ?_) rfl (by kernel_rfl) (by kernel_rfl) (by kernel_rfl) (fun _ _ _ h => h) (Or.inl ⟨by rfl, ?_⟩) (by exact S) ?_
        rotate_left 1
        · intro w hSw
          clear hSw
          go_simp
          try with_reducible rfl
        simp only [Act.put, List.setIfInBounds_toArray, List.set_cons_zero, List.set_cons_succ]
        refine wpAnyH_done (by kernel_rfl) ?_ _
        go_wp2
        go_ret
        exact ⟨rfl, S.low⟩
theorem writes_i (x : Int) (h0 : 0 ≤ x) (h1 : x ≤ 65535) (i : IV) (hi : OKi i) (q : Int) (q0 : 0 ≤ q) (b : Bool) (w : World) (HT : LT w) : Calls Tryd.prog 4 #[.int .u16 x, i.val, .int .u8 q, .bool b] w fun e w' => e = .returned (.bool true) ∧ Below w.heap.size w w' := by
  obtain ⟨n, rfl, m⟩ := n16 x h0 h1
  exact writes_c n m i hi q q0 b w HT
end Go.Proofs.YtblcklknlfofgaaDoor
