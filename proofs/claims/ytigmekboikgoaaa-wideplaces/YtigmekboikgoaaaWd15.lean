/- Stage 9: WidePlaces, walked. -/
import Derived.Test.YtigmekboikgoaaaWd14
namespace Go.Proofs.Ytigmekboikgoaaa
open Go.ChangeShapes Go.WideShapes Go.ChangeAt Go.RowKit
set_option linter.unusedVariables false
set_option linter.unusedSimpArgs false

theorem y_val {P : Program} {S : World → Prop} {ops : Array Oper} {o : Oper} {a : Act} (hw : Region.wanted o (yielded ops a.tmps) = true) (v : Value) (hr : ∀ w, (execOp a.eval o).run P w = .ok (.value v) w) : YieldsIf P ops S o v a := .inl ⟨hw, fun w _ => hr w⟩
theorem y_eqlB {S : World → Prop} {ops : Array Oper} {o : Oper} {a : Act} (hw : Region.wanted o (yielded ops a.tmps) = true) (x y : Operand) (t : TypeId) (ho : o.op = .binOp .eql 30 x y t) (i j : IV) (hx : a.eval x = i.val) (hy : a.eval y = j.val) (v : Bool) (hv : ivEq i j = v) : YieldsIf Try.prog ops S o (.bool v) a :=
  .inl ⟨hw, fun w _ => by
    unfold execOp
    simp only [ho, hx, hy, Sem.run_bind, iv_guard, Result.andThen_ok, iv_eql, Sem.run_pure, hv]⟩
theorem or_one (v : Nat) (hv : v < 4294967296) (h2 : v % 2 = 0) : bits .or .u32 (v : Int) 1 = (v : Int) + 1 := u32_join v 1 1 (by simpa using h2) hv (by decide) (by decide)
theorem sign25_odd (v : Nat) (hv : v < 4294967295) (h2 : v % 2 = 0) : signS (((v + 1) % 33554432 / 2 * 2 : Nat) : Int) 25 ≠ ((v + 1 : Nat) : Int) := by
  have h := sign25_even (v + 1) (by omega)
  generalize signS (((v + 1) % 33554432 / 2 * 2 : Nat) : Int) 25 = R at *
  omega
set_option maxHeartbeats 4000000 in
set_option maxRecDepth 100000 in
theorem places54_c (n : Int) (c0 v u c : Nat) (hv0 : n / 256 * 2 % 4294967296 = (v : Int)) (hu0 : n / 4096 * 2 % 4294967296 = (u : Int)) (hc0 : ((c0 : Int)).tmod 14 = (c : Int)) (hc1 : (c0 : Int) % 14 = (c : Int)) (hn0 : -2147483648 ≤ n) (hn1 : n ≤ 2147483647) (hcc : c0 < 256)
    (hc : c < 14) (hv : v < 4294967296) (hv2 : v % 2 = 0) (hv3 : v < 16777216 ∨ (4278190080 ≤ v ∧ v < 4294967296)) (hu : u < 4294967296) (hu2 : u % 2 = 0) (hu3 : u < 1048576 ∨ (4293918720 ≤ u ∧ u < 4294967296)) (w : World) : Calls Try.prog 4 #[.int .i32 n, .int .u8 c0, .bool false] w fun e w' => e = .returned (.bool true) ∧ Below w.heap.size w w' := by
  have s1 := sign25 v hv2 hv3
  have s2 := sign21 u hu2 hu3
  have s4 := sign25_odd v (by omega) hv2
  have E1 : Hid (∀ w, Calls Try.prog 10 #[(Cel.iv (brI 54 14 (v : Nat))).val] w fun e w' => e = .returned (.tuple #[.int .u16 (farW 54 v / 65536 : Nat), .int .u16 (farW 54 v % 65536 : Nat), .bool true]) ∧ Below w.heap.size w w') := encFarY 54 v (.inl rfl) hv s1
  have E2 : Hid (∀ w, Calls Try.prog 10 #[(Cel.iv (brI 54 (c : Nat) (u : Nat))).val] w fun e w' => e = .returned (.tuple #[.int .u16 (condW c u / 65536 : Nat), .int .u16 (condW c u % 65536 : Nat), .bool true]) ∧ Below w.heap.size w w') := encCondY c u hc hu s2
  have E3 : Hid (∀ w, Calls Try.prog 10 #[(Cel.iv (brI 54 (c : Nat) 1048576)).val] w fun e w' => e = .returned (.tuple #[.int .u16 0, .int .u16 0, .bool false]) ∧ Below w.heap.size w w') := encCondN c 1048576 hc (by decide) (by decide)
  have E4 : Hid (∀ w, Calls Try.prog 10 #[(Cel.iv (brI 54 14 ((v : Int) + 1))).val] w fun e w' => e = .returned (.tuple #[.int .u16 0, .int .u16 0, .bool false]) ∧ Below w.heap.size w w') := fun w => by
    have h := encFarN 54 (v + 1) (.inl rfl) (by omega) s4 w
    rw [show ((v + 1 : Nat) : Int) = (v : Int) + 1 by push_cast; rfl] at h
    exact h
  have DA : ∀ w, Calls Try.prog 8 #[.int .u16 (farW 54 v / 65536 : Nat), .int .u16 (farW 54 v % 65536 : Nat), .bool true] w fun e w' => e = .returned (farL 54 v).val ∧ Below w.heap.size w w' := fun w => decT1_c (farW 54 v / 65536) (farW 54 v % 65536) (by have := farW_lt 54 v; omega) (by omega) (farL 54 v) (farW 54 v) (by omega) (farW_alone 54 v (.inl rfl)) rfl rfl w
  have DB : ∀ w, Calls Try.prog 8 #[.int .u16 (condW c u / 65536 : Nat), .int .u16 (condW c u % 65536 : Nat), .bool false] w fun e w' => e = .returned (condL c u).val ∧ Below w.heap.size w w' := fun w => decF_c (condW c u / 65536) (condW c u % 65536) (by have := (cond_fields c u hc).2.2.2.2.2.2.2.2.2.2; omega) (by omega) (condL c u) (condW c u) (by omega) (condW_alone c u hc) w
  have DC : ∀ w, Calls Try.prog 8 #[.int .u16 (condW c u / 65536 : Nat), .int .u16 (condW c u % 65536 : Nat), .bool true] w fun e w' => e = .returned (noneI 65 (condW c u)).val ∧ Below w.heap.size w w' := fun w => decT2_c (condW c u / 65536) (condW c u % 65536) (by have := (cond_fields c u hc).2.2.2.2.2.2.2.2.2.2; omega) (by omega) (condL c u) (condW c u) (by omega) (condW_alone c u hc) rfl (by show ((c : Int) != 14) = true; simp; omega) w
  have eA : farL 54 v = (brI 54 14 (v : Nat)) := by
    show brI 54 14 _ = _
    rw [s1]
  have eB : condL c u = (brI 54 (c : Nat) (u : Nat)) := by
    show brI 54 (c : Nat) _ = _
    rw [s2]
  rw [eA] at DA
  rw [eB] at DB
  have D1 : Hid (∀ w, Calls Try.prog 8 #[.int .u16 (farW 54 v / 65536 : Nat), .int .u16 (farW 54 v % 65536 : Nat), .bool true] w fun e w' => e = .returned (Cel.iv (brI 54 14 (v : Nat))).val ∧ Below w.heap.size w w') := DA
  have D2 : Hid (∀ w, Calls Try.prog 8 #[.int .u16 (condW c u / 65536 : Nat), .int .u16 (condW c u % 65536 : Nat), .bool false] w fun e w' => e = .returned (Cel.iv (brI 54 (c : Nat) (u : Nat))).val ∧ Below w.heap.size w w') := DB
  have D3 : Hid (∀ w, Calls Try.prog 8 #[.int .u16 (condW c u / 65536 : Nat), .int .u16 (condW c u % 65536 : Nat), .bool true] w fun e w' => e = .returned (noneI 65 (condW c u)).val ∧ Below w.heap.size w w') := DC
  have ho := or_one v hv hv2
  clear DA DB DC eA eB s1 s2 s4 hv2 hv3 hu2 hu3
  generalize farW 54 v / 65536 = H1 at *
  generalize farW 54 v % 65536 = K1 at *
  generalize condW c u / 65536 = H2 at *
  generalize condW c u % 65536 = K2 at *
  generalize condW c u = X2 at *
  go_enter Try.func4, Try.ntmps4
  have S := SH.start w
  go_wp2_with (first
    | (go_at_call 6; refine (known_c _).mono ?_; rintro e wf ⟨rfl, hbf⟩; replace S := S.below hbf; clear hbf)
    | (go_at_call 10; (first | with_reducible refine (E1.out _).mono ?_ | with_reducible refine (E2.out _).mono ?_ | with_reducible refine (E3.out _).mono ?_ | with_reducible refine (E4.out _).mono ?_); rintro e wf ⟨rfl, hbf⟩; replace S := S.below hbf; clear hbf)
    | ((with_reducible refine wpl_isDst 8 ?_); (refine SH.alloc (L := []) S rfl 30 rfl (Cel.iv IV.zero) zeroIV ?_; clear S; intro b8 w1 S))
    | ((with_reducible refine wpl_isDst 12 ?_); (refine S.alloc rfl 30 rfl (Cel.iv IV.zero) zeroIV ?_; clear S; intro b12 w1 S))
    | ((with_reducible refine wpl_isDst 16 ?_); (refine S.alloc rfl 30 rfl (Cel.iv IV.zero) zeroIV ?_; clear S; intro b16 w1 S))
    | ((with_reducible refine wpl_isDst 20 ?_); (refine S.alloc rfl 30 rfl (Cel.iv IV.zero) zeroIV ?_; clear S; intro b20 w1 S))
    | ((with_reducible refine wpl_isDst 35 ?_); (refine S.ldAll 30 _ rfl b8 rfl 0 (Cel.iv (brI 54 14 (v : Nat))) rfl _ Try.underlying30 rfl (szIV _) rfl ?_))
    | ((with_reducible refine wpl_isDst 49 ?_); (refine S.ldAll 30 _ rfl b12 rfl 0 (Cel.iv (brI 54 (c : Nat) (u : Nat))) rfl _ Try.underlying30 rfl (szIV _) rfl ?_))
    | ((with_reducible refine wpl_isDst 59 ?_); (refine S.ldAll 30 _ rfl b16 rfl 0 (Cel.iv (brI 54 (c : Nat) 1048576)) rfl _ Try.underlying30 rfl (szIV _) rfl ?_))
    | ((with_reducible refine wpl_isDst 64 ?_); (refine S.ldAll 30 _ rfl b8 rfl 2 (Cel.iv (brI 54 14 (v : Nat))) rfl _ Try.underlying30 rfl (szIV _) rfl ?_))
    | ((with_reducible refine wpl_isDst 70 ?_); (refine S.ldAll 30 _ rfl b20 rfl 0 (Cel.iv (brI 54 14 ((v : Int) + 1))) rfl _ Try.underlying30 rfl (szIV _) rfl ?_))
    | ((with_reducible refine wpl_isDst 66 ?_); (refine S.ld 28 _ rfl b20 8 rfl 0 (Cel.iv (brI 54 14 (v : Nat))) rfl (.int .u32 (v : Nat)) rfl _ Try.underlying28 rfl rfl ?_))
    | ((with_reducible refine wpl_isStore ?_); first
      | (refine S.storeAll rfl 30 _ _ rfl b8 (Cel.iv (brI 54 14 (v : Nat))) rfl rfl 0 _ rfl rfl (one_iv _) (szIV _) ?_; clear S; intro w2 S; simp only [List.set_cons_zero, List.set_cons_succ] at S)
      | (refine S.store1 rfl 3 _ _ rfl b8 0 (.int .i64 55) rfl rfl 0 (Cel.iv (brI 54 14 (v : Nat))) rfl rfl (by simp [Cel.cells, IV.cellsL, brI]) (Cel.iv (brI 55 14 (v : Nat))) rfl (by kernel_rfl) ?_; clear S; intro w2 S; simp only [List.set_cons_zero, List.set_cons_succ] at S)
      | (refine S.storeAll rfl 30 _ _ rfl b12 (Cel.iv (brI 54 (c : Nat) (u : Nat))) rfl rfl 0 _ rfl rfl (one_iv _) (szIV _) ?_; clear S; intro w2 S; simp only [List.set_cons_zero, List.set_cons_succ] at S)
      | (refine S.storeAll rfl 30 _ _ rfl b16 (Cel.iv (brI 54 (c : Nat) 1048576)) rfl rfl 0 _ rfl rfl (one_iv _) (szIV _) ?_; clear S; intro w2 S; simp only [List.set_cons_zero, List.set_cons_succ] at S)
      | (refine S.storeAll rfl 30 _ _ rfl b20 (Cel.iv (brI 54 14 (v : Nat))) rfl rfl 0 _ rfl rfl (one_iv _) (szIV _) ?_; clear S; intro w2 S; simp only [List.set_cons_zero, List.set_cons_succ] at S)
      | (refine S.store1 rfl 28 _ _ rfl b20 8 (.int .u32 ((v : Int) + 1)) rfl rfl 0 (Cel.iv (brI 54 14 (v : Nat))) rfl rfl (by simp [Cel.cells, IV.cellsL, brI]) (Cel.iv (brI 54 14 ((v : Int) + 1))) rfl (by kernel_rfl) ?_; clear S; intro w2 S; simp only [List.set_cons_zero, List.set_cons_succ] at S)))
  refine wp_region_held_drew (S := fun w' => SH noZ w w' [(b20, Cel.iv (brI 54 14 ((v : Int) + 1))), (b16, Cel.iv (brI 54 (c : Nat) 1048576)), (b12, Cel.iv (brI 54 (c : Nat) (u : Nat))), (b8, Cel.iv (brI 54 14 (v : Nat)))]) (by kernel_rfl) (by exact S.drew) (fun _ => ?_)
  replace S := S.drew
  refine wpAnyH_take (i := 0) (oi := { dst := some 75, op := Op.move (Operand.tmp 11), type := 4, pos := "more.go:27", after := #[], guard := none }) (v := ?_) rfl (by kernel_rfl) (by kernel_rfl) (by kernel_rfl) (fun _ _ _ h => h) (Or.inl ⟨by rfl, ?_⟩) (by exact S) ?_
  rotate_left 1
  · intro w hSw
    clear hSw
    go_simp
    try with_reducible rfl
  simp only [Act.put, List.setIfInBounds_toArray, List.set_cons_zero, List.set_cons_succ]
  refine wpAnyH_take (i := 1) (oi := { dst := some 76, op := Op.move (Operand.tmp 75), type := 4, pos := "more.go:27", after := #[{ on := 0, ground := Ground.data }], guard := none }) (v := ?_) rfl (by kernel_rfl) (by kernel_rfl) (by kernel_rfl) (fun _ _ _ h => h) (Or.inl ⟨by rfl, ?_⟩) (by exact S) ?_
  rotate_left 1
  · intro w hSw
    clear hSw
    go_simp
    try with_reducible rfl
  simp only [Act.put, List.setIfInBounds_toArray, List.set_cons_zero, List.set_cons_succ]
  refine wpAnyH_take (i := 2) (oi := { dst := some 77, op := Op.move (Operand.tmp 9), type := 22, pos := "more.go:27", after := #[{ on := 1, ground := Ground.guard }], guard := some (1, true) }) (v := ?_) rfl (by kernel_rfl) (by kernel_rfl) (by kernel_rfl) (fun _ _ _ h => h) (Or.inl ⟨by rfl, ?_⟩) (by exact S) ?_
  rotate_left 1
  · intro w hSw
    clear hSw
    go_simp
    try with_reducible rfl
  simp only [Act.put, List.setIfInBounds_toArray, List.set_cons_zero, List.set_cons_succ]
  refine wpAnyH_take (i := 3) (oi := { dst := some 78, op := Op.move (Operand.tmp 10), type := 22, pos := "more.go:27", after := #[{ on := 1, ground := Ground.guard }], guard := some (1, true) }) (v := ?_) rfl (by kernel_rfl) (by kernel_rfl) (by kernel_rfl) (fun _ _ _ h => h) (Or.inl ⟨by rfl, ?_⟩) (by exact S) ?_
  rotate_left 1
  · intro w hSw
    clear hSw
    go_simp
    try with_reducible rfl
  simp only [Act.put, List.setIfInBounds_toArray, List.set_cons_zero, List.set_cons_succ]
  refine wpAnyH_take (i := 5) (oi := { dst := some 80, op := Op.load 30 (Operand.tmp 8), type := 30, pos := "more.go:27", after := #[{ on := 1, ground := Ground.guard }], guard := some (1, true) }) (v := _) rfl (by kernel_rfl) (by kernel_rfl) (by kernel_rfl) (fun _ _ _ h => h) (y_loadAll (by rfl) _ _ rfl _ rfl 3 _ rfl _ Try.underlying30 rfl (szIV _)) (by exact S) ?_
  simp only [Act.put, List.setIfInBounds_toArray, List.set_cons_zero, List.set_cons_succ]
  refine wpAnyH_ready (rs := [4]) (by kernel_rfl) (by simp) ?_
  refine AllReadyH.cons rfl (fun K hK => ?_) AllReadyH.nil
  go_simp
  go_wp2_with (go_at_call 8; refine (D1.out _).mono ?_; rintro e wf ⟨rfl, hbf⟩)
  replace S := S.below hbf
  clear hbf
  refine hK.out _ _ (by exact S) (fun _ => ?_)
  clear hK K
  refine wpAnyH_take (i := 6) (oi := { dst := some 81, op := Op.binOp BinOp.eql 30 (Operand.tmp 79) (Operand.tmp 80) 30, type := 4, pos := "more.go:27", after := #[{ on := 4, ground := Ground.data }, { on := 5, ground := Ground.data }, { on := 1, ground := Ground.guard }], guard := some (1, true) }) (v := _) rfl (by kernel_rfl) (by kernel_rfl) (by kernel_rfl) (fun _ _ _ h => h) (y_eqlB (by rfl) _ _ _ rfl (brI 54 14 (v : Nat)) (brI 54 14 (v : Nat)) rfl rfl true (ivEq_self _)) (by exact S) ?_
  simp only [Act.put, List.setIfInBounds_toArray, List.set_cons_zero, List.set_cons_succ]
  refine wpAnyH_take (i := 7) (oi := { dst := some 82, op := Op.pick (Operand.tmp 76) (Operand.tmp 81) (Operand.const (Value.bool false)), type := 4, pos := "more.go:27", after := #[{ on := 1, ground := Ground.data }, { on := 6, ground := Ground.data }], guard := none }) (v := ?_) rfl (by kernel_rfl) (by kernel_rfl) (by kernel_rfl) (fun _ _ _ h => h) (Or.inl ⟨by rfl, ?_⟩) (by exact S) ?_
  rotate_left 1
  · intro w hSw
    clear hSw
    go_simp
    try with_reducible rfl
  simp only [Act.put, List.setIfInBounds_toArray, List.set_cons_zero, List.set_cons_succ]
  refine wpAnyH_take (i := 8) (oi := { dst := some 83, op := Op.move (Operand.tmp 82), type := 4, pos := "more.go:27", after := #[{ on := 7, ground := Ground.data }, { on := 4, ground := Ground.chain }], guard := none }) (v := ?_) rfl (by kernel_rfl) (by kernel_rfl) (by kernel_rfl) (fun _ _ _ h => h) (Or.inl ⟨by rfl, ?_⟩) (by exact S) ?_
  rotate_left 1
  · intro w hSw
    clear hSw
    go_simp
    try with_reducible rfl
  simp only [Act.put, List.setIfInBounds_toArray, List.set_cons_zero, List.set_cons_succ]
  refine wpAnyH_take (i := 9) (oi := { dst := some 84, op := Op.move (Operand.tmp 15), type := 4, pos := "more.go:27", after := #[{ on := 8, ground := Ground.guard }], guard := some (8, true) }) (v := ?_) rfl (by kernel_rfl) (by kernel_rfl) (by kernel_rfl) (fun _ _ _ h => h) (Or.inl ⟨by rfl, ?_⟩) (by exact S) ?_
  rotate_left 1
  · intro w hSw
    clear hSw
    go_simp
    try with_reducible rfl
  simp only [Act.put, List.setIfInBounds_toArray, List.set_cons_zero, List.set_cons_succ]
  refine wpAnyH_take (i := 10) (oi := { dst := some 85, op := Op.pick (Operand.tmp 83) (Operand.tmp 84) (Operand.const (Value.bool false)), type := 4, pos := "more.go:27", after := #[{ on := 8, ground := Ground.data }, { on := 9, ground := Ground.data }], guard := none }) (v := ?_) rfl (by kernel_rfl) (by kernel_rfl) (by kernel_rfl) (fun _ _ _ h => h) (Or.inl ⟨by rfl, ?_⟩) (by exact S) ?_
  rotate_left 1
  · intro w hSw
    clear hSw
    go_simp
    try with_reducible rfl
  simp only [Act.put, List.setIfInBounds_toArray, List.set_cons_zero, List.set_cons_succ]
  refine wpAnyH_take (i := 11) (oi := { dst := some 86, op := Op.move (Operand.tmp 85), type := 4, pos := "more.go:27", after := #[{ on := 10, ground := Ground.data }, { on := 8, ground := Ground.chain }], guard := none }) (v := ?_) rfl (by kernel_rfl) (by kernel_rfl) (by kernel_rfl) (fun _ _ _ h => h) (Or.inl ⟨by rfl, ?_⟩) (by exact S) ?_
  rotate_left 1
  · intro w hSw
    clear hSw
    go_simp
    try with_reducible rfl
  simp only [Act.put, List.setIfInBounds_toArray, List.set_cons_zero, List.set_cons_succ]
  refine wpAnyH_take (i := 12) (oi := { dst := some 87, op := Op.move (Operand.tmp 13), type := 22, pos := "more.go:27", after := #[{ on := 11, ground := Ground.guard }], guard := some (11, true) }) (v := ?_) rfl (by kernel_rfl) (by kernel_rfl) (by kernel_rfl) (fun _ _ _ h => h) (Or.inl ⟨by rfl, ?_⟩) (by exact S) ?_
  rotate_left 1
  · intro w hSw
    clear hSw
    go_simp
    try with_reducible rfl
  simp only [Act.put, List.setIfInBounds_toArray, List.set_cons_zero, List.set_cons_succ]
  refine wpAnyH_take (i := 13) (oi := { dst := some 88, op := Op.move (Operand.tmp 14), type := 22, pos := "more.go:27", after := #[{ on := 11, ground := Ground.guard }], guard := some (11, true) }) (v := ?_) rfl (by kernel_rfl) (by kernel_rfl) (by kernel_rfl) (fun _ _ _ h => h) (Or.inl ⟨by rfl, ?_⟩) (by exact S) ?_
  rotate_left 1
  · intro w hSw
    clear hSw
    go_simp
    try with_reducible rfl
  simp only [Act.put, List.setIfInBounds_toArray, List.set_cons_zero, List.set_cons_succ]
  refine wpAnyH_take (i := 15) (oi := { dst := some 90, op := Op.load 30 (Operand.tmp 12), type := 30, pos := "more.go:27", after := #[{ on := 11, ground := Ground.guard }], guard := some (11, true) }) (v := _) rfl (by kernel_rfl) (by kernel_rfl) (by kernel_rfl) (fun _ _ _ h => h) (y_loadAll (by rfl) _ _ rfl _ rfl 2 _ rfl _ Try.underlying30 rfl (szIV _)) (by exact S) ?_
  simp only [Act.put, List.setIfInBounds_toArray, List.set_cons_zero, List.set_cons_succ]
  refine wpAnyH_ready (rs := [14]) (by kernel_rfl) (by simp) ?_
  refine AllReadyH.cons rfl (fun K hK => ?_) AllReadyH.nil
  go_simp
  go_wp2_with (go_at_call 8; refine (D2.out _).mono ?_; rintro e wf ⟨rfl, hbf⟩)
  replace S := S.below hbf
  clear hbf
  refine hK.out _ _ (by exact S) (fun _ => ?_)
  clear hK K
  refine wpAnyH_take (i := 16) (oi := { dst := some 91, op := Op.binOp BinOp.eql 30 (Operand.tmp 89) (Operand.tmp 90) 30, type := 4, pos := "more.go:27", after := #[{ on := 14, ground := Ground.data }, { on := 15, ground := Ground.data }, { on := 11, ground := Ground.guard }], guard := some (11, true) }) (v := _) rfl (by kernel_rfl) (by kernel_rfl) (by kernel_rfl) (fun _ _ _ h => h) (y_eqlB (by rfl) _ _ _ rfl (brI 54 (c : Nat) (u : Nat)) (brI 54 (c : Nat) (u : Nat)) rfl rfl true (ivEq_self _)) (by exact S) ?_
  simp only [Act.put, List.setIfInBounds_toArray, List.set_cons_zero, List.set_cons_succ]
  refine wpAnyH_take (i := 17) (oi := { dst := some 92, op := Op.pick (Operand.tmp 86) (Operand.tmp 91) (Operand.const (Value.bool false)), type := 4, pos := "more.go:27", after := #[{ on := 11, ground := Ground.data }, { on := 16, ground := Ground.data }], guard := none }) (v := ?_) rfl (by kernel_rfl) (by kernel_rfl) (by kernel_rfl) (fun _ _ _ h => h) (Or.inl ⟨by rfl, ?_⟩) (by exact S) ?_
  rotate_left 1
  · intro w hSw
    clear hSw
    go_simp
    try with_reducible rfl
  simp only [Act.put, List.setIfInBounds_toArray, List.set_cons_zero, List.set_cons_succ]
  refine wpAnyH_take (i := 18) (oi := { dst := some 93, op := Op.move (Operand.tmp 92), type := 4, pos := "more.go:27", after := #[{ on := 17, ground := Ground.data }, { on := 14, ground := Ground.chain }], guard := none }) (v := ?_) rfl (by kernel_rfl) (by kernel_rfl) (by kernel_rfl) (fun _ _ _ h => h) (Or.inl ⟨by rfl, ?_⟩) (by exact S) ?_
  rotate_left 1
  · intro w hSw
    clear hSw
    go_simp
    try with_reducible rfl
  simp only [Act.put, List.setIfInBounds_toArray, List.set_cons_zero, List.set_cons_succ]
  refine wpAnyH_take (i := 19) (oi := { dst := some 94, op := Op.move (Operand.tmp 13), type := 22, pos := "more.go:27", after := #[{ on := 18, ground := Ground.guard }], guard := some (18, true) }) (v := ?_) rfl (by kernel_rfl) (by kernel_rfl) (by kernel_rfl) (fun _ _ _ h => h) (Or.inl ⟨by rfl, ?_⟩) (by exact S) ?_
  rotate_left 1
  · intro w hSw
    clear hSw
    go_simp
    try with_reducible rfl
  simp only [Act.put, List.setIfInBounds_toArray, List.set_cons_zero, List.set_cons_succ]
  refine wpAnyH_take (i := 20) (oi := { dst := some 95, op := Op.move (Operand.tmp 14), type := 22, pos := "more.go:27", after := #[{ on := 18, ground := Ground.guard }], guard := some (18, true) }) (v := ?_) rfl (by kernel_rfl) (by kernel_rfl) (by kernel_rfl) (fun _ _ _ h => h) (Or.inl ⟨by rfl, ?_⟩) (by exact S) ?_
  rotate_left 1
  · intro w hSw
    clear hSw
    go_simp
    try with_reducible rfl
  simp only [Act.put, List.setIfInBounds_toArray, List.set_cons_zero, List.set_cons_succ]
  refine wpAnyH_ready (rs := [21]) (by kernel_rfl) (by simp) ?_
  refine AllReadyH.cons rfl (fun K hK => ?_) AllReadyH.nil
  go_simp
  go_wp2_with (go_at_call 8; refine (D3.out _).mono ?_; rintro e wf ⟨rfl, hbf⟩)
  replace S := S.below hbf
  clear hbf
  refine hK.out _ _ (by exact S) (fun _ => ?_)
  clear hK K
  refine wpAnyH_take (i := 22) (oi := { dst := some 97, op := Op.field 30 (Operand.tmp 96) 0, type := 3, pos := "more.go:27", after := #[{ on := 21, ground := Ground.data }, { on := 18, ground := Ground.guard }], guard := some (18, true) }) (v := _) rfl (by kernel_rfl) (by kernel_rfl) (by kernel_rfl) (fun _ _ _ h => h) (y_val (by rfl) (.int .i64 65) (fun w => by kernel_rfl)) (by exact S) ?_
  simp only [Act.put, List.setIfInBounds_toArray, List.set_cons_zero, List.set_cons_succ]
  refine wpAnyH_take (i := 23) (oi := { dst := some 98, op := Op.binOp BinOp.eql 3 (Operand.tmp 97) (Operand.const (Value.int IntKind.i64 65)) 3, type := 4, pos := "more.go:27", after := #[{ on := 22, ground := Ground.data }, { on := 18, ground := Ground.guard }], guard := some (18, true) }) (v := ?_) rfl (by kernel_rfl) (by kernel_rfl) (by kernel_rfl) (fun _ _ _ h => h) (Or.inl ⟨by rfl, ?_⟩) (by exact S) ?_
  rotate_left 1
  · intro w hSw
    clear hSw
    go_simp
    try with_reducible rfl
  simp only [Act.put, List.setIfInBounds_toArray, List.set_cons_zero, List.set_cons_succ]
  refine wpAnyH_take (i := 24) (oi := { dst := some 99, op := Op.pick (Operand.tmp 93) (Operand.tmp 98) (Operand.const (Value.bool false)), type := 4, pos := "more.go:27", after := #[{ on := 18, ground := Ground.data }, { on := 23, ground := Ground.data }], guard := none }) (v := ?_) rfl (by kernel_rfl) (by kernel_rfl) (by kernel_rfl) (fun _ _ _ h => h) (Or.inl ⟨by rfl, ?_⟩) (by exact S) ?_
  rotate_left 1
  · intro w hSw
    clear hSw
    go_simp
    try with_reducible rfl
  simp only [Act.put, List.setIfInBounds_toArray, List.set_cons_zero, List.set_cons_succ]
  refine wpAnyH_take (i := 25) (oi := { dst := some 100, op := Op.move (Operand.tmp 99), type := 4, pos := "more.go:27", after := #[{ on := 24, ground := Ground.data }, { on := 21, ground := Ground.chain }], guard := none }) (v := ?_) rfl (by kernel_rfl) (by kernel_rfl) (by kernel_rfl) (fun _ _ _ h => h) (Or.inl ⟨by rfl, ?_⟩) (by exact S) ?_
  rotate_left 1
  · intro w hSw
    clear hSw
    go_simp
    try with_reducible rfl
  simp only [Act.put, List.setIfInBounds_toArray, List.set_cons_zero, List.set_cons_succ]
  refine wpAnyH_take (i := 26) (oi := { dst := some 101, op := Op.move (Operand.tmp 19), type := 4, pos := "more.go:27", after := #[{ on := 25, ground := Ground.guard }], guard := some (25, true) }) (v := ?_) rfl (by kernel_rfl) (by kernel_rfl) (by kernel_rfl) (fun _ _ _ h => h) (Or.inl ⟨by rfl, ?_⟩) (by exact S) ?_
  rotate_left 1
  · intro w hSw
    clear hSw
    go_simp
    try with_reducible rfl
  simp only [Act.put, List.setIfInBounds_toArray, List.set_cons_zero, List.set_cons_succ]
  refine wpAnyH_take (i := 27) (oi := { dst := some 102, op := Op.unOp UnOp.not 4 (Operand.tmp 101), type := 4, pos := "more.go:27", after := #[{ on := 26, ground := Ground.data }, { on := 25, ground := Ground.guard }], guard := some (25, true) }) (v := ?_) rfl (by kernel_rfl) (by kernel_rfl) (by kernel_rfl) (fun _ _ _ h => h) (Or.inl ⟨by rfl, ?_⟩) (by exact S) ?_
  rotate_left 1
  · intro w hSw
    clear hSw
    go_simp
    try with_reducible rfl
  simp only [Act.put, List.setIfInBounds_toArray, List.set_cons_zero, List.set_cons_succ]
  refine wpAnyH_take (i := 28) (oi := { dst := some 103, op := Op.pick (Operand.tmp 100) (Operand.tmp 102) (Operand.const (Value.bool false)), type := 4, pos := "more.go:27", after := #[{ on := 25, ground := Ground.data }, { on := 27, ground := Ground.data }], guard := none }) (v := ?_) rfl (by kernel_rfl) (by kernel_rfl) (by kernel_rfl) (fun _ _ _ h => h) (Or.inl ⟨by rfl, ?_⟩) (by exact S) ?_
  rotate_left 1
  · intro w hSw
    clear hSw
    go_simp
    try with_reducible rfl
  simp only [Act.put, List.setIfInBounds_toArray, List.set_cons_zero, List.set_cons_succ]
  refine wpAnyH_take (i := 29) (oi := { dst := some 104, op := Op.move (Operand.tmp 103), type := 4, pos := "more.go:27", after := #[{ on := 28, ground := Ground.data }, { on := 25, ground := Ground.chain }], guard := none }) (v := ?_) rfl (by kernel_rfl) (by kernel_rfl) (by kernel_rfl) (fun _ _ _ h => h) (Or.inl ⟨by rfl, ?_⟩) (by exact S) ?_
  rotate_left 1
  · intro w hSw
    clear hSw
    go_simp
    try with_reducible rfl
  simp only [Act.put, List.setIfInBounds_toArray, List.set_cons_zero, List.set_cons_succ]
  refine wpAnyH_take (i := 30) (oi := { dst := some 105, op := Op.move (Operand.tmp 23), type := 4, pos := "more.go:27", after := #[{ on := 29, ground := Ground.guard }], guard := some (29, true) }) (v := ?_) rfl (by kernel_rfl) (by kernel_rfl) (by kernel_rfl) (fun _ _ _ h => h) (Or.inl ⟨by rfl, ?_⟩) (by exact S) ?_
  rotate_left 1
  · intro w hSw
    clear hSw
    go_simp
    try with_reducible rfl
  simp only [Act.put, List.setIfInBounds_toArray, List.set_cons_zero, List.set_cons_succ]
  refine wpAnyH_take (i := 31) (oi := { dst := some 106, op := Op.unOp UnOp.not 4 (Operand.tmp 105), type := 4, pos := "more.go:27", after := #[{ on := 30, ground := Ground.data }, { on := 29, ground := Ground.guard }], guard := some (29, true) }) (v := ?_) rfl (by kernel_rfl) (by kernel_rfl) (by kernel_rfl) (fun _ _ _ h => h) (Or.inl ⟨by rfl, ?_⟩) (by exact S) ?_
  rotate_left 1
  · intro w hSw
    clear hSw
    go_simp
    try with_reducible rfl
  simp only [Act.put, List.setIfInBounds_toArray, List.set_cons_zero, List.set_cons_succ]
  refine wpAnyH_take (i := 32) (oi := { dst := some 107, op := Op.pick (Operand.tmp 104) (Operand.tmp 106) (Operand.const (Value.bool false)), type := 4, pos := "more.go:27", after := #[{ on := 29, ground := Ground.data }, { on := 31, ground := Ground.data }], guard := none }) (v := ?_) rfl (by kernel_rfl) (by kernel_rfl) (by kernel_rfl) (fun _ _ _ h => h) (Or.inl ⟨by rfl, ?_⟩) (by exact S) ?_
  rotate_left 1
  · intro w hSw
    clear hSw
    go_simp
    try with_reducible rfl
  simp only [Act.put, List.setIfInBounds_toArray, List.set_cons_zero, List.set_cons_succ]
  refine wpAnyH_take (i := 33) (oi := { dst := some 6, op := Op.assign (Operand.tmp 107), type := 4, pos := "more.go:27", after := #[{ on := 32, ground := Ground.data }, { on := 29, ground := Ground.chain }, { on := 0, ground := Ground.phase }, { on := 1, ground := Ground.phase }, { on := 2, ground := Ground.phase }, { on := 3, ground := Ground.phase }, { on := 4, ground := Ground.phase }, { on := 5, ground := Ground.phase }, { on := 6, ground := Ground.phase }, { on := 7, ground := Ground.phase }, { on := 8, ground := Ground.phase }, { on := 9, ground := Ground.phase }, { on := 10, ground := Ground.phase }, { on := 11, ground := Ground.phase }, { on := 12, ground := Ground.phase }, { on := 13, ground := Ground.phase }, { on := 14, ground := Ground.phase }, { on := 15, ground := Ground.phase }, { on := 16, ground := Ground.phase }, { on := 17, ground := Ground.phase }, { on := 18, ground := Ground.phase }, { on := 19, ground := Ground.phase }, { on := 20, ground := Ground.phase }, { on := 21, ground := Ground.phase }, { on := 22, ground := Ground.phase }, { on := 23, ground := Ground.phase }, { on := 24, ground := Ground.phase }, { on := 25, ground := Ground.phase }, { on := 26, ground := Ground.phase }, { on := 27, ground := Ground.phase }, { on := 28, ground := Ground.phase }, { on := 29, ground := Ground.phase }, { on := 30, ground := Ground.phase }, { on := 31, ground := Ground.phase }, { on := 32, ground := Ground.phase }], guard := none }) (v := ?_) rfl (by kernel_rfl) (by kernel_rfl) (by kernel_rfl) (fun _ _ _ h => h) (Or.inl ⟨by rfl, ?_⟩) (by exact S) ?_
  rotate_left 1
  · intro w hSw
    clear hSw
    go_simp
    try with_reducible rfl
  simp only [Act.put, List.setIfInBounds_toArray, List.set_cons_zero, List.set_cons_succ]
  refine wpAnyH_done (by kernel_rfl) ?_ _
  go_wp2
  go_ret
  exact ⟨rfl, S.low⟩
set_option maxHeartbeats 4000000 in
set_option maxRecDepth 100000 in
theorem places55_c (n : Int) (c0 v u c : Nat) (hv0 : n / 256 * 2 % 4294967296 = (v : Int)) (hu0 : n / 4096 * 2 % 4294967296 = (u : Int)) (hc0 : ((c0 : Int)).tmod 14 = (c : Int)) (hc1 : (c0 : Int) % 14 = (c : Int)) (hn0 : -2147483648 ≤ n) (hn1 : n ≤ 2147483647) (hcc : c0 < 256)
    (hc : c < 14) (hv : v < 4294967296) (hv2 : v % 2 = 0) (hv3 : v < 16777216 ∨ (4278190080 ≤ v ∧ v < 4294967296)) (hu : u < 4294967296) (hu2 : u % 2 = 0) (hu3 : u < 1048576 ∨ (4293918720 ≤ u ∧ u < 4294967296)) (w : World) : Calls Try.prog 4 #[.int .i32 n, .int .u8 c0, .bool true] w fun e w' => e = .returned (.bool true) ∧ Below w.heap.size w w' := by
  have s1 := sign25 v hv2 hv3
  have s2 := sign21 u hu2 hu3
  have s4 := sign25_odd v (by omega) hv2
  have E1 : Hid (∀ w, Calls Try.prog 10 #[(Cel.iv (brI 55 14 (v : Nat))).val] w fun e w' => e = .returned (.tuple #[.int .u16 (farW 55 v / 65536 : Nat), .int .u16 (farW 55 v % 65536 : Nat), .bool true]) ∧ Below w.heap.size w w') := encFarY 55 v (.inr rfl) hv s1
  have E2 : Hid (∀ w, Calls Try.prog 10 #[(Cel.iv (brI 54 (c : Nat) (u : Nat))).val] w fun e w' => e = .returned (.tuple #[.int .u16 (condW c u / 65536 : Nat), .int .u16 (condW c u % 65536 : Nat), .bool true]) ∧ Below w.heap.size w w') := encCondY c u hc hu s2
  have E3 : Hid (∀ w, Calls Try.prog 10 #[(Cel.iv (brI 54 (c : Nat) 1048576)).val] w fun e w' => e = .returned (.tuple #[.int .u16 0, .int .u16 0, .bool false]) ∧ Below w.heap.size w w') := encCondN c 1048576 hc (by decide) (by decide)
  have E4 : Hid (∀ w, Calls Try.prog 10 #[(Cel.iv (brI 55 14 ((v : Int) + 1))).val] w fun e w' => e = .returned (.tuple #[.int .u16 0, .int .u16 0, .bool false]) ∧ Below w.heap.size w w') := fun w => by
    have h := encFarN 55 (v + 1) (.inr rfl) (by omega) s4 w
    rw [show ((v + 1 : Nat) : Int) = (v : Int) + 1 by push_cast; rfl] at h
    exact h
  have DA : ∀ w, Calls Try.prog 8 #[.int .u16 (farW 55 v / 65536 : Nat), .int .u16 (farW 55 v % 65536 : Nat), .bool true] w fun e w' => e = .returned (farL 55 v).val ∧ Below w.heap.size w w' := fun w => decT0_c (farW 55 v / 65536) (farW 55 v % 65536) (by have := farW_lt 55 v; omega) (by omega) (farL 55 v) (farW 55 v) (by omega) (farW_alone 55 v (.inr rfl)) rfl w
  have DB : ∀ w, Calls Try.prog 8 #[.int .u16 (condW c u / 65536 : Nat), .int .u16 (condW c u % 65536 : Nat), .bool false] w fun e w' => e = .returned (condL c u).val ∧ Below w.heap.size w w' := fun w => decF_c (condW c u / 65536) (condW c u % 65536) (by have := (cond_fields c u hc).2.2.2.2.2.2.2.2.2.2; omega) (by omega) (condL c u) (condW c u) (by omega) (condW_alone c u hc) w
  have DC : ∀ w, Calls Try.prog 8 #[.int .u16 (condW c u / 65536 : Nat), .int .u16 (condW c u % 65536 : Nat), .bool true] w fun e w' => e = .returned (noneI 65 (condW c u)).val ∧ Below w.heap.size w w' := fun w => decT2_c (condW c u / 65536) (condW c u % 65536) (by have := (cond_fields c u hc).2.2.2.2.2.2.2.2.2.2; omega) (by omega) (condL c u) (condW c u) (by omega) (condW_alone c u hc) rfl (by show ((c : Int) != 14) = true; simp; omega) w
  have eA : farL 55 v = (brI 55 14 (v : Nat)) := by
    show brI 55 14 _ = _
    rw [s1]
  have eB : condL c u = (brI 54 (c : Nat) (u : Nat)) := by
    show brI 54 (c : Nat) _ = _
    rw [s2]
  rw [eA] at DA
  rw [eB] at DB
  have D1 : Hid (∀ w, Calls Try.prog 8 #[.int .u16 (farW 55 v / 65536 : Nat), .int .u16 (farW 55 v % 65536 : Nat), .bool true] w fun e w' => e = .returned (Cel.iv (brI 55 14 (v : Nat))).val ∧ Below w.heap.size w w') := DA
  have D2 : Hid (∀ w, Calls Try.prog 8 #[.int .u16 (condW c u / 65536 : Nat), .int .u16 (condW c u % 65536 : Nat), .bool false] w fun e w' => e = .returned (Cel.iv (brI 54 (c : Nat) (u : Nat))).val ∧ Below w.heap.size w w') := DB
  have D3 : Hid (∀ w, Calls Try.prog 8 #[.int .u16 (condW c u / 65536 : Nat), .int .u16 (condW c u % 65536 : Nat), .bool true] w fun e w' => e = .returned (noneI 65 (condW c u)).val ∧ Below w.heap.size w w') := DC
  have ho := or_one v hv hv2
  clear DA DB DC eA eB s1 s2 s4 hv2 hv3 hu2 hu3
  generalize farW 55 v / 65536 = H1 at *
  generalize farW 55 v % 65536 = K1 at *
  generalize condW c u / 65536 = H2 at *
  generalize condW c u % 65536 = K2 at *
  generalize condW c u = X2 at *
  go_enter Try.func4, Try.ntmps4
  have S := SH.start w
  go_wp2_with (first
    | (go_at_call 6; refine (known_c _).mono ?_; rintro e wf ⟨rfl, hbf⟩; replace S := S.below hbf; clear hbf)
    | (go_at_call 10; (first | with_reducible refine (E1.out _).mono ?_ | with_reducible refine (E2.out _).mono ?_ | with_reducible refine (E3.out _).mono ?_ | with_reducible refine (E4.out _).mono ?_); rintro e wf ⟨rfl, hbf⟩; replace S := S.below hbf; clear hbf)
    | ((with_reducible refine wpl_isDst 8 ?_); (refine SH.alloc (L := []) S rfl 30 rfl (Cel.iv IV.zero) zeroIV ?_; clear S; intro b8 w1 S))
    | ((with_reducible refine wpl_isDst 12 ?_); (refine S.alloc rfl 30 rfl (Cel.iv IV.zero) zeroIV ?_; clear S; intro b12 w1 S))
    | ((with_reducible refine wpl_isDst 16 ?_); (refine S.alloc rfl 30 rfl (Cel.iv IV.zero) zeroIV ?_; clear S; intro b16 w1 S))
    | ((with_reducible refine wpl_isDst 20 ?_); (refine S.alloc rfl 30 rfl (Cel.iv IV.zero) zeroIV ?_; clear S; intro b20 w1 S))
    | ((with_reducible refine wpl_isDst 35 ?_); (refine S.ldAll 30 _ rfl b8 rfl 0 (Cel.iv (brI 55 14 (v : Nat))) rfl _ Try.underlying30 rfl (szIV _) rfl ?_))
    | ((with_reducible refine wpl_isDst 49 ?_); (refine S.ldAll 30 _ rfl b12 rfl 0 (Cel.iv (brI 54 (c : Nat) (u : Nat))) rfl _ Try.underlying30 rfl (szIV _) rfl ?_))
    | ((with_reducible refine wpl_isDst 59 ?_); (refine S.ldAll 30 _ rfl b16 rfl 0 (Cel.iv (brI 54 (c : Nat) 1048576)) rfl _ Try.underlying30 rfl (szIV _) rfl ?_))
    | ((with_reducible refine wpl_isDst 64 ?_); (refine S.ldAll 30 _ rfl b8 rfl 2 (Cel.iv (brI 55 14 (v : Nat))) rfl _ Try.underlying30 rfl (szIV _) rfl ?_))
    | ((with_reducible refine wpl_isDst 70 ?_); (refine S.ldAll 30 _ rfl b20 rfl 0 (Cel.iv (brI 55 14 ((v : Int) + 1))) rfl _ Try.underlying30 rfl (szIV _) rfl ?_))
    | ((with_reducible refine wpl_isDst 66 ?_); (refine S.ld 28 _ rfl b20 8 rfl 0 (Cel.iv (brI 55 14 (v : Nat))) rfl (.int .u32 (v : Nat)) rfl _ Try.underlying28 rfl rfl ?_))
    | ((with_reducible refine wpl_isStore ?_); first
      | (refine S.storeAll rfl 30 _ _ rfl b8 (Cel.iv (brI 54 14 (v : Nat))) rfl rfl 0 _ rfl rfl (one_iv _) (szIV _) ?_; clear S; intro w2 S; simp only [List.set_cons_zero, List.set_cons_succ] at S)
      | (refine S.store1 rfl 3 _ _ rfl b8 0 (.int .i64 55) rfl rfl 0 (Cel.iv (brI 54 14 (v : Nat))) rfl rfl (by simp [Cel.cells, IV.cellsL, brI]) (Cel.iv (brI 55 14 (v : Nat))) rfl (by kernel_rfl) ?_; clear S; intro w2 S; simp only [List.set_cons_zero, List.set_cons_succ] at S)
      | (refine S.storeAll rfl 30 _ _ rfl b12 (Cel.iv (brI 54 (c : Nat) (u : Nat))) rfl rfl 0 _ rfl rfl (one_iv _) (szIV _) ?_; clear S; intro w2 S; simp only [List.set_cons_zero, List.set_cons_succ] at S)
      | (refine S.storeAll rfl 30 _ _ rfl b16 (Cel.iv (brI 54 (c : Nat) 1048576)) rfl rfl 0 _ rfl rfl (one_iv _) (szIV _) ?_; clear S; intro w2 S; simp only [List.set_cons_zero, List.set_cons_succ] at S)
      | (refine S.storeAll rfl 30 _ _ rfl b20 (Cel.iv (brI 55 14 (v : Nat))) rfl rfl 0 _ rfl rfl (one_iv _) (szIV _) ?_; clear S; intro w2 S; simp only [List.set_cons_zero, List.set_cons_succ] at S)
      | (refine S.store1 rfl 28 _ _ rfl b20 8 (.int .u32 ((v : Int) + 1)) rfl rfl 0 (Cel.iv (brI 55 14 (v : Nat))) rfl rfl (by simp [Cel.cells, IV.cellsL, brI]) (Cel.iv (brI 55 14 ((v : Int) + 1))) rfl (by kernel_rfl) ?_; clear S; intro w2 S; simp only [List.set_cons_zero, List.set_cons_succ] at S)))
  refine wp_region_held_drew (S := fun w' => SH noZ w w' [(b20, Cel.iv (brI 55 14 ((v : Int) + 1))), (b16, Cel.iv (brI 54 (c : Nat) 1048576)), (b12, Cel.iv (brI 54 (c : Nat) (u : Nat))), (b8, Cel.iv (brI 55 14 (v : Nat)))]) (by kernel_rfl) (by exact S.drew) (fun _ => ?_)
  replace S := S.drew
  refine wpAnyH_take (i := 0) (oi := { dst := some 75, op := Op.move (Operand.tmp 11), type := 4, pos := "more.go:27", after := #[], guard := none }) (v := ?_) rfl (by kernel_rfl) (by kernel_rfl) (by kernel_rfl) (fun _ _ _ h => h) (Or.inl ⟨by rfl, ?_⟩) (by exact S) ?_
  rotate_left 1
  · intro w hSw
    clear hSw
    go_simp
    try with_reducible rfl
  simp only [Act.put, List.setIfInBounds_toArray, List.set_cons_zero, List.set_cons_succ]
  refine wpAnyH_take (i := 1) (oi := { dst := some 76, op := Op.move (Operand.tmp 75), type := 4, pos := "more.go:27", after := #[{ on := 0, ground := Ground.data }], guard := none }) (v := ?_) rfl (by kernel_rfl) (by kernel_rfl) (by kernel_rfl) (fun _ _ _ h => h) (Or.inl ⟨by rfl, ?_⟩) (by exact S) ?_
  rotate_left 1
  · intro w hSw
    clear hSw
    go_simp
    try with_reducible rfl
  simp only [Act.put, List.setIfInBounds_toArray, List.set_cons_zero, List.set_cons_succ]
  refine wpAnyH_take (i := 2) (oi := { dst := some 77, op := Op.move (Operand.tmp 9), type := 22, pos := "more.go:27", after := #[{ on := 1, ground := Ground.guard }], guard := some (1, true) }) (v := ?_) rfl (by kernel_rfl) (by kernel_rfl) (by kernel_rfl) (fun _ _ _ h => h) (Or.inl ⟨by rfl, ?_⟩) (by exact S) ?_
  rotate_left 1
  · intro w hSw
    clear hSw
    go_simp
    try with_reducible rfl
  simp only [Act.put, List.setIfInBounds_toArray, List.set_cons_zero, List.set_cons_succ]
  refine wpAnyH_take (i := 3) (oi := { dst := some 78, op := Op.move (Operand.tmp 10), type := 22, pos := "more.go:27", after := #[{ on := 1, ground := Ground.guard }], guard := some (1, true) }) (v := ?_) rfl (by kernel_rfl) (by kernel_rfl) (by kernel_rfl) (fun _ _ _ h => h) (Or.inl ⟨by rfl, ?_⟩) (by exact S) ?_
  rotate_left 1
  · intro w hSw
    clear hSw
    go_simp
    try with_reducible rfl
  simp only [Act.put, List.setIfInBounds_toArray, List.set_cons_zero, List.set_cons_succ]
  refine wpAnyH_take (i := 5) (oi := { dst := some 80, op := Op.load 30 (Operand.tmp 8), type := 30, pos := "more.go:27", after := #[{ on := 1, ground := Ground.guard }], guard := some (1, true) }) (v := _) rfl (by kernel_rfl) (by kernel_rfl) (by kernel_rfl) (fun _ _ _ h => h) (y_loadAll (by rfl) _ _ rfl _ rfl 3 _ rfl _ Try.underlying30 rfl (szIV _)) (by exact S) ?_
  simp only [Act.put, List.setIfInBounds_toArray, List.set_cons_zero, List.set_cons_succ]
  refine wpAnyH_ready (rs := [4]) (by kernel_rfl) (by simp) ?_
  refine AllReadyH.cons rfl (fun K hK => ?_) AllReadyH.nil
  go_simp
  go_wp2_with (go_at_call 8; refine (D1.out _).mono ?_; rintro e wf ⟨rfl, hbf⟩)
  replace S := S.below hbf
  clear hbf
  refine hK.out _ _ (by exact S) (fun _ => ?_)
  clear hK K
  refine wpAnyH_take (i := 6) (oi := { dst := some 81, op := Op.binOp BinOp.eql 30 (Operand.tmp 79) (Operand.tmp 80) 30, type := 4, pos := "more.go:27", after := #[{ on := 4, ground := Ground.data }, { on := 5, ground := Ground.data }, { on := 1, ground := Ground.guard }], guard := some (1, true) }) (v := _) rfl (by kernel_rfl) (by kernel_rfl) (by kernel_rfl) (fun _ _ _ h => h) (y_eqlB (by rfl) _ _ _ rfl (brI 55 14 (v : Nat)) (brI 55 14 (v : Nat)) rfl rfl true (ivEq_self _)) (by exact S) ?_
  simp only [Act.put, List.setIfInBounds_toArray, List.set_cons_zero, List.set_cons_succ]
  refine wpAnyH_take (i := 7) (oi := { dst := some 82, op := Op.pick (Operand.tmp 76) (Operand.tmp 81) (Operand.const (Value.bool false)), type := 4, pos := "more.go:27", after := #[{ on := 1, ground := Ground.data }, { on := 6, ground := Ground.data }], guard := none }) (v := ?_) rfl (by kernel_rfl) (by kernel_rfl) (by kernel_rfl) (fun _ _ _ h => h) (Or.inl ⟨by rfl, ?_⟩) (by exact S) ?_
  rotate_left 1
  · intro w hSw
    clear hSw
    go_simp
    try with_reducible rfl
  simp only [Act.put, List.setIfInBounds_toArray, List.set_cons_zero, List.set_cons_succ]
  refine wpAnyH_take (i := 8) (oi := { dst := some 83, op := Op.move (Operand.tmp 82), type := 4, pos := "more.go:27", after := #[{ on := 7, ground := Ground.data }, { on := 4, ground := Ground.chain }], guard := none }) (v := ?_) rfl (by kernel_rfl) (by kernel_rfl) (by kernel_rfl) (fun _ _ _ h => h) (Or.inl ⟨by rfl, ?_⟩) (by exact S) ?_
  rotate_left 1
  · intro w hSw
    clear hSw
    go_simp
    try with_reducible rfl
  simp only [Act.put, List.setIfInBounds_toArray, List.set_cons_zero, List.set_cons_succ]
  refine wpAnyH_take (i := 9) (oi := { dst := some 84, op := Op.move (Operand.tmp 15), type := 4, pos := "more.go:27", after := #[{ on := 8, ground := Ground.guard }], guard := some (8, true) }) (v := ?_) rfl (by kernel_rfl) (by kernel_rfl) (by kernel_rfl) (fun _ _ _ h => h) (Or.inl ⟨by rfl, ?_⟩) (by exact S) ?_
  rotate_left 1
  · intro w hSw
    clear hSw
    go_simp
    try with_reducible rfl
  simp only [Act.put, List.setIfInBounds_toArray, List.set_cons_zero, List.set_cons_succ]
  refine wpAnyH_take (i := 10) (oi := { dst := some 85, op := Op.pick (Operand.tmp 83) (Operand.tmp 84) (Operand.const (Value.bool false)), type := 4, pos := "more.go:27", after := #[{ on := 8, ground := Ground.data }, { on := 9, ground := Ground.data }], guard := none }) (v := ?_) rfl (by kernel_rfl) (by kernel_rfl) (by kernel_rfl) (fun _ _ _ h => h) (Or.inl ⟨by rfl, ?_⟩) (by exact S) ?_
  rotate_left 1
  · intro w hSw
    clear hSw
    go_simp
    try with_reducible rfl
  simp only [Act.put, List.setIfInBounds_toArray, List.set_cons_zero, List.set_cons_succ]
  refine wpAnyH_take (i := 11) (oi := { dst := some 86, op := Op.move (Operand.tmp 85), type := 4, pos := "more.go:27", after := #[{ on := 10, ground := Ground.data }, { on := 8, ground := Ground.chain }], guard := none }) (v := ?_) rfl (by kernel_rfl) (by kernel_rfl) (by kernel_rfl) (fun _ _ _ h => h) (Or.inl ⟨by rfl, ?_⟩) (by exact S) ?_
  rotate_left 1
  · intro w hSw
    clear hSw
    go_simp
    try with_reducible rfl
  simp only [Act.put, List.setIfInBounds_toArray, List.set_cons_zero, List.set_cons_succ]
  refine wpAnyH_take (i := 12) (oi := { dst := some 87, op := Op.move (Operand.tmp 13), type := 22, pos := "more.go:27", after := #[{ on := 11, ground := Ground.guard }], guard := some (11, true) }) (v := ?_) rfl (by kernel_rfl) (by kernel_rfl) (by kernel_rfl) (fun _ _ _ h => h) (Or.inl ⟨by rfl, ?_⟩) (by exact S) ?_
  rotate_left 1
  · intro w hSw
    clear hSw
    go_simp
    try with_reducible rfl
  simp only [Act.put, List.setIfInBounds_toArray, List.set_cons_zero, List.set_cons_succ]
  refine wpAnyH_take (i := 13) (oi := { dst := some 88, op := Op.move (Operand.tmp 14), type := 22, pos := "more.go:27", after := #[{ on := 11, ground := Ground.guard }], guard := some (11, true) }) (v := ?_) rfl (by kernel_rfl) (by kernel_rfl) (by kernel_rfl) (fun _ _ _ h => h) (Or.inl ⟨by rfl, ?_⟩) (by exact S) ?_
  rotate_left 1
  · intro w hSw
    clear hSw
    go_simp
    try with_reducible rfl
  simp only [Act.put, List.setIfInBounds_toArray, List.set_cons_zero, List.set_cons_succ]
  refine wpAnyH_take (i := 15) (oi := { dst := some 90, op := Op.load 30 (Operand.tmp 12), type := 30, pos := "more.go:27", after := #[{ on := 11, ground := Ground.guard }], guard := some (11, true) }) (v := _) rfl (by kernel_rfl) (by kernel_rfl) (by kernel_rfl) (fun _ _ _ h => h) (y_loadAll (by rfl) _ _ rfl _ rfl 2 _ rfl _ Try.underlying30 rfl (szIV _)) (by exact S) ?_
  simp only [Act.put, List.setIfInBounds_toArray, List.set_cons_zero, List.set_cons_succ]
  refine wpAnyH_ready (rs := [14]) (by kernel_rfl) (by simp) ?_
  refine AllReadyH.cons rfl (fun K hK => ?_) AllReadyH.nil
  go_simp
  go_wp2_with (go_at_call 8; refine (D2.out _).mono ?_; rintro e wf ⟨rfl, hbf⟩)
  replace S := S.below hbf
  clear hbf
  refine hK.out _ _ (by exact S) (fun _ => ?_)
  clear hK K
  refine wpAnyH_take (i := 16) (oi := { dst := some 91, op := Op.binOp BinOp.eql 30 (Operand.tmp 89) (Operand.tmp 90) 30, type := 4, pos := "more.go:27", after := #[{ on := 14, ground := Ground.data }, { on := 15, ground := Ground.data }, { on := 11, ground := Ground.guard }], guard := some (11, true) }) (v := _) rfl (by kernel_rfl) (by kernel_rfl) (by kernel_rfl) (fun _ _ _ h => h) (y_eqlB (by rfl) _ _ _ rfl (brI 54 (c : Nat) (u : Nat)) (brI 54 (c : Nat) (u : Nat)) rfl rfl true (ivEq_self _)) (by exact S) ?_
  simp only [Act.put, List.setIfInBounds_toArray, List.set_cons_zero, List.set_cons_succ]
  refine wpAnyH_take (i := 17) (oi := { dst := some 92, op := Op.pick (Operand.tmp 86) (Operand.tmp 91) (Operand.const (Value.bool false)), type := 4, pos := "more.go:27", after := #[{ on := 11, ground := Ground.data }, { on := 16, ground := Ground.data }], guard := none }) (v := ?_) rfl (by kernel_rfl) (by kernel_rfl) (by kernel_rfl) (fun _ _ _ h => h) (Or.inl ⟨by rfl, ?_⟩) (by exact S) ?_
  rotate_left 1
  · intro w hSw
    clear hSw
    go_simp
    try with_reducible rfl
  simp only [Act.put, List.setIfInBounds_toArray, List.set_cons_zero, List.set_cons_succ]
  refine wpAnyH_take (i := 18) (oi := { dst := some 93, op := Op.move (Operand.tmp 92), type := 4, pos := "more.go:27", after := #[{ on := 17, ground := Ground.data }, { on := 14, ground := Ground.chain }], guard := none }) (v := ?_) rfl (by kernel_rfl) (by kernel_rfl) (by kernel_rfl) (fun _ _ _ h => h) (Or.inl ⟨by rfl, ?_⟩) (by exact S) ?_
  rotate_left 1
  · intro w hSw
    clear hSw
    go_simp
    try with_reducible rfl
  simp only [Act.put, List.setIfInBounds_toArray, List.set_cons_zero, List.set_cons_succ]
  refine wpAnyH_take (i := 19) (oi := { dst := some 94, op := Op.move (Operand.tmp 13), type := 22, pos := "more.go:27", after := #[{ on := 18, ground := Ground.guard }], guard := some (18, true) }) (v := ?_) rfl (by kernel_rfl) (by kernel_rfl) (by kernel_rfl) (fun _ _ _ h => h) (Or.inl ⟨by rfl, ?_⟩) (by exact S) ?_
  rotate_left 1
  · intro w hSw
    clear hSw
    go_simp
    try with_reducible rfl
  simp only [Act.put, List.setIfInBounds_toArray, List.set_cons_zero, List.set_cons_succ]
  refine wpAnyH_take (i := 20) (oi := { dst := some 95, op := Op.move (Operand.tmp 14), type := 22, pos := "more.go:27", after := #[{ on := 18, ground := Ground.guard }], guard := some (18, true) }) (v := ?_) rfl (by kernel_rfl) (by kernel_rfl) (by kernel_rfl) (fun _ _ _ h => h) (Or.inl ⟨by rfl, ?_⟩) (by exact S) ?_
  rotate_left 1
  · intro w hSw
    clear hSw
    go_simp
    try with_reducible rfl
  simp only [Act.put, List.setIfInBounds_toArray, List.set_cons_zero, List.set_cons_succ]
  refine wpAnyH_ready (rs := [21]) (by kernel_rfl) (by simp) ?_
  refine AllReadyH.cons rfl (fun K hK => ?_) AllReadyH.nil
  go_simp
  go_wp2_with (go_at_call 8; refine (D3.out _).mono ?_; rintro e wf ⟨rfl, hbf⟩)
  replace S := S.below hbf
  clear hbf
  refine hK.out _ _ (by exact S) (fun _ => ?_)
  clear hK K
  refine wpAnyH_take (i := 22) (oi := { dst := some 97, op := Op.field 30 (Operand.tmp 96) 0, type := 3, pos := "more.go:27", after := #[{ on := 21, ground := Ground.data }, { on := 18, ground := Ground.guard }], guard := some (18, true) }) (v := _) rfl (by kernel_rfl) (by kernel_rfl) (by kernel_rfl) (fun _ _ _ h => h) (y_val (by rfl) (.int .i64 65) (fun w => by kernel_rfl)) (by exact S) ?_
  simp only [Act.put, List.setIfInBounds_toArray, List.set_cons_zero, List.set_cons_succ]
  refine wpAnyH_take (i := 23) (oi := { dst := some 98, op := Op.binOp BinOp.eql 3 (Operand.tmp 97) (Operand.const (Value.int IntKind.i64 65)) 3, type := 4, pos := "more.go:27", after := #[{ on := 22, ground := Ground.data }, { on := 18, ground := Ground.guard }], guard := some (18, true) }) (v := ?_) rfl (by kernel_rfl) (by kernel_rfl) (by kernel_rfl) (fun _ _ _ h => h) (Or.inl ⟨by rfl, ?_⟩) (by exact S) ?_
  rotate_left 1
  · intro w hSw
    clear hSw
    go_simp
    try with_reducible rfl
  simp only [Act.put, List.setIfInBounds_toArray, List.set_cons_zero, List.set_cons_succ]
  refine wpAnyH_take (i := 24) (oi := { dst := some 99, op := Op.pick (Operand.tmp 93) (Operand.tmp 98) (Operand.const (Value.bool false)), type := 4, pos := "more.go:27", after := #[{ on := 18, ground := Ground.data }, { on := 23, ground := Ground.data }], guard := none }) (v := ?_) rfl (by kernel_rfl) (by kernel_rfl) (by kernel_rfl) (fun _ _ _ h => h) (Or.inl ⟨by rfl, ?_⟩) (by exact S) ?_
  rotate_left 1
  · intro w hSw
    clear hSw
    go_simp
    try with_reducible rfl
  simp only [Act.put, List.setIfInBounds_toArray, List.set_cons_zero, List.set_cons_succ]
  refine wpAnyH_take (i := 25) (oi := { dst := some 100, op := Op.move (Operand.tmp 99), type := 4, pos := "more.go:27", after := #[{ on := 24, ground := Ground.data }, { on := 21, ground := Ground.chain }], guard := none }) (v := ?_) rfl (by kernel_rfl) (by kernel_rfl) (by kernel_rfl) (fun _ _ _ h => h) (Or.inl ⟨by rfl, ?_⟩) (by exact S) ?_
  rotate_left 1
  · intro w hSw
    clear hSw
    go_simp
    try with_reducible rfl
  simp only [Act.put, List.setIfInBounds_toArray, List.set_cons_zero, List.set_cons_succ]
  refine wpAnyH_take (i := 26) (oi := { dst := some 101, op := Op.move (Operand.tmp 19), type := 4, pos := "more.go:27", after := #[{ on := 25, ground := Ground.guard }], guard := some (25, true) }) (v := ?_) rfl (by kernel_rfl) (by kernel_rfl) (by kernel_rfl) (fun _ _ _ h => h) (Or.inl ⟨by rfl, ?_⟩) (by exact S) ?_
  rotate_left 1
  · intro w hSw
    clear hSw
    go_simp
    try with_reducible rfl
  simp only [Act.put, List.setIfInBounds_toArray, List.set_cons_zero, List.set_cons_succ]
  refine wpAnyH_take (i := 27) (oi := { dst := some 102, op := Op.unOp UnOp.not 4 (Operand.tmp 101), type := 4, pos := "more.go:27", after := #[{ on := 26, ground := Ground.data }, { on := 25, ground := Ground.guard }], guard := some (25, true) }) (v := ?_) rfl (by kernel_rfl) (by kernel_rfl) (by kernel_rfl) (fun _ _ _ h => h) (Or.inl ⟨by rfl, ?_⟩) (by exact S) ?_
  rotate_left 1
  · intro w hSw
    clear hSw
    go_simp
    try with_reducible rfl
  simp only [Act.put, List.setIfInBounds_toArray, List.set_cons_zero, List.set_cons_succ]
  refine wpAnyH_take (i := 28) (oi := { dst := some 103, op := Op.pick (Operand.tmp 100) (Operand.tmp 102) (Operand.const (Value.bool false)), type := 4, pos := "more.go:27", after := #[{ on := 25, ground := Ground.data }, { on := 27, ground := Ground.data }], guard := none }) (v := ?_) rfl (by kernel_rfl) (by kernel_rfl) (by kernel_rfl) (fun _ _ _ h => h) (Or.inl ⟨by rfl, ?_⟩) (by exact S) ?_
  rotate_left 1
  · intro w hSw
    clear hSw
    go_simp
    try with_reducible rfl
  simp only [Act.put, List.setIfInBounds_toArray, List.set_cons_zero, List.set_cons_succ]
  refine wpAnyH_take (i := 29) (oi := { dst := some 104, op := Op.move (Operand.tmp 103), type := 4, pos := "more.go:27", after := #[{ on := 28, ground := Ground.data }, { on := 25, ground := Ground.chain }], guard := none }) (v := ?_) rfl (by kernel_rfl) (by kernel_rfl) (by kernel_rfl) (fun _ _ _ h => h) (Or.inl ⟨by rfl, ?_⟩) (by exact S) ?_
  rotate_left 1
  · intro w hSw
    clear hSw
    go_simp
    try with_reducible rfl
  simp only [Act.put, List.setIfInBounds_toArray, List.set_cons_zero, List.set_cons_succ]
  refine wpAnyH_take (i := 30) (oi := { dst := some 105, op := Op.move (Operand.tmp 23), type := 4, pos := "more.go:27", after := #[{ on := 29, ground := Ground.guard }], guard := some (29, true) }) (v := ?_) rfl (by kernel_rfl) (by kernel_rfl) (by kernel_rfl) (fun _ _ _ h => h) (Or.inl ⟨by rfl, ?_⟩) (by exact S) ?_
  rotate_left 1
  · intro w hSw
    clear hSw
    go_simp
    try with_reducible rfl
  simp only [Act.put, List.setIfInBounds_toArray, List.set_cons_zero, List.set_cons_succ]
  refine wpAnyH_take (i := 31) (oi := { dst := some 106, op := Op.unOp UnOp.not 4 (Operand.tmp 105), type := 4, pos := "more.go:27", after := #[{ on := 30, ground := Ground.data }, { on := 29, ground := Ground.guard }], guard := some (29, true) }) (v := ?_) rfl (by kernel_rfl) (by kernel_rfl) (by kernel_rfl) (fun _ _ _ h => h) (Or.inl ⟨by rfl, ?_⟩) (by exact S) ?_
  rotate_left 1
  · intro w hSw
    clear hSw
    go_simp
    try with_reducible rfl
  simp only [Act.put, List.setIfInBounds_toArray, List.set_cons_zero, List.set_cons_succ]
  refine wpAnyH_take (i := 32) (oi := { dst := some 107, op := Op.pick (Operand.tmp 104) (Operand.tmp 106) (Operand.const (Value.bool false)), type := 4, pos := "more.go:27", after := #[{ on := 29, ground := Ground.data }, { on := 31, ground := Ground.data }], guard := none }) (v := ?_) rfl (by kernel_rfl) (by kernel_rfl) (by kernel_rfl) (fun _ _ _ h => h) (Or.inl ⟨by rfl, ?_⟩) (by exact S) ?_
  rotate_left 1
  · intro w hSw
    clear hSw
    go_simp
    try with_reducible rfl
  simp only [Act.put, List.setIfInBounds_toArray, List.set_cons_zero, List.set_cons_succ]
  refine wpAnyH_take (i := 33) (oi := { dst := some 6, op := Op.assign (Operand.tmp 107), type := 4, pos := "more.go:27", after := #[{ on := 32, ground := Ground.data }, { on := 29, ground := Ground.chain }, { on := 0, ground := Ground.phase }, { on := 1, ground := Ground.phase }, { on := 2, ground := Ground.phase }, { on := 3, ground := Ground.phase }, { on := 4, ground := Ground.phase }, { on := 5, ground := Ground.phase }, { on := 6, ground := Ground.phase }, { on := 7, ground := Ground.phase }, { on := 8, ground := Ground.phase }, { on := 9, ground := Ground.phase }, { on := 10, ground := Ground.phase }, { on := 11, ground := Ground.phase }, { on := 12, ground := Ground.phase }, { on := 13, ground := Ground.phase }, { on := 14, ground := Ground.phase }, { on := 15, ground := Ground.phase }, { on := 16, ground := Ground.phase }, { on := 17, ground := Ground.phase }, { on := 18, ground := Ground.phase }, { on := 19, ground := Ground.phase }, { on := 20, ground := Ground.phase }, { on := 21, ground := Ground.phase }, { on := 22, ground := Ground.phase }, { on := 23, ground := Ground.phase }, { on := 24, ground := Ground.phase }, { on := 25, ground := Ground.phase }, { on := 26, ground := Ground.phase }, { on := 27, ground := Ground.phase }, { on := 28, ground := Ground.phase }, { on := 29, ground := Ground.phase }, { on := 30, ground := Ground.phase }, { on := 31, ground := Ground.phase }, { on := 32, ground := Ground.phase }], guard := none }) (v := ?_) rfl (by kernel_rfl) (by kernel_rfl) (by kernel_rfl) (fun _ _ _ h => h) (Or.inl ⟨by rfl, ?_⟩) (by exact S) ?_
  rotate_left 1
  · intro w hSw
    clear hSw
    go_simp
    try with_reducible rfl
  simp only [Act.put, List.setIfInBounds_toArray, List.set_cons_zero, List.set_cons_succ]
  refine wpAnyH_done (by kernel_rfl) ?_ _
  go_wp2
  go_ret
  exact ⟨rfl, S.low⟩
theorem places_i (n : Int) (n0 : -2147483648 ≤ n) (n1 : n ≤ 2147483647) (x : Int) (x0 : 0 ≤ x) (x1 : x ≤ 255) (l : Bool) (w : World) : Calls Try.prog 4 #[.int .i32 n, .int .u8 x, .bool l] w fun e w' => e = .returned (.bool true) ∧ Below w.heap.size w w' := by
  obtain ⟨c0, rfl⟩ : ∃ c0 : Nat, x = c0 := ⟨x.toNat, by omega⟩
  obtain ⟨v, hv⟩ : ∃ v : Nat, n / 256 * 2 % 4294967296 = (v : Int) := ⟨(n / 256 * 2 % 4294967296).toNat, by omega⟩
  obtain ⟨u, hu⟩ : ∃ u : Nat, n / 4096 * 2 % 4294967296 = (u : Int) := ⟨(n / 4096 * 2 % 4294967296).toNat, by omega⟩
  obtain ⟨c, hc⟩ : ∃ c : Nat, (c0 : Int) % 14 = (c : Int) := ⟨((c0 : Int) % 14).toNat, by omega⟩
  have ht : ((c0 : Int)).tmod 14 = (c : Int) := by rw [Int.tmod_eq_emod_of_nonneg (by omega)]; exact hc
  cases l
  · exact places54_c n c0 v u c hv hu ht hc n0 n1 (by omega) (by omega) (by omega) (by omega) (by omega) (by omega) (by omega) (by omega) w
  · exact places55_c n c0 v u c hv hu ht hc n0 n1 (by omega) (by omega) (by omega) (by omega) (by omega) (by omega) (by omega) (by omega) w
end Go.Proofs.Ytigmekboikgoaaa
