/- Shifts, upper halves, addresses, events, walked. -/
import Derived.Test.YteflboidbogegaaHv3
namespace Go.Proofs.Yteflboidbogegaa
open Go.ChangeShapes Go.WideShapes Go.ChangeAt Go.RowKit
set_option linter.unusedVariables false
set_option linter.unusedSimpArgs false

theorem Below.ofDrew {w w' : World} (h : ∃ m, w' = w.drewN m) : Below w.heap.size w w' := by
  obtain ⟨m, rfl⟩ := h
  exact ⟨rfl, rfl, rfl, Nat.le_refl _, fun _ _ => rfl⟩
set_option maxHeartbeats 2000000 in
set_option maxRecDepth 100000 in
theorem hshift_c (h : HV) (R : List Int) (ho : HOk h) (hR : okR R) (kind : Int) (k0 : 1 ≤ kind) (k1 : kind ≤ 4) (w : World) : Calls Try.prog 41 #[(Cel.host h).val, (Cel.regs R).val, .int .i64 kind] w fun e w' => e = .returned (.int .u32 ((shiftS (regv R h.a) kind (regv R h.b % 32) false).1)) ∧ Below w.heap.size w w' := by
  have S := SH.start w
  obtain ⟨⟨d0, d1⟩, ⟨a0, a1⟩, ⟨b0, b1⟩, ⟨c0, c1⟩, i0, i1⟩ := ho
  obtain ⟨hA, ua, va⟩ := regv_at hR a0 a1
  obtain ⟨hB, ub, vb⟩ := regv_at hR b0 b1
  obtain ⟨hC, uc, vc⟩ := regv_at hR c0 c1
  have hl := hR.1
  clear hR
  have HA : Hid (R[h.a.toNat]? = some (regv R h.a)) := hA
  have HB : Hid (R[h.b.toNat]? = some (regv R h.b)) := hB
  have HC : Hid (R[h.c.toNat]? = some (regv R h.c)) := hC
  clear hA hB hC
  generalize regv R h.a = x at *
  generalize regv R h.b = y at *
  generalize regv R h.c = z at *
  have CS : Hid (∀ w1, Calls Try.prog 82 #[.int .u32 x, .int .i64 kind, .int .i64 (y % 32), .bool false] w1 fun e w' => e = .returned (.tuple #[.int .u32 (shiftS x kind (y % 32) false).1, .bool (shiftS x kind (y % 32) false).2]) ∧ ∃ m, w' = w1.drewN m) := fun w1 => shift_c x kind (y % 32) false ua va (by omega) (by omega) w1
  generalize shiftS x kind (y % 32) false = sv at *
  have ey : y.tmod 32 = y % 32 := Int.tmod_eq_emod_of_nonneg ub
  have ew : IntKind.i64.wrap (y % 32) = y % 32 := by rw [IntKind.wrap_i64]; omega
  go_enter Try.func41, Try.ntmps41
  go_wp2_with (first
    | (refine S.box rfl _ _ rfl (Cel.host h) rfl ?_; clear S; intro q1 w1 S)
    | (refine S.box rfl _ _ rfl (Cel.regs R) rfl ?_; clear S; intro q2 w2 S))
  refine Upto.start (S := fun w' => SH noZ w w' [(q2, Cel.regs R), (q1, Cel.host h)]) 16 (by kernel_rfl) ?_
  replace S := S.drew
  refine Upto.take (i := 0) (oi := { dst := some 10, op := Op.fieldAddr 25 (Operand.tmp 3) 2, type := 0, pos := "reckon.go:40", after := #[], guard := none }) (v := ?_) rfl (by kernel_rfl) (by kernel_rfl) (by kernel_rfl) (by kernel_rfl) (fun _ _ _ h => h) (Or.inl ⟨by rfl, ?_⟩) (by exact S) ?_
  rotate_left 1
  · intro w hSw
    clear hSw
    go_simp
    try with_reducible rfl
  simp only [Act.put, List.setIfInBounds_toArray, List.set_cons_zero, List.set_cons_succ]
  refine Upto.take (i := 1) (oi := { dst := some 11, op := Op.load 3 (Operand.tmp 10), type := 3, pos := "reckon.go:40", after := #[{ on := 0, ground := Ground.data }], guard := none }) (v := _) rfl (by kernel_rfl) (by kernel_rfl) (by kernel_rfl) (by kernel_rfl) (fun _ _ _ h => h) (y_load1 (by rfl) _ _ rfl _ _ rfl 1 _ rfl _ rfl _ Try.underlying3 rfl) (by exact S) ?_
  simp only [Act.put, List.setIfInBounds_toArray, List.set_cons_zero, List.set_cons_succ]
  refine Upto.take (i := 2) (oi := { dst := some 12, op := Op.indexAddr 28 (Operand.tmp 4) (Operand.tmp 11), type := 0, pos := "reckon.go:40", after := #[{ on := 1, ground := Ground.data }], guard := none }) (v := ?_) rfl (by kernel_rfl) (by kernel_rfl) (by kernel_rfl) (by kernel_rfl) (fun _ _ _ h => h) (Or.inl ⟨by rfl, ?_⟩) (by exact S) ?_
  rotate_left 1
  · intro w hSw
    clear hSw
    go_simp
    try with_reducible rfl
  simp only [Act.put, List.setIfInBounds_toArray, List.set_cons_zero, List.set_cons_succ]
  refine Upto.take (i := 3) (oi := { dst := some 13, op := Op.load 22 (Operand.tmp 12), type := 22, pos := "reckon.go:40", after := #[{ on := 2, ground := Ground.data }], guard := none }) (v := _) rfl (by kernel_rfl) (by kernel_rfl) (by kernel_rfl) (by kernel_rfl) (fun _ _ _ h => h) (y_load1 (by rfl) _ _ rfl _ _ rfl 0 _ rfl _ (rc_at HA.out) _ Try.underlying22 rfl) (by exact S) ?_
  simp only [Act.put, List.setIfInBounds_toArray, List.set_cons_zero, List.set_cons_succ]
  refine Upto.take (i := 4) (oi := { dst := some 14, op := Op.move (Operand.tmp 2), type := 3, pos := "reckon.go:40", after := #[], guard := none }) (v := ?_) rfl (by kernel_rfl) (by kernel_rfl) (by kernel_rfl) (by kernel_rfl) (fun _ _ _ h => h) (Or.inl ⟨by rfl, ?_⟩) (by exact S) ?_
  rotate_left 1
  · intro w hSw
    clear hSw
    go_simp
    try with_reducible rfl
  simp only [Act.put, List.setIfInBounds_toArray, List.set_cons_zero, List.set_cons_succ]
  refine Upto.take (i := 5) (oi := { dst := some 15, op := Op.fieldAddr 25 (Operand.tmp 3) 3, type := 0, pos := "reckon.go:40", after := #[], guard := none }) (v := ?_) rfl (by kernel_rfl) (by kernel_rfl) (by kernel_rfl) (by kernel_rfl) (fun _ _ _ h => h) (Or.inl ⟨by rfl, ?_⟩) (by exact S) ?_
  rotate_left 1
  · intro w hSw
    clear hSw
    go_simp
    try with_reducible rfl
  simp only [Act.put, List.setIfInBounds_toArray, List.set_cons_zero, List.set_cons_succ]
  refine Upto.take (i := 6) (oi := { dst := some 16, op := Op.load 3 (Operand.tmp 15), type := 3, pos := "reckon.go:40", after := #[{ on := 5, ground := Ground.data }], guard := none }) (v := _) rfl (by kernel_rfl) (by kernel_rfl) (by kernel_rfl) (by kernel_rfl) (fun _ _ _ h => h) (y_load1 (by rfl) _ _ rfl _ _ rfl 1 _ rfl _ rfl _ Try.underlying3 rfl) (by exact S) ?_
  simp only [Act.put, List.setIfInBounds_toArray, List.set_cons_zero, List.set_cons_succ]
  refine Upto.take (i := 7) (oi := { dst := some 17, op := Op.indexAddr 28 (Operand.tmp 4) (Operand.tmp 16), type := 0, pos := "reckon.go:40", after := #[{ on := 6, ground := Ground.data }], guard := none }) (v := ?_) rfl (by kernel_rfl) (by kernel_rfl) (by kernel_rfl) (by kernel_rfl) (fun _ _ _ h => h) (Or.inl ⟨by rfl, ?_⟩) (by exact S) ?_
  rotate_left 1
  · intro w hSw
    clear hSw
    go_simp
    try with_reducible rfl
  simp only [Act.put, List.setIfInBounds_toArray, List.set_cons_zero, List.set_cons_succ]
  refine Upto.take (i := 8) (oi := { dst := some 18, op := Op.load 22 (Operand.tmp 17), type := 22, pos := "reckon.go:40", after := #[{ on := 7, ground := Ground.data }], guard := none }) (v := _) rfl (by kernel_rfl) (by kernel_rfl) (by kernel_rfl) (by kernel_rfl) (fun _ _ _ h => h) (y_load1 (by rfl) _ _ rfl _ _ rfl 0 _ rfl _ (rc_at HB.out) _ Try.underlying22 rfl) (by exact S) ?_
  simp only [Act.put, List.setIfInBounds_toArray, List.set_cons_zero, List.set_cons_succ]
  refine Upto.take (i := 9) (oi := { dst := some 19, op := Op.binOp BinOp.rem 22 (Operand.tmp 18) (Operand.const (Value.int IntKind.u32 32)) 22, type := 22, pos := "reckon.go:40", after := #[{ on := 8, ground := Ground.data }], guard := none }) (v := ?_) rfl (by kernel_rfl) (by kernel_rfl) (by kernel_rfl) (by kernel_rfl) (fun _ _ _ h => h) (Or.inl ⟨by rfl, ?_⟩) (by exact S) ?_
  rotate_left 1
  · intro w hSw
    clear hSw
    go_simp
    try with_reducible rfl
  simp only [Act.put, List.setIfInBounds_toArray, List.set_cons_zero, List.set_cons_succ]
  refine Upto.take (i := 10) (oi := { dst := some 20, op := Op.convert 22 3 (Operand.tmp 19), type := 3, pos := "reckon.go:40", after := #[{ on := 9, ground := Ground.data }], guard := none }) (v := ?_) rfl (by kernel_rfl) (by kernel_rfl) (by kernel_rfl) (by kernel_rfl) (fun _ _ _ h => h) (Or.inl ⟨by rfl, ?_⟩) (by exact S) ?_
  rotate_left 1
  · intro w hSw
    clear hSw
    go_simp
    try with_reducible rfl
  simp only [Act.put, List.setIfInBounds_toArray, List.set_cons_zero, List.set_cons_succ]
  refine Upto.ready (rs := [11]) (by kernel_rfl) (by simp) ?_
  refine Nexts.cons rfl (by decide) (fun K hK => ?_) Nexts.nil
  go_simp
  go_wp2_with (refine (CS.out _).mono ?_; rintro e w8 ⟨rfl, hw8⟩)
  replace S := S.below (Below.ofDrew hw8)
  refine hK.out _ _ (by exact S) ?_
  clear hw8
  clear hK K
  refine Upto.take (i := 12) (oi := { dst := some 9, op := Op.move (Operand.tmp 21), type := 99, pos := "reckon.go:40", after := #[{ on := 11, ground := Ground.data }], guard := none }) (v := ?_) rfl (by kernel_rfl) (by kernel_rfl) (by kernel_rfl) (by kernel_rfl) (fun _ _ _ h => h) (Or.inl ⟨by rfl, ?_⟩) (by exact S) ?_
  rotate_left 1
  · intro w hSw
    clear hSw
    go_simp
    try with_reducible rfl
  simp only [Act.put, List.setIfInBounds_toArray, List.set_cons_zero, List.set_cons_succ]
  refine Upto.take (i := 13) (oi := { dst := some 22, op := Op.extract (Operand.tmp 9) 0, type := 22, pos := "reckon.go:40", after := #[{ on := 12, ground := Ground.data }], guard := none }) (v := ?_) rfl (by kernel_rfl) (by kernel_rfl) (by kernel_rfl) (by kernel_rfl) (fun _ _ _ h => h) (Or.inl ⟨by rfl, ?_⟩) (by exact S) ?_
  rotate_left 1
  · intro w hSw
    clear hSw
    go_simp
    try with_reducible rfl
  simp only [Act.put, List.setIfInBounds_toArray, List.set_cons_zero, List.set_cons_succ]
  refine Upto.take (i := 14) (oi := { dst := some 23, op := Op.extract (Operand.tmp 9) 1, type := 4, pos := "reckon.go:40", after := #[{ on := 12, ground := Ground.data }, { on := 15, ground := Ground.gcOnly Departure.lateStores }], guard := none }) (v := ?_) rfl (by kernel_rfl) (by kernel_rfl) (by kernel_rfl) (by kernel_rfl) (fun _ _ _ h => h) (Or.inl ⟨by rfl, ?_⟩) (by exact S) ?_
  rotate_left 1
  · intro w hSw
    clear hSw
    go_simp
    try with_reducible rfl
  simp only [Act.put, List.setIfInBounds_toArray, List.set_cons_zero, List.set_cons_succ]
  refine Upto.take (i := 15) (oi := { dst := some 7, op := Op.assign (Operand.tmp 22), type := 22, pos := "reckon.go:40", after := #[{ on := 13, ground := Ground.data }, { on := 11, ground := Ground.chain }, { on := 0, ground := Ground.phase }, { on := 1, ground := Ground.phase }, { on := 2, ground := Ground.phase }, { on := 3, ground := Ground.phase }, { on := 4, ground := Ground.phase }, { on := 5, ground := Ground.phase }, { on := 6, ground := Ground.phase }, { on := 7, ground := Ground.phase }, { on := 8, ground := Ground.phase }, { on := 9, ground := Ground.phase }, { on := 10, ground := Ground.phase }, { on := 11, ground := Ground.phase }, { on := 12, ground := Ground.phase }, { on := 13, ground := Ground.phase }, { on := 14, ground := Ground.textOnly Departure.lateStores }], guard := none }) (v := ?_) rfl (by kernel_rfl) (by kernel_rfl) (by kernel_rfl) (by kernel_rfl) (fun _ _ _ h => h) (Or.inl ⟨by rfl, ?_⟩) (by exact S) ?_
  rotate_left 1
  · intro w hSw
    clear hSw
    go_simp
    try with_reducible rfl
  simp only [Act.put, List.setIfInBounds_toArray, List.set_cons_zero, List.set_cons_succ]
  refine Upto.ready (rs := [16]) (by kernel_rfl) (by simp) ?_
  refine Nexts.last rfl (fun K hK => ?_)
  go_simp
  refine hK.out _ _ ?_
  clear hK K
  refine Upto.done (by kernel_rfl) ?_ _
  go_wp2
  go_ret
  exact ⟨rfl, S.low⟩
set_option maxHeartbeats 2000000 in
set_option maxRecDepth 100000 in
theorem hupper_c (h : HV) (R : List Int) (ho : HOk h) (hR : okR R) (sg : Bool) (w : World) : Calls Try.prog 47 #[(Cel.host h).val, (Cel.regs R).val, .bool sg] w fun e w' => e = .returned (.int .u32 (mulS (regv R h.a) (regv R h.b) sg / 4294967296 % 4294967296)) ∧ Below w.heap.size w w' := by
  have S := SH.start w
  obtain ⟨⟨d0, d1⟩, ⟨a0, a1⟩, ⟨b0, b1⟩, ⟨c0, c1⟩, i0, i1⟩ := ho
  obtain ⟨hA, ua, va⟩ := regv_at hR a0 a1
  obtain ⟨hB, ub, vb⟩ := regv_at hR b0 b1
  obtain ⟨hC, uc, vc⟩ := regv_at hR c0 c1
  have hl := hR.1
  clear hR
  have HA : Hid (R[h.a.toNat]? = some (regv R h.a)) := hA
  have HB : Hid (R[h.b.toNat]? = some (regv R h.b)) := hB
  have HC : Hid (R[h.c.toNat]? = some (regv R h.c)) := hC
  clear hA hB hC
  generalize regv R h.a = x at *
  generalize regv R h.b = y at *
  generalize regv R h.c = z at *
  have CS : Hid (∀ w1, Calls Try.prog 83 #[.int .u32 x, .int .u32 y, .bool sg] w1 fun e w' => e = .returned (.tuple #[.int .u32 (mulS x y sg % 4294967296), .int .u32 (mulS x y sg / 4294967296 % 4294967296)]) ∧ w' = w1) := fun w1 => mul64_c x y sg ua va ub vb w1
  generalize mulS x y sg % 4294967296 = s1 at *
  generalize mulS x y sg / 4294967296 % 4294967296 = s2 at *
  go_enter Try.func47, Try.ntmps47
  go_wp2_with (first
    | (refine S.box rfl _ _ rfl (Cel.host h) rfl ?_; clear S; intro q1 w1 S)
    | (refine S.box rfl _ _ rfl (Cel.regs R) rfl ?_; clear S; intro q2 w2 S))
  refine Upto.start (S := fun w' => SH noZ w w' [(q2, Cel.regs R), (q1, Cel.host h)]) 14 (by kernel_rfl) ?_
  replace S := S.drew
  refine Upto.take (i := 0) (oi := { dst := some 10, op := Op.fieldAddr 25 (Operand.tmp 3) 2, type := 0, pos := "reckon.go:46", after := #[], guard := none }) (v := ?_) rfl (by kernel_rfl) (by kernel_rfl) (by kernel_rfl) (by kernel_rfl) (fun _ _ _ h => h) (Or.inl ⟨by rfl, ?_⟩) (by exact S) ?_
  rotate_left 1
  · intro w hSw
    clear hSw
    go_simp
    try with_reducible rfl
  simp only [Act.put, List.setIfInBounds_toArray, List.set_cons_zero, List.set_cons_succ]
  refine Upto.take (i := 1) (oi := { dst := some 11, op := Op.load 3 (Operand.tmp 10), type := 3, pos := "reckon.go:46", after := #[{ on := 0, ground := Ground.data }], guard := none }) (v := _) rfl (by kernel_rfl) (by kernel_rfl) (by kernel_rfl) (by kernel_rfl) (fun _ _ _ h => h) (y_load1 (by rfl) _ _ rfl _ _ rfl 1 _ rfl _ rfl _ Try.underlying3 rfl) (by exact S) ?_
  simp only [Act.put, List.setIfInBounds_toArray, List.set_cons_zero, List.set_cons_succ]
  refine Upto.take (i := 2) (oi := { dst := some 12, op := Op.indexAddr 28 (Operand.tmp 4) (Operand.tmp 11), type := 0, pos := "reckon.go:46", after := #[{ on := 1, ground := Ground.data }], guard := none }) (v := ?_) rfl (by kernel_rfl) (by kernel_rfl) (by kernel_rfl) (by kernel_rfl) (fun _ _ _ h => h) (Or.inl ⟨by rfl, ?_⟩) (by exact S) ?_
  rotate_left 1
  · intro w hSw
    clear hSw
    go_simp
    try with_reducible rfl
  simp only [Act.put, List.setIfInBounds_toArray, List.set_cons_zero, List.set_cons_succ]
  refine Upto.take (i := 3) (oi := { dst := some 13, op := Op.load 22 (Operand.tmp 12), type := 22, pos := "reckon.go:46", after := #[{ on := 2, ground := Ground.data }], guard := none }) (v := _) rfl (by kernel_rfl) (by kernel_rfl) (by kernel_rfl) (by kernel_rfl) (fun _ _ _ h => h) (y_load1 (by rfl) _ _ rfl _ _ rfl 0 _ rfl _ (rc_at HA.out) _ Try.underlying22 rfl) (by exact S) ?_
  simp only [Act.put, List.setIfInBounds_toArray, List.set_cons_zero, List.set_cons_succ]
  refine Upto.take (i := 4) (oi := { dst := some 14, op := Op.fieldAddr 25 (Operand.tmp 3) 3, type := 0, pos := "reckon.go:46", after := #[], guard := none }) (v := ?_) rfl (by kernel_rfl) (by kernel_rfl) (by kernel_rfl) (by kernel_rfl) (fun _ _ _ h => h) (Or.inl ⟨by rfl, ?_⟩) (by exact S) ?_
  rotate_left 1
  · intro w hSw
    clear hSw
    go_simp
    try with_reducible rfl
  simp only [Act.put, List.setIfInBounds_toArray, List.set_cons_zero, List.set_cons_succ]
  refine Upto.take (i := 5) (oi := { dst := some 15, op := Op.load 3 (Operand.tmp 14), type := 3, pos := "reckon.go:46", after := #[{ on := 4, ground := Ground.data }], guard := none }) (v := _) rfl (by kernel_rfl) (by kernel_rfl) (by kernel_rfl) (by kernel_rfl) (fun _ _ _ h => h) (y_load1 (by rfl) _ _ rfl _ _ rfl 1 _ rfl _ rfl _ Try.underlying3 rfl) (by exact S) ?_
  simp only [Act.put, List.setIfInBounds_toArray, List.set_cons_zero, List.set_cons_succ]
  refine Upto.take (i := 6) (oi := { dst := some 16, op := Op.indexAddr 28 (Operand.tmp 4) (Operand.tmp 15), type := 0, pos := "reckon.go:46", after := #[{ on := 5, ground := Ground.data }], guard := none }) (v := ?_) rfl (by kernel_rfl) (by kernel_rfl) (by kernel_rfl) (by kernel_rfl) (fun _ _ _ h => h) (Or.inl ⟨by rfl, ?_⟩) (by exact S) ?_
  rotate_left 1
  · intro w hSw
    clear hSw
    go_simp
    try with_reducible rfl
  simp only [Act.put, List.setIfInBounds_toArray, List.set_cons_zero, List.set_cons_succ]
  refine Upto.take (i := 7) (oi := { dst := some 17, op := Op.load 22 (Operand.tmp 16), type := 22, pos := "reckon.go:46", after := #[{ on := 6, ground := Ground.data }], guard := none }) (v := _) rfl (by kernel_rfl) (by kernel_rfl) (by kernel_rfl) (by kernel_rfl) (fun _ _ _ h => h) (y_load1 (by rfl) _ _ rfl _ _ rfl 0 _ rfl _ (rc_at HB.out) _ Try.underlying22 rfl) (by exact S) ?_
  simp only [Act.put, List.setIfInBounds_toArray, List.set_cons_zero, List.set_cons_succ]
  refine Upto.take (i := 8) (oi := { dst := some 18, op := Op.move (Operand.tmp 2), type := 4, pos := "reckon.go:46", after := #[], guard := none }) (v := ?_) rfl (by kernel_rfl) (by kernel_rfl) (by kernel_rfl) (by kernel_rfl) (fun _ _ _ h => h) (Or.inl ⟨by rfl, ?_⟩) (by exact S) ?_
  rotate_left 1
  · intro w hSw
    clear hSw
    go_simp
    try with_reducible rfl
  simp only [Act.put, List.setIfInBounds_toArray, List.set_cons_zero, List.set_cons_succ]
  refine Upto.ready (rs := [9]) (by kernel_rfl) (by simp) ?_
  refine Nexts.cons rfl (by decide) (fun K hK => ?_) Nexts.nil
  go_simp
  go_wp2_with (refine (CS.out _).mono ?_; rintro e w8 ⟨rfl, rfl⟩)
  refine hK.out _ _ (by exact S) ?_
  clear hK K
  refine Upto.take (i := 10) (oi := { dst := some 9, op := Op.move (Operand.tmp 19), type := 101, pos := "reckon.go:46", after := #[{ on := 9, ground := Ground.data }], guard := none }) (v := ?_) rfl (by kernel_rfl) (by kernel_rfl) (by kernel_rfl) (by kernel_rfl) (fun _ _ _ h => h) (Or.inl ⟨by rfl, ?_⟩) (by exact S) ?_
  rotate_left 1
  · intro w hSw
    clear hSw
    go_simp
    try with_reducible rfl
  simp only [Act.put, List.setIfInBounds_toArray, List.set_cons_zero, List.set_cons_succ]
  refine Upto.take (i := 11) (oi := { dst := some 20, op := Op.extract (Operand.tmp 9) 0, type := 22, pos := "reckon.go:46", after := #[{ on := 10, ground := Ground.data }], guard := none }) (v := ?_) rfl (by kernel_rfl) (by kernel_rfl) (by kernel_rfl) (by kernel_rfl) (fun _ _ _ h => h) (Or.inl ⟨by rfl, ?_⟩) (by exact S) ?_
  rotate_left 1
  · intro w hSw
    clear hSw
    go_simp
    try with_reducible rfl
  simp only [Act.put, List.setIfInBounds_toArray, List.set_cons_zero, List.set_cons_succ]
  refine Upto.take (i := 12) (oi := { dst := some 21, op := Op.extract (Operand.tmp 9) 1, type := 22, pos := "reckon.go:46", after := #[{ on := 10, ground := Ground.data }, { on := 13, ground := Ground.gcOnly Departure.lateStores }], guard := none }) (v := ?_) rfl (by kernel_rfl) (by kernel_rfl) (by kernel_rfl) (by kernel_rfl) (fun _ _ _ h => h) (Or.inl ⟨by rfl, ?_⟩) (by exact S) ?_
  rotate_left 1
  · intro w hSw
    clear hSw
    go_simp
    try with_reducible rfl
  simp only [Act.put, List.setIfInBounds_toArray, List.set_cons_zero, List.set_cons_succ]
  refine Upto.take (i := 13) (oi := { dst := some 7, op := Op.assign (Operand.tmp 20), type := 22, pos := "reckon.go:46", after := #[{ on := 11, ground := Ground.data }, { on := 9, ground := Ground.chain }, { on := 0, ground := Ground.phase }, { on := 1, ground := Ground.phase }, { on := 2, ground := Ground.phase }, { on := 3, ground := Ground.phase }, { on := 4, ground := Ground.phase }, { on := 5, ground := Ground.phase }, { on := 6, ground := Ground.phase }, { on := 7, ground := Ground.phase }, { on := 8, ground := Ground.phase }, { on := 9, ground := Ground.phase }, { on := 10, ground := Ground.phase }, { on := 11, ground := Ground.phase }, { on := 12, ground := Ground.textOnly Departure.lateStores }], guard := none }) (v := ?_) rfl (by kernel_rfl) (by kernel_rfl) (by kernel_rfl) (by kernel_rfl) (fun _ _ _ h => h) (Or.inl ⟨by rfl, ?_⟩) (by exact S) ?_
  rotate_left 1
  · intro w hSw
    clear hSw
    go_simp
    try with_reducible rfl
  simp only [Act.put, List.setIfInBounds_toArray, List.set_cons_zero, List.set_cons_succ]
  refine Upto.ready (rs := [14]) (by kernel_rfl) (by simp) ?_
  refine Nexts.last rfl (fun K hK => ?_)
  go_simp
  refine hK.out _ _ ?_
  clear hK K
  refine Upto.done (by kernel_rfl) ?_ _
  go_wp2
  go_ret
  exact ⟨rfl, S.low⟩
set_option maxHeartbeats 2000000 in
set_option maxRecDepth 100000 in
theorem rk8_c (h : HV) (R : List Int) (ho : HOk h) (hR : okR R) (w : World) : Calls Try.prog 40 #[(Cel.host h).val, (Cel.regs R).val] w fun e w' => e = .returned (.int .u32 (reckS 8 (regv R h.a) (regv R h.b) (regv R h.c) h.im)) ∧ Below w.heap.size w w' := by
  have S := SH.start w
  have hl := hR.1
  have C : Hid (∀ w1, Calls Try.prog 41 #[(Cel.host h).val, (Cel.regs R).val, .int .i64 1] w1 fun e w' => e = .returned (.int .u32 ((shiftS (regv R h.a) 1 (regv R h.b % 32) false).1)) ∧ Below w1.heap.size w1 w') := fun w1 => hshift_c h R ho hR 1 (by decide) (by decide) w1
  rw [show reckS 8 (regv R h.a) (regv R h.b) (regv R h.c) h.im = (shiftS (regv R h.a) 1 (regv R h.b % 32) false).1 by simp [reckS]]
  generalize (shiftS (regv R h.a) 1 (regv R h.b % 32) false).1 = v at *
  go_enter Try.func40, Try.ntmps40
  go_wp2_with (first
    | (refine S.box rfl _ _ rfl (Cel.host h) rfl ?_; clear S; intro q1 w1 S)
    | (refine S.box rfl _ _ rfl (Cel.regs R) rfl ?_; clear S; intro q2 w2 S)
    | (refine S.loadAll rfl 25 _ rfl _ rfl 1 (Cel.host h) rfl _ Try.underlying25 rfl szHost ?_)
    | (refine S.loadAll rfl 28 _ rfl _ rfl 0 (Cel.regs R) rfl _ Try.underlying28 rfl (by simp only [Cel.cells]; rw [rc_length, hl]; exact szRegs) ?_)
    | (refine (C.out _).mono ?_; rintro e w8 ⟨rfl, hw8⟩; replace S := S.below hw8; clear hw8))
  go_ret
  exact ⟨rfl, S.low⟩
set_option maxHeartbeats 2000000 in
set_option maxRecDepth 100000 in
theorem rk9_c (h : HV) (R : List Int) (ho : HOk h) (hR : okR R) (w : World) : Calls Try.prog 42 #[(Cel.host h).val, (Cel.regs R).val] w fun e w' => e = .returned (.int .u32 (reckS 9 (regv R h.a) (regv R h.b) (regv R h.c) h.im)) ∧ Below w.heap.size w w' := by
  have S := SH.start w
  have hl := hR.1
  have C : Hid (∀ w1, Calls Try.prog 41 #[(Cel.host h).val, (Cel.regs R).val, .int .i64 2] w1 fun e w' => e = .returned (.int .u32 ((shiftS (regv R h.a) 2 (regv R h.b % 32) false).1)) ∧ Below w1.heap.size w1 w') := fun w1 => hshift_c h R ho hR 2 (by decide) (by decide) w1
  rw [show reckS 9 (regv R h.a) (regv R h.b) (regv R h.c) h.im = (shiftS (regv R h.a) 2 (regv R h.b % 32) false).1 by simp [reckS]]
  generalize (shiftS (regv R h.a) 2 (regv R h.b % 32) false).1 = v at *
  go_enter Try.func42, Try.ntmps42
  go_wp2_with (first
    | (refine S.box rfl _ _ rfl (Cel.host h) rfl ?_; clear S; intro q1 w1 S)
    | (refine S.box rfl _ _ rfl (Cel.regs R) rfl ?_; clear S; intro q2 w2 S)
    | (refine S.loadAll rfl 25 _ rfl _ rfl 1 (Cel.host h) rfl _ Try.underlying25 rfl szHost ?_)
    | (refine S.loadAll rfl 28 _ rfl _ rfl 0 (Cel.regs R) rfl _ Try.underlying28 rfl (by simp only [Cel.cells]; rw [rc_length, hl]; exact szRegs) ?_)
    | (refine (C.out _).mono ?_; rintro e w8 ⟨rfl, hw8⟩; replace S := S.below hw8; clear hw8))
  go_ret
  exact ⟨rfl, S.low⟩
set_option maxHeartbeats 2000000 in
set_option maxRecDepth 100000 in
theorem rk10_c (h : HV) (R : List Int) (ho : HOk h) (hR : okR R) (w : World) : Calls Try.prog 43 #[(Cel.host h).val, (Cel.regs R).val] w fun e w' => e = .returned (.int .u32 (reckS 10 (regv R h.a) (regv R h.b) (regv R h.c) h.im)) ∧ Below w.heap.size w w' := by
  have S := SH.start w
  have hl := hR.1
  have C : Hid (∀ w1, Calls Try.prog 41 #[(Cel.host h).val, (Cel.regs R).val, .int .i64 3] w1 fun e w' => e = .returned (.int .u32 ((shiftS (regv R h.a) 3 (regv R h.b % 32) false).1)) ∧ Below w1.heap.size w1 w') := fun w1 => hshift_c h R ho hR 3 (by decide) (by decide) w1
  rw [show reckS 10 (regv R h.a) (regv R h.b) (regv R h.c) h.im = (shiftS (regv R h.a) 3 (regv R h.b % 32) false).1 by simp [reckS]]
  generalize (shiftS (regv R h.a) 3 (regv R h.b % 32) false).1 = v at *
  go_enter Try.func43, Try.ntmps43
  go_wp2_with (first
    | (refine S.box rfl _ _ rfl (Cel.host h) rfl ?_; clear S; intro q1 w1 S)
    | (refine S.box rfl _ _ rfl (Cel.regs R) rfl ?_; clear S; intro q2 w2 S)
    | (refine S.loadAll rfl 25 _ rfl _ rfl 1 (Cel.host h) rfl _ Try.underlying25 rfl szHost ?_)
    | (refine S.loadAll rfl 28 _ rfl _ rfl 0 (Cel.regs R) rfl _ Try.underlying28 rfl (by simp only [Cel.cells]; rw [rc_length, hl]; exact szRegs) ?_)
    | (refine (C.out _).mono ?_; rintro e w8 ⟨rfl, hw8⟩; replace S := S.below hw8; clear hw8))
  go_ret
  exact ⟨rfl, S.low⟩
set_option maxHeartbeats 2000000 in
set_option maxRecDepth 100000 in
theorem rk11_c (h : HV) (R : List Int) (ho : HOk h) (hR : okR R) (w : World) : Calls Try.prog 44 #[(Cel.host h).val, (Cel.regs R).val] w fun e w' => e = .returned (.int .u32 (reckS 11 (regv R h.a) (regv R h.b) (regv R h.c) h.im)) ∧ Below w.heap.size w w' := by
  have S := SH.start w
  have hl := hR.1
  have C : Hid (∀ w1, Calls Try.prog 41 #[(Cel.host h).val, (Cel.regs R).val, .int .i64 4] w1 fun e w' => e = .returned (.int .u32 ((shiftS (regv R h.a) 4 (regv R h.b % 32) false).1)) ∧ Below w1.heap.size w1 w') := fun w1 => hshift_c h R ho hR 4 (by decide) (by decide) w1
  rw [show reckS 11 (regv R h.a) (regv R h.b) (regv R h.c) h.im = (shiftS (regv R h.a) 4 (regv R h.b % 32) false).1 by simp [reckS]]
  generalize (shiftS (regv R h.a) 4 (regv R h.b % 32) false).1 = v at *
  go_enter Try.func44, Try.ntmps44
  go_wp2_with (first
    | (refine S.box rfl _ _ rfl (Cel.host h) rfl ?_; clear S; intro q1 w1 S)
    | (refine S.box rfl _ _ rfl (Cel.regs R) rfl ?_; clear S; intro q2 w2 S)
    | (refine S.loadAll rfl 25 _ rfl _ rfl 1 (Cel.host h) rfl _ Try.underlying25 rfl szHost ?_)
    | (refine S.loadAll rfl 28 _ rfl _ rfl 0 (Cel.regs R) rfl _ Try.underlying28 rfl (by simp only [Cel.cells]; rw [rc_length, hl]; exact szRegs) ?_)
    | (refine (C.out _).mono ?_; rintro e w8 ⟨rfl, hw8⟩; replace S := S.below hw8; clear hw8))
  go_ret
  exact ⟨rfl, S.low⟩
set_option maxHeartbeats 2000000 in
set_option maxRecDepth 100000 in
theorem rk13_c (h : HV) (R : List Int) (ho : HOk h) (hR : okR R) (w : World) : Calls Try.prog 46 #[(Cel.host h).val, (Cel.regs R).val] w fun e w' => e = .returned (.int .u32 (reckS 13 (regv R h.a) (regv R h.b) (regv R h.c) h.im)) ∧ Below w.heap.size w w' := by
  have S := SH.start w
  have hl := hR.1
  have C : Hid (∀ w1, Calls Try.prog 47 #[(Cel.host h).val, (Cel.regs R).val, .bool false] w1 fun e w' => e = .returned (.int .u32 (mulS (regv R h.a) (regv R h.b) false / 4294967296 % 4294967296)) ∧ Below w1.heap.size w1 w') := fun w1 => hupper_c h R ho hR false w1
  rw [show reckS 13 (regv R h.a) (regv R h.b) (regv R h.c) h.im = mulS (regv R h.a) (regv R h.b) false / 4294967296 % 4294967296 by simp [reckS]]
  generalize mulS (regv R h.a) (regv R h.b) false / 4294967296 % 4294967296 = v at *
  go_enter Try.func46, Try.ntmps46
  go_wp2_with (first
    | (refine S.box rfl _ _ rfl (Cel.host h) rfl ?_; clear S; intro q1 w1 S)
    | (refine S.box rfl _ _ rfl (Cel.regs R) rfl ?_; clear S; intro q2 w2 S)
    | (refine S.loadAll rfl 25 _ rfl _ rfl 1 (Cel.host h) rfl _ Try.underlying25 rfl szHost ?_)
    | (refine S.loadAll rfl 28 _ rfl _ rfl 0 (Cel.regs R) rfl _ Try.underlying28 rfl (by simp only [Cel.cells]; rw [rc_length, hl]; exact szRegs) ?_)
    | (refine (C.out _).mono ?_; rintro e w8 ⟨rfl, hw8⟩; replace S := S.below hw8; clear hw8))
  go_ret
  exact ⟨rfl, S.low⟩
set_option maxHeartbeats 2000000 in
set_option maxRecDepth 100000 in
theorem rk14_c (h : HV) (R : List Int) (ho : HOk h) (hR : okR R) (w : World) : Calls Try.prog 48 #[(Cel.host h).val, (Cel.regs R).val] w fun e w' => e = .returned (.int .u32 (reckS 14 (regv R h.a) (regv R h.b) (regv R h.c) h.im)) ∧ Below w.heap.size w w' := by
  have S := SH.start w
  have hl := hR.1
  have C : Hid (∀ w1, Calls Try.prog 47 #[(Cel.host h).val, (Cel.regs R).val, .bool true] w1 fun e w' => e = .returned (.int .u32 (mulS (regv R h.a) (regv R h.b) true / 4294967296 % 4294967296)) ∧ Below w1.heap.size w1 w') := fun w1 => hupper_c h R ho hR true w1
  rw [show reckS 14 (regv R h.a) (regv R h.b) (regv R h.c) h.im = mulS (regv R h.a) (regv R h.b) true / 4294967296 % 4294967296 by simp [reckS]]
  generalize mulS (regv R h.a) (regv R h.b) true / 4294967296 % 4294967296 = v at *
  go_enter Try.func48, Try.ntmps48
  go_wp2_with (first
    | (refine S.box rfl _ _ rfl (Cel.host h) rfl ?_; clear S; intro q1 w1 S)
    | (refine S.box rfl _ _ rfl (Cel.regs R) rfl ?_; clear S; intro q2 w2 S)
    | (refine S.loadAll rfl 25 _ rfl _ rfl 1 (Cel.host h) rfl _ Try.underlying25 rfl szHost ?_)
    | (refine S.loadAll rfl 28 _ rfl _ rfl 0 (Cel.regs R) rfl _ Try.underlying28 rfl (by simp only [Cel.cells]; rw [rc_length, hl]; exact szRegs) ?_)
    | (refine (C.out _).mono ?_; rintro e w8 ⟨rfl, hw8⟩; replace S := S.below hw8; clear hw8))
  go_ret
  exact ⟨rfl, S.low⟩
set_option maxHeartbeats 2000000 in
set_option maxRecDepth 100000 in
theorem addr_c (h : HV) (R : List Int) (ho : HOk h) (hR : okR R) (w : World) : Calls Try.prog 64 #[(Cel.host h).val, (Cel.regs R).val] w fun e w' => e = .returned (.int .u32 ((regv R h.a + h.im) % 4294967296)) ∧ Below w.heap.size w w' := by
  have S := SH.start w
  obtain ⟨⟨d0, d1⟩, ⟨a0, a1⟩, ⟨b0, b1⟩, ⟨c0, c1⟩, i0, i1⟩ := ho
  obtain ⟨hA, ua, va⟩ := regv_at hR a0 a1
  obtain ⟨hB, ub, vb⟩ := regv_at hR b0 b1
  obtain ⟨hC, uc, vc⟩ := regv_at hR c0 c1
  have hl := hR.1
  clear hR
  have HA : Hid (R[h.a.toNat]? = some (regv R h.a)) := hA
  have HB : Hid (R[h.b.toNat]? = some (regv R h.b)) := hB
  have HC : Hid (R[h.c.toNat]? = some (regv R h.c)) := hC
  clear hA hB hC
  generalize regv R h.a = x at *
  generalize regv R h.b = y at *
  generalize regv R h.c = z at *
  go_enter Try.func64, Try.ntmps64
  go_wp2_with (first
    | (refine S.box rfl _ _ rfl (Cel.host h) rfl ?_; clear S; intro q1 w1 S)
    | (refine S.box rfl _ _ rfl (Cel.regs R) rfl ?_; clear S; intro q2 w2 S))
  refine Upto.start (S := fun w' => SH noZ w w' [(q2, Cel.regs R), (q1, Cel.host h)]) 7 (by kernel_rfl) ?_
  replace S := S.drew
  refine Upto.take (i := 0) (oi := { dst := some 5, op := Op.fieldAddr 25 (Operand.tmp 2) 2, type := 0, pos := "hvm.go:75", after := #[], guard := none }) (v := ?_) rfl (by kernel_rfl) (by kernel_rfl) (by kernel_rfl) (by kernel_rfl) (fun _ _ _ h => h) (Or.inl ⟨by rfl, ?_⟩) (by exact S) ?_
  rotate_left 1
  · intro w hSw
    clear hSw
    go_simp
    try with_reducible rfl
  simp only [Act.put, List.setIfInBounds_toArray, List.set_cons_zero, List.set_cons_succ]
  refine Upto.take (i := 1) (oi := { dst := some 6, op := Op.load 3 (Operand.tmp 5), type := 3, pos := "hvm.go:75", after := #[{ on := 0, ground := Ground.data }], guard := none }) (v := _) rfl (by kernel_rfl) (by kernel_rfl) (by kernel_rfl) (by kernel_rfl) (fun _ _ _ h => h) (y_load1 (by rfl) _ _ rfl _ _ rfl 1 _ rfl _ rfl _ Try.underlying3 rfl) (by exact S) ?_
  simp only [Act.put, List.setIfInBounds_toArray, List.set_cons_zero, List.set_cons_succ]
  refine Upto.take (i := 2) (oi := { dst := some 7, op := Op.indexAddr 28 (Operand.tmp 3) (Operand.tmp 6), type := 0, pos := "hvm.go:75", after := #[{ on := 1, ground := Ground.data }], guard := none }) (v := ?_) rfl (by kernel_rfl) (by kernel_rfl) (by kernel_rfl) (by kernel_rfl) (fun _ _ _ h => h) (Or.inl ⟨by rfl, ?_⟩) (by exact S) ?_
  rotate_left 1
  · intro w hSw
    clear hSw
    go_simp
    try with_reducible rfl
  simp only [Act.put, List.setIfInBounds_toArray, List.set_cons_zero, List.set_cons_succ]
  refine Upto.take (i := 3) (oi := { dst := some 8, op := Op.load 22 (Operand.tmp 7), type := 22, pos := "hvm.go:75", after := #[{ on := 2, ground := Ground.data }], guard := none }) (v := _) rfl (by kernel_rfl) (by kernel_rfl) (by kernel_rfl) (by kernel_rfl) (fun _ _ _ h => h) (y_load1 (by rfl) _ _ rfl _ _ rfl 0 _ rfl _ (rc_at HA.out) _ Try.underlying22 rfl) (by exact S) ?_
  simp only [Act.put, List.setIfInBounds_toArray, List.set_cons_zero, List.set_cons_succ]
  refine Upto.take (i := 4) (oi := { dst := some 9, op := Op.fieldAddr 25 (Operand.tmp 2) 5, type := 0, pos := "hvm.go:75", after := #[], guard := none }) (v := ?_) rfl (by kernel_rfl) (by kernel_rfl) (by kernel_rfl) (by kernel_rfl) (fun _ _ _ h => h) (Or.inl ⟨by rfl, ?_⟩) (by exact S) ?_
  rotate_left 1
  · intro w hSw
    clear hSw
    go_simp
    try with_reducible rfl
  simp only [Act.put, List.setIfInBounds_toArray, List.set_cons_zero, List.set_cons_succ]
  refine Upto.take (i := 5) (oi := { dst := some 10, op := Op.load 22 (Operand.tmp 9), type := 22, pos := "hvm.go:75", after := #[{ on := 4, ground := Ground.data }], guard := none }) (v := _) rfl (by kernel_rfl) (by kernel_rfl) (by kernel_rfl) (by kernel_rfl) (fun _ _ _ h => h) (y_load1 (by rfl) _ _ rfl _ _ rfl 1 _ rfl _ rfl _ Try.underlying22 rfl) (by exact S) ?_
  simp only [Act.put, List.setIfInBounds_toArray, List.set_cons_zero, List.set_cons_succ]
  refine Upto.take (i := 6) (oi := { dst := some 11, op := Op.binOp BinOp.add 22 (Operand.tmp 8) (Operand.tmp 10) 22, type := 22, pos := "hvm.go:75", after := #[{ on := 3, ground := Ground.data }, { on := 5, ground := Ground.data }], guard := none }) (v := ?_) rfl (by kernel_rfl) (by kernel_rfl) (by kernel_rfl) (by kernel_rfl) (fun _ _ _ h => h) (Or.inl ⟨by rfl, ?_⟩) (by exact S) ?_
  rotate_left 1
  · intro w hSw
    clear hSw
    go_simp
    try with_reducible rfl
  simp only [Act.put, List.setIfInBounds_toArray, List.set_cons_zero, List.set_cons_succ]
  refine Upto.ready (rs := [7]) (by kernel_rfl) (by simp) ?_
  refine Nexts.last rfl (fun K hK => ?_)
  go_simp
  refine hK.out _ _ ?_
  clear hK K
  refine Upto.done (by kernel_rfl) ?_ _
  go_wp2
  go_ret
  exact ⟨by simp [IntKind.wrap_u32], S.low⟩
end Go.Proofs.Yteflboidbogegaa
