/- What each reckoner puts into D, walked. -/
import Derived.Test.YtjhmmfpmmgebjaaGreatVe
import Derived.BigRegion
import Derived.Test.YtjhmmfpmmgebjaaGreatHst3r
namespace Go.Proofs.YtjhmmfpmmgebjaaGreat
open Go.ChangeShapes Go.WideShapes Go.ChangeAt Go.RowKit
set_option linter.unusedVariables false
set_option linter.unusedSimpArgs false

def oneB (q : Bool) : Int := if q then 1 else 0
theorem hone_c (q : Bool) (w : World) : Calls Tryz.prog 63 #[.bool q] w fun e w' => e = .returned (.int .u32 (oneB q)) ∧ w' = w := by
  cases q
  · go_enter Tryz.func63, Tryz.ntmps63
    go_wp2
    go_ret
    exact ⟨rfl, rfl⟩
  · go_enter Tryz.func63, Tryz.ntmps63
    go_wp2
    go_ret
    exact ⟨rfl, rfl⟩
theorem sum_c (a n : Int) (a0 : -2305843009213693952 ≤ a) (a1 : a ≤ 2305843009213693952) (n0 : 0 ≤ n) (n1 : n ≤ 2305843009213693952) (w : World) : Calls Tryz.prog 23 #[.int .i64 a, .int .i64 n] w fun e w' => e = .returned (.int .i64 (a + n)) ∧ w' = w := by
  have h : ¬ 9223372036854775807 - n < a := by omega
  go_enter Tryz.func23, Tryz.ntmps23
  go_wp2
  go_ret
  exact ⟨rfl, rfl⟩
set_option maxHeartbeats 2000000 in
set_option maxRecDepth 100000 in
theorem rk1_c (h : HV) (R : List Int) (ho : HOk h) (hR : okR R) (w : World) : Calls Tryz.prog 40 #[(Cel.host h).val, (Cel.regs R).val] w fun e w' => e = .returned (.int .u32 (reckS 1 (regv R h.a) (regv R h.b) (regv R h.c) h.im)) ∧ Below w.heap.size w w' := by
  have S := SH.start w
  obtain ⟨⟨d0, d1⟩, ⟨a0, a1⟩, ⟨b0, b1⟩, ⟨c0, c1⟩, i0, i1⟩ := ho
  obtain ⟨hA, ua, va⟩ := regv_at hR a0 a1
  obtain ⟨hB, ub, vb⟩ := regv_at hR b0 b1
  obtain ⟨hC, uc, vc⟩ := regv_at hR c0 c1
  have hl := hR.1
  clear hR
  have HA : Hid (R[h.a.toNat]? = some (regv R h.a)) := hA
  have HB : Hid (R[h.b.toNat]? = some (regv R h.b)) := hB
  have HC : Hid (R[h.c.toNat]? = some (regv R h.c)) := hC
  clear hA hB hC
  generalize regv R h.a = x at *
  generalize regv R h.b = y at *
  generalize regv R h.c = z at *
  go_enter Tryz.func40, Tryz.ntmps40
  go_wp2_with (first
    | (refine S.box rfl _ _ rfl (Cel.host h) rfl ?_; clear S; intro q1 w1 S)
    | (refine S.box rfl _ _ rfl (Cel.regs R) rfl ?_; clear S; intro q2 w2 S)
    | (refine S.load1 rfl 3 _ rfl _ 2 rfl 1 (Cel.host h) rfl _ rfl _ Tryz.underlying3 rfl ?_)
    | (refine S.load1 rfl 3 _ rfl _ 3 rfl 1 (Cel.host h) rfl _ rfl _ Tryz.underlying3 rfl ?_)
    | (refine S.load1 rfl 3 _ rfl _ 4 rfl 1 (Cel.host h) rfl _ rfl _ Tryz.underlying3 rfl ?_)
    | (refine S.load1 rfl 26 _ rfl _ 5 rfl 1 (Cel.host h) rfl _ rfl _ Tryz.underlying26 rfl ?_)
    | (refine S.load1 rfl 26 _ rfl _ _ rfl 0 (Cel.regs R) rfl _ (rc_at HA.out) _ Tryz.underlying26 rfl ?_)
    | (refine S.load1 rfl 26 _ rfl _ _ rfl 0 (Cel.regs R) rfl _ (rc_at HB.out) _ Tryz.underlying26 rfl ?_)
    | (refine S.load1 rfl 26 _ rfl _ _ rfl 0 (Cel.regs R) rfl _ (rc_at HC.out) _ Tryz.underlying26 rfl ?_))
  go_ret
  exact ⟨by simp [reckS], S.low⟩
set_option maxHeartbeats 2000000 in
set_option maxRecDepth 100000 in
theorem rk2_c (h : HV) (R : List Int) (ho : HOk h) (hR : okR R) (w : World) : Calls Tryz.prog 41 #[(Cel.host h).val, (Cel.regs R).val] w fun e w' => e = .returned (.int .u32 (reckS 2 (regv R h.a) (regv R h.b) (regv R h.c) h.im)) ∧ Below w.heap.size w w' := by
  have S := SH.start w
  obtain ⟨⟨d0, d1⟩, ⟨a0, a1⟩, ⟨b0, b1⟩, ⟨c0, c1⟩, i0, i1⟩ := ho
  obtain ⟨hA, ua, va⟩ := regv_at hR a0 a1
  obtain ⟨hB, ub, vb⟩ := regv_at hR b0 b1
  obtain ⟨hC, uc, vc⟩ := regv_at hR c0 c1
  have hl := hR.1
  clear hR
  have HA : Hid (R[h.a.toNat]? = some (regv R h.a)) := hA
  have HB : Hid (R[h.b.toNat]? = some (regv R h.b)) := hB
  have HC : Hid (R[h.c.toNat]? = some (regv R h.c)) := hC
  clear hA hB hC
  generalize regv R h.a = x at *
  generalize regv R h.b = y at *
  generalize regv R h.c = z at *
  go_enter Tryz.func41, Tryz.ntmps41
  go_wp2_with (first
    | (refine S.box rfl _ _ rfl (Cel.host h) rfl ?_; clear S; intro q1 w1 S)
    | (refine S.box rfl _ _ rfl (Cel.regs R) rfl ?_; clear S; intro q2 w2 S)
    | (refine S.load1 rfl 3 _ rfl _ 2 rfl 1 (Cel.host h) rfl _ rfl _ Tryz.underlying3 rfl ?_)
    | (refine S.load1 rfl 3 _ rfl _ 3 rfl 1 (Cel.host h) rfl _ rfl _ Tryz.underlying3 rfl ?_)
    | (refine S.load1 rfl 3 _ rfl _ 4 rfl 1 (Cel.host h) rfl _ rfl _ Tryz.underlying3 rfl ?_)
    | (refine S.load1 rfl 26 _ rfl _ 5 rfl 1 (Cel.host h) rfl _ rfl _ Tryz.underlying26 rfl ?_)
    | (refine S.load1 rfl 26 _ rfl _ _ rfl 0 (Cel.regs R) rfl _ (rc_at HA.out) _ Tryz.underlying26 rfl ?_)
    | (refine S.load1 rfl 26 _ rfl _ _ rfl 0 (Cel.regs R) rfl _ (rc_at HB.out) _ Tryz.underlying26 rfl ?_)
    | (refine S.load1 rfl 26 _ rfl _ _ rfl 0 (Cel.regs R) rfl _ (rc_at HC.out) _ Tryz.underlying26 rfl ?_))
  go_ret
  exact ⟨by simp [reckS], S.low⟩
set_option maxHeartbeats 2000000 in
set_option maxRecDepth 100000 in
theorem rk3_c (h : HV) (R : List Int) (ho : HOk h) (hR : okR R) (w : World) : Calls Tryz.prog 42 #[(Cel.host h).val, (Cel.regs R).val] w fun e w' => e = .returned (.int .u32 (reckS 3 (regv R h.a) (regv R h.b) (regv R h.c) h.im)) ∧ Below w.heap.size w w' := by
  have S := SH.start w
  obtain ⟨⟨d0, d1⟩, ⟨a0, a1⟩, ⟨b0, b1⟩, ⟨c0, c1⟩, i0, i1⟩ := ho
  obtain ⟨hA, ua, va⟩ := regv_at hR a0 a1
  obtain ⟨hB, ub, vb⟩ := regv_at hR b0 b1
  obtain ⟨hC, uc, vc⟩ := regv_at hR c0 c1
  have hl := hR.1
  clear hR
  have HA : Hid (R[h.a.toNat]? = some (regv R h.a)) := hA
  have HB : Hid (R[h.b.toNat]? = some (regv R h.b)) := hB
  have HC : Hid (R[h.c.toNat]? = some (regv R h.c)) := hC
  clear hA hB hC
  generalize regv R h.a = x at *
  generalize regv R h.b = y at *
  generalize regv R h.c = z at *
  go_enter Tryz.func42, Tryz.ntmps42
  go_wp2_with (first
    | (refine S.box rfl _ _ rfl (Cel.host h) rfl ?_; clear S; intro q1 w1 S)
    | (refine S.box rfl _ _ rfl (Cel.regs R) rfl ?_; clear S; intro q2 w2 S))
  refine Upto.start (S := fun w' => SH noZ w w' [(q2, Cel.regs R), (q1, Cel.host h)]) 9 (by kernel_rfl) ?_
  replace S := S.drew
  refine Upto.take (i := 0) (oi := { dst := some 5, op := Op.fieldAddr 31 (Operand.tmp 2) 2, type := 0, pos := "reckon.go:16", after := #[], guard := none }) (v := ?_) rfl (by kernel_rfl) (by kernel_rfl) (by kernel_rfl) (by kernel_rfl) (fun _ _ _ h => h) (Or.inl ⟨by rfl, ?_⟩) (by exact S) ?_
  rotate_left 1
  · intro w hSw
    clear hSw
    go_simp
    try with_reducible rfl
  simp only [Act.put, List.setIfInBounds_toArray, List.set_cons_zero, List.set_cons_succ]
  refine Upto.take (i := 1) (oi := { dst := some 6, op := Op.load 3 (Operand.tmp 5), type := 3, pos := "reckon.go:16", after := #[{ on := 0, ground := Ground.data }], guard := none }) (v := _) rfl (by kernel_rfl) (by kernel_rfl) (by kernel_rfl) (by kernel_rfl) (fun _ _ _ h => h) (y_load1 (by rfl) _ _ rfl _ _ rfl 1 _ rfl _ rfl _ Tryz.underlying3 rfl) (by exact S) ?_
  simp only [Act.put, List.setIfInBounds_toArray, List.set_cons_zero, List.set_cons_succ]
  refine Upto.take (i := 2) (oi := { dst := some 7, op := Op.indexAddr 27 (Operand.tmp 3) (Operand.tmp 6), type := 0, pos := "reckon.go:16", after := #[{ on := 1, ground := Ground.data }], guard := none }) (v := ?_) rfl (by kernel_rfl) (by kernel_rfl) (by kernel_rfl) (by kernel_rfl) (fun _ _ _ h => h) (Or.inl ⟨by rfl, ?_⟩) (by exact S) ?_
  rotate_left 1
  · intro w hSw
    clear hSw
    go_simp
    try with_reducible rfl
  simp only [Act.put, List.setIfInBounds_toArray, List.set_cons_zero, List.set_cons_succ]
  refine Upto.take (i := 3) (oi := { dst := some 8, op := Op.load 26 (Operand.tmp 7), type := 26, pos := "reckon.go:16", after := #[{ on := 2, ground := Ground.data }], guard := none }) (v := _) rfl (by kernel_rfl) (by kernel_rfl) (by kernel_rfl) (by kernel_rfl) (fun _ _ _ h => h) (y_load1 (by rfl) _ _ rfl _ _ rfl 0 _ rfl _ (rc_at HA.out) _ Tryz.underlying26 rfl) (by exact S) ?_
  simp only [Act.put, List.setIfInBounds_toArray, List.set_cons_zero, List.set_cons_succ]
  refine Upto.take (i := 4) (oi := { dst := some 9, op := Op.fieldAddr 31 (Operand.tmp 2) 3, type := 0, pos := "reckon.go:16", after := #[], guard := none }) (v := ?_) rfl (by kernel_rfl) (by kernel_rfl) (by kernel_rfl) (by kernel_rfl) (fun _ _ _ h => h) (Or.inl ⟨by rfl, ?_⟩) (by exact S) ?_
  rotate_left 1
  · intro w hSw
    clear hSw
    go_simp
    try with_reducible rfl
  simp only [Act.put, List.setIfInBounds_toArray, List.set_cons_zero, List.set_cons_succ]
  refine Upto.take (i := 5) (oi := { dst := some 10, op := Op.load 3 (Operand.tmp 9), type := 3, pos := "reckon.go:16", after := #[{ on := 4, ground := Ground.data }], guard := none }) (v := _) rfl (by kernel_rfl) (by kernel_rfl) (by kernel_rfl) (by kernel_rfl) (fun _ _ _ h => h) (y_load1 (by rfl) _ _ rfl _ _ rfl 1 _ rfl _ rfl _ Tryz.underlying3 rfl) (by exact S) ?_
  simp only [Act.put, List.setIfInBounds_toArray, List.set_cons_zero, List.set_cons_succ]
  refine Upto.take (i := 6) (oi := { dst := some 11, op := Op.indexAddr 27 (Operand.tmp 3) (Operand.tmp 10), type := 0, pos := "reckon.go:16", after := #[{ on := 5, ground := Ground.data }], guard := none }) (v := ?_) rfl (by kernel_rfl) (by kernel_rfl) (by kernel_rfl) (by kernel_rfl) (fun _ _ _ h => h) (Or.inl ⟨by rfl, ?_⟩) (by exact S) ?_
  rotate_left 1
  · intro w hSw
    clear hSw
    go_simp
    try with_reducible rfl
  simp only [Act.put, List.setIfInBounds_toArray, List.set_cons_zero, List.set_cons_succ]
  refine Upto.take (i := 7) (oi := { dst := some 12, op := Op.load 26 (Operand.tmp 11), type := 26, pos := "reckon.go:16", after := #[{ on := 6, ground := Ground.data }], guard := none }) (v := _) rfl (by kernel_rfl) (by kernel_rfl) (by kernel_rfl) (by kernel_rfl) (fun _ _ _ h => h) (y_load1 (by rfl) _ _ rfl _ _ rfl 0 _ rfl _ (rc_at HB.out) _ Tryz.underlying26 rfl) (by exact S) ?_
  simp only [Act.put, List.setIfInBounds_toArray, List.set_cons_zero, List.set_cons_succ]
  refine Upto.take (i := 8) (oi := { dst := some 13, op := Op.binOp BinOp.add 26 (Operand.tmp 8) (Operand.tmp 12) 26, type := 26, pos := "reckon.go:16", after := #[{ on := 3, ground := Ground.data }, { on := 7, ground := Ground.data }], guard := none }) (v := ?_) rfl (by kernel_rfl) (by kernel_rfl) (by kernel_rfl) (by kernel_rfl) (fun _ _ _ h => h) (Or.inl ⟨by rfl, ?_⟩) (by exact S) ?_
  rotate_left 1
  · intro w hSw
    clear hSw
    go_simp
    try with_reducible rfl
  simp only [Act.put, List.setIfInBounds_toArray, List.set_cons_zero, List.set_cons_succ]
  refine Upto.ready (rs := [9]) (by kernel_rfl) (by simp) ?_
  refine Nexts.last rfl (fun K hK => ?_)
  go_simp
  refine hK.out _ _ ?_
  clear hK K
  refine Upto.done (by kernel_rfl) ?_ _
  go_wp2
  go_ret
  exact ⟨by simp [reckS, IntKind.wrap_u32], S.low⟩
set_option maxHeartbeats 2000000 in
set_option maxRecDepth 100000 in
theorem rk4_c (h : HV) (R : List Int) (ho : HOk h) (hR : okR R) (w : World) : Calls Tryz.prog 43 #[(Cel.host h).val, (Cel.regs R).val] w fun e w' => e = .returned (.int .u32 (reckS 4 (regv R h.a) (regv R h.b) (regv R h.c) h.im)) ∧ Below w.heap.size w w' := by
  have S := SH.start w
  obtain ⟨⟨d0, d1⟩, ⟨a0, a1⟩, ⟨b0, b1⟩, ⟨c0, c1⟩, i0, i1⟩ := ho
  obtain ⟨hA, ua, va⟩ := regv_at hR a0 a1
  obtain ⟨hB, ub, vb⟩ := regv_at hR b0 b1
  obtain ⟨hC, uc, vc⟩ := regv_at hR c0 c1
  have hl := hR.1
  clear hR
  have HA : Hid (R[h.a.toNat]? = some (regv R h.a)) := hA
  have HB : Hid (R[h.b.toNat]? = some (regv R h.b)) := hB
  have HC : Hid (R[h.c.toNat]? = some (regv R h.c)) := hC
  clear hA hB hC
  generalize regv R h.a = x at *
  generalize regv R h.b = y at *
  generalize regv R h.c = z at *
  go_enter Tryz.func43, Tryz.ntmps43
  go_wp2_with (first
    | (refine S.box rfl _ _ rfl (Cel.host h) rfl ?_; clear S; intro q1 w1 S)
    | (refine S.box rfl _ _ rfl (Cel.regs R) rfl ?_; clear S; intro q2 w2 S))
  refine Upto.start (S := fun w' => SH noZ w w' [(q2, Cel.regs R), (q1, Cel.host h)]) 9 (by kernel_rfl) ?_
  replace S := S.drew
  refine Upto.take (i := 0) (oi := { dst := some 5, op := Op.fieldAddr 31 (Operand.tmp 2) 2, type := 0, pos := "reckon.go:17", after := #[], guard := none }) (v := ?_) rfl (by kernel_rfl) (by kernel_rfl) (by kernel_rfl) (by kernel_rfl) (fun _ _ _ h => h) (Or.inl ⟨by rfl, ?_⟩) (by exact S) ?_
  rotate_left 1
  · intro w hSw
    clear hSw
    go_simp
    try with_reducible rfl
  simp only [Act.put, List.setIfInBounds_toArray, List.set_cons_zero, List.set_cons_succ]
  refine Upto.take (i := 1) (oi := { dst := some 6, op := Op.load 3 (Operand.tmp 5), type := 3, pos := "reckon.go:17", after := #[{ on := 0, ground := Ground.data }], guard := none }) (v := _) rfl (by kernel_rfl) (by kernel_rfl) (by kernel_rfl) (by kernel_rfl) (fun _ _ _ h => h) (y_load1 (by rfl) _ _ rfl _ _ rfl 1 _ rfl _ rfl _ Tryz.underlying3 rfl) (by exact S) ?_
  simp only [Act.put, List.setIfInBounds_toArray, List.set_cons_zero, List.set_cons_succ]
  refine Upto.take (i := 2) (oi := { dst := some 7, op := Op.indexAddr 27 (Operand.tmp 3) (Operand.tmp 6), type := 0, pos := "reckon.go:17", after := #[{ on := 1, ground := Ground.data }], guard := none }) (v := ?_) rfl (by kernel_rfl) (by kernel_rfl) (by kernel_rfl) (by kernel_rfl) (fun _ _ _ h => h) (Or.inl ⟨by rfl, ?_⟩) (by exact S) ?_
  rotate_left 1
  · intro w hSw
    clear hSw
    go_simp
    try with_reducible rfl
  simp only [Act.put, List.setIfInBounds_toArray, List.set_cons_zero, List.set_cons_succ]
  refine Upto.take (i := 3) (oi := { dst := some 8, op := Op.load 26 (Operand.tmp 7), type := 26, pos := "reckon.go:17", after := #[{ on := 2, ground := Ground.data }], guard := none }) (v := _) rfl (by kernel_rfl) (by kernel_rfl) (by kernel_rfl) (by kernel_rfl) (fun _ _ _ h => h) (y_load1 (by rfl) _ _ rfl _ _ rfl 0 _ rfl _ (rc_at HA.out) _ Tryz.underlying26 rfl) (by exact S) ?_
  simp only [Act.put, List.setIfInBounds_toArray, List.set_cons_zero, List.set_cons_succ]
  refine Upto.take (i := 4) (oi := { dst := some 9, op := Op.fieldAddr 31 (Operand.tmp 2) 3, type := 0, pos := "reckon.go:17", after := #[], guard := none }) (v := ?_) rfl (by kernel_rfl) (by kernel_rfl) (by kernel_rfl) (by kernel_rfl) (fun _ _ _ h => h) (Or.inl ⟨by rfl, ?_⟩) (by exact S) ?_
  rotate_left 1
  · intro w hSw
    clear hSw
    go_simp
    try with_reducible rfl
  simp only [Act.put, List.setIfInBounds_toArray, List.set_cons_zero, List.set_cons_succ]
  refine Upto.take (i := 5) (oi := { dst := some 10, op := Op.load 3 (Operand.tmp 9), type := 3, pos := "reckon.go:17", after := #[{ on := 4, ground := Ground.data }], guard := none }) (v := _) rfl (by kernel_rfl) (by kernel_rfl) (by kernel_rfl) (by kernel_rfl) (fun _ _ _ h => h) (y_load1 (by rfl) _ _ rfl _ _ rfl 1 _ rfl _ rfl _ Tryz.underlying3 rfl) (by exact S) ?_
  simp only [Act.put, List.setIfInBounds_toArray, List.set_cons_zero, List.set_cons_succ]
  refine Upto.take (i := 6) (oi := { dst := some 11, op := Op.indexAddr 27 (Operand.tmp 3) (Operand.tmp 10), type := 0, pos := "reckon.go:17", after := #[{ on := 5, ground := Ground.data }], guard := none }) (v := ?_) rfl (by kernel_rfl) (by kernel_rfl) (by kernel_rfl) (by kernel_rfl) (fun _ _ _ h => h) (Or.inl ⟨by rfl, ?_⟩) (by exact S) ?_
  rotate_left 1
  · intro w hSw
    clear hSw
    go_simp
    try with_reducible rfl
  simp only [Act.put, List.setIfInBounds_toArray, List.set_cons_zero, List.set_cons_succ]
  refine Upto.take (i := 7) (oi := { dst := some 12, op := Op.load 26 (Operand.tmp 11), type := 26, pos := "reckon.go:17", after := #[{ on := 6, ground := Ground.data }], guard := none }) (v := _) rfl (by kernel_rfl) (by kernel_rfl) (by kernel_rfl) (by kernel_rfl) (fun _ _ _ h => h) (y_load1 (by rfl) _ _ rfl _ _ rfl 0 _ rfl _ (rc_at HB.out) _ Tryz.underlying26 rfl) (by exact S) ?_
  simp only [Act.put, List.setIfInBounds_toArray, List.set_cons_zero, List.set_cons_succ]
  refine Upto.take (i := 8) (oi := { dst := some 13, op := Op.binOp BinOp.sub 26 (Operand.tmp 8) (Operand.tmp 12) 26, type := 26, pos := "reckon.go:17", after := #[{ on := 3, ground := Ground.data }, { on := 7, ground := Ground.data }], guard := none }) (v := ?_) rfl (by kernel_rfl) (by kernel_rfl) (by kernel_rfl) (by kernel_rfl) (fun _ _ _ h => h) (Or.inl ⟨by rfl, ?_⟩) (by exact S) ?_
  rotate_left 1
  · intro w hSw
    clear hSw
    go_simp
    try with_reducible rfl
  simp only [Act.put, List.setIfInBounds_toArray, List.set_cons_zero, List.set_cons_succ]
  refine Upto.ready (rs := [9]) (by kernel_rfl) (by simp) ?_
  refine Nexts.last rfl (fun K hK => ?_)
  go_simp
  refine hK.out _ _ ?_
  clear hK K
  refine Upto.done (by kernel_rfl) ?_ _
  go_wp2
  go_ret
  exact ⟨by simp [reckS, IntKind.wrap_u32], S.low⟩
set_option maxHeartbeats 2000000 in
set_option maxRecDepth 100000 in
theorem rk5_c (h : HV) (R : List Int) (ho : HOk h) (hR : okR R) (w : World) : Calls Tryz.prog 44 #[(Cel.host h).val, (Cel.regs R).val] w fun e w' => e = .returned (.int .u32 (reckS 5 (regv R h.a) (regv R h.b) (regv R h.c) h.im)) ∧ Below w.heap.size w w' := by
  have S := SH.start w
  obtain ⟨⟨d0, d1⟩, ⟨a0, a1⟩, ⟨b0, b1⟩, ⟨c0, c1⟩, i0, i1⟩ := ho
  obtain ⟨hA, ua, va⟩ := regv_at hR a0 a1
  obtain ⟨hB, ub, vb⟩ := regv_at hR b0 b1
  obtain ⟨hC, uc, vc⟩ := regv_at hR c0 c1
  have hl := hR.1
  clear hR
  have HA : Hid (R[h.a.toNat]? = some (regv R h.a)) := hA
  have HB : Hid (R[h.b.toNat]? = some (regv R h.b)) := hB
  have HC : Hid (R[h.c.toNat]? = some (regv R h.c)) := hC
  clear hA hB hC
  generalize regv R h.a = x at *
  generalize regv R h.b = y at *
  generalize regv R h.c = z at *
  go_enter Tryz.func44, Tryz.ntmps44
  go_wp2_with (first
    | (refine S.box rfl _ _ rfl (Cel.host h) rfl ?_; clear S; intro q1 w1 S)
    | (refine S.box rfl _ _ rfl (Cel.regs R) rfl ?_; clear S; intro q2 w2 S))
  refine Upto.start (S := fun w' => SH noZ w w' [(q2, Cel.regs R), (q1, Cel.host h)]) 9 (by kernel_rfl) ?_
  replace S := S.drew
  refine Upto.take (i := 0) (oi := { dst := some 5, op := Op.fieldAddr 31 (Operand.tmp 2) 2, type := 0, pos := "reckon.go:18", after := #[], guard := none }) (v := ?_) rfl (by kernel_rfl) (by kernel_rfl) (by kernel_rfl) (by kernel_rfl) (fun _ _ _ h => h) (Or.inl ⟨by rfl, ?_⟩) (by exact S) ?_
  rotate_left 1
  · intro w hSw
    clear hSw
    go_simp
    try with_reducible rfl
  simp only [Act.put, List.setIfInBounds_toArray, List.set_cons_zero, List.set_cons_succ]
  refine Upto.take (i := 1) (oi := { dst := some 6, op := Op.load 3 (Operand.tmp 5), type := 3, pos := "reckon.go:18", after := #[{ on := 0, ground := Ground.data }], guard := none }) (v := _) rfl (by kernel_rfl) (by kernel_rfl) (by kernel_rfl) (by kernel_rfl) (fun _ _ _ h => h) (y_load1 (by rfl) _ _ rfl _ _ rfl 1 _ rfl _ rfl _ Tryz.underlying3 rfl) (by exact S) ?_
  simp only [Act.put, List.setIfInBounds_toArray, List.set_cons_zero, List.set_cons_succ]
  refine Upto.take (i := 2) (oi := { dst := some 7, op := Op.indexAddr 27 (Operand.tmp 3) (Operand.tmp 6), type := 0, pos := "reckon.go:18", after := #[{ on := 1, ground := Ground.data }], guard := none }) (v := ?_) rfl (by kernel_rfl) (by kernel_rfl) (by kernel_rfl) (by kernel_rfl) (fun _ _ _ h => h) (Or.inl ⟨by rfl, ?_⟩) (by exact S) ?_
  rotate_left 1
  · intro w hSw
    clear hSw
    go_simp
    try with_reducible rfl
  simp only [Act.put, List.setIfInBounds_toArray, List.set_cons_zero, List.set_cons_succ]
  refine Upto.take (i := 3) (oi := { dst := some 8, op := Op.load 26 (Operand.tmp 7), type := 26, pos := "reckon.go:18", after := #[{ on := 2, ground := Ground.data }], guard := none }) (v := _) rfl (by kernel_rfl) (by kernel_rfl) (by kernel_rfl) (by kernel_rfl) (fun _ _ _ h => h) (y_load1 (by rfl) _ _ rfl _ _ rfl 0 _ rfl _ (rc_at HA.out) _ Tryz.underlying26 rfl) (by exact S) ?_
  simp only [Act.put, List.setIfInBounds_toArray, List.set_cons_zero, List.set_cons_succ]
  refine Upto.take (i := 4) (oi := { dst := some 9, op := Op.fieldAddr 31 (Operand.tmp 2) 3, type := 0, pos := "reckon.go:18", after := #[], guard := none }) (v := ?_) rfl (by kernel_rfl) (by kernel_rfl) (by kernel_rfl) (by kernel_rfl) (fun _ _ _ h => h) (Or.inl ⟨by rfl, ?_⟩) (by exact S) ?_
  rotate_left 1
  · intro w hSw
    clear hSw
    go_simp
    try with_reducible rfl
  simp only [Act.put, List.setIfInBounds_toArray, List.set_cons_zero, List.set_cons_succ]
  refine Upto.take (i := 5) (oi := { dst := some 10, op := Op.load 3 (Operand.tmp 9), type := 3, pos := "reckon.go:18", after := #[{ on := 4, ground := Ground.data }], guard := none }) (v := _) rfl (by kernel_rfl) (by kernel_rfl) (by kernel_rfl) (by kernel_rfl) (fun _ _ _ h => h) (y_load1 (by rfl) _ _ rfl _ _ rfl 1 _ rfl _ rfl _ Tryz.underlying3 rfl) (by exact S) ?_
  simp only [Act.put, List.setIfInBounds_toArray, List.set_cons_zero, List.set_cons_succ]
  refine Upto.take (i := 6) (oi := { dst := some 11, op := Op.indexAddr 27 (Operand.tmp 3) (Operand.tmp 10), type := 0, pos := "reckon.go:18", after := #[{ on := 5, ground := Ground.data }], guard := none }) (v := ?_) rfl (by kernel_rfl) (by kernel_rfl) (by kernel_rfl) (by kernel_rfl) (fun _ _ _ h => h) (Or.inl ⟨by rfl, ?_⟩) (by exact S) ?_
  rotate_left 1
  · intro w hSw
    clear hSw
    go_simp
    try with_reducible rfl
  simp only [Act.put, List.setIfInBounds_toArray, List.set_cons_zero, List.set_cons_succ]
  refine Upto.take (i := 7) (oi := { dst := some 12, op := Op.load 26 (Operand.tmp 11), type := 26, pos := "reckon.go:18", after := #[{ on := 6, ground := Ground.data }], guard := none }) (v := _) rfl (by kernel_rfl) (by kernel_rfl) (by kernel_rfl) (by kernel_rfl) (fun _ _ _ h => h) (y_load1 (by rfl) _ _ rfl _ _ rfl 0 _ rfl _ (rc_at HB.out) _ Tryz.underlying26 rfl) (by exact S) ?_
  simp only [Act.put, List.setIfInBounds_toArray, List.set_cons_zero, List.set_cons_succ]
  refine Upto.take (i := 8) (oi := { dst := some 13, op := Op.binOp BinOp.and 26 (Operand.tmp 8) (Operand.tmp 12) 26, type := 26, pos := "reckon.go:18", after := #[{ on := 3, ground := Ground.data }, { on := 7, ground := Ground.data }], guard := none }) (v := ?_) rfl (by kernel_rfl) (by kernel_rfl) (by kernel_rfl) (by kernel_rfl) (fun _ _ _ h => h) (Or.inl ⟨by rfl, ?_⟩) (by exact S) ?_
  rotate_left 1
  · intro w hSw
    clear hSw
    go_simp
    try with_reducible rfl
  simp only [Act.put, List.setIfInBounds_toArray, List.set_cons_zero, List.set_cons_succ]
  refine Upto.ready (rs := [9]) (by kernel_rfl) (by simp) ?_
  refine Nexts.last rfl (fun K hK => ?_)
  go_simp
  refine hK.out _ _ ?_
  clear hK K
  refine Upto.done (by kernel_rfl) ?_ _
  go_wp2
  go_ret
  exact ⟨by simp [reckS], S.low⟩
set_option maxHeartbeats 2000000 in
set_option maxRecDepth 100000 in
theorem rk6_c (h : HV) (R : List Int) (ho : HOk h) (hR : okR R) (w : World) : Calls Tryz.prog 45 #[(Cel.host h).val, (Cel.regs R).val] w fun e w' => e = .returned (.int .u32 (reckS 6 (regv R h.a) (regv R h.b) (regv R h.c) h.im)) ∧ Below w.heap.size w w' := by
  have S := SH.start w
  obtain ⟨⟨d0, d1⟩, ⟨a0, a1⟩, ⟨b0, b1⟩, ⟨c0, c1⟩, i0, i1⟩ := ho
  obtain ⟨hA, ua, va⟩ := regv_at hR a0 a1
  obtain ⟨hB, ub, vb⟩ := regv_at hR b0 b1
  obtain ⟨hC, uc, vc⟩ := regv_at hR c0 c1
  have hl := hR.1
  clear hR
  have HA : Hid (R[h.a.toNat]? = some (regv R h.a)) := hA
  have HB : Hid (R[h.b.toNat]? = some (regv R h.b)) := hB
  have HC : Hid (R[h.c.toNat]? = some (regv R h.c)) := hC
  clear hA hB hC
  generalize regv R h.a = x at *
  generalize regv R h.b = y at *
  generalize regv R h.c = z at *
  go_enter Tryz.func45, Tryz.ntmps45
  go_wp2_with (first
    | (refine S.box rfl _ _ rfl (Cel.host h) rfl ?_; clear S; intro q1 w1 S)
    | (refine S.box rfl _ _ rfl (Cel.regs R) rfl ?_; clear S; intro q2 w2 S))
  refine Upto.start (S := fun w' => SH noZ w w' [(q2, Cel.regs R), (q1, Cel.host h)]) 9 (by kernel_rfl) ?_
  replace S := S.drew
  refine Upto.take (i := 0) (oi := { dst := some 5, op := Op.fieldAddr 31 (Operand.tmp 2) 2, type := 0, pos := "reckon.go:19", after := #[], guard := none }) (v := ?_) rfl (by kernel_rfl) (by kernel_rfl) (by kernel_rfl) (by kernel_rfl) (fun _ _ _ h => h) (Or.inl ⟨by rfl, ?_⟩) (by exact S) ?_
  rotate_left 1
  · intro w hSw
    clear hSw
    go_simp
    try with_reducible rfl
  simp only [Act.put, List.setIfInBounds_toArray, List.set_cons_zero, List.set_cons_succ]
  refine Upto.take (i := 1) (oi := { dst := some 6, op := Op.load 3 (Operand.tmp 5), type := 3, pos := "reckon.go:19", after := #[{ on := 0, ground := Ground.data }], guard := none }) (v := _) rfl (by kernel_rfl) (by kernel_rfl) (by kernel_rfl) (by kernel_rfl) (fun _ _ _ h => h) (y_load1 (by rfl) _ _ rfl _ _ rfl 1 _ rfl _ rfl _ Tryz.underlying3 rfl) (by exact S) ?_
  simp only [Act.put, List.setIfInBounds_toArray, List.set_cons_zero, List.set_cons_succ]
  refine Upto.take (i := 2) (oi := { dst := some 7, op := Op.indexAddr 27 (Operand.tmp 3) (Operand.tmp 6), type := 0, pos := "reckon.go:19", after := #[{ on := 1, ground := Ground.data }], guard := none }) (v := ?_) rfl (by kernel_rfl) (by kernel_rfl) (by kernel_rfl) (by kernel_rfl) (fun _ _ _ h => h) (Or.inl ⟨by rfl, ?_⟩) (by exact S) ?_
  rotate_left 1
  · intro w hSw
    clear hSw
    go_simp
    try with_reducible rfl
  simp only [Act.put, List.setIfInBounds_toArray, List.set_cons_zero, List.set_cons_succ]
  refine Upto.take (i := 3) (oi := { dst := some 8, op := Op.load 26 (Operand.tmp 7), type := 26, pos := "reckon.go:19", after := #[{ on := 2, ground := Ground.data }], guard := none }) (v := _) rfl (by kernel_rfl) (by kernel_rfl) (by kernel_rfl) (by kernel_rfl) (fun _ _ _ h => h) (y_load1 (by rfl) _ _ rfl _ _ rfl 0 _ rfl _ (rc_at HA.out) _ Tryz.underlying26 rfl) (by exact S) ?_
  simp only [Act.put, List.setIfInBounds_toArray, List.set_cons_zero, List.set_cons_succ]
  refine Upto.take (i := 4) (oi := { dst := some 9, op := Op.fieldAddr 31 (Operand.tmp 2) 3, type := 0, pos := "reckon.go:19", after := #[], guard := none }) (v := ?_) rfl (by kernel_rfl) (by kernel_rfl) (by kernel_rfl) (by kernel_rfl) (fun _ _ _ h => h) (Or.inl ⟨by rfl, ?_⟩) (by exact S) ?_
  rotate_left 1
  · intro w hSw
    clear hSw
    go_simp
    try with_reducible rfl
  simp only [Act.put, List.setIfInBounds_toArray, List.set_cons_zero, List.set_cons_succ]
  refine Upto.take (i := 5) (oi := { dst := some 10, op := Op.load 3 (Operand.tmp 9), type := 3, pos := "reckon.go:19", after := #[{ on := 4, ground := Ground.data }], guard := none }) (v := _) rfl (by kernel_rfl) (by kernel_rfl) (by kernel_rfl) (by kernel_rfl) (fun _ _ _ h => h) (y_load1 (by rfl) _ _ rfl _ _ rfl 1 _ rfl _ rfl _ Tryz.underlying3 rfl) (by exact S) ?_
  simp only [Act.put, List.setIfInBounds_toArray, List.set_cons_zero, List.set_cons_succ]
  refine Upto.take (i := 6) (oi := { dst := some 11, op := Op.indexAddr 27 (Operand.tmp 3) (Operand.tmp 10), type := 0, pos := "reckon.go:19", after := #[{ on := 5, ground := Ground.data }], guard := none }) (v := ?_) rfl (by kernel_rfl) (by kernel_rfl) (by kernel_rfl) (by kernel_rfl) (fun _ _ _ h => h) (Or.inl ⟨by rfl, ?_⟩) (by exact S) ?_
  rotate_left 1
  · intro w hSw
    clear hSw
    go_simp
    try with_reducible rfl
  simp only [Act.put, List.setIfInBounds_toArray, List.set_cons_zero, List.set_cons_succ]
  refine Upto.take (i := 7) (oi := { dst := some 12, op := Op.load 26 (Operand.tmp 11), type := 26, pos := "reckon.go:19", after := #[{ on := 6, ground := Ground.data }], guard := none }) (v := _) rfl (by kernel_rfl) (by kernel_rfl) (by kernel_rfl) (by kernel_rfl) (fun _ _ _ h => h) (y_load1 (by rfl) _ _ rfl _ _ rfl 0 _ rfl _ (rc_at HB.out) _ Tryz.underlying26 rfl) (by exact S) ?_
  simp only [Act.put, List.setIfInBounds_toArray, List.set_cons_zero, List.set_cons_succ]
  refine Upto.take (i := 8) (oi := { dst := some 13, op := Op.binOp BinOp.or 26 (Operand.tmp 8) (Operand.tmp 12) 26, type := 26, pos := "reckon.go:19", after := #[{ on := 3, ground := Ground.data }, { on := 7, ground := Ground.data }], guard := none }) (v := ?_) rfl (by kernel_rfl) (by kernel_rfl) (by kernel_rfl) (by kernel_rfl) (fun _ _ _ h => h) (Or.inl ⟨by rfl, ?_⟩) (by exact S) ?_
  rotate_left 1
  · intro w hSw
    clear hSw
    go_simp
    try with_reducible rfl
  simp only [Act.put, List.setIfInBounds_toArray, List.set_cons_zero, List.set_cons_succ]
  refine Upto.ready (rs := [9]) (by kernel_rfl) (by simp) ?_
  refine Nexts.last rfl (fun K hK => ?_)
  go_simp
  refine hK.out _ _ ?_
  clear hK K
  refine Upto.done (by kernel_rfl) ?_ _
  go_wp2
  go_ret
  exact ⟨by simp [reckS], S.low⟩
set_option maxHeartbeats 2000000 in
set_option maxRecDepth 100000 in
theorem rk7_c (h : HV) (R : List Int) (ho : HOk h) (hR : okR R) (w : World) : Calls Tryz.prog 46 #[(Cel.host h).val, (Cel.regs R).val] w fun e w' => e = .returned (.int .u32 (reckS 7 (regv R h.a) (regv R h.b) (regv R h.c) h.im)) ∧ Below w.heap.size w w' := by
  have S := SH.start w
  obtain ⟨⟨d0, d1⟩, ⟨a0, a1⟩, ⟨b0, b1⟩, ⟨c0, c1⟩, i0, i1⟩ := ho
  obtain ⟨hA, ua, va⟩ := regv_at hR a0 a1
  obtain ⟨hB, ub, vb⟩ := regv_at hR b0 b1
  obtain ⟨hC, uc, vc⟩ := regv_at hR c0 c1
  have hl := hR.1
  clear hR
  have HA : Hid (R[h.a.toNat]? = some (regv R h.a)) := hA
  have HB : Hid (R[h.b.toNat]? = some (regv R h.b)) := hB
  have HC : Hid (R[h.c.toNat]? = some (regv R h.c)) := hC
  clear hA hB hC
  generalize regv R h.a = x at *
  generalize regv R h.b = y at *
  generalize regv R h.c = z at *
  go_enter Tryz.func46, Tryz.ntmps46
  go_wp2_with (first
    | (refine S.box rfl _ _ rfl (Cel.host h) rfl ?_; clear S; intro q1 w1 S)
    | (refine S.box rfl _ _ rfl (Cel.regs R) rfl ?_; clear S; intro q2 w2 S))
  refine Upto.start (S := fun w' => SH noZ w w' [(q2, Cel.regs R), (q1, Cel.host h)]) 9 (by kernel_rfl) ?_
  replace S := S.drew
  refine Upto.take (i := 0) (oi := { dst := some 5, op := Op.fieldAddr 31 (Operand.tmp 2) 2, type := 0, pos := "reckon.go:20", after := #[], guard := none }) (v := ?_) rfl (by kernel_rfl) (by kernel_rfl) (by kernel_rfl) (by kernel_rfl) (fun _ _ _ h => h) (Or.inl ⟨by rfl, ?_⟩) (by exact S) ?_
  rotate_left 1
  · intro w hSw
    clear hSw
    go_simp
    try with_reducible rfl
  simp only [Act.put, List.setIfInBounds_toArray, List.set_cons_zero, List.set_cons_succ]
  refine Upto.take (i := 1) (oi := { dst := some 6, op := Op.load 3 (Operand.tmp 5), type := 3, pos := "reckon.go:20", after := #[{ on := 0, ground := Ground.data }], guard := none }) (v := _) rfl (by kernel_rfl) (by kernel_rfl) (by kernel_rfl) (by kernel_rfl) (fun _ _ _ h => h) (y_load1 (by rfl) _ _ rfl _ _ rfl 1 _ rfl _ rfl _ Tryz.underlying3 rfl) (by exact S) ?_
  simp only [Act.put, List.setIfInBounds_toArray, List.set_cons_zero, List.set_cons_succ]
  refine Upto.take (i := 2) (oi := { dst := some 7, op := Op.indexAddr 27 (Operand.tmp 3) (Operand.tmp 6), type := 0, pos := "reckon.go:20", after := #[{ on := 1, ground := Ground.data }], guard := none }) (v := ?_) rfl (by kernel_rfl) (by kernel_rfl) (by kernel_rfl) (by kernel_rfl) (fun _ _ _ h => h) (Or.inl ⟨by rfl, ?_⟩) (by exact S) ?_
  rotate_left 1
  · intro w hSw
    clear hSw
    go_simp
    try with_reducible rfl
  simp only [Act.put, List.setIfInBounds_toArray, List.set_cons_zero, List.set_cons_succ]
  refine Upto.take (i := 3) (oi := { dst := some 8, op := Op.load 26 (Operand.tmp 7), type := 26, pos := "reckon.go:20", after := #[{ on := 2, ground := Ground.data }], guard := none }) (v := _) rfl (by kernel_rfl) (by kernel_rfl) (by kernel_rfl) (by kernel_rfl) (fun _ _ _ h => h) (y_load1 (by rfl) _ _ rfl _ _ rfl 0 _ rfl _ (rc_at HA.out) _ Tryz.underlying26 rfl) (by exact S) ?_
  simp only [Act.put, List.setIfInBounds_toArray, List.set_cons_zero, List.set_cons_succ]
  refine Upto.take (i := 4) (oi := { dst := some 9, op := Op.fieldAddr 31 (Operand.tmp 2) 3, type := 0, pos := "reckon.go:20", after := #[], guard := none }) (v := ?_) rfl (by kernel_rfl) (by kernel_rfl) (by kernel_rfl) (by kernel_rfl) (fun _ _ _ h => h) (Or.inl ⟨by rfl, ?_⟩) (by exact S) ?_
  rotate_left 1
  · intro w hSw
    clear hSw
    go_simp
    try with_reducible rfl
  simp only [Act.put, List.setIfInBounds_toArray, List.set_cons_zero, List.set_cons_succ]
  refine Upto.take (i := 5) (oi := { dst := some 10, op := Op.load 3 (Operand.tmp 9), type := 3, pos := "reckon.go:20", after := #[{ on := 4, ground := Ground.data }], guard := none }) (v := _) rfl (by kernel_rfl) (by kernel_rfl) (by kernel_rfl) (by kernel_rfl) (fun _ _ _ h => h) (y_load1 (by rfl) _ _ rfl _ _ rfl 1 _ rfl _ rfl _ Tryz.underlying3 rfl) (by exact S) ?_
  simp only [Act.put, List.setIfInBounds_toArray, List.set_cons_zero, List.set_cons_succ]
  refine Upto.take (i := 6) (oi := { dst := some 11, op := Op.indexAddr 27 (Operand.tmp 3) (Operand.tmp 10), type := 0, pos := "reckon.go:20", after := #[{ on := 5, ground := Ground.data }], guard := none }) (v := ?_) rfl (by kernel_rfl) (by kernel_rfl) (by kernel_rfl) (by kernel_rfl) (fun _ _ _ h => h) (Or.inl ⟨by rfl, ?_⟩) (by exact S) ?_
  rotate_left 1
  · intro w hSw
    clear hSw
    go_simp
    try with_reducible rfl
  simp only [Act.put, List.setIfInBounds_toArray, List.set_cons_zero, List.set_cons_succ]
  refine Upto.take (i := 7) (oi := { dst := some 12, op := Op.load 26 (Operand.tmp 11), type := 26, pos := "reckon.go:20", after := #[{ on := 6, ground := Ground.data }], guard := none }) (v := _) rfl (by kernel_rfl) (by kernel_rfl) (by kernel_rfl) (by kernel_rfl) (fun _ _ _ h => h) (y_load1 (by rfl) _ _ rfl _ _ rfl 0 _ rfl _ (rc_at HB.out) _ Tryz.underlying26 rfl) (by exact S) ?_
  simp only [Act.put, List.setIfInBounds_toArray, List.set_cons_zero, List.set_cons_succ]
  refine Upto.take (i := 8) (oi := { dst := some 13, op := Op.binOp BinOp.xor 26 (Operand.tmp 8) (Operand.tmp 12) 26, type := 26, pos := "reckon.go:20", after := #[{ on := 3, ground := Ground.data }, { on := 7, ground := Ground.data }], guard := none }) (v := ?_) rfl (by kernel_rfl) (by kernel_rfl) (by kernel_rfl) (by kernel_rfl) (fun _ _ _ h => h) (Or.inl ⟨by rfl, ?_⟩) (by exact S) ?_
  rotate_left 1
  · intro w hSw
    clear hSw
    go_simp
    try with_reducible rfl
  simp only [Act.put, List.setIfInBounds_toArray, List.set_cons_zero, List.set_cons_succ]
  refine Upto.ready (rs := [9]) (by kernel_rfl) (by simp) ?_
  refine Nexts.last rfl (fun K hK => ?_)
  go_simp
  refine hK.out _ _ ?_
  clear hK K
  refine Upto.done (by kernel_rfl) ?_ _
  go_wp2
  go_ret
  exact ⟨by simp [reckS], S.low⟩
set_option maxHeartbeats 2000000 in
set_option maxRecDepth 100000 in
theorem rk12_c (h : HV) (R : List Int) (ho : HOk h) (hR : okR R) (w : World) : Calls Tryz.prog 52 #[(Cel.host h).val, (Cel.regs R).val] w fun e w' => e = .returned (.int .u32 (reckS 12 (regv R h.a) (regv R h.b) (regv R h.c) h.im)) ∧ Below w.heap.size w w' := by
  have S := SH.start w
  obtain ⟨⟨d0, d1⟩, ⟨a0, a1⟩, ⟨b0, b1⟩, ⟨c0, c1⟩, i0, i1⟩ := ho
  obtain ⟨hA, ua, va⟩ := regv_at hR a0 a1
  obtain ⟨hB, ub, vb⟩ := regv_at hR b0 b1
  obtain ⟨hC, uc, vc⟩ := regv_at hR c0 c1
  have hl := hR.1
  clear hR
  have HA : Hid (R[h.a.toNat]? = some (regv R h.a)) := hA
  have HB : Hid (R[h.b.toNat]? = some (regv R h.b)) := hB
  have HC : Hid (R[h.c.toNat]? = some (regv R h.c)) := hC
  clear hA hB hC
  generalize regv R h.a = x at *
  generalize regv R h.b = y at *
  generalize regv R h.c = z at *
  go_enter Tryz.func52, Tryz.ntmps52
  go_wp2_with (first
    | (refine S.box rfl _ _ rfl (Cel.host h) rfl ?_; clear S; intro q1 w1 S)
    | (refine S.box rfl _ _ rfl (Cel.regs R) rfl ?_; clear S; intro q2 w2 S))
  refine Upto.start (S := fun w' => SH noZ w w' [(q2, Cel.regs R), (q1, Cel.host h)]) 9 (by kernel_rfl) ?_
  replace S := S.drew
  refine Upto.take (i := 0) (oi := { dst := some 5, op := Op.fieldAddr 31 (Operand.tmp 2) 2, type := 0, pos := "reckon.go:25", after := #[], guard := none }) (v := ?_) rfl (by kernel_rfl) (by kernel_rfl) (by kernel_rfl) (by kernel_rfl) (fun _ _ _ h => h) (Or.inl ⟨by rfl, ?_⟩) (by exact S) ?_
  rotate_left 1
  · intro w hSw
    clear hSw
    go_simp
    try with_reducible rfl
  simp only [Act.put, List.setIfInBounds_toArray, List.set_cons_zero, List.set_cons_succ]
  refine Upto.take (i := 1) (oi := { dst := some 6, op := Op.load 3 (Operand.tmp 5), type := 3, pos := "reckon.go:25", after := #[{ on := 0, ground := Ground.data }], guard := none }) (v := _) rfl (by kernel_rfl) (by kernel_rfl) (by kernel_rfl) (by kernel_rfl) (fun _ _ _ h => h) (y_load1 (by rfl) _ _ rfl _ _ rfl 1 _ rfl _ rfl _ Tryz.underlying3 rfl) (by exact S) ?_
  simp only [Act.put, List.setIfInBounds_toArray, List.set_cons_zero, List.set_cons_succ]
  refine Upto.take (i := 2) (oi := { dst := some 7, op := Op.indexAddr 27 (Operand.tmp 3) (Operand.tmp 6), type := 0, pos := "reckon.go:25", after := #[{ on := 1, ground := Ground.data }], guard := none }) (v := ?_) rfl (by kernel_rfl) (by kernel_rfl) (by kernel_rfl) (by kernel_rfl) (fun _ _ _ h => h) (Or.inl ⟨by rfl, ?_⟩) (by exact S) ?_
  rotate_left 1
  · intro w hSw
    clear hSw
    go_simp
    try with_reducible rfl
  simp only [Act.put, List.setIfInBounds_toArray, List.set_cons_zero, List.set_cons_succ]
  refine Upto.take (i := 3) (oi := { dst := some 8, op := Op.load 26 (Operand.tmp 7), type := 26, pos := "reckon.go:25", after := #[{ on := 2, ground := Ground.data }], guard := none }) (v := _) rfl (by kernel_rfl) (by kernel_rfl) (by kernel_rfl) (by kernel_rfl) (fun _ _ _ h => h) (y_load1 (by rfl) _ _ rfl _ _ rfl 0 _ rfl _ (rc_at HA.out) _ Tryz.underlying26 rfl) (by exact S) ?_
  simp only [Act.put, List.setIfInBounds_toArray, List.set_cons_zero, List.set_cons_succ]
  refine Upto.take (i := 4) (oi := { dst := some 9, op := Op.fieldAddr 31 (Operand.tmp 2) 3, type := 0, pos := "reckon.go:25", after := #[], guard := none }) (v := ?_) rfl (by kernel_rfl) (by kernel_rfl) (by kernel_rfl) (by kernel_rfl) (fun _ _ _ h => h) (Or.inl ⟨by rfl, ?_⟩) (by exact S) ?_
  rotate_left 1
  · intro w hSw
    clear hSw
    go_simp
    try with_reducible rfl
  simp only [Act.put, List.setIfInBounds_toArray, List.set_cons_zero, List.set_cons_succ]
  refine Upto.take (i := 5) (oi := { dst := some 10, op := Op.load 3 (Operand.tmp 9), type := 3, pos := "reckon.go:25", after := #[{ on := 4, ground := Ground.data }], guard := none }) (v := _) rfl (by kernel_rfl) (by kernel_rfl) (by kernel_rfl) (by kernel_rfl) (fun _ _ _ h => h) (y_load1 (by rfl) _ _ rfl _ _ rfl 1 _ rfl _ rfl _ Tryz.underlying3 rfl) (by exact S) ?_
  simp only [Act.put, List.setIfInBounds_toArray, List.set_cons_zero, List.set_cons_succ]
  refine Upto.take (i := 6) (oi := { dst := some 11, op := Op.indexAddr 27 (Operand.tmp 3) (Operand.tmp 10), type := 0, pos := "reckon.go:25", after := #[{ on := 5, ground := Ground.data }], guard := none }) (v := ?_) rfl (by kernel_rfl) (by kernel_rfl) (by kernel_rfl) (by kernel_rfl) (fun _ _ _ h => h) (Or.inl ⟨by rfl, ?_⟩) (by exact S) ?_
  rotate_left 1
  · intro w hSw
    clear hSw
    go_simp
    try with_reducible rfl
  simp only [Act.put, List.setIfInBounds_toArray, List.set_cons_zero, List.set_cons_succ]
  refine Upto.take (i := 7) (oi := { dst := some 12, op := Op.load 26 (Operand.tmp 11), type := 26, pos := "reckon.go:25", after := #[{ on := 6, ground := Ground.data }], guard := none }) (v := _) rfl (by kernel_rfl) (by kernel_rfl) (by kernel_rfl) (by kernel_rfl) (fun _ _ _ h => h) (y_load1 (by rfl) _ _ rfl _ _ rfl 0 _ rfl _ (rc_at HB.out) _ Tryz.underlying26 rfl) (by exact S) ?_
  simp only [Act.put, List.setIfInBounds_toArray, List.set_cons_zero, List.set_cons_succ]
  refine Upto.take (i := 8) (oi := { dst := some 13, op := Op.binOp BinOp.mul 26 (Operand.tmp 8) (Operand.tmp 12) 26, type := 26, pos := "reckon.go:25", after := #[{ on := 3, ground := Ground.data }, { on := 7, ground := Ground.data }], guard := none }) (v := ?_) rfl (by kernel_rfl) (by kernel_rfl) (by kernel_rfl) (by kernel_rfl) (fun _ _ _ h => h) (Or.inl ⟨by rfl, ?_⟩) (by exact S) ?_
  rotate_left 1
  · intro w hSw
    clear hSw
    go_simp
    try with_reducible rfl
  simp only [Act.put, List.setIfInBounds_toArray, List.set_cons_zero, List.set_cons_succ]
  refine Upto.ready (rs := [9]) (by kernel_rfl) (by simp) ?_
  refine Nexts.last rfl (fun K hK => ?_)
  go_simp
  refine hK.out _ _ ?_
  clear hK K
  refine Upto.done (by kernel_rfl) ?_ _
  go_wp2
  go_ret
  exact ⟨by simp [reckS, IntKind.wrap_u32], S.low⟩
set_option maxHeartbeats 2000000 in
set_option maxRecDepth 100000 in
theorem rk15_c (h : HV) (R : List Int) (ho : HOk h) (hR : okR R) (w : World) : Calls Tryz.prog 56 #[(Cel.host h).val, (Cel.regs R).val] w fun e w' => e = .returned (.int .u32 (reckS 15 (regv R h.a) (regv R h.b) (regv R h.c) h.im)) ∧ Below w.heap.size w w' := by
  have S := SH.start w
  obtain ⟨⟨d0, d1⟩, ⟨a0, a1⟩, ⟨b0, b1⟩, ⟨c0, c1⟩, i0, i1⟩ := ho
  obtain ⟨hA, ua, va⟩ := regv_at hR a0 a1
  obtain ⟨hB, ub, vb⟩ := regv_at hR b0 b1
  obtain ⟨hC, uc, vc⟩ := regv_at hR c0 c1
  have hl := hR.1
  clear hR
  have HA : Hid (R[h.a.toNat]? = some (regv R h.a)) := hA
  have HB : Hid (R[h.b.toNat]? = some (regv R h.b)) := hB
  have HC : Hid (R[h.c.toNat]? = some (regv R h.c)) := hC
  clear hA hB hC
  generalize regv R h.a = x at *
  generalize regv R h.b = y at *
  generalize regv R h.c = z at *
  go_enter Tryz.func56, Tryz.ntmps56
  go_wp2_with (first
    | (refine S.box rfl _ _ rfl (Cel.host h) rfl ?_; clear S; intro q1 w1 S)
    | (refine S.box rfl _ _ rfl (Cel.regs R) rfl ?_; clear S; intro q2 w2 S))
  refine Upto.start (S := fun w' => SH noZ w w' [(q2, Cel.regs R), (q1, Cel.host h)]) 9 (by kernel_rfl) ?_
  replace S := S.drew
  refine Upto.take (i := 0) (oi := { dst := some 5, op := Op.fieldAddr 31 (Operand.tmp 2) 2, type := 0, pos := "reckon.go:28", after := #[], guard := none }) (v := ?_) rfl (by kernel_rfl) (by kernel_rfl) (by kernel_rfl) (by kernel_rfl) (fun _ _ _ h => h) (Or.inl ⟨by rfl, ?_⟩) (by exact S) ?_
  rotate_left 1
  · intro w hSw
    clear hSw
    go_simp
    try with_reducible rfl
  simp only [Act.put, List.setIfInBounds_toArray, List.set_cons_zero, List.set_cons_succ]
  refine Upto.take (i := 1) (oi := { dst := some 6, op := Op.load 3 (Operand.tmp 5), type := 3, pos := "reckon.go:28", after := #[{ on := 0, ground := Ground.data }], guard := none }) (v := _) rfl (by kernel_rfl) (by kernel_rfl) (by kernel_rfl) (by kernel_rfl) (fun _ _ _ h => h) (y_load1 (by rfl) _ _ rfl _ _ rfl 1 _ rfl _ rfl _ Tryz.underlying3 rfl) (by exact S) ?_
  simp only [Act.put, List.setIfInBounds_toArray, List.set_cons_zero, List.set_cons_succ]
  refine Upto.take (i := 2) (oi := { dst := some 7, op := Op.indexAddr 27 (Operand.tmp 3) (Operand.tmp 6), type := 0, pos := "reckon.go:28", after := #[{ on := 1, ground := Ground.data }], guard := none }) (v := ?_) rfl (by kernel_rfl) (by kernel_rfl) (by kernel_rfl) (by kernel_rfl) (fun _ _ _ h => h) (Or.inl ⟨by rfl, ?_⟩) (by exact S) ?_
  rotate_left 1
  · intro w hSw
    clear hSw
    go_simp
    try with_reducible rfl
  simp only [Act.put, List.setIfInBounds_toArray, List.set_cons_zero, List.set_cons_succ]
  refine Upto.take (i := 3) (oi := { dst := some 8, op := Op.load 26 (Operand.tmp 7), type := 26, pos := "reckon.go:28", after := #[{ on := 2, ground := Ground.data }], guard := none }) (v := _) rfl (by kernel_rfl) (by kernel_rfl) (by kernel_rfl) (by kernel_rfl) (fun _ _ _ h => h) (y_load1 (by rfl) _ _ rfl _ _ rfl 0 _ rfl _ (rc_at HA.out) _ Tryz.underlying26 rfl) (by exact S) ?_
  simp only [Act.put, List.setIfInBounds_toArray, List.set_cons_zero, List.set_cons_succ]
  refine Upto.take (i := 4) (oi := { dst := some 9, op := Op.fieldAddr 31 (Operand.tmp 2) 3, type := 0, pos := "reckon.go:28", after := #[], guard := none }) (v := ?_) rfl (by kernel_rfl) (by kernel_rfl) (by kernel_rfl) (by kernel_rfl) (fun _ _ _ h => h) (Or.inl ⟨by rfl, ?_⟩) (by exact S) ?_
  rotate_left 1
  · intro w hSw
    clear hSw
    go_simp
    try with_reducible rfl
  simp only [Act.put, List.setIfInBounds_toArray, List.set_cons_zero, List.set_cons_succ]
  refine Upto.take (i := 5) (oi := { dst := some 10, op := Op.load 3 (Operand.tmp 9), type := 3, pos := "reckon.go:28", after := #[{ on := 4, ground := Ground.data }], guard := none }) (v := _) rfl (by kernel_rfl) (by kernel_rfl) (by kernel_rfl) (by kernel_rfl) (fun _ _ _ h => h) (y_load1 (by rfl) _ _ rfl _ _ rfl 1 _ rfl _ rfl _ Tryz.underlying3 rfl) (by exact S) ?_
  simp only [Act.put, List.setIfInBounds_toArray, List.set_cons_zero, List.set_cons_succ]
  refine Upto.take (i := 6) (oi := { dst := some 11, op := Op.indexAddr 27 (Operand.tmp 3) (Operand.tmp 10), type := 0, pos := "reckon.go:28", after := #[{ on := 5, ground := Ground.data }], guard := none }) (v := ?_) rfl (by kernel_rfl) (by kernel_rfl) (by kernel_rfl) (by kernel_rfl) (fun _ _ _ h => h) (Or.inl ⟨by rfl, ?_⟩) (by exact S) ?_
  rotate_left 1
  · intro w hSw
    clear hSw
    go_simp
    try with_reducible rfl
  simp only [Act.put, List.setIfInBounds_toArray, List.set_cons_zero, List.set_cons_succ]
  refine Upto.take (i := 7) (oi := { dst := some 12, op := Op.load 26 (Operand.tmp 11), type := 26, pos := "reckon.go:28", after := #[{ on := 6, ground := Ground.data }], guard := none }) (v := _) rfl (by kernel_rfl) (by kernel_rfl) (by kernel_rfl) (by kernel_rfl) (fun _ _ _ h => h) (y_load1 (by rfl) _ _ rfl _ _ rfl 0 _ rfl _ (rc_at HB.out) _ Tryz.underlying26 rfl) (by exact S) ?_
  simp only [Act.put, List.setIfInBounds_toArray, List.set_cons_zero, List.set_cons_succ]
  refine Upto.ready (rs := [8]) (by kernel_rfl) (by simp) ?_
  refine Nexts.cons rfl (by decide) (fun K hK => ?_) Nexts.nil
  go_simp
  go_wp2_with (refine (divu_c _ _ (by assumption) (by assumption) (by assumption) (by assumption) _).mono ?_; rintro e w8 ⟨rfl, rfl⟩)
  refine hK.out _ _ (by exact S) ?_
  clear hK K
  refine Upto.ready (rs := [9]) (by kernel_rfl) (by simp) ?_
  refine Nexts.last rfl (fun K hK => ?_)
  go_simp
  refine hK.out _ _ ?_
  clear hK K
  refine Upto.done (by kernel_rfl) ?_ _
  go_wp2
  go_ret
  exact ⟨by simp [reckS], S.low⟩
set_option maxHeartbeats 2000000 in
set_option maxRecDepth 100000 in
theorem rk16_c (h : HV) (R : List Int) (ho : HOk h) (hR : okR R) (w : World) : Calls Tryz.prog 58 #[(Cel.host h).val, (Cel.regs R).val] w fun e w' => e = .returned (.int .u32 (reckS 16 (regv R h.a) (regv R h.b) (regv R h.c) h.im)) ∧ Below w.heap.size w w' := by
  have S := SH.start w
  obtain ⟨⟨d0, d1⟩, ⟨a0, a1⟩, ⟨b0, b1⟩, ⟨c0, c1⟩, i0, i1⟩ := ho
  obtain ⟨hA, ua, va⟩ := regv_at hR a0 a1
  obtain ⟨hB, ub, vb⟩ := regv_at hR b0 b1
  obtain ⟨hC, uc, vc⟩ := regv_at hR c0 c1
  have hl := hR.1
  clear hR
  have HA : Hid (R[h.a.toNat]? = some (regv R h.a)) := hA
  have HB : Hid (R[h.b.toNat]? = some (regv R h.b)) := hB
  have HC : Hid (R[h.c.toNat]? = some (regv R h.c)) := hC
  clear hA hB hC
  generalize regv R h.a = x at *
  generalize regv R h.b = y at *
  generalize regv R h.c = z at *
  go_enter Tryz.func58, Tryz.ntmps58
  go_wp2_with (first
    | (refine S.box rfl _ _ rfl (Cel.host h) rfl ?_; clear S; intro q1 w1 S)
    | (refine S.box rfl _ _ rfl (Cel.regs R) rfl ?_; clear S; intro q2 w2 S))
  refine Upto.start (S := fun w' => SH noZ w w' [(q2, Cel.regs R), (q1, Cel.host h)]) 9 (by kernel_rfl) ?_
  replace S := S.drew
  refine Upto.take (i := 0) (oi := { dst := some 5, op := Op.fieldAddr 31 (Operand.tmp 2) 2, type := 0, pos := "reckon.go:29", after := #[], guard := none }) (v := ?_) rfl (by kernel_rfl) (by kernel_rfl) (by kernel_rfl) (by kernel_rfl) (fun _ _ _ h => h) (Or.inl ⟨by rfl, ?_⟩) (by exact S) ?_
  rotate_left 1
  · intro w hSw
    clear hSw
    go_simp
    try with_reducible rfl
  simp only [Act.put, List.setIfInBounds_toArray, List.set_cons_zero, List.set_cons_succ]
  refine Upto.take (i := 1) (oi := { dst := some 6, op := Op.load 3 (Operand.tmp 5), type := 3, pos := "reckon.go:29", after := #[{ on := 0, ground := Ground.data }], guard := none }) (v := _) rfl (by kernel_rfl) (by kernel_rfl) (by kernel_rfl) (by kernel_rfl) (fun _ _ _ h => h) (y_load1 (by rfl) _ _ rfl _ _ rfl 1 _ rfl _ rfl _ Tryz.underlying3 rfl) (by exact S) ?_
  simp only [Act.put, List.setIfInBounds_toArray, List.set_cons_zero, List.set_cons_succ]
  refine Upto.take (i := 2) (oi := { dst := some 7, op := Op.indexAddr 27 (Operand.tmp 3) (Operand.tmp 6), type := 0, pos := "reckon.go:29", after := #[{ on := 1, ground := Ground.data }], guard := none }) (v := ?_) rfl (by kernel_rfl) (by kernel_rfl) (by kernel_rfl) (by kernel_rfl) (fun _ _ _ h => h) (Or.inl ⟨by rfl, ?_⟩) (by exact S) ?_
  rotate_left 1
  · intro w hSw
    clear hSw
    go_simp
    try with_reducible rfl
  simp only [Act.put, List.setIfInBounds_toArray, List.set_cons_zero, List.set_cons_succ]
  refine Upto.take (i := 3) (oi := { dst := some 8, op := Op.load 26 (Operand.tmp 7), type := 26, pos := "reckon.go:29", after := #[{ on := 2, ground := Ground.data }], guard := none }) (v := _) rfl (by kernel_rfl) (by kernel_rfl) (by kernel_rfl) (by kernel_rfl) (fun _ _ _ h => h) (y_load1 (by rfl) _ _ rfl _ _ rfl 0 _ rfl _ (rc_at HA.out) _ Tryz.underlying26 rfl) (by exact S) ?_
  simp only [Act.put, List.setIfInBounds_toArray, List.set_cons_zero, List.set_cons_succ]
  refine Upto.take (i := 4) (oi := { dst := some 9, op := Op.fieldAddr 31 (Operand.tmp 2) 3, type := 0, pos := "reckon.go:29", after := #[], guard := none }) (v := ?_) rfl (by kernel_rfl) (by kernel_rfl) (by kernel_rfl) (by kernel_rfl) (fun _ _ _ h => h) (Or.inl ⟨by rfl, ?_⟩) (by exact S) ?_
  rotate_left 1
  · intro w hSw
    clear hSw
    go_simp
    try with_reducible rfl
  simp only [Act.put, List.setIfInBounds_toArray, List.set_cons_zero, List.set_cons_succ]
  refine Upto.take (i := 5) (oi := { dst := some 10, op := Op.load 3 (Operand.tmp 9), type := 3, pos := "reckon.go:29", after := #[{ on := 4, ground := Ground.data }], guard := none }) (v := _) rfl (by kernel_rfl) (by kernel_rfl) (by kernel_rfl) (by kernel_rfl) (fun _ _ _ h => h) (y_load1 (by rfl) _ _ rfl _ _ rfl 1 _ rfl _ rfl _ Tryz.underlying3 rfl) (by exact S) ?_
  simp only [Act.put, List.setIfInBounds_toArray, List.set_cons_zero, List.set_cons_succ]
  refine Upto.take (i := 6) (oi := { dst := some 11, op := Op.indexAddr 27 (Operand.tmp 3) (Operand.tmp 10), type := 0, pos := "reckon.go:29", after := #[{ on := 5, ground := Ground.data }], guard := none }) (v := ?_) rfl (by kernel_rfl) (by kernel_rfl) (by kernel_rfl) (by kernel_rfl) (fun _ _ _ h => h) (Or.inl ⟨by rfl, ?_⟩) (by exact S) ?_
  rotate_left 1
  · intro w hSw
    clear hSw
    go_simp
    try with_reducible rfl
  simp only [Act.put, List.setIfInBounds_toArray, List.set_cons_zero, List.set_cons_succ]
  refine Upto.take (i := 7) (oi := { dst := some 12, op := Op.load 26 (Operand.tmp 11), type := 26, pos := "reckon.go:29", after := #[{ on := 6, ground := Ground.data }], guard := none }) (v := _) rfl (by kernel_rfl) (by kernel_rfl) (by kernel_rfl) (by kernel_rfl) (fun _ _ _ h => h) (y_load1 (by rfl) _ _ rfl _ _ rfl 0 _ rfl _ (rc_at HB.out) _ Tryz.underlying26 rfl) (by exact S) ?_
  simp only [Act.put, List.setIfInBounds_toArray, List.set_cons_zero, List.set_cons_succ]
  refine Upto.ready (rs := [8]) (by kernel_rfl) (by simp) ?_
  refine Nexts.cons rfl (by decide) (fun K hK => ?_) Nexts.nil
  go_simp
  go_wp2_with (refine (divs_c _ _ (by assumption) (by assumption) (by assumption) (by assumption) _).mono ?_; rintro e w8 ⟨rfl, rfl⟩)
  refine hK.out _ _ (by exact S) ?_
  clear hK K
  refine Upto.ready (rs := [9]) (by kernel_rfl) (by simp) ?_
  refine Nexts.last rfl (fun K hK => ?_)
  go_simp
  refine hK.out _ _ ?_
  clear hK K
  refine Upto.done (by kernel_rfl) ?_ _
  go_wp2
  go_ret
  exact ⟨by simp [reckS], S.low⟩
set_option maxHeartbeats 2000000 in
set_option maxRecDepth 100000 in
theorem rk18_c (h : HV) (R : List Int) (ho : HOk h) (hR : okR R) (w : World) : Calls Tryz.prog 62 #[(Cel.host h).val, (Cel.regs R).val] w fun e w' => e = .returned (.int .u32 (reckS 18 (regv R h.a) (regv R h.b) (regv R h.c) h.im)) ∧ Below w.heap.size w w' := by
  have S := SH.start w
  obtain ⟨⟨d0, d1⟩, ⟨a0, a1⟩, ⟨b0, b1⟩, ⟨c0, c1⟩, i0, i1⟩ := ho
  obtain ⟨hA, ua, va⟩ := regv_at hR a0 a1
  obtain ⟨hB, ub, vb⟩ := regv_at hR b0 b1
  obtain ⟨hC, uc, vc⟩ := regv_at hR c0 c1
  have hl := hR.1
  clear hR
  have HA : Hid (R[h.a.toNat]? = some (regv R h.a)) := hA
  have HB : Hid (R[h.b.toNat]? = some (regv R h.b)) := hB
  have HC : Hid (R[h.c.toNat]? = some (regv R h.c)) := hC
  clear hA hB hC
  generalize regv R h.a = x at *
  generalize regv R h.b = y at *
  generalize regv R h.c = z at *
  go_enter Tryz.func62, Tryz.ntmps62
  go_wp2_with (first
    | (refine S.box rfl _ _ rfl (Cel.host h) rfl ?_; clear S; intro q1 w1 S)
    | (refine S.box rfl _ _ rfl (Cel.regs R) rfl ?_; clear S; intro q2 w2 S))
  refine Upto.start (S := fun w' => SH noZ w w' [(q2, Cel.regs R), (q1, Cel.host h)]) 10 (by kernel_rfl) ?_
  replace S := S.drew
  refine Upto.take (i := 0) (oi := { dst := some 5, op := Op.fieldAddr 31 (Operand.tmp 2) 2, type := 0, pos := "reckon.go:31", after := #[], guard := none }) (v := ?_) rfl (by kernel_rfl) (by kernel_rfl) (by kernel_rfl) (by kernel_rfl) (fun _ _ _ h => h) (Or.inl ⟨by rfl, ?_⟩) (by exact S) ?_
  rotate_left 1
  · intro w hSw
    clear hSw
    go_simp
    try with_reducible rfl
  simp only [Act.put, List.setIfInBounds_toArray, List.set_cons_zero, List.set_cons_succ]
  refine Upto.take (i := 1) (oi := { dst := some 6, op := Op.load 3 (Operand.tmp 5), type := 3, pos := "reckon.go:31", after := #[{ on := 0, ground := Ground.data }], guard := none }) (v := _) rfl (by kernel_rfl) (by kernel_rfl) (by kernel_rfl) (by kernel_rfl) (fun _ _ _ h => h) (y_load1 (by rfl) _ _ rfl _ _ rfl 1 _ rfl _ rfl _ Tryz.underlying3 rfl) (by exact S) ?_
  simp only [Act.put, List.setIfInBounds_toArray, List.set_cons_zero, List.set_cons_succ]
  refine Upto.take (i := 2) (oi := { dst := some 7, op := Op.indexAddr 27 (Operand.tmp 3) (Operand.tmp 6), type := 0, pos := "reckon.go:31", after := #[{ on := 1, ground := Ground.data }], guard := none }) (v := ?_) rfl (by kernel_rfl) (by kernel_rfl) (by kernel_rfl) (by kernel_rfl) (fun _ _ _ h => h) (Or.inl ⟨by rfl, ?_⟩) (by exact S) ?_
  rotate_left 1
  · intro w hSw
    clear hSw
    go_simp
    try with_reducible rfl
  simp only [Act.put, List.setIfInBounds_toArray, List.set_cons_zero, List.set_cons_succ]
  refine Upto.take (i := 3) (oi := { dst := some 8, op := Op.load 26 (Operand.tmp 7), type := 26, pos := "reckon.go:31", after := #[{ on := 2, ground := Ground.data }], guard := none }) (v := _) rfl (by kernel_rfl) (by kernel_rfl) (by kernel_rfl) (by kernel_rfl) (fun _ _ _ h => h) (y_load1 (by rfl) _ _ rfl _ _ rfl 0 _ rfl _ (rc_at HA.out) _ Tryz.underlying26 rfl) (by exact S) ?_
  simp only [Act.put, List.setIfInBounds_toArray, List.set_cons_zero, List.set_cons_succ]
  refine Upto.take (i := 4) (oi := { dst := some 9, op := Op.fieldAddr 31 (Operand.tmp 2) 3, type := 0, pos := "reckon.go:31", after := #[], guard := none }) (v := ?_) rfl (by kernel_rfl) (by kernel_rfl) (by kernel_rfl) (by kernel_rfl) (fun _ _ _ h => h) (Or.inl ⟨by rfl, ?_⟩) (by exact S) ?_
  rotate_left 1
  · intro w hSw
    clear hSw
    go_simp
    try with_reducible rfl
  simp only [Act.put, List.setIfInBounds_toArray, List.set_cons_zero, List.set_cons_succ]
  refine Upto.take (i := 5) (oi := { dst := some 10, op := Op.load 3 (Operand.tmp 9), type := 3, pos := "reckon.go:31", after := #[{ on := 4, ground := Ground.data }], guard := none }) (v := _) rfl (by kernel_rfl) (by kernel_rfl) (by kernel_rfl) (by kernel_rfl) (fun _ _ _ h => h) (y_load1 (by rfl) _ _ rfl _ _ rfl 1 _ rfl _ rfl _ Tryz.underlying3 rfl) (by exact S) ?_
  simp only [Act.put, List.setIfInBounds_toArray, List.set_cons_zero, List.set_cons_succ]
  refine Upto.take (i := 6) (oi := { dst := some 11, op := Op.indexAddr 27 (Operand.tmp 3) (Operand.tmp 10), type := 0, pos := "reckon.go:31", after := #[{ on := 5, ground := Ground.data }], guard := none }) (v := ?_) rfl (by kernel_rfl) (by kernel_rfl) (by kernel_rfl) (by kernel_rfl) (fun _ _ _ h => h) (Or.inl ⟨by rfl, ?_⟩) (by exact S) ?_
  rotate_left 1
  · intro w hSw
    clear hSw
    go_simp
    try with_reducible rfl
  simp only [Act.put, List.setIfInBounds_toArray, List.set_cons_zero, List.set_cons_succ]
  refine Upto.take (i := 7) (oi := { dst := some 12, op := Op.load 26 (Operand.tmp 11), type := 26, pos := "reckon.go:31", after := #[{ on := 6, ground := Ground.data }], guard := none }) (v := _) rfl (by kernel_rfl) (by kernel_rfl) (by kernel_rfl) (by kernel_rfl) (fun _ _ _ h => h) (y_load1 (by rfl) _ _ rfl _ _ rfl 0 _ rfl _ (rc_at HB.out) _ Tryz.underlying26 rfl) (by exact S) ?_
  simp only [Act.put, List.setIfInBounds_toArray, List.set_cons_zero, List.set_cons_succ]
  refine Upto.take (i := 8) (oi := { dst := some 13, op := Op.binOp BinOp.lss 26 (Operand.tmp 8) (Operand.tmp 12) 26, type := 4, pos := "reckon.go:31", after := #[{ on := 3, ground := Ground.data }, { on := 7, ground := Ground.data }], guard := none }) (v := ?_) rfl (by kernel_rfl) (by kernel_rfl) (by kernel_rfl) (by kernel_rfl) (fun _ _ _ h => h) (Or.inl ⟨by rfl, ?_⟩) (by exact S) ?_
  rotate_left 1
  · intro w hSw
    clear hSw
    go_simp
    try with_reducible rfl
  simp only [Act.put, List.setIfInBounds_toArray, List.set_cons_zero, List.set_cons_succ]
  refine Upto.ready (rs := [9]) (by kernel_rfl) (by simp) ?_
  refine Nexts.cons rfl (by decide) (fun K hK => ?_) Nexts.nil
  go_simp
  go_wp2_with (refine (hone_c _ _).mono ?_; rintro e w8 ⟨rfl, rfl⟩)
  refine hK.out _ _ (by exact S) ?_
  clear hK K
  refine Upto.ready (rs := [10]) (by kernel_rfl) (by simp) ?_
  refine Nexts.last rfl (fun K hK => ?_)
  go_simp
  refine hK.out _ _ ?_
  clear hK K
  refine Upto.done (by kernel_rfl) ?_ _
  go_wp2
  go_ret
  exact ⟨by simp [reckS, oneB], S.low⟩
set_option maxHeartbeats 2000000 in
set_option maxRecDepth 100000 in
theorem rk20_c (h : HV) (R : List Int) (ho : HOk h) (hR : okR R) (w : World) : Calls Tryz.prog 65 #[(Cel.host h).val, (Cel.regs R).val] w fun e w' => e = .returned (.int .u32 (reckS 20 (regv R h.a) (regv R h.b) (regv R h.c) h.im)) ∧ Below w.heap.size w w' := by
  have S := SH.start w
  obtain ⟨⟨d0, d1⟩, ⟨a0, a1⟩, ⟨b0, b1⟩, ⟨c0, c1⟩, i0, i1⟩ := ho
  obtain ⟨hA, ua, va⟩ := regv_at hR a0 a1
  obtain ⟨hB, ub, vb⟩ := regv_at hR b0 b1
  obtain ⟨hC, uc, vc⟩ := regv_at hR c0 c1
  have hl := hR.1
  clear hR
  have HA : Hid (R[h.a.toNat]? = some (regv R h.a)) := hA
  have HB : Hid (R[h.b.toNat]? = some (regv R h.b)) := hB
  have HC : Hid (R[h.c.toNat]? = some (regv R h.c)) := hC
  clear hA hB hC
  generalize regv R h.a = x at *
  generalize regv R h.b = y at *
  generalize regv R h.c = z at *
  go_enter Tryz.func65, Tryz.ntmps65
  go_wp2_with (first
    | (refine S.box rfl _ _ rfl (Cel.host h) rfl ?_; clear S; intro q1 w1 S)
    | (refine S.box rfl _ _ rfl (Cel.regs R) rfl ?_; clear S; intro q2 w2 S))
  refine Upto.start (S := fun w' => SH noZ w w' [(q2, Cel.regs R), (q1, Cel.host h)]) 10 (by kernel_rfl) ?_
  replace S := S.drew
  refine Upto.take (i := 0) (oi := { dst := some 5, op := Op.fieldAddr 31 (Operand.tmp 2) 2, type := 0, pos := "reckon.go:33", after := #[], guard := none }) (v := ?_) rfl (by kernel_rfl) (by kernel_rfl) (by kernel_rfl) (by kernel_rfl) (fun _ _ _ h => h) (Or.inl ⟨by rfl, ?_⟩) (by exact S) ?_
  rotate_left 1
  · intro w hSw
    clear hSw
    go_simp
    try with_reducible rfl
  simp only [Act.put, List.setIfInBounds_toArray, List.set_cons_zero, List.set_cons_succ]
  refine Upto.take (i := 1) (oi := { dst := some 6, op := Op.load 3 (Operand.tmp 5), type := 3, pos := "reckon.go:33", after := #[{ on := 0, ground := Ground.data }], guard := none }) (v := _) rfl (by kernel_rfl) (by kernel_rfl) (by kernel_rfl) (by kernel_rfl) (fun _ _ _ h => h) (y_load1 (by rfl) _ _ rfl _ _ rfl 1 _ rfl _ rfl _ Tryz.underlying3 rfl) (by exact S) ?_
  simp only [Act.put, List.setIfInBounds_toArray, List.set_cons_zero, List.set_cons_succ]
  refine Upto.take (i := 2) (oi := { dst := some 7, op := Op.indexAddr 27 (Operand.tmp 3) (Operand.tmp 6), type := 0, pos := "reckon.go:33", after := #[{ on := 1, ground := Ground.data }], guard := none }) (v := ?_) rfl (by kernel_rfl) (by kernel_rfl) (by kernel_rfl) (by kernel_rfl) (fun _ _ _ h => h) (Or.inl ⟨by rfl, ?_⟩) (by exact S) ?_
  rotate_left 1
  · intro w hSw
    clear hSw
    go_simp
    try with_reducible rfl
  simp only [Act.put, List.setIfInBounds_toArray, List.set_cons_zero, List.set_cons_succ]
  refine Upto.take (i := 3) (oi := { dst := some 8, op := Op.load 26 (Operand.tmp 7), type := 26, pos := "reckon.go:33", after := #[{ on := 2, ground := Ground.data }], guard := none }) (v := _) rfl (by kernel_rfl) (by kernel_rfl) (by kernel_rfl) (by kernel_rfl) (fun _ _ _ h => h) (y_load1 (by rfl) _ _ rfl _ _ rfl 0 _ rfl _ (rc_at HA.out) _ Tryz.underlying26 rfl) (by exact S) ?_
  simp only [Act.put, List.setIfInBounds_toArray, List.set_cons_zero, List.set_cons_succ]
  refine Upto.take (i := 4) (oi := { dst := some 9, op := Op.fieldAddr 31 (Operand.tmp 2) 3, type := 0, pos := "reckon.go:33", after := #[], guard := none }) (v := ?_) rfl (by kernel_rfl) (by kernel_rfl) (by kernel_rfl) (by kernel_rfl) (fun _ _ _ h => h) (Or.inl ⟨by rfl, ?_⟩) (by exact S) ?_
  rotate_left 1
  · intro w hSw
    clear hSw
    go_simp
    try with_reducible rfl
  simp only [Act.put, List.setIfInBounds_toArray, List.set_cons_zero, List.set_cons_succ]
  refine Upto.take (i := 5) (oi := { dst := some 10, op := Op.load 3 (Operand.tmp 9), type := 3, pos := "reckon.go:33", after := #[{ on := 4, ground := Ground.data }], guard := none }) (v := _) rfl (by kernel_rfl) (by kernel_rfl) (by kernel_rfl) (by kernel_rfl) (fun _ _ _ h => h) (y_load1 (by rfl) _ _ rfl _ _ rfl 1 _ rfl _ rfl _ Tryz.underlying3 rfl) (by exact S) ?_
  simp only [Act.put, List.setIfInBounds_toArray, List.set_cons_zero, List.set_cons_succ]
  refine Upto.take (i := 6) (oi := { dst := some 11, op := Op.indexAddr 27 (Operand.tmp 3) (Operand.tmp 10), type := 0, pos := "reckon.go:33", after := #[{ on := 5, ground := Ground.data }], guard := none }) (v := ?_) rfl (by kernel_rfl) (by kernel_rfl) (by kernel_rfl) (by kernel_rfl) (fun _ _ _ h => h) (Or.inl ⟨by rfl, ?_⟩) (by exact S) ?_
  rotate_left 1
  · intro w hSw
    clear hSw
    go_simp
    try with_reducible rfl
  simp only [Act.put, List.setIfInBounds_toArray, List.set_cons_zero, List.set_cons_succ]
  refine Upto.take (i := 7) (oi := { dst := some 12, op := Op.load 26 (Operand.tmp 11), type := 26, pos := "reckon.go:33", after := #[{ on := 6, ground := Ground.data }], guard := none }) (v := _) rfl (by kernel_rfl) (by kernel_rfl) (by kernel_rfl) (by kernel_rfl) (fun _ _ _ h => h) (y_load1 (by rfl) _ _ rfl _ _ rfl 0 _ rfl _ (rc_at HB.out) _ Tryz.underlying26 rfl) (by exact S) ?_
  simp only [Act.put, List.setIfInBounds_toArray, List.set_cons_zero, List.set_cons_succ]
  refine Upto.take (i := 8) (oi := { dst := some 13, op := Op.binOp BinOp.eql 26 (Operand.tmp 8) (Operand.tmp 12) 26, type := 4, pos := "reckon.go:33", after := #[{ on := 3, ground := Ground.data }, { on := 7, ground := Ground.data }], guard := none }) (v := ?_) rfl (by kernel_rfl) (by kernel_rfl) (by kernel_rfl) (by kernel_rfl) (fun _ _ _ h => h) (Or.inl ⟨by rfl, ?_⟩) (by exact S) ?_
  rotate_left 1
  · intro w hSw
    clear hSw
    go_simp
    try with_reducible rfl
  simp only [Act.put, List.setIfInBounds_toArray, List.set_cons_zero, List.set_cons_succ]
  refine Upto.ready (rs := [9]) (by kernel_rfl) (by simp) ?_
  refine Nexts.cons rfl (by decide) (fun K hK => ?_) Nexts.nil
  go_simp
  go_wp2_with (refine (hone_c _ _).mono ?_; rintro e w8 ⟨rfl, rfl⟩)
  refine hK.out _ _ (by exact S) ?_
  clear hK K
  refine Upto.ready (rs := [10]) (by kernel_rfl) (by simp) ?_
  refine Nexts.last rfl (fun K hK => ?_)
  go_simp
  refine hK.out _ _ ?_
  clear hK K
  refine Upto.done (by kernel_rfl) ?_ _
  go_wp2
  go_ret
  exact ⟨by simp [reckS, oneB], S.low⟩
set_option maxHeartbeats 2000000 in
set_option maxRecDepth 100000 in
theorem rk19_c (h : HV) (R : List Int) (ho : HOk h) (hR : okR R) (w : World) : Calls Tryz.prog 64 #[(Cel.host h).val, (Cel.regs R).val] w fun e w' => e = .returned (.int .u32 (reckS 19 (regv R h.a) (regv R h.b) (regv R h.c) h.im)) ∧ Below w.heap.size w w' := by
  have S := SH.start w
  obtain ⟨⟨d0, d1⟩, ⟨a0, a1⟩, ⟨b0, b1⟩, ⟨c0, c1⟩, i0, i1⟩ := ho
  obtain ⟨hA, ua, va⟩ := regv_at hR a0 a1
  obtain ⟨hB, ub, vb⟩ := regv_at hR b0 b1
  obtain ⟨hC, uc, vc⟩ := regv_at hR c0 c1
  have hl := hR.1
  clear hR
  have HA : Hid (R[h.a.toNat]? = some (regv R h.a)) := hA
  have HB : Hid (R[h.b.toNat]? = some (regv R h.b)) := hB
  have HC : Hid (R[h.c.toNat]? = some (regv R h.c)) := hC
  clear hA hB hC
  generalize regv R h.a = x at *
  generalize regv R h.b = y at *
  generalize regv R h.c = z at *
  go_enter Tryz.func64, Tryz.ntmps64
  go_wp2_with (first
    | (refine S.box rfl _ _ rfl (Cel.host h) rfl ?_; clear S; intro q1 w1 S)
    | (refine S.box rfl _ _ rfl (Cel.regs R) rfl ?_; clear S; intro q2 w2 S))
  refine Upto.start (S := fun w' => SH noZ w w' [(q2, Cel.regs R), (q1, Cel.host h)]) 12 (by kernel_rfl) ?_
  replace S := S.drew
  refine Upto.take (i := 0) (oi := { dst := some 5, op := Op.fieldAddr 31 (Operand.tmp 2) 2, type := 0, pos := "reckon.go:32", after := #[], guard := none }) (v := ?_) rfl (by kernel_rfl) (by kernel_rfl) (by kernel_rfl) (by kernel_rfl) (fun _ _ _ h => h) (Or.inl ⟨by rfl, ?_⟩) (by exact S) ?_
  rotate_left 1
  · intro w hSw
    clear hSw
    go_simp
    try with_reducible rfl
  simp only [Act.put, List.setIfInBounds_toArray, List.set_cons_zero, List.set_cons_succ]
  refine Upto.take (i := 1) (oi := { dst := some 6, op := Op.load 3 (Operand.tmp 5), type := 3, pos := "reckon.go:32", after := #[{ on := 0, ground := Ground.data }], guard := none }) (v := _) rfl (by kernel_rfl) (by kernel_rfl) (by kernel_rfl) (by kernel_rfl) (fun _ _ _ h => h) (y_load1 (by rfl) _ _ rfl _ _ rfl 1 _ rfl _ rfl _ Tryz.underlying3 rfl) (by exact S) ?_
  simp only [Act.put, List.setIfInBounds_toArray, List.set_cons_zero, List.set_cons_succ]
  refine Upto.take (i := 2) (oi := { dst := some 7, op := Op.indexAddr 27 (Operand.tmp 3) (Operand.tmp 6), type := 0, pos := "reckon.go:32", after := #[{ on := 1, ground := Ground.data }], guard := none }) (v := ?_) rfl (by kernel_rfl) (by kernel_rfl) (by kernel_rfl) (by kernel_rfl) (fun _ _ _ h => h) (Or.inl ⟨by rfl, ?_⟩) (by exact S) ?_
  rotate_left 1
  · intro w hSw
    clear hSw
    go_simp
    try with_reducible rfl
  simp only [Act.put, List.setIfInBounds_toArray, List.set_cons_zero, List.set_cons_succ]
  refine Upto.take (i := 3) (oi := { dst := some 8, op := Op.load 26 (Operand.tmp 7), type := 26, pos := "reckon.go:32", after := #[{ on := 2, ground := Ground.data }], guard := none }) (v := _) rfl (by kernel_rfl) (by kernel_rfl) (by kernel_rfl) (by kernel_rfl) (fun _ _ _ h => h) (y_load1 (by rfl) _ _ rfl _ _ rfl 0 _ rfl _ (rc_at HA.out) _ Tryz.underlying26 rfl) (by exact S) ?_
  simp only [Act.put, List.setIfInBounds_toArray, List.set_cons_zero, List.set_cons_succ]
  refine Upto.take (i := 4) (oi := { dst := some 9, op := Op.convert 26 21 (Operand.tmp 8), type := 21, pos := "reckon.go:32", after := #[{ on := 3, ground := Ground.data }], guard := none }) (v := ?_) rfl (by kernel_rfl) (by kernel_rfl) (by kernel_rfl) (by kernel_rfl) (fun _ _ _ h => h) (Or.inl ⟨by rfl, ?_⟩) (by exact S) ?_
  rotate_left 1
  · intro w hSw
    clear hSw
    go_simp
    try with_reducible rfl
  simp only [Act.put, List.setIfInBounds_toArray, List.set_cons_zero, List.set_cons_succ]
  refine Upto.take (i := 5) (oi := { dst := some 10, op := Op.fieldAddr 31 (Operand.tmp 2) 3, type := 0, pos := "reckon.go:32", after := #[], guard := none }) (v := ?_) rfl (by kernel_rfl) (by kernel_rfl) (by kernel_rfl) (by kernel_rfl) (fun _ _ _ h => h) (Or.inl ⟨by rfl, ?_⟩) (by exact S) ?_
  rotate_left 1
  · intro w hSw
    clear hSw
    go_simp
    try with_reducible rfl
  simp only [Act.put, List.setIfInBounds_toArray, List.set_cons_zero, List.set_cons_succ]
  refine Upto.take (i := 6) (oi := { dst := some 11, op := Op.load 3 (Operand.tmp 10), type := 3, pos := "reckon.go:32", after := #[{ on := 5, ground := Ground.data }], guard := none }) (v := _) rfl (by kernel_rfl) (by kernel_rfl) (by kernel_rfl) (by kernel_rfl) (fun _ _ _ h => h) (y_load1 (by rfl) _ _ rfl _ _ rfl 1 _ rfl _ rfl _ Tryz.underlying3 rfl) (by exact S) ?_
  simp only [Act.put, List.setIfInBounds_toArray, List.set_cons_zero, List.set_cons_succ]
  refine Upto.take (i := 7) (oi := { dst := some 12, op := Op.indexAddr 27 (Operand.tmp 3) (Operand.tmp 11), type := 0, pos := "reckon.go:32", after := #[{ on := 6, ground := Ground.data }], guard := none }) (v := ?_) rfl (by kernel_rfl) (by kernel_rfl) (by kernel_rfl) (by kernel_rfl) (fun _ _ _ h => h) (Or.inl ⟨by rfl, ?_⟩) (by exact S) ?_
  rotate_left 1
  · intro w hSw
    clear hSw
    go_simp
    try with_reducible rfl
  simp only [Act.put, List.setIfInBounds_toArray, List.set_cons_zero, List.set_cons_succ]
  refine Upto.take (i := 8) (oi := { dst := some 13, op := Op.load 26 (Operand.tmp 12), type := 26, pos := "reckon.go:32", after := #[{ on := 7, ground := Ground.data }], guard := none }) (v := _) rfl (by kernel_rfl) (by kernel_rfl) (by kernel_rfl) (by kernel_rfl) (fun _ _ _ h => h) (y_load1 (by rfl) _ _ rfl _ _ rfl 0 _ rfl _ (rc_at HB.out) _ Tryz.underlying26 rfl) (by exact S) ?_
  simp only [Act.put, List.setIfInBounds_toArray, List.set_cons_zero, List.set_cons_succ]
  refine Upto.take (i := 9) (oi := { dst := some 14, op := Op.convert 26 21 (Operand.tmp 13), type := 21, pos := "reckon.go:32", after := #[{ on := 8, ground := Ground.data }], guard := none }) (v := ?_) rfl (by kernel_rfl) (by kernel_rfl) (by kernel_rfl) (by kernel_rfl) (fun _ _ _ h => h) (Or.inl ⟨by rfl, ?_⟩) (by exact S) ?_
  rotate_left 1
  · intro w hSw
    clear hSw
    go_simp
    try with_reducible rfl
  simp only [Act.put, List.setIfInBounds_toArray, List.set_cons_zero, List.set_cons_succ]
  refine Upto.take (i := 10) (oi := { dst := some 15, op := Op.binOp BinOp.lss 21 (Operand.tmp 9) (Operand.tmp 14) 21, type := 4, pos := "reckon.go:32", after := #[{ on := 4, ground := Ground.data }, { on := 9, ground := Ground.data }], guard := none }) (v := ?_) rfl (by kernel_rfl) (by kernel_rfl) (by kernel_rfl) (by kernel_rfl) (fun _ _ _ h => h) (Or.inl ⟨by rfl, ?_⟩) (by exact S) ?_
  rotate_left 1
  · intro w hSw
    clear hSw
    go_simp
    try with_reducible rfl
  simp only [Act.put, List.setIfInBounds_toArray, List.set_cons_zero, List.set_cons_succ]
  refine Upto.ready (rs := [11]) (by kernel_rfl) (by simp) ?_
  refine Nexts.cons rfl (by decide) (fun K hK => ?_) Nexts.nil
  go_simp
  go_wp2_with (refine (hone_c _ _).mono ?_; rintro e w8 ⟨rfl, rfl⟩)
  refine hK.out _ _ (by exact S) ?_
  clear hK K
  refine Upto.ready (rs := [12]) (by kernel_rfl) (by simp) ?_
  refine Nexts.last rfl (fun K hK => ?_)
  go_simp
  refine hK.out _ _ ?_
  clear hK K
  refine Upto.done (by kernel_rfl) ?_ _
  go_wp2
  go_ret
  exact ⟨by simp [reckS, IntKind.wrap_i32, wrap32, oneB], S.low⟩
set_option maxHeartbeats 2000000 in
set_option maxRecDepth 100000 in
theorem rk17_c (h : HV) (R : List Int) (ho : HOk h) (hR : okR R) (w : World) : Calls Tryz.prog 60 #[(Cel.host h).val, (Cel.regs R).val] w fun e w' => e = .returned (.int .u32 (reckS 17 (regv R h.a) (regv R h.b) (regv R h.c) h.im)) ∧ Below w.heap.size w w' := by
  have S := SH.start w
  obtain ⟨⟨d0, d1⟩, ⟨a0, a1⟩, ⟨b0, b1⟩, ⟨c0, c1⟩, i0, i1⟩ := ho
  obtain ⟨hA, ua, va⟩ := regv_at hR a0 a1
  obtain ⟨hB, ub, vb⟩ := regv_at hR b0 b1
  obtain ⟨hC, uc, vc⟩ := regv_at hR c0 c1
  have hl := hR.1
  clear hR
  have HA : Hid (R[h.a.toNat]? = some (regv R h.a)) := hA
  have HB : Hid (R[h.b.toNat]? = some (regv R h.b)) := hB
  have HC : Hid (R[h.c.toNat]? = some (regv R h.c)) := hC
  clear hA hB hC
  generalize regv R h.a = x at *
  generalize regv R h.b = y at *
  generalize regv R h.c = z at *
  go_enter Tryz.func60, Tryz.ntmps60
  go_wp2_with (first
    | (refine S.box rfl _ _ rfl (Cel.host h) rfl ?_; clear S; intro q1 w1 S)
    | (refine S.box rfl _ _ rfl (Cel.regs R) rfl ?_; clear S; intro q2 w2 S)
    | (refine S.load1 rfl 3 _ rfl _ 2 rfl 1 (Cel.host h) rfl _ rfl _ Tryz.underlying3 rfl ?_)
    | (refine S.load1 rfl 3 _ rfl _ 3 rfl 1 (Cel.host h) rfl _ rfl _ Tryz.underlying3 rfl ?_)
    | (refine S.load1 rfl 3 _ rfl _ 4 rfl 1 (Cel.host h) rfl _ rfl _ Tryz.underlying3 rfl ?_)
    | (refine S.load1 rfl 26 _ rfl _ 5 rfl 1 (Cel.host h) rfl _ rfl _ Tryz.underlying26 rfl ?_)
    | (refine S.load1 rfl 26 _ rfl _ _ rfl 0 (Cel.regs R) rfl _ (rc_at HA.out) _ Tryz.underlying26 rfl ?_)
    | (refine S.load1 rfl 26 _ rfl _ _ rfl 0 (Cel.regs R) rfl _ (rc_at HB.out) _ Tryz.underlying26 rfl ?_)
    | (refine S.load1 rfl 26 _ rfl _ _ rfl 0 (Cel.regs R) rfl _ (rc_at HC.out) _ Tryz.underlying26 rfl ?_)
    | (refine (clz_c _ (by assumption) (by assumption) _).mono ?_; rintro e w8 ⟨rfl, rfl⟩))
  go_ret
  have hb := clzS_bounds x ua va
  refine ⟨?_, S.low⟩
  simp [reckS]
  omega
set_option maxHeartbeats 2000000 in
set_option maxRecDepth 100000 in
theorem choose_t (h : HV) (R : List Int) (ho : HOk h) (hR : okR R) (hz : regv R h.c ≠ 0) (w : World) : Calls Tryz.prog 66 #[(Cel.host h).val, (Cel.regs R).val] w fun e w' => e = .returned (.int .u32 (reckS 21 (regv R h.a) (regv R h.b) (regv R h.c) h.im)) ∧ Below w.heap.size w w' := by
  have S := SH.start w
  obtain ⟨⟨d0, d1⟩, ⟨a0, a1⟩, ⟨b0, b1⟩, ⟨c0, c1⟩, i0, i1⟩ := ho
  obtain ⟨hA, ua, va⟩ := regv_at hR a0 a1
  obtain ⟨hB, ub, vb⟩ := regv_at hR b0 b1
  obtain ⟨hC, uc, vc⟩ := regv_at hR c0 c1
  have hl := hR.1
  clear hR
  have HA : Hid (R[h.a.toNat]? = some (regv R h.a)) := hA
  have HB : Hid (R[h.b.toNat]? = some (regv R h.b)) := hB
  have HC : Hid (R[h.c.toNat]? = some (regv R h.c)) := hC
  clear hA hB hC
  generalize regv R h.a = x at *
  generalize regv R h.b = y at *
  generalize regv R h.c = z at *
  go_enter Tryz.func66, Tryz.ntmps66
  go_wp2_with (first
    | (refine S.box rfl _ _ rfl (Cel.host h) rfl ?_; clear S; intro q1 w1 S)
    | (refine S.box rfl _ _ rfl (Cel.regs R) rfl ?_; clear S; intro q2 w2 S)
    | (refine S.load1 rfl 3 _ rfl _ 2 rfl 1 (Cel.host h) rfl _ rfl _ Tryz.underlying3 rfl ?_)
    | (refine S.load1 rfl 3 _ rfl _ 3 rfl 1 (Cel.host h) rfl _ rfl _ Tryz.underlying3 rfl ?_)
    | (refine S.load1 rfl 3 _ rfl _ 4 rfl 1 (Cel.host h) rfl _ rfl _ Tryz.underlying3 rfl ?_)
    | (refine S.load1 rfl 26 _ rfl _ 5 rfl 1 (Cel.host h) rfl _ rfl _ Tryz.underlying26 rfl ?_)
    | (refine S.load1 rfl 26 _ rfl _ _ rfl 0 (Cel.regs R) rfl _ (rc_at HA.out) _ Tryz.underlying26 rfl ?_)
    | (refine S.load1 rfl 26 _ rfl _ _ rfl 0 (Cel.regs R) rfl _ (rc_at HB.out) _ Tryz.underlying26 rfl ?_)
    | (refine S.load1 rfl 26 _ rfl _ _ rfl 0 (Cel.regs R) rfl _ (rc_at HC.out) _ Tryz.underlying26 rfl ?_))
  all_goals
    go_ret
    exact ⟨by simp [reckS, hz], S.low⟩
set_option maxHeartbeats 2000000 in
set_option maxRecDepth 100000 in
theorem choose_f (h : HV) (R : List Int) (ho : HOk h) (hR : okR R) (hz : regv R h.c = 0) (w : World) : Calls Tryz.prog 66 #[(Cel.host h).val, (Cel.regs R).val] w fun e w' => e = .returned (.int .u32 (reckS 21 (regv R h.a) (regv R h.b) (regv R h.c) h.im)) ∧ Below w.heap.size w w' := by
  have S := SH.start w
  obtain ⟨⟨d0, d1⟩, ⟨a0, a1⟩, ⟨b0, b1⟩, ⟨c0, c1⟩, i0, i1⟩ := ho
  obtain ⟨hA, ua, va⟩ := regv_at hR a0 a1
  obtain ⟨hB, ub, vb⟩ := regv_at hR b0 b1
  obtain ⟨hC, uc, vc⟩ := regv_at hR c0 c1
  have hl := hR.1
  clear hR
  have HA : Hid (R[h.a.toNat]? = some (regv R h.a)) := hA
  have HB : Hid (R[h.b.toNat]? = some (regv R h.b)) := hB
  have HC : Hid (R[h.c.toNat]? = some (regv R h.c)) := hC
  clear hA hB hC
  generalize regv R h.a = x at *
  generalize regv R h.b = y at *
  generalize regv R h.c = z at *
  go_enter Tryz.func66, Tryz.ntmps66
  go_wp2_with (first
    | (refine S.box rfl _ _ rfl (Cel.host h) rfl ?_; clear S; intro q1 w1 S)
    | (refine S.box rfl _ _ rfl (Cel.regs R) rfl ?_; clear S; intro q2 w2 S)
    | (refine S.load1 rfl 3 _ rfl _ 2 rfl 1 (Cel.host h) rfl _ rfl _ Tryz.underlying3 rfl ?_)
    | (refine S.load1 rfl 3 _ rfl _ 3 rfl 1 (Cel.host h) rfl _ rfl _ Tryz.underlying3 rfl ?_)
    | (refine S.load1 rfl 3 _ rfl _ 4 rfl 1 (Cel.host h) rfl _ rfl _ Tryz.underlying3 rfl ?_)
    | (refine S.load1 rfl 26 _ rfl _ 5 rfl 1 (Cel.host h) rfl _ rfl _ Tryz.underlying26 rfl ?_)
    | (refine S.load1 rfl 26 _ rfl _ _ rfl 0 (Cel.regs R) rfl _ (rc_at HA.out) _ Tryz.underlying26 rfl ?_)
    | (refine S.load1 rfl 26 _ rfl _ _ rfl 0 (Cel.regs R) rfl _ (rc_at HB.out) _ Tryz.underlying26 rfl ?_)
    | (refine S.load1 rfl 26 _ rfl _ _ rfl 0 (Cel.regs R) rfl _ (rc_at HC.out) _ Tryz.underlying26 rfl ?_))
  all_goals
    go_ret
    exact ⟨by simp [reckS, hz], S.low⟩
theorem rk21_c (h : HV) (R : List Int) (ho : HOk h) (hR : okR R) (w : World) : Calls Tryz.prog 66 #[(Cel.host h).val, (Cel.regs R).val] w fun e w' => e = .returned (.int .u32 (reckS 21 (regv R h.a) (regv R h.b) (regv R h.c) h.im)) ∧ Below w.heap.size w w' := by
  by_cases hz : regv R h.c = 0
  · exact choose_f h R ho hR hz w
  · exact choose_t h R ho hR hz w
end Go.Proofs.YtjhmmfpmmgebjaaGreat
namespace Go.Proofs.YtjhmmfpmmgebjaaGreat
open Go.ChangeShapes Go.WideShapes Go.ChangeAt Go.RowKit
set_option linter.unusedVariables false
set_option linter.unusedSimpArgs false

theorem Below.ofDrew {w w' : World} (h : ∃ m, w' = w.drewN m) : Below w.heap.size w w' := by
  obtain ⟨m, rfl⟩ := h
  exact ⟨rfl, rfl, rfl, Nat.le_refl _, fun _ _ => rfl⟩
set_option maxHeartbeats 2000000 in
set_option maxRecDepth 100000 in
theorem hshift_c (h : HV) (R : List Int) (ho : HOk h) (hR : okR R) (kind : Int) (k0 : 1 ≤ kind) (k1 : kind ≤ 4) (w : World) : Calls Tryz.prog 48 #[(Cel.host h).val, (Cel.regs R).val, .int .i64 kind] w fun e w' => e = .returned (.int .u32 ((shiftS (regv R h.a) kind (regv R h.b % 32) false).1)) ∧ Below w.heap.size w w' := by
  have S := SH.start w
  obtain ⟨⟨d0, d1⟩, ⟨a0, a1⟩, ⟨b0, b1⟩, ⟨c0, c1⟩, i0, i1⟩ := ho
  obtain ⟨hA, ua, va⟩ := regv_at hR a0 a1
  obtain ⟨hB, ub, vb⟩ := regv_at hR b0 b1
  obtain ⟨hC, uc, vc⟩ := regv_at hR c0 c1
  have hl := hR.1
  clear hR
  have HA : Hid (R[h.a.toNat]? = some (regv R h.a)) := hA
  have HB : Hid (R[h.b.toNat]? = some (regv R h.b)) := hB
  have HC : Hid (R[h.c.toNat]? = some (regv R h.c)) := hC
  clear hA hB hC
  generalize regv R h.a = x at *
  generalize regv R h.b = y at *
  generalize regv R h.c = z at *
  have CS : Hid (∀ w1, Calls Tryz.prog 86 #[.int .u32 x, .int .i64 kind, .int .i64 (y % 32), .bool false] w1 fun e w' => e = .returned (.tuple #[.int .u32 (shiftS x kind (y % 32) false).1, .bool (shiftS x kind (y % 32) false).2]) ∧ ∃ m, w' = w1.drewN m) := fun w1 => shift_c x kind (y % 32) false ua va (by omega) (by omega) w1
  generalize shiftS x kind (y % 32) false = sv at *
  have ey : y.tmod 32 = y % 32 := Int.tmod_eq_emod_of_nonneg ub
  have ew : IntKind.i64.wrap (y % 32) = y % 32 := by rw [IntKind.wrap_i64]; omega
  go_enter Tryz.func48, Tryz.ntmps48
  go_wp2_with (first
    | (refine S.box rfl _ _ rfl (Cel.host h) rfl ?_; clear S; intro q1 w1 S)
    | (refine S.box rfl _ _ rfl (Cel.regs R) rfl ?_; clear S; intro q2 w2 S))
  refine Upto.start (S := fun w' => SH noZ w w' [(q2, Cel.regs R), (q1, Cel.host h)]) 16 (by kernel_rfl) ?_
  replace S := S.drew
  refine Upto.take (i := 0) (oi := { dst := some 10, op := Op.fieldAddr 31 (Operand.tmp 3) 2, type := 0, pos := "reckon.go:40", after := #[], guard := none }) (v := ?_) rfl (by kernel_rfl) (by kernel_rfl) (by kernel_rfl) (by kernel_rfl) (fun _ _ _ h => h) (Or.inl ⟨by rfl, ?_⟩) (by exact S) ?_
  rotate_left 1
  · intro w hSw
    clear hSw
    go_simp
    try with_reducible rfl
  simp only [Act.put, List.setIfInBounds_toArray, List.set_cons_zero, List.set_cons_succ]
  refine Upto.take (i := 1) (oi := { dst := some 11, op := Op.load 3 (Operand.tmp 10), type := 3, pos := "reckon.go:40", after := #[{ on := 0, ground := Ground.data }], guard := none }) (v := _) rfl (by kernel_rfl) (by kernel_rfl) (by kernel_rfl) (by kernel_rfl) (fun _ _ _ h => h) (y_load1 (by rfl) _ _ rfl _ _ rfl 1 _ rfl _ rfl _ Tryz.underlying3 rfl) (by exact S) ?_
  simp only [Act.put, List.setIfInBounds_toArray, List.set_cons_zero, List.set_cons_succ]
  refine Upto.take (i := 2) (oi := { dst := some 12, op := Op.indexAddr 27 (Operand.tmp 4) (Operand.tmp 11), type := 0, pos := "reckon.go:40", after := #[{ on := 1, ground := Ground.data }], guard := none }) (v := ?_) rfl (by kernel_rfl) (by kernel_rfl) (by kernel_rfl) (by kernel_rfl) (fun _ _ _ h => h) (Or.inl ⟨by rfl, ?_⟩) (by exact S) ?_
  rotate_left 1
  · intro w hSw
    clear hSw
    go_simp
    try with_reducible rfl
  simp only [Act.put, List.setIfInBounds_toArray, List.set_cons_zero, List.set_cons_succ]
  refine Upto.take (i := 3) (oi := { dst := some 13, op := Op.load 26 (Operand.tmp 12), type := 26, pos := "reckon.go:40", after := #[{ on := 2, ground := Ground.data }], guard := none }) (v := _) rfl (by kernel_rfl) (by kernel_rfl) (by kernel_rfl) (by kernel_rfl) (fun _ _ _ h => h) (y_load1 (by rfl) _ _ rfl _ _ rfl 0 _ rfl _ (rc_at HA.out) _ Tryz.underlying26 rfl) (by exact S) ?_
  simp only [Act.put, List.setIfInBounds_toArray, List.set_cons_zero, List.set_cons_succ]
  refine Upto.take (i := 4) (oi := { dst := some 14, op := Op.move (Operand.tmp 2), type := 3, pos := "reckon.go:40", after := #[], guard := none }) (v := ?_) rfl (by kernel_rfl) (by kernel_rfl) (by kernel_rfl) (by kernel_rfl) (fun _ _ _ h => h) (Or.inl ⟨by rfl, ?_⟩) (by exact S) ?_
  rotate_left 1
  · intro w hSw
    clear hSw
    go_simp
    try with_reducible rfl
  simp only [Act.put, List.setIfInBounds_toArray, List.set_cons_zero, List.set_cons_succ]
  refine Upto.take (i := 5) (oi := { dst := some 15, op := Op.fieldAddr 31 (Operand.tmp 3) 3, type := 0, pos := "reckon.go:40", after := #[], guard := none }) (v := ?_) rfl (by kernel_rfl) (by kernel_rfl) (by kernel_rfl) (by kernel_rfl) (fun _ _ _ h => h) (Or.inl ⟨by rfl, ?_⟩) (by exact S) ?_
  rotate_left 1
  · intro w hSw
    clear hSw
    go_simp
    try with_reducible rfl
  simp only [Act.put, List.setIfInBounds_toArray, List.set_cons_zero, List.set_cons_succ]
  refine Upto.take (i := 6) (oi := { dst := some 16, op := Op.load 3 (Operand.tmp 15), type := 3, pos := "reckon.go:40", after := #[{ on := 5, ground := Ground.data }], guard := none }) (v := _) rfl (by kernel_rfl) (by kernel_rfl) (by kernel_rfl) (by kernel_rfl) (fun _ _ _ h => h) (y_load1 (by rfl) _ _ rfl _ _ rfl 1 _ rfl _ rfl _ Tryz.underlying3 rfl) (by exact S) ?_
  simp only [Act.put, List.setIfInBounds_toArray, List.set_cons_zero, List.set_cons_succ]
  refine Upto.take (i := 7) (oi := { dst := some 17, op := Op.indexAddr 27 (Operand.tmp 4) (Operand.tmp 16), type := 0, pos := "reckon.go:40", after := #[{ on := 6, ground := Ground.data }], guard := none }) (v := ?_) rfl (by kernel_rfl) (by kernel_rfl) (by kernel_rfl) (by kernel_rfl) (fun _ _ _ h => h) (Or.inl ⟨by rfl, ?_⟩) (by exact S) ?_
  rotate_left 1
  · intro w hSw
    clear hSw
    go_simp
    try with_reducible rfl
  simp only [Act.put, List.setIfInBounds_toArray, List.set_cons_zero, List.set_cons_succ]
  refine Upto.take (i := 8) (oi := { dst := some 18, op := Op.load 26 (Operand.tmp 17), type := 26, pos := "reckon.go:40", after := #[{ on := 7, ground := Ground.data }], guard := none }) (v := _) rfl (by kernel_rfl) (by kernel_rfl) (by kernel_rfl) (by kernel_rfl) (fun _ _ _ h => h) (y_load1 (by rfl) _ _ rfl _ _ rfl 0 _ rfl _ (rc_at HB.out) _ Tryz.underlying26 rfl) (by exact S) ?_
  simp only [Act.put, List.setIfInBounds_toArray, List.set_cons_zero, List.set_cons_succ]
  refine Upto.take (i := 9) (oi := { dst := some 19, op := Op.binOp BinOp.rem 26 (Operand.tmp 18) (Operand.const (Value.int IntKind.u32 32)) 26, type := 26, pos := "reckon.go:40", after := #[{ on := 8, ground := Ground.data }], guard := none }) (v := ?_) rfl (by kernel_rfl) (by kernel_rfl) (by kernel_rfl) (by kernel_rfl) (fun _ _ _ h => h) (Or.inl ⟨by rfl, ?_⟩) (by exact S) ?_
  rotate_left 1
  · intro w hSw
    clear hSw
    go_simp
    try with_reducible rfl
  simp only [Act.put, List.setIfInBounds_toArray, List.set_cons_zero, List.set_cons_succ]
  refine Upto.take (i := 10) (oi := { dst := some 20, op := Op.convert 26 3 (Operand.tmp 19), type := 3, pos := "reckon.go:40", after := #[{ on := 9, ground := Ground.data }], guard := none }) (v := ?_) rfl (by kernel_rfl) (by kernel_rfl) (by kernel_rfl) (by kernel_rfl) (fun _ _ _ h => h) (Or.inl ⟨by rfl, ?_⟩) (by exact S) ?_
  rotate_left 1
  · intro w hSw
    clear hSw
    go_simp
    try with_reducible rfl
  simp only [Act.put, List.setIfInBounds_toArray, List.set_cons_zero, List.set_cons_succ]
  refine Upto.ready (rs := [11]) (by kernel_rfl) (by simp) ?_
  refine Nexts.cons rfl (by decide) (fun K hK => ?_) Nexts.nil
  go_simp
  go_wp2_with (refine (CS.out _).mono ?_; rintro e w8 ⟨rfl, hw8⟩)
  replace S := S.below (Below.ofDrew hw8)
  refine hK.out _ _ (by exact S) ?_
  clear hw8
  clear hK K
  refine Upto.take (i := 12) (oi := { dst := some 9, op := Op.move (Operand.tmp 21), type := 106, pos := "reckon.go:40", after := #[{ on := 11, ground := Ground.data }], guard := none }) (v := ?_) rfl (by kernel_rfl) (by kernel_rfl) (by kernel_rfl) (by kernel_rfl) (fun _ _ _ h => h) (Or.inl ⟨by rfl, ?_⟩) (by exact S) ?_
  rotate_left 1
  · intro w hSw
    clear hSw
    go_simp
    try with_reducible rfl
  simp only [Act.put, List.setIfInBounds_toArray, List.set_cons_zero, List.set_cons_succ]
  refine Upto.take (i := 13) (oi := { dst := some 22, op := Op.extract (Operand.tmp 9) 0, type := 26, pos := "reckon.go:40", after := #[{ on := 12, ground := Ground.data }], guard := none }) (v := ?_) rfl (by kernel_rfl) (by kernel_rfl) (by kernel_rfl) (by kernel_rfl) (fun _ _ _ h => h) (Or.inl ⟨by rfl, ?_⟩) (by exact S) ?_
  rotate_left 1
  · intro w hSw
    clear hSw
    go_simp
    try with_reducible rfl
  simp only [Act.put, List.setIfInBounds_toArray, List.set_cons_zero, List.set_cons_succ]
  refine Upto.take (i := 14) (oi := { dst := some 23, op := Op.extract (Operand.tmp 9) 1, type := 4, pos := "reckon.go:40", after := #[{ on := 12, ground := Ground.data }, { on := 15, ground := Ground.gcOnly Departure.lateStores }], guard := none }) (v := ?_) rfl (by kernel_rfl) (by kernel_rfl) (by kernel_rfl) (by kernel_rfl) (fun _ _ _ h => h) (Or.inl ⟨by rfl, ?_⟩) (by exact S) ?_
  rotate_left 1
  · intro w hSw
    clear hSw
    go_simp
    try with_reducible rfl
  simp only [Act.put, List.setIfInBounds_toArray, List.set_cons_zero, List.set_cons_succ]
  refine Upto.take (i := 15) (oi := { dst := some 7, op := Op.assign (Operand.tmp 22), type := 26, pos := "reckon.go:40", after := #[{ on := 13, ground := Ground.data }, { on := 11, ground := Ground.chain }, { on := 0, ground := Ground.phase }, { on := 1, ground := Ground.phase }, { on := 2, ground := Ground.phase }, { on := 3, ground := Ground.phase }, { on := 4, ground := Ground.phase }, { on := 5, ground := Ground.phase }, { on := 6, ground := Ground.phase }, { on := 7, ground := Ground.phase }, { on := 8, ground := Ground.phase }, { on := 9, ground := Ground.phase }, { on := 10, ground := Ground.phase }, { on := 11, ground := Ground.phase }, { on := 12, ground := Ground.phase }, { on := 13, ground := Ground.phase }, { on := 14, ground := Ground.textOnly Departure.lateStores }], guard := none }) (v := ?_) rfl (by kernel_rfl) (by kernel_rfl) (by kernel_rfl) (by kernel_rfl) (fun _ _ _ h => h) (Or.inl ⟨by rfl, ?_⟩) (by exact S) ?_
  rotate_left 1
  · intro w hSw
    clear hSw
    go_simp
    try with_reducible rfl
  simp only [Act.put, List.setIfInBounds_toArray, List.set_cons_zero, List.set_cons_succ]
  refine Upto.ready (rs := [16]) (by kernel_rfl) (by simp) ?_
  refine Nexts.last rfl (fun K hK => ?_)
  go_simp
  refine hK.out _ _ ?_
  clear hK K
  refine Upto.done (by kernel_rfl) ?_ _
  go_wp2
  go_ret
  exact ⟨rfl, S.low⟩
set_option maxHeartbeats 2000000 in
set_option maxRecDepth 100000 in
theorem hupper_c (h : HV) (R : List Int) (ho : HOk h) (hR : okR R) (sg : Bool) (w : World) : Calls Tryz.prog 54 #[(Cel.host h).val, (Cel.regs R).val, .bool sg] w fun e w' => e = .returned (.int .u32 (mulS (regv R h.a) (regv R h.b) sg / 4294967296 % 4294967296)) ∧ Below w.heap.size w w' := by
  have S := SH.start w
  obtain ⟨⟨d0, d1⟩, ⟨a0, a1⟩, ⟨b0, b1⟩, ⟨c0, c1⟩, i0, i1⟩ := ho
  obtain ⟨hA, ua, va⟩ := regv_at hR a0 a1
  obtain ⟨hB, ub, vb⟩ := regv_at hR b0 b1
  obtain ⟨hC, uc, vc⟩ := regv_at hR c0 c1
  have hl := hR.1
  clear hR
  have HA : Hid (R[h.a.toNat]? = some (regv R h.a)) := hA
  have HB : Hid (R[h.b.toNat]? = some (regv R h.b)) := hB
  have HC : Hid (R[h.c.toNat]? = some (regv R h.c)) := hC
  clear hA hB hC
  generalize regv R h.a = x at *
  generalize regv R h.b = y at *
  generalize regv R h.c = z at *
  have CS : Hid (∀ w1, Calls Tryz.prog 87 #[.int .u32 x, .int .u32 y, .bool sg] w1 fun e w' => e = .returned (.tuple #[.int .u32 (mulS x y sg % 4294967296), .int .u32 (mulS x y sg / 4294967296 % 4294967296)]) ∧ w' = w1) := fun w1 => mul64_c x y sg ua va ub vb w1
  generalize mulS x y sg % 4294967296 = s1 at *
  generalize mulS x y sg / 4294967296 % 4294967296 = s2 at *
  go_enter Tryz.func54, Tryz.ntmps54
  go_wp2_with (first
    | (refine S.box rfl _ _ rfl (Cel.host h) rfl ?_; clear S; intro q1 w1 S)
    | (refine S.box rfl _ _ rfl (Cel.regs R) rfl ?_; clear S; intro q2 w2 S))
  refine Upto.start (S := fun w' => SH noZ w w' [(q2, Cel.regs R), (q1, Cel.host h)]) 14 (by kernel_rfl) ?_
  replace S := S.drew
  refine Upto.take (i := 0) (oi := { dst := some 10, op := Op.fieldAddr 31 (Operand.tmp 3) 2, type := 0, pos := "reckon.go:46", after := #[], guard := none }) (v := ?_) rfl (by kernel_rfl) (by kernel_rfl) (by kernel_rfl) (by kernel_rfl) (fun _ _ _ h => h) (Or.inl ⟨by rfl, ?_⟩) (by exact S) ?_
  rotate_left 1
  · intro w hSw
    clear hSw
    go_simp
    try with_reducible rfl
  simp only [Act.put, List.setIfInBounds_toArray, List.set_cons_zero, List.set_cons_succ]
  refine Upto.take (i := 1) (oi := { dst := some 11, op := Op.load 3 (Operand.tmp 10), type := 3, pos := "reckon.go:46", after := #[{ on := 0, ground := Ground.data }], guard := none }) (v := _) rfl (by kernel_rfl) (by kernel_rfl) (by kernel_rfl) (by kernel_rfl) (fun _ _ _ h => h) (y_load1 (by rfl) _ _ rfl _ _ rfl 1 _ rfl _ rfl _ Tryz.underlying3 rfl) (by exact S) ?_
  simp only [Act.put, List.setIfInBounds_toArray, List.set_cons_zero, List.set_cons_succ]
  refine Upto.take (i := 2) (oi := { dst := some 12, op := Op.indexAddr 27 (Operand.tmp 4) (Operand.tmp 11), type := 0, pos := "reckon.go:46", after := #[{ on := 1, ground := Ground.data }], guard := none }) (v := ?_) rfl (by kernel_rfl) (by kernel_rfl) (by kernel_rfl) (by kernel_rfl) (fun _ _ _ h => h) (Or.inl ⟨by rfl, ?_⟩) (by exact S) ?_
  rotate_left 1
  · intro w hSw
    clear hSw
    go_simp
    try with_reducible rfl
  simp only [Act.put, List.setIfInBounds_toArray, List.set_cons_zero, List.set_cons_succ]
  refine Upto.take (i := 3) (oi := { dst := some 13, op := Op.load 26 (Operand.tmp 12), type := 26, pos := "reckon.go:46", after := #[{ on := 2, ground := Ground.data }], guard := none }) (v := _) rfl (by kernel_rfl) (by kernel_rfl) (by kernel_rfl) (by kernel_rfl) (fun _ _ _ h => h) (y_load1 (by rfl) _ _ rfl _ _ rfl 0 _ rfl _ (rc_at HA.out) _ Tryz.underlying26 rfl) (by exact S) ?_
  simp only [Act.put, List.setIfInBounds_toArray, List.set_cons_zero, List.set_cons_succ]
  refine Upto.take (i := 4) (oi := { dst := some 14, op := Op.fieldAddr 31 (Operand.tmp 3) 3, type := 0, pos := "reckon.go:46", after := #[], guard := none }) (v := ?_) rfl (by kernel_rfl) (by kernel_rfl) (by kernel_rfl) (by kernel_rfl) (fun _ _ _ h => h) (Or.inl ⟨by rfl, ?_⟩) (by exact S) ?_
  rotate_left 1
  · intro w hSw
    clear hSw
    go_simp
    try with_reducible rfl
  simp only [Act.put, List.setIfInBounds_toArray, List.set_cons_zero, List.set_cons_succ]
  refine Upto.take (i := 5) (oi := { dst := some 15, op := Op.load 3 (Operand.tmp 14), type := 3, pos := "reckon.go:46", after := #[{ on := 4, ground := Ground.data }], guard := none }) (v := _) rfl (by kernel_rfl) (by kernel_rfl) (by kernel_rfl) (by kernel_rfl) (fun _ _ _ h => h) (y_load1 (by rfl) _ _ rfl _ _ rfl 1 _ rfl _ rfl _ Tryz.underlying3 rfl) (by exact S) ?_
  simp only [Act.put, List.setIfInBounds_toArray, List.set_cons_zero, List.set_cons_succ]
  refine Upto.take (i := 6) (oi := { dst := some 16, op := Op.indexAddr 27 (Operand.tmp 4) (Operand.tmp 15), type := 0, pos := "reckon.go:46", after := #[{ on := 5, ground := Ground.data }], guard := none }) (v := ?_) rfl (by kernel_rfl) (by kernel_rfl) (by kernel_rfl) (by kernel_rfl) (fun _ _ _ h => h) (Or.inl ⟨by rfl, ?_⟩) (by exact S) ?_
  rotate_left 1
  · intro w hSw
    clear hSw
    go_simp
    try with_reducible rfl
  simp only [Act.put, List.setIfInBounds_toArray, List.set_cons_zero, List.set_cons_succ]
  refine Upto.take (i := 7) (oi := { dst := some 17, op := Op.load 26 (Operand.tmp 16), type := 26, pos := "reckon.go:46", after := #[{ on := 6, ground := Ground.data }], guard := none }) (v := _) rfl (by kernel_rfl) (by kernel_rfl) (by kernel_rfl) (by kernel_rfl) (fun _ _ _ h => h) (y_load1 (by rfl) _ _ rfl _ _ rfl 0 _ rfl _ (rc_at HB.out) _ Tryz.underlying26 rfl) (by exact S) ?_
  simp only [Act.put, List.setIfInBounds_toArray, List.set_cons_zero, List.set_cons_succ]
  refine Upto.take (i := 8) (oi := { dst := some 18, op := Op.move (Operand.tmp 2), type := 4, pos := "reckon.go:46", after := #[], guard := none }) (v := ?_) rfl (by kernel_rfl) (by kernel_rfl) (by kernel_rfl) (by kernel_rfl) (fun _ _ _ h => h) (Or.inl ⟨by rfl, ?_⟩) (by exact S) ?_
  rotate_left 1
  · intro w hSw
    clear hSw
    go_simp
    try with_reducible rfl
  simp only [Act.put, List.setIfInBounds_toArray, List.set_cons_zero, List.set_cons_succ]
  refine Upto.ready (rs := [9]) (by kernel_rfl) (by simp) ?_
  refine Nexts.cons rfl (by decide) (fun K hK => ?_) Nexts.nil
  go_simp
  go_wp2_with (refine (CS.out _).mono ?_; rintro e w8 ⟨rfl, rfl⟩)
  refine hK.out _ _ (by exact S) ?_
  clear hK K
  refine Upto.take (i := 10) (oi := { dst := some 9, op := Op.move (Operand.tmp 19), type := 108, pos := "reckon.go:46", after := #[{ on := 9, ground := Ground.data }], guard := none }) (v := ?_) rfl (by kernel_rfl) (by kernel_rfl) (by kernel_rfl) (by kernel_rfl) (fun _ _ _ h => h) (Or.inl ⟨by rfl, ?_⟩) (by exact S) ?_
  rotate_left 1
  · intro w hSw
    clear hSw
    go_simp
    try with_reducible rfl
  simp only [Act.put, List.setIfInBounds_toArray, List.set_cons_zero, List.set_cons_succ]
  refine Upto.take (i := 11) (oi := { dst := some 20, op := Op.extract (Operand.tmp 9) 0, type := 26, pos := "reckon.go:46", after := #[{ on := 10, ground := Ground.data }], guard := none }) (v := ?_) rfl (by kernel_rfl) (by kernel_rfl) (by kernel_rfl) (by kernel_rfl) (fun _ _ _ h => h) (Or.inl ⟨by rfl, ?_⟩) (by exact S) ?_
  rotate_left 1
  · intro w hSw
    clear hSw
    go_simp
    try with_reducible rfl
  simp only [Act.put, List.setIfInBounds_toArray, List.set_cons_zero, List.set_cons_succ]
  refine Upto.take (i := 12) (oi := { dst := some 21, op := Op.extract (Operand.tmp 9) 1, type := 26, pos := "reckon.go:46", after := #[{ on := 10, ground := Ground.data }, { on := 13, ground := Ground.gcOnly Departure.lateStores }], guard := none }) (v := ?_) rfl (by kernel_rfl) (by kernel_rfl) (by kernel_rfl) (by kernel_rfl) (fun _ _ _ h => h) (Or.inl ⟨by rfl, ?_⟩) (by exact S) ?_
  rotate_left 1
  · intro w hSw
    clear hSw
    go_simp
    try with_reducible rfl
  simp only [Act.put, List.setIfInBounds_toArray, List.set_cons_zero, List.set_cons_succ]
  refine Upto.take (i := 13) (oi := { dst := some 7, op := Op.assign (Operand.tmp 20), type := 26, pos := "reckon.go:46", after := #[{ on := 11, ground := Ground.data }, { on := 9, ground := Ground.chain }, { on := 0, ground := Ground.phase }, { on := 1, ground := Ground.phase }, { on := 2, ground := Ground.phase }, { on := 3, ground := Ground.phase }, { on := 4, ground := Ground.phase }, { on := 5, ground := Ground.phase }, { on := 6, ground := Ground.phase }, { on := 7, ground := Ground.phase }, { on := 8, ground := Ground.phase }, { on := 9, ground := Ground.phase }, { on := 10, ground := Ground.phase }, { on := 11, ground := Ground.phase }, { on := 12, ground := Ground.textOnly Departure.lateStores }], guard := none }) (v := ?_) rfl (by kernel_rfl) (by kernel_rfl) (by kernel_rfl) (by kernel_rfl) (fun _ _ _ h => h) (Or.inl ⟨by rfl, ?_⟩) (by exact S) ?_
  rotate_left 1
  · intro w hSw
    clear hSw
    go_simp
    try with_reducible rfl
  simp only [Act.put, List.setIfInBounds_toArray, List.set_cons_zero, List.set_cons_succ]
  refine Upto.ready (rs := [14]) (by kernel_rfl) (by simp) ?_
  refine Nexts.last rfl (fun K hK => ?_)
  go_simp
  refine hK.out _ _ ?_
  clear hK K
  refine Upto.done (by kernel_rfl) ?_ _
  go_wp2
  go_ret
  exact ⟨rfl, S.low⟩
set_option maxHeartbeats 2000000 in
set_option maxRecDepth 100000 in
theorem rk8_c (h : HV) (R : List Int) (ho : HOk h) (hR : okR R) (w : World) : Calls Tryz.prog 47 #[(Cel.host h).val, (Cel.regs R).val] w fun e w' => e = .returned (.int .u32 (reckS 8 (regv R h.a) (regv R h.b) (regv R h.c) h.im)) ∧ Below w.heap.size w w' := by
  have S := SH.start w
  have hl := hR.1
  have C : Hid (∀ w1, Calls Tryz.prog 48 #[(Cel.host h).val, (Cel.regs R).val, .int .i64 1] w1 fun e w' => e = .returned (.int .u32 ((shiftS (regv R h.a) 1 (regv R h.b % 32) false).1)) ∧ Below w1.heap.size w1 w') := fun w1 => hshift_c h R ho hR 1 (by decide) (by decide) w1
  rw [show reckS 8 (regv R h.a) (regv R h.b) (regv R h.c) h.im = (shiftS (regv R h.a) 1 (regv R h.b % 32) false).1 by simp [reckS]]
  generalize (shiftS (regv R h.a) 1 (regv R h.b % 32) false).1 = v at *
  go_enter Tryz.func47, Tryz.ntmps47
  go_wp2_with (first
    | (refine S.box rfl _ _ rfl (Cel.host h) rfl ?_; clear S; intro q1 w1 S)
    | (refine S.box rfl _ _ rfl (Cel.regs R) rfl ?_; clear S; intro q2 w2 S)
    | (refine S.loadAll rfl 31 _ rfl _ rfl 1 (Cel.host h) rfl _ Tryz.underlying31 rfl szHost ?_)
    | (refine S.loadAll rfl 27 _ rfl _ rfl 0 (Cel.regs R) rfl _ Tryz.underlying27 rfl (by simp only [Cel.cells]; rw [rc_length, hl]; exact szRegs) ?_)
    | (refine (C.out _).mono ?_; rintro e w8 ⟨rfl, hw8⟩; replace S := S.below hw8; clear hw8))
  go_ret
  exact ⟨rfl, S.low⟩
set_option maxHeartbeats 2000000 in
set_option maxRecDepth 100000 in
theorem rk9_c (h : HV) (R : List Int) (ho : HOk h) (hR : okR R) (w : World) : Calls Tryz.prog 49 #[(Cel.host h).val, (Cel.regs R).val] w fun e w' => e = .returned (.int .u32 (reckS 9 (regv R h.a) (regv R h.b) (regv R h.c) h.im)) ∧ Below w.heap.size w w' := by
  have S := SH.start w
  have hl := hR.1
  have C : Hid (∀ w1, Calls Tryz.prog 48 #[(Cel.host h).val, (Cel.regs R).val, .int .i64 2] w1 fun e w' => e = .returned (.int .u32 ((shiftS (regv R h.a) 2 (regv R h.b % 32) false).1)) ∧ Below w1.heap.size w1 w') := fun w1 => hshift_c h R ho hR 2 (by decide) (by decide) w1
  rw [show reckS 9 (regv R h.a) (regv R h.b) (regv R h.c) h.im = (shiftS (regv R h.a) 2 (regv R h.b % 32) false).1 by simp [reckS]]
  generalize (shiftS (regv R h.a) 2 (regv R h.b % 32) false).1 = v at *
  go_enter Tryz.func49, Tryz.ntmps49
  go_wp2_with (first
    | (refine S.box rfl _ _ rfl (Cel.host h) rfl ?_; clear S; intro q1 w1 S)
    | (refine S.box rfl _ _ rfl (Cel.regs R) rfl ?_; clear S; intro q2 w2 S)
    | (refine S.loadAll rfl 31 _ rfl _ rfl 1 (Cel.host h) rfl _ Tryz.underlying31 rfl szHost ?_)
    | (refine S.loadAll rfl 27 _ rfl _ rfl 0 (Cel.regs R) rfl _ Tryz.underlying27 rfl (by simp only [Cel.cells]; rw [rc_length, hl]; exact szRegs) ?_)
    | (refine (C.out _).mono ?_; rintro e w8 ⟨rfl, hw8⟩; replace S := S.below hw8; clear hw8))
  go_ret
  exact ⟨rfl, S.low⟩
set_option maxHeartbeats 2000000 in
set_option maxRecDepth 100000 in
theorem rk10_c (h : HV) (R : List Int) (ho : HOk h) (hR : okR R) (w : World) : Calls Tryz.prog 50 #[(Cel.host h).val, (Cel.regs R).val] w fun e w' => e = .returned (.int .u32 (reckS 10 (regv R h.a) (regv R h.b) (regv R h.c) h.im)) ∧ Below w.heap.size w w' := by
  have S := SH.start w
  have hl := hR.1
  have C : Hid (∀ w1, Calls Tryz.prog 48 #[(Cel.host h).val, (Cel.regs R).val, .int .i64 3] w1 fun e w' => e = .returned (.int .u32 ((shiftS (regv R h.a) 3 (regv R h.b % 32) false).1)) ∧ Below w1.heap.size w1 w') := fun w1 => hshift_c h R ho hR 3 (by decide) (by decide) w1
  rw [show reckS 10 (regv R h.a) (regv R h.b) (regv R h.c) h.im = (shiftS (regv R h.a) 3 (regv R h.b % 32) false).1 by simp [reckS]]
  generalize (shiftS (regv R h.a) 3 (regv R h.b % 32) false).1 = v at *
  go_enter Tryz.func50, Tryz.ntmps50
  go_wp2_with (first
    | (refine S.box rfl _ _ rfl (Cel.host h) rfl ?_; clear S; intro q1 w1 S)
    | (refine S.box rfl _ _ rfl (Cel.regs R) rfl ?_; clear S; intro q2 w2 S)
    | (refine S.loadAll rfl 31 _ rfl _ rfl 1 (Cel.host h) rfl _ Tryz.underlying31 rfl szHost ?_)
    | (refine S.loadAll rfl 27 _ rfl _ rfl 0 (Cel.regs R) rfl _ Tryz.underlying27 rfl (by simp only [Cel.cells]; rw [rc_length, hl]; exact szRegs) ?_)
    | (refine (C.out _).mono ?_; rintro e w8 ⟨rfl, hw8⟩; replace S := S.below hw8; clear hw8))
  go_ret
  exact ⟨rfl, S.low⟩
set_option maxHeartbeats 2000000 in
set_option maxRecDepth 100000 in
theorem rk11_c (h : HV) (R : List Int) (ho : HOk h) (hR : okR R) (w : World) : Calls Tryz.prog 51 #[(Cel.host h).val, (Cel.regs R).val] w fun e w' => e = .returned (.int .u32 (reckS 11 (regv R h.a) (regv R h.b) (regv R h.c) h.im)) ∧ Below w.heap.size w w' := by
  have S := SH.start w
  have hl := hR.1
  have C : Hid (∀ w1, Calls Tryz.prog 48 #[(Cel.host h).val, (Cel.regs R).val, .int .i64 4] w1 fun e w' => e = .returned (.int .u32 ((shiftS (regv R h.a) 4 (regv R h.b % 32) false).1)) ∧ Below w1.heap.size w1 w') := fun w1 => hshift_c h R ho hR 4 (by decide) (by decide) w1
  rw [show reckS 11 (regv R h.a) (regv R h.b) (regv R h.c) h.im = (shiftS (regv R h.a) 4 (regv R h.b % 32) false).1 by simp [reckS]]
  generalize (shiftS (regv R h.a) 4 (regv R h.b % 32) false).1 = v at *
  go_enter Tryz.func51, Tryz.ntmps51
  go_wp2_with (first
    | (refine S.box rfl _ _ rfl (Cel.host h) rfl ?_; clear S; intro q1 w1 S)
    | (refine S.box rfl _ _ rfl (Cel.regs R) rfl ?_; clear S; intro q2 w2 S)
    | (refine S.loadAll rfl 31 _ rfl _ rfl 1 (Cel.host h) rfl _ Tryz.underlying31 rfl szHost ?_)
    | (refine S.loadAll rfl 27 _ rfl _ rfl 0 (Cel.regs R) rfl _ Tryz.underlying27 rfl (by simp only [Cel.cells]; rw [rc_length, hl]; exact szRegs) ?_)
    | (refine (C.out _).mono ?_; rintro e w8 ⟨rfl, hw8⟩; replace S := S.below hw8; clear hw8))
  go_ret
  exact ⟨rfl, S.low⟩
set_option maxHeartbeats 2000000 in
set_option maxRecDepth 100000 in
theorem rk13_c (h : HV) (R : List Int) (ho : HOk h) (hR : okR R) (w : World) : Calls Tryz.prog 53 #[(Cel.host h).val, (Cel.regs R).val] w fun e w' => e = .returned (.int .u32 (reckS 13 (regv R h.a) (regv R h.b) (regv R h.c) h.im)) ∧ Below w.heap.size w w' := by
  have S := SH.start w
  have hl := hR.1
  have C : Hid (∀ w1, Calls Tryz.prog 54 #[(Cel.host h).val, (Cel.regs R).val, .bool false] w1 fun e w' => e = .returned (.int .u32 (mulS (regv R h.a) (regv R h.b) false / 4294967296 % 4294967296)) ∧ Below w1.heap.size w1 w') := fun w1 => hupper_c h R ho hR false w1
  rw [show reckS 13 (regv R h.a) (regv R h.b) (regv R h.c) h.im = mulS (regv R h.a) (regv R h.b) false / 4294967296 % 4294967296 by simp [reckS]]
  generalize mulS (regv R h.a) (regv R h.b) false / 4294967296 % 4294967296 = v at *
  go_enter Tryz.func53, Tryz.ntmps53
  go_wp2_with (first
    | (refine S.box rfl _ _ rfl (Cel.host h) rfl ?_; clear S; intro q1 w1 S)
    | (refine S.box rfl _ _ rfl (Cel.regs R) rfl ?_; clear S; intro q2 w2 S)
    | (refine S.loadAll rfl 31 _ rfl _ rfl 1 (Cel.host h) rfl _ Tryz.underlying31 rfl szHost ?_)
    | (refine S.loadAll rfl 27 _ rfl _ rfl 0 (Cel.regs R) rfl _ Tryz.underlying27 rfl (by simp only [Cel.cells]; rw [rc_length, hl]; exact szRegs) ?_)
    | (refine (C.out _).mono ?_; rintro e w8 ⟨rfl, hw8⟩; replace S := S.below hw8; clear hw8))
  go_ret
  exact ⟨rfl, S.low⟩
set_option maxHeartbeats 2000000 in
set_option maxRecDepth 100000 in
theorem rk14_c (h : HV) (R : List Int) (ho : HOk h) (hR : okR R) (w : World) : Calls Tryz.prog 55 #[(Cel.host h).val, (Cel.regs R).val] w fun e w' => e = .returned (.int .u32 (reckS 14 (regv R h.a) (regv R h.b) (regv R h.c) h.im)) ∧ Below w.heap.size w w' := by
  have S := SH.start w
  have hl := hR.1
  have C : Hid (∀ w1, Calls Tryz.prog 54 #[(Cel.host h).val, (Cel.regs R).val, .bool true] w1 fun e w' => e = .returned (.int .u32 (mulS (regv R h.a) (regv R h.b) true / 4294967296 % 4294967296)) ∧ Below w1.heap.size w1 w') := fun w1 => hupper_c h R ho hR true w1
  rw [show reckS 14 (regv R h.a) (regv R h.b) (regv R h.c) h.im = mulS (regv R h.a) (regv R h.b) true / 4294967296 % 4294967296 by simp [reckS]]
  generalize mulS (regv R h.a) (regv R h.b) true / 4294967296 % 4294967296 = v at *
  go_enter Tryz.func55, Tryz.ntmps55
  go_wp2_with (first
    | (refine S.box rfl _ _ rfl (Cel.host h) rfl ?_; clear S; intro q1 w1 S)
    | (refine S.box rfl _ _ rfl (Cel.regs R) rfl ?_; clear S; intro q2 w2 S)
    | (refine S.loadAll rfl 31 _ rfl _ rfl 1 (Cel.host h) rfl _ Tryz.underlying31 rfl szHost ?_)
    | (refine S.loadAll rfl 27 _ rfl _ rfl 0 (Cel.regs R) rfl _ Tryz.underlying27 rfl (by simp only [Cel.cells]; rw [rc_length, hl]; exact szRegs) ?_)
    | (refine (C.out _).mono ?_; rintro e w8 ⟨rfl, hw8⟩; replace S := S.below hw8; clear hw8))
  go_ret
  exact ⟨rfl, S.low⟩
set_option maxHeartbeats 2000000 in
set_option maxRecDepth 100000 in
theorem addr_c (h : HV) (R : List Int) (ho : HOk h) (hR : okR R) (w : World) : Calls Tryz.prog 71 #[(Cel.host h).val, (Cel.regs R).val] w fun e w' => e = .returned (.int .u32 ((regv R h.a + h.im) % 4294967296)) ∧ Below w.heap.size w w' := by
  have S := SH.start w
  obtain ⟨⟨d0, d1⟩, ⟨a0, a1⟩, ⟨b0, b1⟩, ⟨c0, c1⟩, i0, i1⟩ := ho
  obtain ⟨hA, ua, va⟩ := regv_at hR a0 a1
  obtain ⟨hB, ub, vb⟩ := regv_at hR b0 b1
  obtain ⟨hC, uc, vc⟩ := regv_at hR c0 c1
  have hl := hR.1
  clear hR
  have HA : Hid (R[h.a.toNat]? = some (regv R h.a)) := hA
  have HB : Hid (R[h.b.toNat]? = some (regv R h.b)) := hB
  have HC : Hid (R[h.c.toNat]? = some (regv R h.c)) := hC
  clear hA hB hC
  generalize regv R h.a = x at *
  generalize regv R h.b = y at *
  generalize regv R h.c = z at *
  go_enter Tryz.func71, Tryz.ntmps71
  go_wp2_with (first
    | (refine S.box rfl _ _ rfl (Cel.host h) rfl ?_; clear S; intro q1 w1 S)
    | (refine S.box rfl _ _ rfl (Cel.regs R) rfl ?_; clear S; intro q2 w2 S))
  refine Upto.start (S := fun w' => SH noZ w w' [(q2, Cel.regs R), (q1, Cel.host h)]) 7 (by kernel_rfl) ?_
  replace S := S.drew
  refine Upto.take (i := 0) (oi := { dst := some 5, op := Op.fieldAddr 31 (Operand.tmp 2) 2, type := 0, pos := "hvm.go:75", after := #[], guard := none }) (v := ?_) rfl (by kernel_rfl) (by kernel_rfl) (by kernel_rfl) (by kernel_rfl) (fun _ _ _ h => h) (Or.inl ⟨by rfl, ?_⟩) (by exact S) ?_
  rotate_left 1
  · intro w hSw
    clear hSw
    go_simp
    try with_reducible rfl
  simp only [Act.put, List.setIfInBounds_toArray, List.set_cons_zero, List.set_cons_succ]
  refine Upto.take (i := 1) (oi := { dst := some 6, op := Op.load 3 (Operand.tmp 5), type := 3, pos := "hvm.go:75", after := #[{ on := 0, ground := Ground.data }], guard := none }) (v := _) rfl (by kernel_rfl) (by kernel_rfl) (by kernel_rfl) (by kernel_rfl) (fun _ _ _ h => h) (y_load1 (by rfl) _ _ rfl _ _ rfl 1 _ rfl _ rfl _ Tryz.underlying3 rfl) (by exact S) ?_
  simp only [Act.put, List.setIfInBounds_toArray, List.set_cons_zero, List.set_cons_succ]
  refine Upto.take (i := 2) (oi := { dst := some 7, op := Op.indexAddr 27 (Operand.tmp 3) (Operand.tmp 6), type := 0, pos := "hvm.go:75", after := #[{ on := 1, ground := Ground.data }], guard := none }) (v := ?_) rfl (by kernel_rfl) (by kernel_rfl) (by kernel_rfl) (by kernel_rfl) (fun _ _ _ h => h) (Or.inl ⟨by rfl, ?_⟩) (by exact S) ?_
  rotate_left 1
  · intro w hSw
    clear hSw
    go_simp
    try with_reducible rfl
  simp only [Act.put, List.setIfInBounds_toArray, List.set_cons_zero, List.set_cons_succ]
  refine Upto.take (i := 3) (oi := { dst := some 8, op := Op.load 26 (Operand.tmp 7), type := 26, pos := "hvm.go:75", after := #[{ on := 2, ground := Ground.data }], guard := none }) (v := _) rfl (by kernel_rfl) (by kernel_rfl) (by kernel_rfl) (by kernel_rfl) (fun _ _ _ h => h) (y_load1 (by rfl) _ _ rfl _ _ rfl 0 _ rfl _ (rc_at HA.out) _ Tryz.underlying26 rfl) (by exact S) ?_
  simp only [Act.put, List.setIfInBounds_toArray, List.set_cons_zero, List.set_cons_succ]
  refine Upto.take (i := 4) (oi := { dst := some 9, op := Op.fieldAddr 31 (Operand.tmp 2) 5, type := 0, pos := "hvm.go:75", after := #[], guard := none }) (v := ?_) rfl (by kernel_rfl) (by kernel_rfl) (by kernel_rfl) (by kernel_rfl) (fun _ _ _ h => h) (Or.inl ⟨by rfl, ?_⟩) (by exact S) ?_
  rotate_left 1
  · intro w hSw
    clear hSw
    go_simp
    try with_reducible rfl
  simp only [Act.put, List.setIfInBounds_toArray, List.set_cons_zero, List.set_cons_succ]
  refine Upto.take (i := 5) (oi := { dst := some 10, op := Op.load 26 (Operand.tmp 9), type := 26, pos := "hvm.go:75", after := #[{ on := 4, ground := Ground.data }], guard := none }) (v := _) rfl (by kernel_rfl) (by kernel_rfl) (by kernel_rfl) (by kernel_rfl) (fun _ _ _ h => h) (y_load1 (by rfl) _ _ rfl _ _ rfl 1 _ rfl _ rfl _ Tryz.underlying26 rfl) (by exact S) ?_
  simp only [Act.put, List.setIfInBounds_toArray, List.set_cons_zero, List.set_cons_succ]
  refine Upto.take (i := 6) (oi := { dst := some 11, op := Op.binOp BinOp.add 26 (Operand.tmp 8) (Operand.tmp 10) 26, type := 26, pos := "hvm.go:75", after := #[{ on := 3, ground := Ground.data }, { on := 5, ground := Ground.data }], guard := none }) (v := ?_) rfl (by kernel_rfl) (by kernel_rfl) (by kernel_rfl) (by kernel_rfl) (fun _ _ _ h => h) (Or.inl ⟨by rfl, ?_⟩) (by exact S) ?_
  rotate_left 1
  · intro w hSw
    clear hSw
    go_simp
    try with_reducible rfl
  simp only [Act.put, List.setIfInBounds_toArray, List.set_cons_zero, List.set_cons_succ]
  refine Upto.ready (rs := [7]) (by kernel_rfl) (by simp) ?_
  refine Nexts.last rfl (fun K hK => ?_)
  go_simp
  refine hK.out _ _ ?_
  clear hK K
  refine Upto.done (by kernel_rfl) ?_ _
  go_wp2
  go_ret
  exact ⟨by simp [IntKind.wrap_u32], S.low⟩
end Go.Proofs.YtjhmmfpmmgebjaaGreat
namespace Go.Proofs.YtjhmmfpmmgebjaaGreat
open Go.ChangeShapes Go.WideShapes Go.ChangeAt Go.RowKit
set_option linter.unusedVariables false
set_option linter.unusedSimpArgs false

theorem szErr : (Tryz.prog.info? 35).map (·.size) = some 1 := by kernel_rfl
theorem zeroEv : (Tryz.prog.info? 59).map (fun i => i.zero) = some (some (Cel.ev 0 0 0).val) := by kernel_rfl
/-- Two results: a cell of many, a slot. -/
theorem SH.results2 {P : Program} {M : Zn} {w0 w : World} {L : List (Nat × Cel)} (S : SH M w0 w L) {fn : Func} {p u : Tmp} {ty : TypeId} (hfn : fn.results = #[.cell p ty, .tmp u]) (tmps : Array Value) (b : Nat) (hp : tmps.getD p undef = .pointer (some ⟨b, 0, none⟩)) (i : Nat) (c : Cel) (hL : L[i]? = some (b, c))
    (d : TypeDesc) (hu : P.underlying ty = some d) (hd : d.isRow = true) (hi : (P.info? ty).map (·.size) = some c.cells.length) : (Go.results fn tmps).run P w = .ok (.tuple #[c.val, tmps.getD u undef]) w := by
  obtain ⟨⟨t, hb⟩, _⟩ := S.at hL
  have hl := run_loadVar_mid (P := P) w b 0 ty c.cells d (S.at hL).1.range hu hd hi
  have hp' : tmps[p]?.getD undef = .pointer (some ⟨b, 0, none⟩) := by simpa using hp
  simp [Go.results, hfn, hp', asAddr, hl, Cel.val]

set_option maxHeartbeats 1000000 in
set_option maxRecDepth 100000 in
theorem hend_c (R : List Int) (v : Value) (e p x : Int) (hR : R.length = 32) (hv : v.oneCell' = true) (w : World) :
    Calls Tryz.prog 75 #[(Cel.res R v e p).val, .int .i64 x] w fun en w' => en = .returned (.tuple #[(Cel.res R v x p).val, .bool false]) ∧ Below w.heap.size w w' := by
  have S := SH.start w
  go_enter Tryz.func75, Tryz.ntmps75
  go_wp2_with (first
    | (refine S.box rfl _ _ rfl (Cel.res R v e p) rfl ?_; clear S; intro b1 w S)
    | (refine S.alloc rfl 49 rfl _ zeroRes ?_; clear S; intro b2 w S)
    | (refine S.store1 rfl 35 _ _ rfl _ 33 _ rfl rfl 1 _ rfl rfl (by rw [res_length hR]; omega) _ (set_33 hR _ _ _ _) szErr ?_; clear S; intro w S; simp only [List.set_cons_zero, List.set_cons_succ] at S)
    | (refine S.loadAll rfl 49 _ rfl _ rfl 1 _ rfl _ Tryz.underlying49 rfl (by rw [res_length hR]; exact szRes) ?_)
    | (refine S.storeAll rfl 49 _ _ rfl _ (Cel.res _ _ _ _) rfl rfl 0 _ rfl (by rw [res_length hR, res_length (by simp)]) (one_res hv) (by rw [res_length hR]; exact szRes) ?_; clear S; intro w S; simp only [List.set_cons_zero, List.set_cons_succ] at S))
  refine bodyPost_ret (S.results2 rfl _ _ rfl 0 _ rfl _ Tryz.underlying49 rfl (by rw [res_length hR]; exact szRes)) rfl ?_
  exact ⟨rfl, S.low⟩

set_option maxHeartbeats 2000000 in
set_option maxRecDepth 100000 in
theorem jump_t (R : List Int) (v : Value) (e p : Int) (h : HV) (hR : R.length = 32) (hv : v.oneCell' = true) (i0 : 0 ≤ h.im) (i1 : h.im < 4294967296) (p0 : -4611686018427387904 ≤ p) (p1 : p ≤ 4611686018427387904) (w : World) :
    Calls Tryz.prog 74 #[(Cel.res R v e p).val, (Cel.host h).val, .bool true] w fun en w' => en = .returned (Cel.res R v e (p + wrap32 h.im)).val ∧ Below w.heap.size w w' := by
  have S := SH.start w
  have e1 : IntKind.i32.wrap h.im = wrap32 h.im := by rw [IntKind.wrap_i32]; unfold wrap32; omega
  have hwi : -2147483648 ≤ wrap32 h.im ∧ wrap32 h.im ≤ 2147483647 := by unfold wrap32; omega
  have e2 : IntKind.i64.wrap (wrap32 h.im) = wrap32 h.im := by rw [IntKind.wrap_i64]; omega
  have e3 : IntKind.i64.wrap (p + wrap32 h.im) = p + wrap32 h.im := by rw [IntKind.wrap_i64]; omega
  generalize wrap32 h.im = k at *
  go_enter Tryz.func74, Tryz.ntmps74
  go_wp2_with (first
    | (refine S.box rfl _ _ rfl (Cel.res R v e p) rfl ?_; clear S; intro b1 w S)
    | (refine S.box rfl _ _ rfl (Cel.host h) rfl ?_; clear S; intro b3 w S)
    | (refine S.alloc rfl 49 rfl _ zeroRes ?_; clear S; intro b2 w S)
    | (refine S.load1 rfl 3 _ rfl _ 34 rfl 2 _ rfl _ (res_34 hR _ _ _) _ Tryz.underlying3 rfl ?_)
    | (refine S.load1 rfl 26 _ rfl _ 5 rfl 1 _ rfl _ rfl _ Tryz.underlying26 rfl ?_)
    | (refine S.store1 rfl 3 _ _ rfl _ 34 _ rfl rfl 2 _ rfl rfl (by rw [res_length hR]; omega) _ (set_34 hR _ _ _ _) szI ?_; clear S; intro w S; simp only [List.set_cons_zero, List.set_cons_succ] at S)
    | (refine S.loadAll rfl 49 _ rfl _ rfl 2 _ rfl _ Tryz.underlying49 rfl (by rw [res_length hR]; exact szRes) ?_)
    | (refine S.storeAll rfl 49 _ _ rfl _ (Cel.res _ _ _ _) rfl rfl 0 _ rfl (by rw [res_length hR, res_length (by simp)]) (one_res hv) (by rw [res_length hR]; exact szRes) ?_; clear S; intro w S; simp only [List.set_cons_zero, List.set_cons_succ] at S))
  refine bodyPost_ret (S.results rfl _ _ rfl 0 _ rfl _ Tryz.underlying49 rfl (by rw [res_length hR]; exact szRes)) rfl ?_
  exact ⟨rfl, S.low⟩
set_option maxHeartbeats 2000000 in
set_option maxRecDepth 100000 in
theorem jump_f (R : List Int) (v : Value) (e p : Int) (h : HV) (hR : R.length = 32) (hv : v.oneCell' = true) (p0 : -4611686018427387904 ≤ p) (p1 : p ≤ 4611686018427387904) (w : World) :
    Calls Tryz.prog 74 #[(Cel.res R v e p).val, (Cel.host h).val, .bool false] w fun en w' => en = .returned (Cel.res R v e (p + 1)).val ∧ Below w.heap.size w w' := by
  have S := SH.start w
  go_enter Tryz.func74, Tryz.ntmps74
  go_wp2_with (first
    | (refine S.box rfl _ _ rfl (Cel.res R v e p) rfl ?_; clear S; intro b1 w S)
    | (refine S.box rfl _ _ rfl (Cel.host h) rfl ?_; clear S; intro b3 w S)
    | (refine S.alloc rfl 49 rfl _ zeroRes ?_; clear S; intro b2 w S)
    | (refine S.load1 rfl 3 _ rfl _ 34 rfl 2 _ rfl _ (res_34 hR _ _ _) _ Tryz.underlying3 rfl ?_)
    | (refine S.store1 rfl 3 _ _ rfl _ 34 _ rfl rfl 2 _ rfl rfl (by rw [res_length hR]; omega) _ (set_34 hR _ _ _ _) szI ?_; clear S; intro w S; simp only [List.set_cons_zero, List.set_cons_succ] at S)
    | (refine S.loadAll rfl 49 _ rfl _ rfl 2 _ rfl _ Tryz.underlying49 rfl (by rw [res_length hR]; exact szRes) ?_)
    | (refine S.storeAll rfl 49 _ _ rfl _ (Cel.res _ _ _ _) rfl rfl 0 _ rfl (by rw [res_length hR, res_length (by simp)]) (one_res hv) (by rw [res_length hR]; exact szRes) ?_; clear S; intro w S; simp only [List.set_cons_zero, List.set_cons_succ] at S))
  refine bodyPost_ret (S.results rfl _ _ rfl 0 _ rfl _ Tryz.underlying49 rfl (by rw [res_length hR]; exact szRes)) rfl ?_
  exact ⟨rfl, S.low⟩

/-- What is seen as the address. -/
def addrS (h : HV) (R : List Int) : Int := if 0 < loadsS h.op ∨ 0 < storesS h.op then (regv R h.a + h.im) % 4294967296 else 0
set_option maxHeartbeats 4000000 in
set_option maxRecDepth 100000 in
theorem event_c (h : HV) (R : List Int) (pc : Int) (ho : HOk h) (hR : okR R) (w : World) :
    Calls Tryz.prog 22 #[(Cel.host h).val, .int .i64 pc, (Cel.regs R).val] w fun en w' => en = .returned (Cel.ev pc (addrS h R) (costS h.op)).val ∧ Below w.heap.size w w' := by
  have S := SH.start w
  have hl := hR.1
  have C1 : Hid (∀ w1, Calls Tryz.prog 68 #[.int .i64 h.op] w1 fun e w' => e = .returned (.int .i64 (costS h.op)) ∧ w' = w1) := fun w1 => cost_c h.op w1
  have C2 : Hid (∀ w1, Calls Tryz.prog 69 #[.int .i64 h.op] w1 fun e w' => e = .returned (.int .i64 (loadsS h.op)) ∧ w' = w1) := fun w1 => loads_c h.op w1
  have C3 : Hid (∀ w1, Calls Tryz.prog 70 #[.int .i64 h.op] w1 fun e w' => e = .returned (.int .i64 (storesS h.op)) ∧ w' = w1) := fun w1 => stores_c h.op w1
  have C4 : Hid (∀ w1, Calls Tryz.prog 71 #[(Cel.host h).val, (Cel.regs R).val] w1 fun e w' => e = .returned (.int .u32 ((regv R h.a + h.im) % 4294967296)) ∧ Below w1.heap.size w1 w') := fun w1 => addr_c h R ho hR w1
  clear ho hR
  have ha : addrS h R = if 0 < loadsS h.op ∨ 0 < storesS h.op then (regv R h.a + h.im) % 4294967296 else 0 := rfl
  have HAD : Hid (addrS h R = if 0 < loadsS h.op ∨ 0 < storesS h.op then (regv R h.a + h.im) % 4294967296 else 0) := ha
  clear ha
  generalize (regv R h.a + h.im) % 4294967296 = ad at *
  generalize addrS h R = adr at *
  generalize costS h.op = co at *
  generalize loadsS h.op = lo at *
  generalize storesS h.op = st at *
  by_cases h1 : 0 < lo
  · have : adr = ad := by rw [HAD.out, if_pos (.inl h1)]
    subst this
    clear HAD
    go_enter Tryz.func22, Tryz.ntmps22
    go_wp2_with (first
      | (refine S.box rfl _ _ rfl (Cel.host h) rfl ?_; clear S; intro b1 w S)
      | (refine S.box rfl _ _ rfl (Cel.regs R) rfl ?_; clear S; intro b3 w S)
      | (refine S.alloc rfl 59 rfl _ zeroEv ?_; clear S; intro b2 w S)
      | (refine S.load1 rfl 3 _ rfl _ 0 rfl 2 (Cel.host h) rfl _ rfl _ Tryz.underlying3 rfl ?_)
      | (refine S.load1 rfl 3 _ rfl _ 0 rfl 3 (Cel.host h) rfl _ rfl _ Tryz.underlying3 rfl ?_)
      | (refine (C1.out _).mono ?_; rintro e w1 ⟨rfl, rfl⟩)
      | (refine (C2.out _).mono ?_; rintro e w1 ⟨rfl, rfl⟩)
      | (refine (C3.out _).mono ?_; rintro e w1 ⟨rfl, rfl⟩)
      | (refine (C4.out _).mono ?_; rintro e w1 ⟨rfl, hw8⟩; replace S := S.below hw8; clear hw8)
      | (refine S.storeAll rfl 59 _ _ rfl _ (Cel.ev pc 0 co) rfl rfl 0 _ rfl rfl (by simp [Cel.cells, Value.oneCell']) szEv ?_; clear S; intro w S; simp only [List.set_cons_zero, List.set_cons_succ] at S)
      | (refine S.loadAll rfl 31 _ rfl _ rfl 3 (Cel.host h) rfl _ Tryz.underlying31 rfl szHost ?_)
      | (refine S.loadAll rfl 27 _ rfl _ rfl 2 (Cel.regs R) rfl _ Tryz.underlying27 rfl (by simp only [Cel.cells]; rw [rc_length, hl]; exact szRegs) ?_)
      | (refine S.store1 rfl 26 _ _ rfl _ 1 _ rfl rfl 0 _ rfl rfl (by simp [Cel.cells]) (Cel.ev pc adr co) rfl szU ?_; clear S; intro w S; simp only [List.set_cons_zero, List.set_cons_succ] at S)
      | (refine S.loadAll rfl 59 _ rfl _ rfl 0 (Cel.ev _ _ _) rfl _ Tryz.underlying59 rfl szEv ?_)
      | (refine S.storeAll rfl 59 _ _ rfl _ (Cel.ev pc adr co) rfl rfl 1 _ rfl rfl (by simp [Cel.cells, Value.oneCell']) szEv ?_; clear S; intro w S; simp only [List.set_cons_zero, List.set_cons_succ] at S))
    refine bodyPost_ret (S.results rfl _ _ rfl 1 _ rfl _ Tryz.underlying59 rfl szEv) rfl ?_
    exact ⟨rfl, S.low⟩
  · have hq1 : decide (0 < lo) = false := by simpa using h1
    by_cases h2 : 0 < st
    · have : adr = ad := by rw [HAD.out, if_pos (.inr h2)]
      subst this
      clear HAD h1
      go_enter Tryz.func22, Tryz.ntmps22
      go_wp2_with (first
        | (refine S.box rfl _ _ rfl (Cel.host h) rfl ?_; clear S; intro b1 w S)
        | (refine S.box rfl _ _ rfl (Cel.regs R) rfl ?_; clear S; intro b3 w S)
        | (refine S.alloc rfl 59 rfl _ zeroEv ?_; clear S; intro b2 w S)
        | (refine S.load1 rfl 3 _ rfl _ 0 rfl 2 (Cel.host h) rfl _ rfl _ Tryz.underlying3 rfl ?_)
        | (refine S.load1 rfl 3 _ rfl _ 0 rfl 3 (Cel.host h) rfl _ rfl _ Tryz.underlying3 rfl ?_)
        | (refine (C1.out _).mono ?_; rintro e w1 ⟨rfl, rfl⟩)
        | (refine (C2.out _).mono ?_; rintro e w1 ⟨rfl, rfl⟩)
        | (refine (C3.out _).mono ?_; rintro e w1 ⟨rfl, rfl⟩)
        | (refine (C4.out _).mono ?_; rintro e w1 ⟨rfl, hw8⟩; replace S := S.below hw8; clear hw8)
        | (refine S.storeAll rfl 59 _ _ rfl _ (Cel.ev pc 0 co) rfl rfl 0 _ rfl rfl (by simp [Cel.cells, Value.oneCell']) szEv ?_; clear S; intro w S; simp only [List.set_cons_zero, List.set_cons_succ] at S)
        | (refine S.loadAll rfl 31 _ rfl _ rfl 3 (Cel.host h) rfl _ Tryz.underlying31 rfl szHost ?_)
        | (refine S.loadAll rfl 27 _ rfl _ rfl 2 (Cel.regs R) rfl _ Tryz.underlying27 rfl (by simp only [Cel.cells]; rw [rc_length, hl]; exact szRegs) ?_)
        | (refine S.store1 rfl 26 _ _ rfl _ 1 _ rfl rfl 0 _ rfl rfl (by simp [Cel.cells]) (Cel.ev pc adr co) rfl szU ?_; clear S; intro w S; simp only [List.set_cons_zero, List.set_cons_succ] at S)
        | (refine S.loadAll rfl 59 _ rfl _ rfl 0 (Cel.ev _ _ _) rfl _ Tryz.underlying59 rfl szEv ?_)
        | (refine S.storeAll rfl 59 _ _ rfl _ (Cel.ev pc adr co) rfl rfl 1 _ rfl rfl (by simp [Cel.cells, Value.oneCell']) szEv ?_; clear S; intro w S; simp only [List.set_cons_zero, List.set_cons_succ] at S))
      refine bodyPost_ret (S.results rfl _ _ rfl 1 _ rfl _ Tryz.underlying59 rfl szEv) rfl ?_
      exact ⟨rfl, S.low⟩
    · have : adr = 0 := by rw [HAD.out, if_neg (by omega)]
      subst this
      have hq2 : decide (0 < st) = false := by simpa using h2
      clear HAD h1 h2
      go_enter Tryz.func22, Tryz.ntmps22
      go_wp2_with (first
        | (refine S.box rfl _ _ rfl (Cel.host h) rfl ?_; clear S; intro b1 w S)
        | (refine S.box rfl _ _ rfl (Cel.regs R) rfl ?_; clear S; intro b3 w S)
        | (refine S.alloc rfl 59 rfl _ zeroEv ?_; clear S; intro b2 w S)
        | (refine S.load1 rfl 3 _ rfl _ 0 rfl 2 (Cel.host h) rfl _ rfl _ Tryz.underlying3 rfl ?_)
        | (refine S.load1 rfl 3 _ rfl _ 0 rfl 3 (Cel.host h) rfl _ rfl _ Tryz.underlying3 rfl ?_)
        | (refine (C1.out _).mono ?_; rintro e w1 ⟨rfl, rfl⟩)
        | (refine (C2.out _).mono ?_; rintro e w1 ⟨rfl, rfl⟩)
        | (refine (C3.out _).mono ?_; rintro e w1 ⟨rfl, rfl⟩)
        | (refine (C4.out _).mono ?_; rintro e w1 ⟨rfl, hw8⟩; replace S := S.below hw8; clear hw8)
        | (refine S.storeAll rfl 59 _ _ rfl _ (Cel.ev pc 0 co) rfl rfl 0 _ rfl rfl (by simp [Cel.cells, Value.oneCell']) szEv ?_; clear S; intro w S; simp only [List.set_cons_zero, List.set_cons_succ] at S)
        | (refine S.loadAll rfl 31 _ rfl _ rfl 3 (Cel.host h) rfl _ Tryz.underlying31 rfl szHost ?_)
        | (refine S.loadAll rfl 27 _ rfl _ rfl 2 (Cel.regs R) rfl _ Tryz.underlying27 rfl (by simp only [Cel.cells]; rw [rc_length, hl]; exact szRegs) ?_)
        | (refine S.store1 rfl 26 _ _ rfl _ 1 _ rfl rfl 0 _ rfl rfl (by simp [Cel.cells]) (Cel.ev pc 0 co) rfl szU ?_; clear S; intro w S; simp only [List.set_cons_zero, List.set_cons_succ] at S)
        | (refine S.loadAll rfl 59 _ rfl _ rfl 0 (Cel.ev _ _ _) rfl _ Tryz.underlying59 rfl szEv ?_)
        | (refine S.storeAll rfl 59 _ _ rfl _ (Cel.ev pc 0 co) rfl rfl 1 _ rfl rfl (by simp [Cel.cells, Value.oneCell']) szEv ?_; clear S; intro w S; simp only [List.set_cons_zero, List.set_cons_succ] at S))
      refine bodyPost_ret (S.results rfl _ _ rfl 1 _ rfl _ Tryz.underlying59 rfl szEv) rfl ?_
      exact ⟨rfl, S.low⟩
end Go.Proofs.YtjhmmfpmmgebjaaGreat
namespace Go.Proofs.YtjhmmfpmmgebjaaGreat
open Go.ChangeShapes Go.WideShapes Go.ChangeAt Go.RowKit
set_option linter.unusedVariables false
set_option linter.unusedSimpArgs false

/-- Code that lies behind a slice. -/
def CL (w : World) (A : Option Addr) (code : List HV) : Prop := (code.length : Int) ≤ 1000000 ∧ ∀ (i : Nat) (h : HV), code[i]? = some h → h.wf ∧ ∃ b o, A = some ⟨b, o, none⟩ ∧ At6 w b (o + i * 6) h
def okPc (code : List HV) (p : Int) : Bool := decide (0 ≤ p) && (match code[p.toNat]? with | some h => rightS h | none => false)
def refS (code : List HV) (p done most : Int) : Int := if okPc code p then (if most ≤ done then 35 else 0) else 31
theorem CL.kept {w w' : World} {A : Option Addr} {code : List HV} (h : CL w A code) (hb : ∀ b o, A = some ⟨b, o, none⟩ → b < w.heap.size → w'.heap[b]? = w.heap[b]?) : CL w' A code := by
  refine ⟨h.1, fun i x hx => ?_⟩
  obtain ⟨h1, b, o, h2, h3⟩ := h.2 i x hx
  have hk := hb b o h2 h3.lt
  have key : ∀ k, w'.cell? ⟨b, k, none⟩ = w.cell? ⟨b, k, none⟩ := fun k => World.cell?_of_block (w := w) (a := ⟨b, k, none⟩) hk
  obtain ⟨c0, c1, c2, c3, c4, c5⟩ := h3
  exact ⟨h1, b, o, h2, (key _).trans c0, (key _).trans c1, (key _).trans c2, (key _).trans c3, (key _).trans c4, (key _).trans c5⟩
theorem CL.below {w w' : World} {A : Option Addr} {code : List HV} (h : CL w A code) (hb : Below w.heap.size w w') : CL w' A code := h.kept fun b _ _ hl => hb.block b hl

set_option maxHeartbeats 1000000 in
theorem refused_c (A : Option Addr) (c : Nat) (code : List HV) (p done most : Int) (w : World) (hC : CL w A code) :
    Calls Tryz.prog 21 #[.slice A code.length c, .int .i64 p, .int .i64 done, .int .i64 most] w fun e w' => e = .returned (.int .i64 (refS code p done most)) ∧ Below w.heap.size w w' := by
  by_cases h0 : p < 0
  · have : refS code p done most = 31 := by simp [refS, okPc, show ¬ 0 ≤ p by omega]
    rw [this]
    clear hC
    go_enter Tryz.func21, Tryz.ntmps21
    go_wp2
    go_ret
    exact ⟨rfl, Below.refl _ _⟩
  · by_cases h1 : (code.length : Int) ≤ p
    · have hn : code[p.toNat]? = none := List.getElem?_eq_none (by omega)
      have : refS code p done most = 31 := by simp [refS, okPc, hn]
      rw [this]
      have hq : decide (p < 0) = false := by simpa using h0
      clear hC hn
      go_enter Tryz.func21, Tryz.ntmps21
      go_wp2
      go_ret
      exact ⟨rfl, Below.refl _ _⟩
    · obtain ⟨k, rfl⟩ : ∃ k : Nat, p = k := ⟨p.toNat, by omega⟩
      have hk : k < code.length := by omega
      have hk0 : (0 : Int) ≤ (k : Int) := by omega
      have hk1 : (k : Int) < (code.length : Int) := by omega
      obtain ⟨h, hh⟩ : ∃ h, code[k]? = some h := ⟨code[k], by simp [hk]⟩
      obtain ⟨hw, b, o, rfl, c0, c1, c2, c3, c4, c5⟩ := hC.2 k h hh
      have C : Hid (∀ w1, Calls Tryz.prog 67 #[.agg #[.int .i64 h.op, .int .i64 h.d, .int .i64 h.a, .int .i64 h.b, .int .i64 h.c, .int .u32 h.im]] w1 fun e w' => e = .returned (.bool (rightS h)) ∧ Below w1.heap.size w1 w') := fun w1 => right_c h w1
      have hr : refS code k done most = if rightS h then (if most ≤ done then 35 else 0) else 31 := by simp [refS, okPc, hh]
      rw [hr]
      have hq : decide ((k : Int) < 0) = false := by simp
      have hq2 : decide ((code.length : Int) ≤ (k : Int)) = false := by simp; omega
      clear hr hC hh hw h0 h1
      generalize rightS h = r at *
      generalize (code.length : Nat) = n at *
      cases r
      · go_enter Tryz.func21, Tryz.ntmps21
        go_wp2_with (refine (C.out _).mono ?_; rintro e w1 ⟨rfl, hw1⟩)
        go_ret
        exact ⟨rfl, hw1⟩
      · by_cases hm : most ≤ done
        · rw [if_pos rfl, if_pos hm]
          go_enter Tryz.func21, Tryz.ntmps21
          go_wp2_with (refine (C.out _).mono ?_; rintro e w1 ⟨rfl, hw1⟩)
          go_ret
          exact ⟨rfl, hw1⟩
        · rw [if_pos rfl, if_neg hm]
          go_enter Tryz.func21, Tryz.ntmps21
          go_wp2_with (refine (C.out _).mono ?_; rintro e w1 ⟨rfl, hw1⟩)
          go_ret
          exact ⟨rfl, hw1⟩

/-! ### With a memory -/
def memZ (p l0 lo hi : Nat) (Bs : List Reg) (G D : List (List Int)) (q : Nat → Nat) : Zn := ⟨Zone l0 lo hi, fun w => MemAt w p l0 lo hi Bs G D q, lo, hi⟩
theorem memZ_ok (p l0 lo hi : Nat) (Bs : List Reg) (G D : List (List Int)) (q : Nat → Nat) : (memZ p l0 lo hi Bs G D q).ok :=
  ⟨fun w w' h hs hk => MemAt.kept h hk hs, fun k h1 h2 => .inr ⟨h1, h2⟩⟩
def Zn.free (M : Zn) : Zn := ⟨M.Z, fun _ => True, M.lo, M.hi⟩
theorem free_ok {M : Zn} (h : M.ok) : M.free.ok := ⟨fun _ _ _ _ _ => trivial, h.zz⟩
theorem SH.toFree {M : Zn} {w0 w : World} {L : List (Nat × Cel)} (S : SH M w0 w L) : SH M.free w0 w L := ⟨free_ok S.ok, trivial, S.zb, S.mid, S.blk, S.out, S.nd⟩
theorem SH.join {M : Zn} {w0 w : World} {L : List (Nat × Cel)} (S : SH M.free w0 w L) (ok : M.ok) (h : M.J w) : SH M w0 w L := ⟨ok, h, S.zb, S.mid, S.blk, S.out, S.nd⟩
theorem SH.freeMid {M : Zn} {w0 w w1 : World} {L : List (Nat × Cel)} (S : SH M.free w0 w L) (hm : Mid M.lo M.hi w w1) : SH M.free w0 w1 L :=
  S.turn S.ok trivial (fun k hk => Nat.lt_of_lt_of_le (S.zb k hk) hm.size) (S.mid.trans hm) (fun p hp => hm.block _ (S.blk p hp).lt (by
    have h1 := (S.out p hp).2
    have h2 := S.ok.zz p.1
    have e1 : M.free.lo = M.lo := rfl
    have e2 : M.free.hi = M.hi := rfl
    rw [e1, e2] at h2
    rcases Nat.lt_or_ge p.1 M.lo with h | h
    · exact .inl h
    · rcases Nat.lt_or_ge p.1 M.hi with h' | h'
      · exact absurd (h2 h h') h1
      · exact .inr h')) (fun p hp => (S.out p hp).2)
theorem SH.mem {w : World} {p l0 lo hi : Nat} {Bs : List Reg} {G D : List (List Int)} {q : Nat → Nat} (h : MemAt w p l0 lo hi Bs G D q) (hl : l0 ≤ w.heap.size) : SH (memZ p l0 lo hi Bs G D q) w w [] :=
  ⟨memZ_ok _ _ _ _ _ _ _ _, h, fun k hk => by
    have := h.top
    rcases hk with hk | hk
    · omega
    · omega, Mid.refl _ _ _, fun p hp => (by cases hp), fun p hp => (by cases hp), fun i j p q h => (by simp at h)⟩

def ldErr (Bs : List Reg) (h : HV) (R : List Int) : Int := mayS (regAt Bs) Bs.length ((regv R h.a + h.im) % 4294967296) (loadsS h.op) false
def ldGot (Bs : List Reg) (D : List (List Int)) (h : HV) (R : List Int) : Int := gotS Bs D ((regv R h.a + h.im) % 4294967296) (loadsS h.op)
def stErr (Bs : List Reg) (h : HV) (R : List Int) : Int := mayS (regAt Bs) Bs.length ((regv R h.a + h.im) % 4294967296) (storesS h.op) true
def stDat (Bs : List Reg) (D : List (List Int)) (h : HV) (R : List Int) : List (List Int) := storeS Bs D ((regv R h.a + h.im) % 4294967296) (storesS h.op) (regv R h.b)

theorem loadsS_le (o : Int) : 0 ≤ loadsS o ∧ loadsS o ≤ 4 := by unfold loadsS; (repeat' split) <;> omega
theorem storesS_le (o : Int) : 0 ≤ storesS o ∧ storesS o ≤ 4 := by unfold storesS; (repeat' split) <;> omega

set_option maxHeartbeats 4000000 in
set_option maxRecDepth 100000 in
theorem hload_w (R : List Int) (v : Value) (p : Int) (h : HV) (ho : HOk h) (hR : okR R) (hv : v.oneCell' = true) (p0 : -4611686018427387904 ≤ p) (p1 : p ≤ 4611686018427387904)
    {pm l0 lo hi : Nat} {Bs : List Reg} {G D : List (List Int)} {q : Nat → Nat} (w : World) (hM : MemAt w pm l0 lo hi Bs G D q) (hl0 : l0 ≤ w.heap.size) (er : Int) (her : ldErr Bs h R = er) :
    Calls Tryz.prog 72 #[(Cel.res R v 0 p).val, (Cel.host h).val, .pointer (some ⟨pm, 0, none⟩)] w fun en w' =>
      en = .returned (.tuple #[if er = 0 then (Cel.res (R.set h.d.toNat (ldGot Bs D h R)) v 0 (p + 1)).val else (Cel.res R v er p).val, .bool (decide (er = 0))]) ∧ MemAt w' pm l0 lo hi Bs G D q ∧ Mid lo hi w w' := by
  have S := SH.mem hM hl0
  have hR32 := hR.1
  have ad0 : 0 ≤ (regv R h.a + h.im) % 4294967296 ∧ (regv R h.a + h.im) % 4294967296 ≤ 4294967295 := by omega
  have hl4 := loadsS_le h.op
  have C1 : Hid (∀ w1, Calls Tryz.prog 71 #[(Cel.host h).val, (Cel.regs R).val] w1 fun e w' => e = .returned (.int .u32 ((regv R h.a + h.im) % 4294967296)) ∧ Below w1.heap.size w1 w') := fun w1 => addr_c h R ho hR w1
  have C2 : Hid (∀ w1, Calls Tryz.prog 69 #[.int .i64 h.op] w1 fun e w' => e = .returned (.int .i64 (loadsS h.op)) ∧ w' = w1) := fun w1 => loads_c h.op w1
  have C3 : Hid (∀ w1, MemAt w1 pm l0 lo hi Bs G D q → Calls Tryz.prog 93 #[.pointer (some ⟨pm, 0, none⟩), .int .u32 ((regv R h.a + h.im) % 4294967296), .int .u32 (loadsS h.op)] w1 fun e w' => e = .returned (.tuple #[.int .u32 (ldGot Bs D h R), .int .i64 er]) ∧ Below w1.heap.size w1 w') :=
    fun w1 h1 => by
      have := load_c h1 ((regv R h.a + h.im) % 4294967296) (loadsS h.op) ad0.1 ad0.2
      rw [← her]
      exact this
  have C4 : Hid (∀ w1, Calls Tryz.prog 75 #[(Cel.res R v 0 p).val, .int .i64 er] w1 fun en w' => en = .returned (.tuple #[(Cel.res R v er p).val, .bool false]) ∧ Below w1.heap.size w1 w') := fun w1 => hend_c R v 0 p er hR32 hv w1
  have C5 : Hid (∀ x w1, Calls Tryz.prog 24 #[(Cel.res R v 0 p).val, .int .i64 h.d, .int .u32 x] w1 fun en w' => en = .returned (Cel.res (R.set h.d.toNat x) v 0 (p + 1)).val ∧ Below w1.heap.size w1 w') := fun x w1 => set_c R v 0 p h.d x hR32 hv ho.1.1 ho.1.2 p0 p1 w1
  have ew : IntKind.u32.wrap (loadsS h.op) = loadsS h.op := by rw [IntKind.wrap_u32]; omega
  clear ho hR hM ad0 hl4 her
  generalize (regv R h.a + h.im) % 4294967296 = ad at *
  generalize loadsS h.op = lw at *
  generalize ldGot Bs D h R = got at *
  have hlS : (R.set h.d.toNat got).length = 32 := by simp [hR32]
  go_enter Tryz.func72, Tryz.ntmps72
  go_wp2_with (first
    | (refine S.box rfl _ _ rfl (Cel.res R v 0 p) rfl ?_; clear S; intro b1 w1 S)
    | (refine S.box rfl _ _ rfl (Cel.host h) rfl ?_; clear S; intro b2 w2 S)
    | (refine S.alloc rfl 49 rfl _ zeroRes ?_; clear S; intro b3 w3 S))
  refine Upto.start (S := fun w' => SH (memZ pm l0 lo hi Bs G D q) w w' [(b3, Cel.res (List.replicate 32 0) (.slice none 0 0) 0 0), (b2, Cel.host h), (b1, Cel.res R v 0 p)]) 14 (by kernel_rfl) ?_
  replace S := S.drew
  refine Upto.take (i := 0) (oi := { dst := some 11, op := Op.move (Operand.tmp 2), type := 34, pos := "hvm.go:109", after := #[], guard := none }) (v := ?_) rfl (by kernel_rfl) (by kernel_rfl) (by kernel_rfl) (by kernel_rfl) (fun _ _ _ h => h) (Or.inl ⟨by rfl, ?_⟩) (by exact S) ?_
  rotate_left 1
  · intro w hSw
    clear hSw
    go_simp
    try with_reducible rfl
  simp only [Act.put, List.setIfInBounds_toArray, List.set_cons_zero, List.set_cons_succ]
  refine Upto.take (i := 1) (oi := { dst := some 12, op := Op.load 31 (Operand.tmp 4), type := 31, pos := "hvm.go:109", after := #[], guard := none }) (v := _) rfl (by kernel_rfl) (by kernel_rfl) (by kernel_rfl) (by kernel_rfl) (fun _ _ _ h => h) (y_loadAll (by rfl) _ _ rfl _ rfl 1 _ rfl _ Tryz.underlying31 rfl szHost) (by exact S) ?_
  simp only [Act.put, List.setIfInBounds_toArray, List.set_cons_zero, List.set_cons_succ]
  refine Upto.take (i := 2) (oi := { dst := some 13, op := Op.fieldAddr 49 (Operand.tmp 3) 0, type := 0, pos := "hvm.go:109", after := #[], guard := none }) (v := ?_) rfl (by kernel_rfl) (by kernel_rfl) (by kernel_rfl) (by kernel_rfl) (fun _ _ _ h => h) (Or.inl ⟨by rfl, ?_⟩) (by exact S) ?_
  rotate_left 1
  · intro w hSw
    clear hSw
    go_simp
    try with_reducible rfl
  simp only [Act.put, List.setIfInBounds_toArray, List.set_cons_zero, List.set_cons_succ]
  refine Upto.take (i := 3) (oi := { dst := some 14, op := Op.load 27 (Operand.tmp 13), type := 27, pos := "hvm.go:109", after := #[{ on := 2, ground := Ground.data }], guard := none }) (v := _) rfl (by kernel_rfl) (by kernel_rfl) (by kernel_rfl) (by kernel_rfl) (fun _ _ _ h => h) (y_loadRegs (by rfl) _ _ rfl _ rfl 2 _ _ _ _ rfl _ Tryz.underlying27 rfl (by rw [rc_length, hR32]; exact szRegs)) (by exact S) ?_
  simp only [Act.put, List.setIfInBounds_toArray, List.set_cons_zero, List.set_cons_succ]
  refine Upto.take (i := 5) (oi := { dst := some 16, op := Op.fieldAddr 31 (Operand.tmp 4) 0, type := 0, pos := "hvm.go:109", after := #[], guard := none }) (v := ?_) rfl (by kernel_rfl) (by kernel_rfl) (by kernel_rfl) (by kernel_rfl) (fun _ _ _ h => h) (Or.inl ⟨by rfl, ?_⟩) (by exact S) ?_
  rotate_left 1
  · intro w hSw
    clear hSw
    go_simp
    try with_reducible rfl
  simp only [Act.put, List.setIfInBounds_toArray, List.set_cons_zero, List.set_cons_succ]
  refine Upto.take (i := 6) (oi := { dst := some 17, op := Op.load 3 (Operand.tmp 16), type := 3, pos := "hvm.go:109", after := #[{ on := 5, ground := Ground.data }], guard := none }) (v := _) rfl (by kernel_rfl) (by kernel_rfl) (by kernel_rfl) (by kernel_rfl) (fun _ _ _ h => h) (y_load1 (by rfl) _ _ rfl _ _ rfl 1 _ rfl _ rfl _ Tryz.underlying3 rfl) (by exact S) ?_
  simp only [Act.put, List.setIfInBounds_toArray, List.set_cons_zero, List.set_cons_succ]
  refine Upto.ready (rs := [4]) (by kernel_rfl) (by simp) ?_
  refine Nexts.cons rfl (by decide) (fun K hK => ?_) Nexts.nil
  go_simp
  go_wp2_with (refine (C1.out _).mono ?_; rintro e w8 ⟨rfl, hw8⟩)
  replace S := S.below hw8
  clear hw8
  refine hK.out _ _ (by exact S) ?_
  clear hK K
  refine Upto.ready (rs := [7]) (by kernel_rfl) (by simp) ?_
  refine Nexts.cons rfl (by decide) (fun K hK => ?_) Nexts.nil
  go_simp
  go_wp2_with (refine (C2.out _).mono ?_; rintro e w9 ⟨rfl, rfl⟩)
  refine hK.out _ _ (by exact S) ?_
  clear hK K
  refine Upto.take (i := 8) (oi := { dst := some 19, op := Op.convert 3 26 (Operand.tmp 18), type := 26, pos := "hvm.go:109", after := #[{ on := 7, ground := Ground.data }], guard := none }) (v := ?_) rfl (by kernel_rfl) (by kernel_rfl) (by kernel_rfl) (by kernel_rfl) (fun _ _ _ h => h) (Or.inl ⟨by rfl, ?_⟩) (by exact S) ?_
  rotate_left 1
  · intro w hSw
    clear hSw
    go_simp
    try with_reducible rfl
  simp only [Act.put, List.setIfInBounds_toArray, List.set_cons_zero, List.set_cons_succ]
  refine Upto.ready (rs := [9]) (by kernel_rfl) (by simp) ?_
  refine Nexts.cons rfl (by decide) (fun K hK => ?_) Nexts.nil
  go_simp
  go_wp2_with (refine (C3.out _ S.inv).mono ?_; rintro e w9 ⟨rfl, hw8⟩)
  replace S := S.below hw8
  clear hw8
  refine hK.out _ _ (by exact S) ?_
  clear hK K
  refine Upto.take (i := 10) (oi := { dst := some 10, op := Op.move (Operand.tmp 20), type := 113, pos := "hvm.go:109", after := #[{ on := 9, ground := Ground.data }], guard := none }) (v := ?_) rfl (by kernel_rfl) (by kernel_rfl) (by kernel_rfl) (by kernel_rfl) (fun _ _ _ h => h) (Or.inl ⟨by rfl, ?_⟩) (by exact S) ?_
  rotate_left 1
  · intro w hSw
    clear hSw
    go_simp
    try with_reducible rfl
  simp only [Act.put, List.setIfInBounds_toArray, List.set_cons_zero, List.set_cons_succ]
  refine Upto.take (i := 11) (oi := { dst := some 21, op := Op.extract (Operand.tmp 10) 0, type := 26, pos := "hvm.go:109", after := #[{ on := 10, ground := Ground.data }], guard := none }) (v := ?_) rfl (by kernel_rfl) (by kernel_rfl) (by kernel_rfl) (by kernel_rfl) (fun _ _ _ h => h) (Or.inl ⟨by rfl, ?_⟩) (by exact S) ?_
  rotate_left 1
  · intro w hSw
    clear hSw
    go_simp
    try with_reducible rfl
  simp only [Act.put, List.setIfInBounds_toArray, List.set_cons_zero, List.set_cons_succ]
  refine Upto.take (i := 12) (oi := { dst := some 22, op := Op.extract (Operand.tmp 10) 1, type := 35, pos := "hvm.go:109", after := #[{ on := 10, ground := Ground.data }, { on := 13, ground := Ground.gcOnly Departure.lateStores }], guard := none }) (v := ?_) rfl (by kernel_rfl) (by kernel_rfl) (by kernel_rfl) (by kernel_rfl) (fun _ _ _ h => h) (Or.inl ⟨by rfl, ?_⟩) (by exact S) ?_
  rotate_left 1
  · intro w hSw
    clear hSw
    go_simp
    try with_reducible rfl
  simp only [Act.put, List.setIfInBounds_toArray, List.set_cons_zero, List.set_cons_succ]
  refine Upto.take (i := 13) (oi := { dst := some 8, op := Op.assign (Operand.tmp 21), type := 26, pos := "hvm.go:109", after := #[{ on := 11, ground := Ground.data }, { on := 9, ground := Ground.chain }, { on := 0, ground := Ground.phase }, { on := 1, ground := Ground.phase }, { on := 2, ground := Ground.phase }, { on := 3, ground := Ground.phase }, { on := 4, ground := Ground.phase }, { on := 5, ground := Ground.phase }, { on := 6, ground := Ground.phase }, { on := 7, ground := Ground.phase }, { on := 8, ground := Ground.phase }, { on := 9, ground := Ground.phase }, { on := 10, ground := Ground.phase }, { on := 11, ground := Ground.phase }, { on := 12, ground := Ground.textOnly Departure.lateStores }], guard := none }) (v := ?_) rfl (by kernel_rfl) (by kernel_rfl) (by kernel_rfl) (by kernel_rfl) (fun _ _ _ h => h) (Or.inl ⟨by rfl, ?_⟩) (by exact S) ?_
  rotate_left 1
  · intro w hSw
    clear hSw
    go_simp
    try with_reducible rfl
  simp only [Act.put, List.setIfInBounds_toArray, List.set_cons_zero, List.set_cons_succ]
  refine Upto.ready (rs := [14]) (by kernel_rfl) (by simp) ?_
  refine Nexts.last rfl (fun K hK => ?_)
  go_simp
  refine hK.out _ _ ?_
  clear hK K
  refine Upto.done (by kernel_rfl) ?_ _
  clear C1 C2 C3 ew
  by_cases h0 : er = 0
  · subst h0
    go_wp2_with (first
      | (refine S.loadAll rfl 49 _ rfl _ rfl 2 (Cel.res R v 0 p) rfl _ Tryz.underlying49 rfl (by rw [res_length hR32]; exact szRes) ?_)
      | (refine S.load1 rfl 3 _ rfl _ 1 rfl 1 (Cel.host h) rfl _ rfl _ Tryz.underlying3 rfl ?_)
      | (refine (C5.out _ _).mono ?_; rintro e w9 ⟨rfl, hw8⟩; replace S := S.below hw8; clear hw8)
      | (refine S.storeAll rfl 49 _ _ rfl _ (Cel.res _ _ _ _) rfl rfl 0 _ rfl (by rw [res_length hlS, res_length (by simp)]) (one_res hv) (by rw [res_length hlS]; exact szRes) ?_; clear S; intro w S; simp only [List.set_cons_zero, List.set_cons_succ] at S))
    refine bodyPost_ret (S.results2 rfl _ _ rfl 0 _ rfl _ Tryz.underlying49 rfl (by rw [res_length hlS]; exact szRes)) rfl ?_
    exact ⟨rfl, S.inv, S.mid⟩
  · have hne : (er != 0) = true := by simpa using h0
    go_wp2_with (first
      | (refine S.loadAll rfl 49 _ rfl _ rfl 2 (Cel.res R v 0 p) rfl _ Tryz.underlying49 rfl (by rw [res_length hR32]; exact szRes) ?_)
      | (refine (C4.out _).mono ?_; rintro e w9 ⟨rfl, hw8⟩; replace S := S.below hw8; clear hw8)
      | (refine S.storeAll rfl 49 _ _ rfl _ (Cel.res _ _ _ _) rfl rfl 0 _ rfl (by rw [res_length hR32, res_length (by simp)]) (one_res hv) (by rw [res_length hR32]; exact szRes) ?_; clear S; intro w S; simp only [List.set_cons_zero, List.set_cons_succ] at S))
    refine bodyPost_ret (S.results2 rfl _ _ rfl 0 _ rfl _ Tryz.underlying49 rfl (by rw [res_length hR32]; exact szRes)) rfl ?_
    exact ⟨by simp [h0], S.inv, S.mid⟩
end Go.Proofs.YtjhmmfpmmgebjaaGreat
namespace Go.Proofs.YtjhmmfpmmgebjaaGreat
open Go.ChangeShapes Go.WideShapes Go.ChangeAt Go.RowKit
set_option linter.unusedVariables false
set_option linter.unusedSimpArgs false

set_option maxHeartbeats 4000000 in
set_option maxRecDepth 100000 in
theorem hstore_w (R : List Int) (v : Value) (p : Int) (h : HV) (ho : HOk h) (hR : okR R) (hv : v.oneCell' = true) (p0 : -4611686018427387904 ≤ p) (p1 : p ≤ 4611686018427387904)
    {pm l0 lo hi : Nat} {Bs : List Reg} {G D : List (List Int)} {q : Nat → Nat} (w : World) (hM : MemAt w pm l0 lo hi Bs G D q) (hl0 : l0 ≤ w.heap.size) (er : Int) (her : stErr Bs h R = er) (D' : List (List Int)) (hD : stDat Bs D h R = D') :
    Calls Tryz.prog 73 #[(Cel.res R v 0 p).val, (Cel.host h).val, .pointer (some ⟨pm, 0, none⟩)] w fun en w' =>
      en = .returned (.tuple #[if er = 0 then (Cel.res R v 0 (p + 1)).val else (Cel.res R v er p).val, .bool (decide (er = 0))]) ∧ MemAt w' pm l0 lo hi Bs G D' q ∧ Mid lo hi w w' := by
  have S := SH.mem hM hl0
  have hR32 := hR.1
  have ad0 : 0 ≤ (regv R h.a + h.im) % 4294967296 ∧ (regv R h.a + h.im) % 4294967296 ≤ 4294967295 := by omega
  have hl4 := storesS_le h.op
  have C1 : Hid (∀ w1, Calls Tryz.prog 71 #[(Cel.host h).val, (Cel.regs R).val] w1 fun e w' => e = .returned (.int .u32 ((regv R h.a + h.im) % 4294967296)) ∧ Below w1.heap.size w1 w') := fun w1 => addr_c h R ho hR w1
  have C2 : Hid (∀ w1, Calls Tryz.prog 70 #[.int .i64 h.op] w1 fun e w' => e = .returned (.int .i64 (storesS h.op)) ∧ w' = w1) := fun w1 => stores_c h.op w1
  obtain ⟨b0, b1'⟩ := ho.2.2.1
  obtain ⟨hB, ub, vb⟩ := regv_at hR b0 b1'
  have HB : Hid (R[h.b.toNat]? = some (regv R h.b)) := hB
  have C3 : Hid (∀ w1, MemAt w1 pm l0 lo hi Bs G D q → Calls Tryz.prog 94 #[.pointer (some ⟨pm, 0, none⟩), .int .u32 ((regv R h.a + h.im) % 4294967296), .int .u32 (storesS h.op), .int .u32 (regv R h.b)] w1 fun e w' => e = .returned (.int .i64 er) ∧ MemAt w' pm l0 lo hi Bs G D' q ∧ Mid lo hi w1 w') :=
    fun w1 h1 => by
      have := store_c h1 ((regv R h.a + h.im) % 4294967296) (storesS h.op) (regv R h.b) ad0.1 ad0.2 ub (by omega)
      rw [← her, ← hD]
      exact this
  have C4 : Hid (∀ w1, Calls Tryz.prog 75 #[(Cel.res R v 0 p).val, .int .i64 er] w1 fun en w' => en = .returned (.tuple #[(Cel.res R v er p).val, .bool false]) ∧ Below w1.heap.size w1 w') := fun w1 => hend_c R v 0 p er hR32 hv w1
  have ew : IntKind.u32.wrap (storesS h.op) = storesS h.op := by rw [IntKind.wrap_u32]; omega
  clear ho hR hM ad0 hl4 her hD hB
  generalize (regv R h.a + h.im) % 4294967296 = ad at *
  generalize storesS h.op = lw at *
  generalize regv R h.b = y at *
  go_enter Tryz.func73, Tryz.ntmps73
  go_wp2_with (first
    | (refine S.box rfl _ _ rfl (Cel.res R v 0 p) rfl ?_; clear S; intro b1 w1 S)
    | (refine S.box rfl _ _ rfl (Cel.host h) rfl ?_; clear S; intro b2 w2 S)
    | (refine S.alloc rfl 49 rfl _ zeroRes ?_; clear S; intro b3 w3 S))
  have HM : Hid (MemAt w3.drew pm l0 lo hi Bs G D q) := S.inv.below (Below.refl _ _).drew
  replace S := S.toFree
  refine Upto.start (S := fun w' => SH (memZ pm l0 lo hi Bs G D q).free w w' [(b3, Cel.res (List.replicate 32 0) (.slice none 0 0) 0 0), (b2, Cel.host h), (b1, Cel.res R v 0 p)]) 15 (by kernel_rfl) ?_
  replace S := S.drew
  refine Upto.take (i := 0) (oi := { dst := some 9, op := Op.move (Operand.tmp 2), type := 34, pos := "hvm.go:118", after := #[], guard := none }) (v := ?_) rfl (by kernel_rfl) (by kernel_rfl) (by kernel_rfl) (by kernel_rfl) (fun _ _ _ h => h) (Or.inl ⟨by rfl, ?_⟩) (by exact S) ?_
  rotate_left 1
  · intro w hSw
    clear hSw
    go_simp
    try with_reducible rfl
  simp only [Act.put, List.setIfInBounds_toArray, List.set_cons_zero, List.set_cons_succ]
  refine Upto.take (i := 1) (oi := { dst := some 10, op := Op.load 31 (Operand.tmp 4), type := 31, pos := "hvm.go:118", after := #[], guard := none }) (v := _) rfl (by kernel_rfl) (by kernel_rfl) (by kernel_rfl) (by kernel_rfl) (fun _ _ _ h => h) (y_loadAll (by rfl) _ _ rfl _ rfl 1 _ rfl _ Tryz.underlying31 rfl szHost) (by exact S) ?_
  simp only [Act.put, List.setIfInBounds_toArray, List.set_cons_zero, List.set_cons_succ]
  refine Upto.take (i := 2) (oi := { dst := some 11, op := Op.fieldAddr 49 (Operand.tmp 3) 0, type := 0, pos := "hvm.go:118", after := #[], guard := none }) (v := ?_) rfl (by kernel_rfl) (by kernel_rfl) (by kernel_rfl) (by kernel_rfl) (fun _ _ _ h => h) (Or.inl ⟨by rfl, ?_⟩) (by exact S) ?_
  rotate_left 1
  · intro w hSw
    clear hSw
    go_simp
    try with_reducible rfl
  simp only [Act.put, List.setIfInBounds_toArray, List.set_cons_zero, List.set_cons_succ]
  refine Upto.take (i := 3) (oi := { dst := some 12, op := Op.load 27 (Operand.tmp 11), type := 27, pos := "hvm.go:118", after := #[{ on := 2, ground := Ground.data }], guard := none }) (v := _) rfl (by kernel_rfl) (by kernel_rfl) (by kernel_rfl) (by kernel_rfl) (fun _ _ _ h => h) (y_loadRegs (by rfl) _ _ rfl _ rfl 2 _ _ _ _ rfl _ Tryz.underlying27 rfl (by rw [rc_length, hR32]; exact szRegs)) (by exact S) ?_
  simp only [Act.put, List.setIfInBounds_toArray, List.set_cons_zero, List.set_cons_succ]
  refine Upto.take (i := 5) (oi := { dst := some 14, op := Op.fieldAddr 31 (Operand.tmp 4) 0, type := 0, pos := "hvm.go:118", after := #[], guard := none }) (v := ?_) rfl (by kernel_rfl) (by kernel_rfl) (by kernel_rfl) (by kernel_rfl) (fun _ _ _ h => h) (Or.inl ⟨by rfl, ?_⟩) (by exact S) ?_
  rotate_left 1
  · intro w hSw
    clear hSw
    go_simp
    try with_reducible rfl
  simp only [Act.put, List.setIfInBounds_toArray, List.set_cons_zero, List.set_cons_succ]
  refine Upto.take (i := 6) (oi := { dst := some 15, op := Op.load 3 (Operand.tmp 14), type := 3, pos := "hvm.go:118", after := #[{ on := 5, ground := Ground.data }], guard := none }) (v := _) rfl (by kernel_rfl) (by kernel_rfl) (by kernel_rfl) (by kernel_rfl) (fun _ _ _ h => h) (y_load1 (by rfl) _ _ rfl _ _ rfl 1 _ rfl _ rfl _ Tryz.underlying3 rfl) (by exact S) ?_
  simp only [Act.put, List.setIfInBounds_toArray, List.set_cons_zero, List.set_cons_succ]
  refine Upto.take (i := 9) (oi := { dst := some 18, op := Op.fieldAddr 31 (Operand.tmp 4) 3, type := 0, pos := "hvm.go:118", after := #[], guard := none }) (v := ?_) rfl (by kernel_rfl) (by kernel_rfl) (by kernel_rfl) (by kernel_rfl) (fun _ _ _ h => h) (Or.inl ⟨by rfl, ?_⟩) (by exact S) ?_
  rotate_left 1
  · intro w hSw
    clear hSw
    go_simp
    try with_reducible rfl
  simp only [Act.put, List.setIfInBounds_toArray, List.set_cons_zero, List.set_cons_succ]
  refine Upto.take (i := 10) (oi := { dst := some 19, op := Op.load 3 (Operand.tmp 18), type := 3, pos := "hvm.go:118", after := #[{ on := 9, ground := Ground.data }], guard := none }) (v := _) rfl (by kernel_rfl) (by kernel_rfl) (by kernel_rfl) (by kernel_rfl) (fun _ _ _ h => h) (y_load1 (by rfl) _ _ rfl _ _ rfl 1 _ rfl _ rfl _ Tryz.underlying3 rfl) (by exact S) ?_
  simp only [Act.put, List.setIfInBounds_toArray, List.set_cons_zero, List.set_cons_succ]
  refine Upto.take (i := 11) (oi := { dst := some 20, op := Op.fieldAddr 49 (Operand.tmp 3) 0, type := 0, pos := "hvm.go:118", after := #[], guard := none }) (v := ?_) rfl (by kernel_rfl) (by kernel_rfl) (by kernel_rfl) (by kernel_rfl) (fun _ _ _ h => h) (Or.inl ⟨by rfl, ?_⟩) (by exact S) ?_
  rotate_left 1
  · intro w hSw
    clear hSw
    go_simp
    try with_reducible rfl
  simp only [Act.put, List.setIfInBounds_toArray, List.set_cons_zero, List.set_cons_succ]
  refine Upto.take (i := 12) (oi := { dst := some 21, op := Op.indexAddr 27 (Operand.tmp 20) (Operand.tmp 19), type := 0, pos := "hvm.go:118", after := #[{ on := 11, ground := Ground.data }, { on := 10, ground := Ground.data }], guard := none }) (v := ?_) rfl (by kernel_rfl) (by kernel_rfl) (by kernel_rfl) (by kernel_rfl) (fun _ _ _ h => h) (Or.inl ⟨by rfl, ?_⟩) (by exact S) ?_
  rotate_left 1
  · intro w hSw
    clear hSw
    go_simp
    try with_reducible rfl
  simp only [Act.put, List.setIfInBounds_toArray, List.set_cons_zero, List.set_cons_succ]
  refine Upto.take (i := 13) (oi := { dst := some 22, op := Op.load 26 (Operand.tmp 21), type := 26, pos := "hvm.go:118", after := #[{ on := 12, ground := Ground.data }], guard := none }) (v := _) rfl (by kernel_rfl) (by kernel_rfl) (by kernel_rfl) (by kernel_rfl) (fun _ _ _ h => h) (y_load1 (by rfl) _ _ rfl _ _ rfl 2 _ rfl _ (res_reg HB.out _ _ _) _ Tryz.underlying26 rfl) (by exact S) ?_
  simp only [Act.put, List.setIfInBounds_toArray, List.set_cons_zero, List.set_cons_succ]
  refine Upto.ready (rs := [4]) (by kernel_rfl) (by simp) ?_
  refine Nexts.cons rfl (by decide) (fun K hK => ?_) Nexts.nil
  go_simp
  go_wp2_with (refine (C1.out _).mono ?_; rintro e w8 ⟨rfl, hw8⟩)
  replace S := S.below hw8
  replace HM : Hid (MemAt w8 pm l0 lo hi Bs G D q) := HM.out.below hw8
  clear hw8
  refine hK.out _ _ (by exact S) ?_
  clear hK K
  refine Upto.ready (rs := [7]) (by kernel_rfl) (by simp) ?_
  refine Nexts.cons rfl (by decide) (fun K hK => ?_) Nexts.nil
  go_simp
  go_wp2_with (refine (C2.out _).mono ?_; rintro e w9 ⟨rfl, rfl⟩)
  refine hK.out _ _ (by exact S) ?_
  clear hK K
  refine Upto.take (i := 8) (oi := { dst := some 17, op := Op.convert 3 26 (Operand.tmp 16), type := 26, pos := "hvm.go:118", after := #[{ on := 7, ground := Ground.data }], guard := none }) (v := ?_) rfl (by kernel_rfl) (by kernel_rfl) (by kernel_rfl) (by kernel_rfl) (fun _ _ _ h => h) (Or.inl ⟨by rfl, ?_⟩) (by exact S) ?_
  rotate_left 1
  · intro w hSw
    clear hSw
    go_simp
    try with_reducible rfl
  simp only [Act.put, List.setIfInBounds_toArray, List.set_cons_zero, List.set_cons_succ]
  refine Upto.ready (rs := [14]) (by kernel_rfl) (by simp) ?_
  refine Nexts.cons rfl (by decide) (fun K hK => ?_) Nexts.nil
  go_simp
  go_wp2_with (refine (C3.out _ HM.out).mono ?_; rintro e w9 ⟨rfl, hm9, hw8⟩)
  replace S := S.freeMid hw8
  replace HM : Hid (MemAt w9 pm l0 lo hi Bs G D' q) := hm9
  clear hw8 hm9
  refine hK.out _ _ (by exact S) ?_
  clear hK K
  refine Upto.ready (rs := [15]) (by kernel_rfl) (by simp) ?_
  refine Nexts.last rfl (fun K hK => ?_)
  go_simp
  refine hK.out _ _ ?_
  clear hK K
  refine Upto.done (by kernel_rfl) ?_ _
  replace S := S.join (M := memZ pm l0 lo hi Bs G D' q) (memZ_ok _ _ _ _ _ _ _ _) HM.out
  clear C1 C2 C3 ew HM
  by_cases h0 : er = 0
  · subst h0
    go_wp2_with (first
      | (refine S.loadAll rfl 49 _ rfl _ rfl 2 (Cel.res R v 0 _) rfl _ Tryz.underlying49 rfl (by rw [res_length hR32]; exact szRes) ?_)
      | (refine S.load1 rfl 3 _ rfl _ 34 rfl 2 (Cel.res R v 0 p) rfl _ (res_34 hR32 _ _ _) _ Tryz.underlying3 rfl ?_)
      | (refine S.store1 rfl 3 _ _ rfl _ 34 _ rfl rfl 2 _ rfl rfl (by rw [res_length hR32]; omega) _ (set_34 hR32 _ _ _ _) szI ?_; clear S; intro w S; simp only [List.set_cons_zero, List.set_cons_succ] at S)
      | (refine S.storeAll rfl 49 _ _ rfl _ (Cel.res _ _ _ _) rfl rfl 0 _ rfl (by rw [res_length hR32, res_length (by simp)]) (one_res hv) (by rw [res_length hR32]; exact szRes) ?_; clear S; intro w S; simp only [List.set_cons_zero, List.set_cons_succ] at S))
    refine bodyPost_ret (S.results2 rfl _ _ rfl 0 _ rfl _ Tryz.underlying49 rfl (by rw [res_length hR32]; exact szRes)) rfl ?_
    exact ⟨rfl, S.inv, S.mid⟩
  · have hne : (er != 0) = true := by simpa using h0
    go_wp2_with (first
      | (refine S.loadAll rfl 49 _ rfl _ rfl 2 (Cel.res R v 0 p) rfl _ Tryz.underlying49 rfl (by rw [res_length hR32]; exact szRes) ?_)
      | (refine (C4.out _).mono ?_; rintro e w9 ⟨rfl, hw8⟩; replace S := S.below hw8; clear hw8)
      | (refine S.storeAll rfl 49 _ _ rfl _ (Cel.res _ _ _ _) rfl rfl 0 _ rfl (by rw [res_length hR32, res_length (by simp)]) (one_res hv) (by rw [res_length hR32]; exact szRes) ?_; clear S; intro w S; simp only [List.set_cons_zero, List.set_cons_succ] at S))
    refine bodyPost_ret (S.results2 rfl _ _ rfl 0 _ rfl _ Tryz.underlying49 rfl (by rw [res_length hR32]; exact szRes)) rfl ?_
    exact ⟨by simp [h0], S.inv, S.mid⟩
end Go.Proofs.YtjhmmfpmmgebjaaGreat
