/- What each reckoner puts into D, walked. -/
import Derived.Test.YteflboidbogegaaHvP
import Derived.BigRegion
namespace Go.Proofs.Yteflboidbogegaa
open Go.ChangeShapes Go.WideShapes Go.ChangeAt Go.RowKit
set_option linter.unusedVariables false
set_option linter.unusedSimpArgs false

def oneB (q : Bool) : Int := if q then 1 else 0
theorem hone_c (q : Bool) (w : World) : Calls Try.prog 56 #[.bool q] w fun e w' => e = .returned (.int .u32 (oneB q)) ∧ w' = w := by
  cases q
  · go_enter Try.func56, Try.ntmps56
    go_wp2
    go_ret
    exact ⟨rfl, rfl⟩
  · go_enter Try.func56, Try.ntmps56
    go_wp2
    go_ret
    exact ⟨rfl, rfl⟩
theorem sum_c (a n : Int) (a0 : -2305843009213693952 ≤ a) (a1 : a ≤ 2305843009213693952) (n0 : 0 ≤ n) (n1 : n ≤ 2305843009213693952) (w : World) : Calls Try.prog 21 #[.int .i64 a, .int .i64 n] w fun e w' => e = .returned (.int .i64 (a + n)) ∧ w' = w := by
  have h : ¬ 9223372036854775807 - n < a := by omega
  go_enter Try.func21, Try.ntmps21
  go_wp2
  go_ret
  exact ⟨rfl, rfl⟩
set_option maxHeartbeats 2000000 in
set_option maxRecDepth 100000 in
theorem rk1_c (h : HV) (R : List Int) (ho : HOk h) (hR : okR R) (w : World) : Calls Try.prog 33 #[(Cel.host h).val, (Cel.regs R).val] w fun e w' => e = .returned (.int .u32 (reckS 1 (regv R h.a) (regv R h.b) (regv R h.c) h.im)) ∧ Below w.heap.size w w' := by
  have S := SH.start w
  obtain ⟨⟨d0, d1⟩, ⟨a0, a1⟩, ⟨b0, b1⟩, ⟨c0, c1⟩, i0, i1⟩ := ho
  obtain ⟨hA, ua, va⟩ := regv_at hR a0 a1
  obtain ⟨hB, ub, vb⟩ := regv_at hR b0 b1
  obtain ⟨hC, uc, vc⟩ := regv_at hR c0 c1
  have hl := hR.1
  clear hR
  have HA : Hid (R[h.a.toNat]? = some (regv R h.a)) := hA
  have HB : Hid (R[h.b.toNat]? = some (regv R h.b)) := hB
  have HC : Hid (R[h.c.toNat]? = some (regv R h.c)) := hC
  clear hA hB hC
  generalize regv R h.a = x at *
  generalize regv R h.b = y at *
  generalize regv R h.c = z at *
  go_enter Try.func33, Try.ntmps33
  go_wp2_with (first
    | (refine S.box rfl _ _ rfl (Cel.host h) rfl ?_; clear S; intro q1 w1 S)
    | (refine S.box rfl _ _ rfl (Cel.regs R) rfl ?_; clear S; intro q2 w2 S)
    | (refine S.load1 rfl 3 _ rfl _ 2 rfl 1 (Cel.host h) rfl _ rfl _ Try.underlying3 rfl ?_)
    | (refine S.load1 rfl 3 _ rfl _ 3 rfl 1 (Cel.host h) rfl _ rfl _ Try.underlying3 rfl ?_)
    | (refine S.load1 rfl 3 _ rfl _ 4 rfl 1 (Cel.host h) rfl _ rfl _ Try.underlying3 rfl ?_)
    | (refine S.load1 rfl 22 _ rfl _ 5 rfl 1 (Cel.host h) rfl _ rfl _ Try.underlying22 rfl ?_)
    | (refine S.load1 rfl 22 _ rfl _ _ rfl 0 (Cel.regs R) rfl _ (rc_at HA.out) _ Try.underlying22 rfl ?_)
    | (refine S.load1 rfl 22 _ rfl _ _ rfl 0 (Cel.regs R) rfl _ (rc_at HB.out) _ Try.underlying22 rfl ?_)
    | (refine S.load1 rfl 22 _ rfl _ _ rfl 0 (Cel.regs R) rfl _ (rc_at HC.out) _ Try.underlying22 rfl ?_))
  go_ret
  exact ⟨by simp [reckS], S.low⟩
set_option maxHeartbeats 2000000 in
set_option maxRecDepth 100000 in
theorem rk2_c (h : HV) (R : List Int) (ho : HOk h) (hR : okR R) (w : World) : Calls Try.prog 34 #[(Cel.host h).val, (Cel.regs R).val] w fun e w' => e = .returned (.int .u32 (reckS 2 (regv R h.a) (regv R h.b) (regv R h.c) h.im)) ∧ Below w.heap.size w w' := by
  have S := SH.start w
  obtain ⟨⟨d0, d1⟩, ⟨a0, a1⟩, ⟨b0, b1⟩, ⟨c0, c1⟩, i0, i1⟩ := ho
  obtain ⟨hA, ua, va⟩ := regv_at hR a0 a1
  obtain ⟨hB, ub, vb⟩ := regv_at hR b0 b1
  obtain ⟨hC, uc, vc⟩ := regv_at hR c0 c1
  have hl := hR.1
  clear hR
  have HA : Hid (R[h.a.toNat]? = some (regv R h.a)) := hA
  have HB : Hid (R[h.b.toNat]? = some (regv R h.b)) := hB
  have HC : Hid (R[h.c.toNat]? = some (regv R h.c)) := hC
  clear hA hB hC
  generalize regv R h.a = x at *
  generalize regv R h.b = y at *
  generalize regv R h.c = z at *
  go_enter Try.func34, Try.ntmps34
  go_wp2_with (first
    | (refine S.box rfl _ _ rfl (Cel.host h) rfl ?_; clear S; intro q1 w1 S)
    | (refine S.box rfl _ _ rfl (Cel.regs R) rfl ?_; clear S; intro q2 w2 S)
    | (refine S.load1 rfl 3 _ rfl _ 2 rfl 1 (Cel.host h) rfl _ rfl _ Try.underlying3 rfl ?_)
    | (refine S.load1 rfl 3 _ rfl _ 3 rfl 1 (Cel.host h) rfl _ rfl _ Try.underlying3 rfl ?_)
    | (refine S.load1 rfl 3 _ rfl _ 4 rfl 1 (Cel.host h) rfl _ rfl _ Try.underlying3 rfl ?_)
    | (refine S.load1 rfl 22 _ rfl _ 5 rfl 1 (Cel.host h) rfl _ rfl _ Try.underlying22 rfl ?_)
    | (refine S.load1 rfl 22 _ rfl _ _ rfl 0 (Cel.regs R) rfl _ (rc_at HA.out) _ Try.underlying22 rfl ?_)
    | (refine S.load1 rfl 22 _ rfl _ _ rfl 0 (Cel.regs R) rfl _ (rc_at HB.out) _ Try.underlying22 rfl ?_)
    | (refine S.load1 rfl 22 _ rfl _ _ rfl 0 (Cel.regs R) rfl _ (rc_at HC.out) _ Try.underlying22 rfl ?_))
  go_ret
  exact ⟨by simp [reckS], S.low⟩
set_option maxHeartbeats 2000000 in
set_option maxRecDepth 100000 in
theorem rk3_c (h : HV) (R : List Int) (ho : HOk h) (hR : okR R) (w : World) : Calls Try.prog 35 #[(Cel.host h).val, (Cel.regs R).val] w fun e w' => e = .returned (.int .u32 (reckS 3 (regv R h.a) (regv R h.b) (regv R h.c) h.im)) ∧ Below w.heap.size w w' := by
  have S := SH.start w
  obtain ⟨⟨d0, d1⟩, ⟨a0, a1⟩, ⟨b0, b1⟩, ⟨c0, c1⟩, i0, i1⟩ := ho
  obtain ⟨hA, ua, va⟩ := regv_at hR a0 a1
  obtain ⟨hB, ub, vb⟩ := regv_at hR b0 b1
  obtain ⟨hC, uc, vc⟩ := regv_at hR c0 c1
  have hl := hR.1
  clear hR
  have HA : Hid (R[h.a.toNat]? = some (regv R h.a)) := hA
  have HB : Hid (R[h.b.toNat]? = some (regv R h.b)) := hB
  have HC : Hid (R[h.c.toNat]? = some (regv R h.c)) := hC
  clear hA hB hC
  generalize regv R h.a = x at *
  generalize regv R h.b = y at *
  generalize regv R h.c = z at *
  go_enter Try.func35, Try.ntmps35
  go_wp2_with (first
    | (refine S.box rfl _ _ rfl (Cel.host h) rfl ?_; clear S; intro q1 w1 S)
    | (refine S.box rfl _ _ rfl (Cel.regs R) rfl ?_; clear S; intro q2 w2 S))
  refine Upto.start (S := fun w' => SH noZ w w' [(q2, Cel.regs R), (q1, Cel.host h)]) 9 (by kernel_rfl) ?_
  replace S := S.drew
  refine Upto.take (i := 0) (oi := { dst := some 5, op := Op.fieldAddr 25 (Operand.tmp 2) 2, type := 0, pos := "reckon.go:16", after := #[], guard := none }) (v := ?_) rfl (by kernel_rfl) (by kernel_rfl) (by kernel_rfl) (by kernel_rfl) (fun _ _ _ h => h) (Or.inl ⟨by rfl, ?_⟩) (by exact S) ?_
  rotate_left 1
  · intro w hSw
    clear hSw
    go_simp
    try with_reducible rfl
  simp only [Act.put, List.setIfInBounds_toArray, List.set_cons_zero, List.set_cons_succ]
  refine Upto.take (i := 1) (oi := { dst := some 6, op := Op.load 3 (Operand.tmp 5), type := 3, pos := "reckon.go:16", after := #[{ on := 0, ground := Ground.data }], guard := none }) (v := _) rfl (by kernel_rfl) (by kernel_rfl) (by kernel_rfl) (by kernel_rfl) (fun _ _ _ h => h) (y_load1 (by rfl) _ _ rfl _ _ rfl 1 _ rfl _ rfl _ Try.underlying3 rfl) (by exact S) ?_
  simp only [Act.put, List.setIfInBounds_toArray, List.set_cons_zero, List.set_cons_succ]
  refine Upto.take (i := 2) (oi := { dst := some 7, op := Op.indexAddr 28 (Operand.tmp 3) (Operand.tmp 6), type := 0, pos := "reckon.go:16", after := #[{ on := 1, ground := Ground.data }], guard := none }) (v := ?_) rfl (by kernel_rfl) (by kernel_rfl) (by kernel_rfl) (by kernel_rfl) (fun _ _ _ h => h) (Or.inl ⟨by rfl, ?_⟩) (by exact S) ?_
  rotate_left 1
  · intro w hSw
    clear hSw
    go_simp
    try with_reducible rfl
  simp only [Act.put, List.setIfInBounds_toArray, List.set_cons_zero, List.set_cons_succ]
  refine Upto.take (i := 3) (oi := { dst := some 8, op := Op.load 22 (Operand.tmp 7), type := 22, pos := "reckon.go:16", after := #[{ on := 2, ground := Ground.data }], guard := none }) (v := _) rfl (by kernel_rfl) (by kernel_rfl) (by kernel_rfl) (by kernel_rfl) (fun _ _ _ h => h) (y_load1 (by rfl) _ _ rfl _ _ rfl 0 _ rfl _ (rc_at HA.out) _ Try.underlying22 rfl) (by exact S) ?_
  simp only [Act.put, List.setIfInBounds_toArray, List.set_cons_zero, List.set_cons_succ]
  refine Upto.take (i := 4) (oi := { dst := some 9, op := Op.fieldAddr 25 (Operand.tmp 2) 3, type := 0, pos := "reckon.go:16", after := #[], guard := none }) (v := ?_) rfl (by kernel_rfl) (by kernel_rfl) (by kernel_rfl) (by kernel_rfl) (fun _ _ _ h => h) (Or.inl ⟨by rfl, ?_⟩) (by exact S) ?_
  rotate_left 1
  · intro w hSw
    clear hSw
    go_simp
    try with_reducible rfl
  simp only [Act.put, List.setIfInBounds_toArray, List.set_cons_zero, List.set_cons_succ]
  refine Upto.take (i := 5) (oi := { dst := some 10, op := Op.load 3 (Operand.tmp 9), type := 3, pos := "reckon.go:16", after := #[{ on := 4, ground := Ground.data }], guard := none }) (v := _) rfl (by kernel_rfl) (by kernel_rfl) (by kernel_rfl) (by kernel_rfl) (fun _ _ _ h => h) (y_load1 (by rfl) _ _ rfl _ _ rfl 1 _ rfl _ rfl _ Try.underlying3 rfl) (by exact S) ?_
  simp only [Act.put, List.setIfInBounds_toArray, List.set_cons_zero, List.set_cons_succ]
  refine Upto.take (i := 6) (oi := { dst := some 11, op := Op.indexAddr 28 (Operand.tmp 3) (Operand.tmp 10), type := 0, pos := "reckon.go:16", after := #[{ on := 5, ground := Ground.data }], guard := none }) (v := ?_) rfl (by kernel_rfl) (by kernel_rfl) (by kernel_rfl) (by kernel_rfl) (fun _ _ _ h => h) (Or.inl ⟨by rfl, ?_⟩) (by exact S) ?_
  rotate_left 1
  · intro w hSw
    clear hSw
    go_simp
    try with_reducible rfl
  simp only [Act.put, List.setIfInBounds_toArray, List.set_cons_zero, List.set_cons_succ]
  refine Upto.take (i := 7) (oi := { dst := some 12, op := Op.load 22 (Operand.tmp 11), type := 22, pos := "reckon.go:16", after := #[{ on := 6, ground := Ground.data }], guard := none }) (v := _) rfl (by kernel_rfl) (by kernel_rfl) (by kernel_rfl) (by kernel_rfl) (fun _ _ _ h => h) (y_load1 (by rfl) _ _ rfl _ _ rfl 0 _ rfl _ (rc_at HB.out) _ Try.underlying22 rfl) (by exact S) ?_
  simp only [Act.put, List.setIfInBounds_toArray, List.set_cons_zero, List.set_cons_succ]
  refine Upto.take (i := 8) (oi := { dst := some 13, op := Op.binOp BinOp.add 22 (Operand.tmp 8) (Operand.tmp 12) 22, type := 22, pos := "reckon.go:16", after := #[{ on := 3, ground := Ground.data }, { on := 7, ground := Ground.data }], guard := none }) (v := ?_) rfl (by kernel_rfl) (by kernel_rfl) (by kernel_rfl) (by kernel_rfl) (fun _ _ _ h => h) (Or.inl ⟨by rfl, ?_⟩) (by exact S) ?_
  rotate_left 1
  · intro w hSw
    clear hSw
    go_simp
    try with_reducible rfl
  simp only [Act.put, List.setIfInBounds_toArray, List.set_cons_zero, List.set_cons_succ]
  refine Upto.ready (rs := [9]) (by kernel_rfl) (by simp) ?_
  refine Nexts.last rfl (fun K hK => ?_)
  go_simp
  refine hK.out _ _ ?_
  clear hK K
  refine Upto.done (by kernel_rfl) ?_ _
  go_wp2
  go_ret
  exact ⟨by simp [reckS, IntKind.wrap_u32], S.low⟩
set_option maxHeartbeats 2000000 in
set_option maxRecDepth 100000 in
theorem rk4_c (h : HV) (R : List Int) (ho : HOk h) (hR : okR R) (w : World) : Calls Try.prog 36 #[(Cel.host h).val, (Cel.regs R).val] w fun e w' => e = .returned (.int .u32 (reckS 4 (regv R h.a) (regv R h.b) (regv R h.c) h.im)) ∧ Below w.heap.size w w' := by
  have S := SH.start w
  obtain ⟨⟨d0, d1⟩, ⟨a0, a1⟩, ⟨b0, b1⟩, ⟨c0, c1⟩, i0, i1⟩ := ho
  obtain ⟨hA, ua, va⟩ := regv_at hR a0 a1
  obtain ⟨hB, ub, vb⟩ := regv_at hR b0 b1
  obtain ⟨hC, uc, vc⟩ := regv_at hR c0 c1
  have hl := hR.1
  clear hR
  have HA : Hid (R[h.a.toNat]? = some (regv R h.a)) := hA
  have HB : Hid (R[h.b.toNat]? = some (regv R h.b)) := hB
  have HC : Hid (R[h.c.toNat]? = some (regv R h.c)) := hC
  clear hA hB hC
  generalize regv R h.a = x at *
  generalize regv R h.b = y at *
  generalize regv R h.c = z at *
  go_enter Try.func36, Try.ntmps36
  go_wp2_with (first
    | (refine S.box rfl _ _ rfl (Cel.host h) rfl ?_; clear S; intro q1 w1 S)
    | (refine S.box rfl _ _ rfl (Cel.regs R) rfl ?_; clear S; intro q2 w2 S))
  refine Upto.start (S := fun w' => SH noZ w w' [(q2, Cel.regs R), (q1, Cel.host h)]) 9 (by kernel_rfl) ?_
  replace S := S.drew
  refine Upto.take (i := 0) (oi := { dst := some 5, op := Op.fieldAddr 25 (Operand.tmp 2) 2, type := 0, pos := "reckon.go:17", after := #[], guard := none }) (v := ?_) rfl (by kernel_rfl) (by kernel_rfl) (by kernel_rfl) (by kernel_rfl) (fun _ _ _ h => h) (Or.inl ⟨by rfl, ?_⟩) (by exact S) ?_
  rotate_left 1
  · intro w hSw
    clear hSw
    go_simp
    try with_reducible rfl
  simp only [Act.put, List.setIfInBounds_toArray, List.set_cons_zero, List.set_cons_succ]
  refine Upto.take (i := 1) (oi := { dst := some 6, op := Op.load 3 (Operand.tmp 5), type := 3, pos := "reckon.go:17", after := #[{ on := 0, ground := Ground.data }], guard := none }) (v := _) rfl (by kernel_rfl) (by kernel_rfl) (by kernel_rfl) (by kernel_rfl) (fun _ _ _ h => h) (y_load1 (by rfl) _ _ rfl _ _ rfl 1 _ rfl _ rfl _ Try.underlying3 rfl) (by exact S) ?_
  simp only [Act.put, List.setIfInBounds_toArray, List.set_cons_zero, List.set_cons_succ]
  refine Upto.take (i := 2) (oi := { dst := some 7, op := Op.indexAddr 28 (Operand.tmp 3) (Operand.tmp 6), type := 0, pos := "reckon.go:17", after := #[{ on := 1, ground := Ground.data }], guard := none }) (v := ?_) rfl (by kernel_rfl) (by kernel_rfl) (by kernel_rfl) (by kernel_rfl) (fun _ _ _ h => h) (Or.inl ⟨by rfl, ?_⟩) (by exact S) ?_
  rotate_left 1
  · intro w hSw
    clear hSw
    go_simp
    try with_reducible rfl
  simp only [Act.put, List.setIfInBounds_toArray, List.set_cons_zero, List.set_cons_succ]
  refine Upto.take (i := 3) (oi := { dst := some 8, op := Op.load 22 (Operand.tmp 7), type := 22, pos := "reckon.go:17", after := #[{ on := 2, ground := Ground.data }], guard := none }) (v := _) rfl (by kernel_rfl) (by kernel_rfl) (by kernel_rfl) (by kernel_rfl) (fun _ _ _ h => h) (y_load1 (by rfl) _ _ rfl _ _ rfl 0 _ rfl _ (rc_at HA.out) _ Try.underlying22 rfl) (by exact S) ?_
  simp only [Act.put, List.setIfInBounds_toArray, List.set_cons_zero, List.set_cons_succ]
  refine Upto.take (i := 4) (oi := { dst := some 9, op := Op.fieldAddr 25 (Operand.tmp 2) 3, type := 0, pos := "reckon.go:17", after := #[], guard := none }) (v := ?_) rfl (by kernel_rfl) (by kernel_rfl) (by kernel_rfl) (by kernel_rfl) (fun _ _ _ h => h) (Or.inl ⟨by rfl, ?_⟩) (by exact S) ?_
  rotate_left 1
  · intro w hSw
    clear hSw
    go_simp
    try with_reducible rfl
  simp only [Act.put, List.setIfInBounds_toArray, List.set_cons_zero, List.set_cons_succ]
  refine Upto.take (i := 5) (oi := { dst := some 10, op := Op.load 3 (Operand.tmp 9), type := 3, pos := "reckon.go:17", after := #[{ on := 4, ground := Ground.data }], guard := none }) (v := _) rfl (by kernel_rfl) (by kernel_rfl) (by kernel_rfl) (by kernel_rfl) (fun _ _ _ h => h) (y_load1 (by rfl) _ _ rfl _ _ rfl 1 _ rfl _ rfl _ Try.underlying3 rfl) (by exact S) ?_
  simp only [Act.put, List.setIfInBounds_toArray, List.set_cons_zero, List.set_cons_succ]
  refine Upto.take (i := 6) (oi := { dst := some 11, op := Op.indexAddr 28 (Operand.tmp 3) (Operand.tmp 10), type := 0, pos := "reckon.go:17", after := #[{ on := 5, ground := Ground.data }], guard := none }) (v := ?_) rfl (by kernel_rfl) (by kernel_rfl) (by kernel_rfl) (by kernel_rfl) (fun _ _ _ h => h) (Or.inl ⟨by rfl, ?_⟩) (by exact S) ?_
  rotate_left 1
  · intro w hSw
    clear hSw
    go_simp
    try with_reducible rfl
  simp only [Act.put, List.setIfInBounds_toArray, List.set_cons_zero, List.set_cons_succ]
  refine Upto.take (i := 7) (oi := { dst := some 12, op := Op.load 22 (Operand.tmp 11), type := 22, pos := "reckon.go:17", after := #[{ on := 6, ground := Ground.data }], guard := none }) (v := _) rfl (by kernel_rfl) (by kernel_rfl) (by kernel_rfl) (by kernel_rfl) (fun _ _ _ h => h) (y_load1 (by rfl) _ _ rfl _ _ rfl 0 _ rfl _ (rc_at HB.out) _ Try.underlying22 rfl) (by exact S) ?_
  simp only [Act.put, List.setIfInBounds_toArray, List.set_cons_zero, List.set_cons_succ]
  refine Upto.take (i := 8) (oi := { dst := some 13, op := Op.binOp BinOp.sub 22 (Operand.tmp 8) (Operand.tmp 12) 22, type := 22, pos := "reckon.go:17", after := #[{ on := 3, ground := Ground.data }, { on := 7, ground := Ground.data }], guard := none }) (v := ?_) rfl (by kernel_rfl) (by kernel_rfl) (by kernel_rfl) (by kernel_rfl) (fun _ _ _ h => h) (Or.inl ⟨by rfl, ?_⟩) (by exact S) ?_
  rotate_left 1
  · intro w hSw
    clear hSw
    go_simp
    try with_reducible rfl
  simp only [Act.put, List.setIfInBounds_toArray, List.set_cons_zero, List.set_cons_succ]
  refine Upto.ready (rs := [9]) (by kernel_rfl) (by simp) ?_
  refine Nexts.last rfl (fun K hK => ?_)
  go_simp
  refine hK.out _ _ ?_
  clear hK K
  refine Upto.done (by kernel_rfl) ?_ _
  go_wp2
  go_ret
  exact ⟨by simp [reckS, IntKind.wrap_u32], S.low⟩
set_option maxHeartbeats 2000000 in
set_option maxRecDepth 100000 in
theorem rk5_c (h : HV) (R : List Int) (ho : HOk h) (hR : okR R) (w : World) : Calls Try.prog 37 #[(Cel.host h).val, (Cel.regs R).val] w fun e w' => e = .returned (.int .u32 (reckS 5 (regv R h.a) (regv R h.b) (regv R h.c) h.im)) ∧ Below w.heap.size w w' := by
  have S := SH.start w
  obtain ⟨⟨d0, d1⟩, ⟨a0, a1⟩, ⟨b0, b1⟩, ⟨c0, c1⟩, i0, i1⟩ := ho
  obtain ⟨hA, ua, va⟩ := regv_at hR a0 a1
  obtain ⟨hB, ub, vb⟩ := regv_at hR b0 b1
  obtain ⟨hC, uc, vc⟩ := regv_at hR c0 c1
  have hl := hR.1
  clear hR
  have HA : Hid (R[h.a.toNat]? = some (regv R h.a)) := hA
  have HB : Hid (R[h.b.toNat]? = some (regv R h.b)) := hB
  have HC : Hid (R[h.c.toNat]? = some (regv R h.c)) := hC
  clear hA hB hC
  generalize regv R h.a = x at *
  generalize regv R h.b = y at *
  generalize regv R h.c = z at *
  go_enter Try.func37, Try.ntmps37
  go_wp2_with (first
    | (refine S.box rfl _ _ rfl (Cel.host h) rfl ?_; clear S; intro q1 w1 S)
    | (refine S.box rfl _ _ rfl (Cel.regs R) rfl ?_; clear S; intro q2 w2 S))
  refine Upto.start (S := fun w' => SH noZ w w' [(q2, Cel.regs R), (q1, Cel.host h)]) 9 (by kernel_rfl) ?_
  replace S := S.drew
  refine Upto.take (i := 0) (oi := { dst := some 5, op := Op.fieldAddr 25 (Operand.tmp 2) 2, type := 0, pos := "reckon.go:18", after := #[], guard := none }) (v := ?_) rfl (by kernel_rfl) (by kernel_rfl) (by kernel_rfl) (by kernel_rfl) (fun _ _ _ h => h) (Or.inl ⟨by rfl, ?_⟩) (by exact S) ?_
  rotate_left 1
  · intro w hSw
    clear hSw
    go_simp
    try with_reducible rfl
  simp only [Act.put, List.setIfInBounds_toArray, List.set_cons_zero, List.set_cons_succ]
  refine Upto.take (i := 1) (oi := { dst := some 6, op := Op.load 3 (Operand.tmp 5), type := 3, pos := "reckon.go:18", after := #[{ on := 0, ground := Ground.data }], guard := none }) (v := _) rfl (by kernel_rfl) (by kernel_rfl) (by kernel_rfl) (by kernel_rfl) (fun _ _ _ h => h) (y_load1 (by rfl) _ _ rfl _ _ rfl 1 _ rfl _ rfl _ Try.underlying3 rfl) (by exact S) ?_
  simp only [Act.put, List.setIfInBounds_toArray, List.set_cons_zero, List.set_cons_succ]
  refine Upto.take (i := 2) (oi := { dst := some 7, op := Op.indexAddr 28 (Operand.tmp 3) (Operand.tmp 6), type := 0, pos := "reckon.go:18", after := #[{ on := 1, ground := Ground.data }], guard := none }) (v := ?_) rfl (by kernel_rfl) (by kernel_rfl) (by kernel_rfl) (by kernel_rfl) (fun _ _ _ h => h) (Or.inl ⟨by rfl, ?_⟩) (by exact S) ?_
  rotate_left 1
  · intro w hSw
    clear hSw
    go_simp
    try with_reducible rfl
  simp only [Act.put, List.setIfInBounds_toArray, List.set_cons_zero, List.set_cons_succ]
  refine Upto.take (i := 3) (oi := { dst := some 8, op := Op.load 22 (Operand.tmp 7), type := 22, pos := "reckon.go:18", after := #[{ on := 2, ground := Ground.data }], guard := none }) (v := _) rfl (by kernel_rfl) (by kernel_rfl) (by kernel_rfl) (by kernel_rfl) (fun _ _ _ h => h) (y_load1 (by rfl) _ _ rfl _ _ rfl 0 _ rfl _ (rc_at HA.out) _ Try.underlying22 rfl) (by exact S) ?_
  simp only [Act.put, List.setIfInBounds_toArray, List.set_cons_zero, List.set_cons_succ]
  refine Upto.take (i := 4) (oi := { dst := some 9, op := Op.fieldAddr 25 (Operand.tmp 2) 3, type := 0, pos := "reckon.go:18", after := #[], guard := none }) (v := ?_) rfl (by kernel_rfl) (by kernel_rfl) (by kernel_rfl) (by kernel_rfl) (fun _ _ _ h => h) (Or.inl ⟨by rfl, ?_⟩) (by exact S) ?_
  rotate_left 1
  · intro w hSw
    clear hSw
    go_simp
    try with_reducible rfl
  simp only [Act.put, List.setIfInBounds_toArray, List.set_cons_zero, List.set_cons_succ]
  refine Upto.take (i := 5) (oi := { dst := some 10, op := Op.load 3 (Operand.tmp 9), type := 3, pos := "reckon.go:18", after := #[{ on := 4, ground := Ground.data }], guard := none }) (v := _) rfl (by kernel_rfl) (by kernel_rfl) (by kernel_rfl) (by kernel_rfl) (fun _ _ _ h => h) (y_load1 (by rfl) _ _ rfl _ _ rfl 1 _ rfl _ rfl _ Try.underlying3 rfl) (by exact S) ?_
  simp only [Act.put, List.setIfInBounds_toArray, List.set_cons_zero, List.set_cons_succ]
  refine Upto.take (i := 6) (oi := { dst := some 11, op := Op.indexAddr 28 (Operand.tmp 3) (Operand.tmp 10), type := 0, pos := "reckon.go:18", after := #[{ on := 5, ground := Ground.data }], guard := none }) (v := ?_) rfl (by kernel_rfl) (by kernel_rfl) (by kernel_rfl) (by kernel_rfl) (fun _ _ _ h => h) (Or.inl ⟨by rfl, ?_⟩) (by exact S) ?_
  rotate_left 1
  · intro w hSw
    clear hSw
    go_simp
    try with_reducible rfl
  simp only [Act.put, List.setIfInBounds_toArray, List.set_cons_zero, List.set_cons_succ]
  refine Upto.take (i := 7) (oi := { dst := some 12, op := Op.load 22 (Operand.tmp 11), type := 22, pos := "reckon.go:18", after := #[{ on := 6, ground := Ground.data }], guard := none }) (v := _) rfl (by kernel_rfl) (by kernel_rfl) (by kernel_rfl) (by kernel_rfl) (fun _ _ _ h => h) (y_load1 (by rfl) _ _ rfl _ _ rfl 0 _ rfl _ (rc_at HB.out) _ Try.underlying22 rfl) (by exact S) ?_
  simp only [Act.put, List.setIfInBounds_toArray, List.set_cons_zero, List.set_cons_succ]
  refine Upto.take (i := 8) (oi := { dst := some 13, op := Op.binOp BinOp.and 22 (Operand.tmp 8) (Operand.tmp 12) 22, type := 22, pos := "reckon.go:18", after := #[{ on := 3, ground := Ground.data }, { on := 7, ground := Ground.data }], guard := none }) (v := ?_) rfl (by kernel_rfl) (by kernel_rfl) (by kernel_rfl) (by kernel_rfl) (fun _ _ _ h => h) (Or.inl ⟨by rfl, ?_⟩) (by exact S) ?_
  rotate_left 1
  · intro w hSw
    clear hSw
    go_simp
    try with_reducible rfl
  simp only [Act.put, List.setIfInBounds_toArray, List.set_cons_zero, List.set_cons_succ]
  refine Upto.ready (rs := [9]) (by kernel_rfl) (by simp) ?_
  refine Nexts.last rfl (fun K hK => ?_)
  go_simp
  refine hK.out _ _ ?_
  clear hK K
  refine Upto.done (by kernel_rfl) ?_ _
  go_wp2
  go_ret
  exact ⟨by simp [reckS], S.low⟩
set_option maxHeartbeats 2000000 in
set_option maxRecDepth 100000 in
theorem rk6_c (h : HV) (R : List Int) (ho : HOk h) (hR : okR R) (w : World) : Calls Try.prog 38 #[(Cel.host h).val, (Cel.regs R).val] w fun e w' => e = .returned (.int .u32 (reckS 6 (regv R h.a) (regv R h.b) (regv R h.c) h.im)) ∧ Below w.heap.size w w' := by
  have S := SH.start w
  obtain ⟨⟨d0, d1⟩, ⟨a0, a1⟩, ⟨b0, b1⟩, ⟨c0, c1⟩, i0, i1⟩ := ho
  obtain ⟨hA, ua, va⟩ := regv_at hR a0 a1
  obtain ⟨hB, ub, vb⟩ := regv_at hR b0 b1
  obtain ⟨hC, uc, vc⟩ := regv_at hR c0 c1
  have hl := hR.1
  clear hR
  have HA : Hid (R[h.a.toNat]? = some (regv R h.a)) := hA
  have HB : Hid (R[h.b.toNat]? = some (regv R h.b)) := hB
  have HC : Hid (R[h.c.toNat]? = some (regv R h.c)) := hC
  clear hA hB hC
  generalize regv R h.a = x at *
  generalize regv R h.b = y at *
  generalize regv R h.c = z at *
  go_enter Try.func38, Try.ntmps38
  go_wp2_with (first
    | (refine S.box rfl _ _ rfl (Cel.host h) rfl ?_; clear S; intro q1 w1 S)
    | (refine S.box rfl _ _ rfl (Cel.regs R) rfl ?_; clear S; intro q2 w2 S))
  refine Upto.start (S := fun w' => SH noZ w w' [(q2, Cel.regs R), (q1, Cel.host h)]) 9 (by kernel_rfl) ?_
  replace S := S.drew
  refine Upto.take (i := 0) (oi := { dst := some 5, op := Op.fieldAddr 25 (Operand.tmp 2) 2, type := 0, pos := "reckon.go:19", after := #[], guard := none }) (v := ?_) rfl (by kernel_rfl) (by kernel_rfl) (by kernel_rfl) (by kernel_rfl) (fun _ _ _ h => h) (Or.inl ⟨by rfl, ?_⟩) (by exact S) ?_
  rotate_left 1
  · intro w hSw
    clear hSw
    go_simp
    try with_reducible rfl
  simp only [Act.put, List.setIfInBounds_toArray, List.set_cons_zero, List.set_cons_succ]
  refine Upto.take (i := 1) (oi := { dst := some 6, op := Op.load 3 (Operand.tmp 5), type := 3, pos := "reckon.go:19", after := #[{ on := 0, ground := Ground.data }], guard := none }) (v := _) rfl (by kernel_rfl) (by kernel_rfl) (by kernel_rfl) (by kernel_rfl) (fun _ _ _ h => h) (y_load1 (by rfl) _ _ rfl _ _ rfl 1 _ rfl _ rfl _ Try.underlying3 rfl) (by exact S) ?_
  simp only [Act.put, List.setIfInBounds_toArray, List.set_cons_zero, List.set_cons_succ]
  refine Upto.take (i := 2) (oi := { dst := some 7, op := Op.indexAddr 28 (Operand.tmp 3) (Operand.tmp 6), type := 0, pos := "reckon.go:19", after := #[{ on := 1, ground := Ground.data }], guard := none }) (v := ?_) rfl (by kernel_rfl) (by kernel_rfl) (by kernel_rfl) (by kernel_rfl) (fun _ _ _ h => h) (Or.inl ⟨by rfl, ?_⟩) (by exact S) ?_
  rotate_left 1
  · intro w hSw
    clear hSw
    go_simp
    try with_reducible rfl
  simp only [Act.put, List.setIfInBounds_toArray, List.set_cons_zero, List.set_cons_succ]
  refine Upto.take (i := 3) (oi := { dst := some 8, op := Op.load 22 (Operand.tmp 7), type := 22, pos := "reckon.go:19", after := #[{ on := 2, ground := Ground.data }], guard := none }) (v := _) rfl (by kernel_rfl) (by kernel_rfl) (by kernel_rfl) (by kernel_rfl) (fun _ _ _ h => h) (y_load1 (by rfl) _ _ rfl _ _ rfl 0 _ rfl _ (rc_at HA.out) _ Try.underlying22 rfl) (by exact S) ?_
  simp only [Act.put, List.setIfInBounds_toArray, List.set_cons_zero, List.set_cons_succ]
  refine Upto.take (i := 4) (oi := { dst := some 9, op := Op.fieldAddr 25 (Operand.tmp 2) 3, type := 0, pos := "reckon.go:19", after := #[], guard := none }) (v := ?_) rfl (by kernel_rfl) (by kernel_rfl) (by kernel_rfl) (by kernel_rfl) (fun _ _ _ h => h) (Or.inl ⟨by rfl, ?_⟩) (by exact S) ?_
  rotate_left 1
  · intro w hSw
    clear hSw
    go_simp
    try with_reducible rfl
  simp only [Act.put, List.setIfInBounds_toArray, List.set_cons_zero, List.set_cons_succ]
  refine Upto.take (i := 5) (oi := { dst := some 10, op := Op.load 3 (Operand.tmp 9), type := 3, pos := "reckon.go:19", after := #[{ on := 4, ground := Ground.data }], guard := none }) (v := _) rfl (by kernel_rfl) (by kernel_rfl) (by kernel_rfl) (by kernel_rfl) (fun _ _ _ h => h) (y_load1 (by rfl) _ _ rfl _ _ rfl 1 _ rfl _ rfl _ Try.underlying3 rfl) (by exact S) ?_
  simp only [Act.put, List.setIfInBounds_toArray, List.set_cons_zero, List.set_cons_succ]
  refine Upto.take (i := 6) (oi := { dst := some 11, op := Op.indexAddr 28 (Operand.tmp 3) (Operand.tmp 10), type := 0, pos := "reckon.go:19", after := #[{ on := 5, ground := Ground.data }], guard := none }) (v := ?_) rfl (by kernel_rfl) (by kernel_rfl) (by kernel_rfl) (by kernel_rfl) (fun _ _ _ h => h) (Or.inl ⟨by rfl, ?_⟩) (by exact S) ?_
  rotate_left 1
  · intro w hSw
    clear hSw
    go_simp
    try with_reducible rfl
  simp only [Act.put, List.setIfInBounds_toArray, List.set_cons_zero, List.set_cons_succ]
  refine Upto.take (i := 7) (oi := { dst := some 12, op := Op.load 22 (Operand.tmp 11), type := 22, pos := "reckon.go:19", after := #[{ on := 6, ground := Ground.data }], guard := none }) (v := _) rfl (by kernel_rfl) (by kernel_rfl) (by kernel_rfl) (by kernel_rfl) (fun _ _ _ h => h) (y_load1 (by rfl) _ _ rfl _ _ rfl 0 _ rfl _ (rc_at HB.out) _ Try.underlying22 rfl) (by exact S) ?_
  simp only [Act.put, List.setIfInBounds_toArray, List.set_cons_zero, List.set_cons_succ]
  refine Upto.take (i := 8) (oi := { dst := some 13, op := Op.binOp BinOp.or 22 (Operand.tmp 8) (Operand.tmp 12) 22, type := 22, pos := "reckon.go:19", after := #[{ on := 3, ground := Ground.data }, { on := 7, ground := Ground.data }], guard := none }) (v := ?_) rfl (by kernel_rfl) (by kernel_rfl) (by kernel_rfl) (by kernel_rfl) (fun _ _ _ h => h) (Or.inl ⟨by rfl, ?_⟩) (by exact S) ?_
  rotate_left 1
  · intro w hSw
    clear hSw
    go_simp
    try with_reducible rfl
  simp only [Act.put, List.setIfInBounds_toArray, List.set_cons_zero, List.set_cons_succ]
  refine Upto.ready (rs := [9]) (by kernel_rfl) (by simp) ?_
  refine Nexts.last rfl (fun K hK => ?_)
  go_simp
  refine hK.out _ _ ?_
  clear hK K
  refine Upto.done (by kernel_rfl) ?_ _
  go_wp2
  go_ret
  exact ⟨by simp [reckS], S.low⟩
set_option maxHeartbeats 2000000 in
set_option maxRecDepth 100000 in
theorem rk7_c (h : HV) (R : List Int) (ho : HOk h) (hR : okR R) (w : World) : Calls Try.prog 39 #[(Cel.host h).val, (Cel.regs R).val] w fun e w' => e = .returned (.int .u32 (reckS 7 (regv R h.a) (regv R h.b) (regv R h.c) h.im)) ∧ Below w.heap.size w w' := by
  have S := SH.start w
  obtain ⟨⟨d0, d1⟩, ⟨a0, a1⟩, ⟨b0, b1⟩, ⟨c0, c1⟩, i0, i1⟩ := ho
  obtain ⟨hA, ua, va⟩ := regv_at hR a0 a1
  obtain ⟨hB, ub, vb⟩ := regv_at hR b0 b1
  obtain ⟨hC, uc, vc⟩ := regv_at hR c0 c1
  have hl := hR.1
  clear hR
  have HA : Hid (R[h.a.toNat]? = some (regv R h.a)) := hA
  have HB : Hid (R[h.b.toNat]? = some (regv R h.b)) := hB
  have HC : Hid (R[h.c.toNat]? = some (regv R h.c)) := hC
  clear hA hB hC
  generalize regv R h.a = x at *
  generalize regv R h.b = y at *
  generalize regv R h.c = z at *
  go_enter Try.func39, Try.ntmps39
  go_wp2_with (first
    | (refine S.box rfl _ _ rfl (Cel.host h) rfl ?_; clear S; intro q1 w1 S)
    | (refine S.box rfl _ _ rfl (Cel.regs R) rfl ?_; clear S; intro q2 w2 S))
  refine Upto.start (S := fun w' => SH noZ w w' [(q2, Cel.regs R), (q1, Cel.host h)]) 9 (by kernel_rfl) ?_
  replace S := S.drew
  refine Upto.take (i := 0) (oi := { dst := some 5, op := Op.fieldAddr 25 (Operand.tmp 2) 2, type := 0, pos := "reckon.go:20", after := #[], guard := none }) (v := ?_) rfl (by kernel_rfl) (by kernel_rfl) (by kernel_rfl) (by kernel_rfl) (fun _ _ _ h => h) (Or.inl ⟨by rfl, ?_⟩) (by exact S) ?_
  rotate_left 1
  · intro w hSw
    clear hSw
    go_simp
    try with_reducible rfl
  simp only [Act.put, List.setIfInBounds_toArray, List.set_cons_zero, List.set_cons_succ]
  refine Upto.take (i := 1) (oi := { dst := some 6, op := Op.load 3 (Operand.tmp 5), type := 3, pos := "reckon.go:20", after := #[{ on := 0, ground := Ground.data }], guard := none }) (v := _) rfl (by kernel_rfl) (by kernel_rfl) (by kernel_rfl) (by kernel_rfl) (fun _ _ _ h => h) (y_load1 (by rfl) _ _ rfl _ _ rfl 1 _ rfl _ rfl _ Try.underlying3 rfl) (by exact S) ?_
  simp only [Act.put, List.setIfInBounds_toArray, List.set_cons_zero, List.set_cons_succ]
  refine Upto.take (i := 2) (oi := { dst := some 7, op := Op.indexAddr 28 (Operand.tmp 3) (Operand.tmp 6), type := 0, pos := "reckon.go:20", after := #[{ on := 1, ground := Ground.data }], guard := none }) (v := ?_) rfl (by kernel_rfl) (by kernel_rfl) (by kernel_rfl) (by kernel_rfl) (fun _ _ _ h => h) (Or.inl ⟨by rfl, ?_⟩) (by exact S) ?_
  rotate_left 1
  · intro w hSw
    clear hSw
    go_simp
    try with_reducible rfl
  simp only [Act.put, List.setIfInBounds_toArray, List.set_cons_zero, List.set_cons_succ]
  refine Upto.take (i := 3) (oi := { dst := some 8, op := Op.load 22 (Operand.tmp 7), type := 22, pos := "reckon.go:20", after := #[{ on := 2, ground := Ground.data }], guard := none }) (v := _) rfl (by kernel_rfl) (by kernel_rfl) (by kernel_rfl) (by kernel_rfl) (fun _ _ _ h => h) (y_load1 (by rfl) _ _ rfl _ _ rfl 0 _ rfl _ (rc_at HA.out) _ Try.underlying22 rfl) (by exact S) ?_
  simp only [Act.put, List.setIfInBounds_toArray, List.set_cons_zero, List.set_cons_succ]
  refine Upto.take (i := 4) (oi := { dst := some 9, op := Op.fieldAddr 25 (Operand.tmp 2) 3, type := 0, pos := "reckon.go:20", after := #[], guard := none }) (v := ?_) rfl (by kernel_rfl) (by kernel_rfl) (by kernel_rfl) (by kernel_rfl) (fun _ _ _ h => h) (Or.inl ⟨by rfl, ?_⟩) (by exact S) ?_
  rotate_left 1
  · intro w hSw
    clear hSw
    go_simp
    try with_reducible rfl
  simp only [Act.put, List.setIfInBounds_toArray, List.set_cons_zero, List.set_cons_succ]
  refine Upto.take (i := 5) (oi := { dst := some 10, op := Op.load 3 (Operand.tmp 9), type := 3, pos := "reckon.go:20", after := #[{ on := 4, ground := Ground.data }], guard := none }) (v := _) rfl (by kernel_rfl) (by kernel_rfl) (by kernel_rfl) (by kernel_rfl) (fun _ _ _ h => h) (y_load1 (by rfl) _ _ rfl _ _ rfl 1 _ rfl _ rfl _ Try.underlying3 rfl) (by exact S) ?_
  simp only [Act.put, List.setIfInBounds_toArray, List.set_cons_zero, List.set_cons_succ]
  refine Upto.take (i := 6) (oi := { dst := some 11, op := Op.indexAddr 28 (Operand.tmp 3) (Operand.tmp 10), type := 0, pos := "reckon.go:20", after := #[{ on := 5, ground := Ground.data }], guard := none }) (v := ?_) rfl (by kernel_rfl) (by kernel_rfl) (by kernel_rfl) (by kernel_rfl) (fun _ _ _ h => h) (Or.inl ⟨by rfl, ?_⟩) (by exact S) ?_
  rotate_left 1
  · intro w hSw
    clear hSw
    go_simp
    try with_reducible rfl
  simp only [Act.put, List.setIfInBounds_toArray, List.set_cons_zero, List.set_cons_succ]
  refine Upto.take (i := 7) (oi := { dst := some 12, op := Op.load 22 (Operand.tmp 11), type := 22, pos := "reckon.go:20", after := #[{ on := 6, ground := Ground.data }], guard := none }) (v := _) rfl (by kernel_rfl) (by kernel_rfl) (by kernel_rfl) (by kernel_rfl) (fun _ _ _ h => h) (y_load1 (by rfl) _ _ rfl _ _ rfl 0 _ rfl _ (rc_at HB.out) _ Try.underlying22 rfl) (by exact S) ?_
  simp only [Act.put, List.setIfInBounds_toArray, List.set_cons_zero, List.set_cons_succ]
  refine Upto.take (i := 8) (oi := { dst := some 13, op := Op.binOp BinOp.xor 22 (Operand.tmp 8) (Operand.tmp 12) 22, type := 22, pos := "reckon.go:20", after := #[{ on := 3, ground := Ground.data }, { on := 7, ground := Ground.data }], guard := none }) (v := ?_) rfl (by kernel_rfl) (by kernel_rfl) (by kernel_rfl) (by kernel_rfl) (fun _ _ _ h => h) (Or.inl ⟨by rfl, ?_⟩) (by exact S) ?_
  rotate_left 1
  · intro w hSw
    clear hSw
    go_simp
    try with_reducible rfl
  simp only [Act.put, List.setIfInBounds_toArray, List.set_cons_zero, List.set_cons_succ]
  refine Upto.ready (rs := [9]) (by kernel_rfl) (by simp) ?_
  refine Nexts.last rfl (fun K hK => ?_)
  go_simp
  refine hK.out _ _ ?_
  clear hK K
  refine Upto.done (by kernel_rfl) ?_ _
  go_wp2
  go_ret
  exact ⟨by simp [reckS], S.low⟩
set_option maxHeartbeats 2000000 in
set_option maxRecDepth 100000 in
theorem rk12_c (h : HV) (R : List Int) (ho : HOk h) (hR : okR R) (w : World) : Calls Try.prog 45 #[(Cel.host h).val, (Cel.regs R).val] w fun e w' => e = .returned (.int .u32 (reckS 12 (regv R h.a) (regv R h.b) (regv R h.c) h.im)) ∧ Below w.heap.size w w' := by
  have S := SH.start w
  obtain ⟨⟨d0, d1⟩, ⟨a0, a1⟩, ⟨b0, b1⟩, ⟨c0, c1⟩, i0, i1⟩ := ho
  obtain ⟨hA, ua, va⟩ := regv_at hR a0 a1
  obtain ⟨hB, ub, vb⟩ := regv_at hR b0 b1
  obtain ⟨hC, uc, vc⟩ := regv_at hR c0 c1
  have hl := hR.1
  clear hR
  have HA : Hid (R[h.a.toNat]? = some (regv R h.a)) := hA
  have HB : Hid (R[h.b.toNat]? = some (regv R h.b)) := hB
  have HC : Hid (R[h.c.toNat]? = some (regv R h.c)) := hC
  clear hA hB hC
  generalize regv R h.a = x at *
  generalize regv R h.b = y at *
  generalize regv R h.c = z at *
  go_enter Try.func45, Try.ntmps45
  go_wp2_with (first
    | (refine S.box rfl _ _ rfl (Cel.host h) rfl ?_; clear S; intro q1 w1 S)
    | (refine S.box rfl _ _ rfl (Cel.regs R) rfl ?_; clear S; intro q2 w2 S))
  refine Upto.start (S := fun w' => SH noZ w w' [(q2, Cel.regs R), (q1, Cel.host h)]) 9 (by kernel_rfl) ?_
  replace S := S.drew
  refine Upto.take (i := 0) (oi := { dst := some 5, op := Op.fieldAddr 25 (Operand.tmp 2) 2, type := 0, pos := "reckon.go:25", after := #[], guard := none }) (v := ?_) rfl (by kernel_rfl) (by kernel_rfl) (by kernel_rfl) (by kernel_rfl) (fun _ _ _ h => h) (Or.inl ⟨by rfl, ?_⟩) (by exact S) ?_
  rotate_left 1
  · intro w hSw
    clear hSw
    go_simp
    try with_reducible rfl
  simp only [Act.put, List.setIfInBounds_toArray, List.set_cons_zero, List.set_cons_succ]
  refine Upto.take (i := 1) (oi := { dst := some 6, op := Op.load 3 (Operand.tmp 5), type := 3, pos := "reckon.go:25", after := #[{ on := 0, ground := Ground.data }], guard := none }) (v := _) rfl (by kernel_rfl) (by kernel_rfl) (by kernel_rfl) (by kernel_rfl) (fun _ _ _ h => h) (y_load1 (by rfl) _ _ rfl _ _ rfl 1 _ rfl _ rfl _ Try.underlying3 rfl) (by exact S) ?_
  simp only [Act.put, List.setIfInBounds_toArray, List.set_cons_zero, List.set_cons_succ]
  refine Upto.take (i := 2) (oi := { dst := some 7, op := Op.indexAddr 28 (Operand.tmp 3) (Operand.tmp 6), type := 0, pos := "reckon.go:25", after := #[{ on := 1, ground := Ground.data }], guard := none }) (v := ?_) rfl (by kernel_rfl) (by kernel_rfl) (by kernel_rfl) (by kernel_rfl) (fun _ _ _ h => h) (Or.inl ⟨by rfl, ?_⟩) (by exact S) ?_
  rotate_left 1
  · intro w hSw
    clear hSw
    go_simp
    try with_reducible rfl
  simp only [Act.put, List.setIfInBounds_toArray, List.set_cons_zero, List.set_cons_succ]
  refine Upto.take (i := 3) (oi := { dst := some 8, op := Op.load 22 (Operand.tmp 7), type := 22, pos := "reckon.go:25", after := #[{ on := 2, ground := Ground.data }], guard := none }) (v := _) rfl (by kernel_rfl) (by kernel_rfl) (by kernel_rfl) (by kernel_rfl) (fun _ _ _ h => h) (y_load1 (by rfl) _ _ rfl _ _ rfl 0 _ rfl _ (rc_at HA.out) _ Try.underlying22 rfl) (by exact S) ?_
  simp only [Act.put, List.setIfInBounds_toArray, List.set_cons_zero, List.set_cons_succ]
  refine Upto.take (i := 4) (oi := { dst := some 9, op := Op.fieldAddr 25 (Operand.tmp 2) 3, type := 0, pos := "reckon.go:25", after := #[], guard := none }) (v := ?_) rfl (by kernel_rfl) (by kernel_rfl) (by kernel_rfl) (by kernel_rfl) (fun _ _ _ h => h) (Or.inl ⟨by rfl, ?_⟩) (by exact S) ?_
  rotate_left 1
  · intro w hSw
    clear hSw
    go_simp
    try with_reducible rfl
  simp only [Act.put, List.setIfInBounds_toArray, List.set_cons_zero, List.set_cons_succ]
  refine Upto.take (i := 5) (oi := { dst := some 10, op := Op.load 3 (Operand.tmp 9), type := 3, pos := "reckon.go:25", after := #[{ on := 4, ground := Ground.data }], guard := none }) (v := _) rfl (by kernel_rfl) (by kernel_rfl) (by kernel_rfl) (by kernel_rfl) (fun _ _ _ h => h) (y_load1 (by rfl) _ _ rfl _ _ rfl 1 _ rfl _ rfl _ Try.underlying3 rfl) (by exact S) ?_
  simp only [Act.put, List.setIfInBounds_toArray, List.set_cons_zero, List.set_cons_succ]
  refine Upto.take (i := 6) (oi := { dst := some 11, op := Op.indexAddr 28 (Operand.tmp 3) (Operand.tmp 10), type := 0, pos := "reckon.go:25", after := #[{ on := 5, ground := Ground.data }], guard := none }) (v := ?_) rfl (by kernel_rfl) (by kernel_rfl) (by kernel_rfl) (by kernel_rfl) (fun _ _ _ h => h) (Or.inl ⟨by rfl, ?_⟩) (by exact S) ?_
  rotate_left 1
  · intro w hSw
    clear hSw
    go_simp
    try with_reducible rfl
  simp only [Act.put, List.setIfInBounds_toArray, List.set_cons_zero, List.set_cons_succ]
  refine Upto.take (i := 7) (oi := { dst := some 12, op := Op.load 22 (Operand.tmp 11), type := 22, pos := "reckon.go:25", after := #[{ on := 6, ground := Ground.data }], guard := none }) (v := _) rfl (by kernel_rfl) (by kernel_rfl) (by kernel_rfl) (by kernel_rfl) (fun _ _ _ h => h) (y_load1 (by rfl) _ _ rfl _ _ rfl 0 _ rfl _ (rc_at HB.out) _ Try.underlying22 rfl) (by exact S) ?_
  simp only [Act.put, List.setIfInBounds_toArray, List.set_cons_zero, List.set_cons_succ]
  refine Upto.take (i := 8) (oi := { dst := some 13, op := Op.binOp BinOp.mul 22 (Operand.tmp 8) (Operand.tmp 12) 22, type := 22, pos := "reckon.go:25", after := #[{ on := 3, ground := Ground.data }, { on := 7, ground := Ground.data }], guard := none }) (v := ?_) rfl (by kernel_rfl) (by kernel_rfl) (by kernel_rfl) (by kernel_rfl) (fun _ _ _ h => h) (Or.inl ⟨by rfl, ?_⟩) (by exact S) ?_
  rotate_left 1
  · intro w hSw
    clear hSw
    go_simp
    try with_reducible rfl
  simp only [Act.put, List.setIfInBounds_toArray, List.set_cons_zero, List.set_cons_succ]
  refine Upto.ready (rs := [9]) (by kernel_rfl) (by simp) ?_
  refine Nexts.last rfl (fun K hK => ?_)
  go_simp
  refine hK.out _ _ ?_
  clear hK K
  refine Upto.done (by kernel_rfl) ?_ _
  go_wp2
  go_ret
  exact ⟨by simp [reckS, IntKind.wrap_u32], S.low⟩
set_option maxHeartbeats 2000000 in
set_option maxRecDepth 100000 in
theorem rk15_c (h : HV) (R : List Int) (ho : HOk h) (hR : okR R) (w : World) : Calls Try.prog 49 #[(Cel.host h).val, (Cel.regs R).val] w fun e w' => e = .returned (.int .u32 (reckS 15 (regv R h.a) (regv R h.b) (regv R h.c) h.im)) ∧ Below w.heap.size w w' := by
  have S := SH.start w
  obtain ⟨⟨d0, d1⟩, ⟨a0, a1⟩, ⟨b0, b1⟩, ⟨c0, c1⟩, i0, i1⟩ := ho
  obtain ⟨hA, ua, va⟩ := regv_at hR a0 a1
  obtain ⟨hB, ub, vb⟩ := regv_at hR b0 b1
  obtain ⟨hC, uc, vc⟩ := regv_at hR c0 c1
  have hl := hR.1
  clear hR
  have HA : Hid (R[h.a.toNat]? = some (regv R h.a)) := hA
  have HB : Hid (R[h.b.toNat]? = some (regv R h.b)) := hB
  have HC : Hid (R[h.c.toNat]? = some (regv R h.c)) := hC
  clear hA hB hC
  generalize regv R h.a = x at *
  generalize regv R h.b = y at *
  generalize regv R h.c = z at *
  go_enter Try.func49, Try.ntmps49
  go_wp2_with (first
    | (refine S.box rfl _ _ rfl (Cel.host h) rfl ?_; clear S; intro q1 w1 S)
    | (refine S.box rfl _ _ rfl (Cel.regs R) rfl ?_; clear S; intro q2 w2 S))
  refine Upto.start (S := fun w' => SH noZ w w' [(q2, Cel.regs R), (q1, Cel.host h)]) 9 (by kernel_rfl) ?_
  replace S := S.drew
  refine Upto.take (i := 0) (oi := { dst := some 5, op := Op.fieldAddr 25 (Operand.tmp 2) 2, type := 0, pos := "reckon.go:28", after := #[], guard := none }) (v := ?_) rfl (by kernel_rfl) (by kernel_rfl) (by kernel_rfl) (by kernel_rfl) (fun _ _ _ h => h) (Or.inl ⟨by rfl, ?_⟩) (by exact S) ?_
  rotate_left 1
  · intro w hSw
    clear hSw
    go_simp
    try with_reducible rfl
  simp only [Act.put, List.setIfInBounds_toArray, List.set_cons_zero, List.set_cons_succ]
  refine Upto.take (i := 1) (oi := { dst := some 6, op := Op.load 3 (Operand.tmp 5), type := 3, pos := "reckon.go:28", after := #[{ on := 0, ground := Ground.data }], guard := none }) (v := _) rfl (by kernel_rfl) (by kernel_rfl) (by kernel_rfl) (by kernel_rfl) (fun _ _ _ h => h) (y_load1 (by rfl) _ _ rfl _ _ rfl 1 _ rfl _ rfl _ Try.underlying3 rfl) (by exact S) ?_
  simp only [Act.put, List.setIfInBounds_toArray, List.set_cons_zero, List.set_cons_succ]
  refine Upto.take (i := 2) (oi := { dst := some 7, op := Op.indexAddr 28 (Operand.tmp 3) (Operand.tmp 6), type := 0, pos := "reckon.go:28", after := #[{ on := 1, ground := Ground.data }], guard := none }) (v := ?_) rfl (by kernel_rfl) (by kernel_rfl) (by kernel_rfl) (by kernel_rfl) (fun _ _ _ h => h) (Or.inl ⟨by rfl, ?_⟩) (by exact S) ?_
  rotate_left 1
  · intro w hSw
    clear hSw
    go_simp
    try with_reducible rfl
  simp only [Act.put, List.setIfInBounds_toArray, List.set_cons_zero, List.set_cons_succ]
  refine Upto.take (i := 3) (oi := { dst := some 8, op := Op.load 22 (Operand.tmp 7), type := 22, pos := "reckon.go:28", after := #[{ on := 2, ground := Ground.data }], guard := none }) (v := _) rfl (by kernel_rfl) (by kernel_rfl) (by kernel_rfl) (by kernel_rfl) (fun _ _ _ h => h) (y_load1 (by rfl) _ _ rfl _ _ rfl 0 _ rfl _ (rc_at HA.out) _ Try.underlying22 rfl) (by exact S) ?_
  simp only [Act.put, List.setIfInBounds_toArray, List.set_cons_zero, List.set_cons_succ]
  refine Upto.take (i := 4) (oi := { dst := some 9, op := Op.fieldAddr 25 (Operand.tmp 2) 3, type := 0, pos := "reckon.go:28", after := #[], guard := none }) (v := ?_) rfl (by kernel_rfl) (by kernel_rfl) (by kernel_rfl) (by kernel_rfl) (fun _ _ _ h => h) (Or.inl ⟨by rfl, ?_⟩) (by exact S) ?_
  rotate_left 1
  · intro w hSw
    clear hSw
    go_simp
    try with_reducible rfl
  simp only [Act.put, List.setIfInBounds_toArray, List.set_cons_zero, List.set_cons_succ]
  refine Upto.take (i := 5) (oi := { dst := some 10, op := Op.load 3 (Operand.tmp 9), type := 3, pos := "reckon.go:28", after := #[{ on := 4, ground := Ground.data }], guard := none }) (v := _) rfl (by kernel_rfl) (by kernel_rfl) (by kernel_rfl) (by kernel_rfl) (fun _ _ _ h => h) (y_load1 (by rfl) _ _ rfl _ _ rfl 1 _ rfl _ rfl _ Try.underlying3 rfl) (by exact S) ?_
  simp only [Act.put, List.setIfInBounds_toArray, List.set_cons_zero, List.set_cons_succ]
  refine Upto.take (i := 6) (oi := { dst := some 11, op := Op.indexAddr 28 (Operand.tmp 3) (Operand.tmp 10), type := 0, pos := "reckon.go:28", after := #[{ on := 5, ground := Ground.data }], guard := none }) (v := ?_) rfl (by kernel_rfl) (by kernel_rfl) (by kernel_rfl) (by kernel_rfl) (fun _ _ _ h => h) (Or.inl ⟨by rfl, ?_⟩) (by exact S) ?_
  rotate_left 1
  · intro w hSw
    clear hSw
    go_simp
    try with_reducible rfl
  simp only [Act.put, List.setIfInBounds_toArray, List.set_cons_zero, List.set_cons_succ]
  refine Upto.take (i := 7) (oi := { dst := some 12, op := Op.load 22 (Operand.tmp 11), type := 22, pos := "reckon.go:28", after := #[{ on := 6, ground := Ground.data }], guard := none }) (v := _) rfl (by kernel_rfl) (by kernel_rfl) (by kernel_rfl) (by kernel_rfl) (fun _ _ _ h => h) (y_load1 (by rfl) _ _ rfl _ _ rfl 0 _ rfl _ (rc_at HB.out) _ Try.underlying22 rfl) (by exact S) ?_
  simp only [Act.put, List.setIfInBounds_toArray, List.set_cons_zero, List.set_cons_succ]
  refine Upto.ready (rs := [8]) (by kernel_rfl) (by simp) ?_
  refine Nexts.cons rfl (by decide) (fun K hK => ?_) Nexts.nil
  go_simp
  go_wp2_with (refine (divu_c _ _ (by assumption) (by assumption) (by assumption) (by assumption) _).mono ?_; rintro e w8 ⟨rfl, rfl⟩)
  refine hK.out _ _ (by exact S) ?_
  clear hK K
  refine Upto.ready (rs := [9]) (by kernel_rfl) (by simp) ?_
  refine Nexts.last rfl (fun K hK => ?_)
  go_simp
  refine hK.out _ _ ?_
  clear hK K
  refine Upto.done (by kernel_rfl) ?_ _
  go_wp2
  go_ret
  exact ⟨by simp [reckS], S.low⟩
set_option maxHeartbeats 2000000 in
set_option maxRecDepth 100000 in
theorem rk16_c (h : HV) (R : List Int) (ho : HOk h) (hR : okR R) (w : World) : Calls Try.prog 51 #[(Cel.host h).val, (Cel.regs R).val] w fun e w' => e = .returned (.int .u32 (reckS 16 (regv R h.a) (regv R h.b) (regv R h.c) h.im)) ∧ Below w.heap.size w w' := by
  have S := SH.start w
  obtain ⟨⟨d0, d1⟩, ⟨a0, a1⟩, ⟨b0, b1⟩, ⟨c0, c1⟩, i0, i1⟩ := ho
  obtain ⟨hA, ua, va⟩ := regv_at hR a0 a1
  obtain ⟨hB, ub, vb⟩ := regv_at hR b0 b1
  obtain ⟨hC, uc, vc⟩ := regv_at hR c0 c1
  have hl := hR.1
  clear hR
  have HA : Hid (R[h.a.toNat]? = some (regv R h.a)) := hA
  have HB : Hid (R[h.b.toNat]? = some (regv R h.b)) := hB
  have HC : Hid (R[h.c.toNat]? = some (regv R h.c)) := hC
  clear hA hB hC
  generalize regv R h.a = x at *
  generalize regv R h.b = y at *
  generalize regv R h.c = z at *
  go_enter Try.func51, Try.ntmps51
  go_wp2_with (first
    | (refine S.box rfl _ _ rfl (Cel.host h) rfl ?_; clear S; intro q1 w1 S)
    | (refine S.box rfl _ _ rfl (Cel.regs R) rfl ?_; clear S; intro q2 w2 S))
  refine Upto.start (S := fun w' => SH noZ w w' [(q2, Cel.regs R), (q1, Cel.host h)]) 9 (by kernel_rfl) ?_
  replace S := S.drew
  refine Upto.take (i := 0) (oi := { dst := some 5, op := Op.fieldAddr 25 (Operand.tmp 2) 2, type := 0, pos := "reckon.go:29", after := #[], guard := none }) (v := ?_) rfl (by kernel_rfl) (by kernel_rfl) (by kernel_rfl) (by kernel_rfl) (fun _ _ _ h => h) (Or.inl ⟨by rfl, ?_⟩) (by exact S) ?_
  rotate_left 1
  · intro w hSw
    clear hSw
    go_simp
    try with_reducible rfl
  simp only [Act.put, List.setIfInBounds_toArray, List.set_cons_zero, List.set_cons_succ]
  refine Upto.take (i := 1) (oi := { dst := some 6, op := Op.load 3 (Operand.tmp 5), type := 3, pos := "reckon.go:29", after := #[{ on := 0, ground := Ground.data }], guard := none }) (v := _) rfl (by kernel_rfl) (by kernel_rfl) (by kernel_rfl) (by kernel_rfl) (fun _ _ _ h => h) (y_load1 (by rfl) _ _ rfl _ _ rfl 1 _ rfl _ rfl _ Try.underlying3 rfl) (by exact S) ?_
  simp only [Act.put, List.setIfInBounds_toArray, List.set_cons_zero, List.set_cons_succ]
  refine Upto.take (i := 2) (oi := { dst := some 7, op := Op.indexAddr 28 (Operand.tmp 3) (Operand.tmp 6), type := 0, pos := "reckon.go:29", after := #[{ on := 1, ground := Ground.data }], guard := none }) (v := ?_) rfl (by kernel_rfl) (by kernel_rfl) (by kernel_rfl) (by kernel_rfl) (fun _ _ _ h => h) (Or.inl ⟨by rfl, ?_⟩) (by exact S) ?_
  rotate_left 1
  · intro w hSw
    clear hSw
    go_simp
    try with_reducible rfl
  simp only [Act.put, List.setIfInBounds_toArray, List.set_cons_zero, List.set_cons_succ]
  refine Upto.take (i := 3) (oi := { dst := some 8, op := Op.load 22 (Operand.tmp 7), type := 22, pos := "reckon.go:29", after := #[{ on := 2, ground := Ground.data }], guard := none }) (v := _) rfl (by kernel_rfl) (by kernel_rfl) (by kernel_rfl) (by kernel_rfl) (fun _ _ _ h => h) (y_load1 (by rfl) _ _ rfl _ _ rfl 0 _ rfl _ (rc_at HA.out) _ Try.underlying22 rfl) (by exact S) ?_
  simp only [Act.put, List.setIfInBounds_toArray, List.set_cons_zero, List.set_cons_succ]
  refine Upto.take (i := 4) (oi := { dst := some 9, op := Op.fieldAddr 25 (Operand.tmp 2) 3, type := 0, pos := "reckon.go:29", after := #[], guard := none }) (v := ?_) rfl (by kernel_rfl) (by kernel_rfl) (by kernel_rfl) (by kernel_rfl) (fun _ _ _ h => h) (Or.inl ⟨by rfl, ?_⟩) (by exact S) ?_
  rotate_left 1
  · intro w hSw
    clear hSw
    go_simp
    try with_reducible rfl
  simp only [Act.put, List.setIfInBounds_toArray, List.set_cons_zero, List.set_cons_succ]
  refine Upto.take (i := 5) (oi := { dst := some 10, op := Op.load 3 (Operand.tmp 9), type := 3, pos := "reckon.go:29", after := #[{ on := 4, ground := Ground.data }], guard := none }) (v := _) rfl (by kernel_rfl) (by kernel_rfl) (by kernel_rfl) (by kernel_rfl) (fun _ _ _ h => h) (y_load1 (by rfl) _ _ rfl _ _ rfl 1 _ rfl _ rfl _ Try.underlying3 rfl) (by exact S) ?_
  simp only [Act.put, List.setIfInBounds_toArray, List.set_cons_zero, List.set_cons_succ]
  refine Upto.take (i := 6) (oi := { dst := some 11, op := Op.indexAddr 28 (Operand.tmp 3) (Operand.tmp 10), type := 0, pos := "reckon.go:29", after := #[{ on := 5, ground := Ground.data }], guard := none }) (v := ?_) rfl (by kernel_rfl) (by kernel_rfl) (by kernel_rfl) (by kernel_rfl) (fun _ _ _ h => h) (Or.inl ⟨by rfl, ?_⟩) (by exact S) ?_
  rotate_left 1
  · intro w hSw
    clear hSw
    go_simp
    try with_reducible rfl
  simp only [Act.put, List.setIfInBounds_toArray, List.set_cons_zero, List.set_cons_succ]
  refine Upto.take (i := 7) (oi := { dst := some 12, op := Op.load 22 (Operand.tmp 11), type := 22, pos := "reckon.go:29", after := #[{ on := 6, ground := Ground.data }], guard := none }) (v := _) rfl (by kernel_rfl) (by kernel_rfl) (by kernel_rfl) (by kernel_rfl) (fun _ _ _ h => h) (y_load1 (by rfl) _ _ rfl _ _ rfl 0 _ rfl _ (rc_at HB.out) _ Try.underlying22 rfl) (by exact S) ?_
  simp only [Act.put, List.setIfInBounds_toArray, List.set_cons_zero, List.set_cons_succ]
  refine Upto.ready (rs := [8]) (by kernel_rfl) (by simp) ?_
  refine Nexts.cons rfl (by decide) (fun K hK => ?_) Nexts.nil
  go_simp
  go_wp2_with (refine (divs_c _ _ (by assumption) (by assumption) (by assumption) (by assumption) _).mono ?_; rintro e w8 ⟨rfl, rfl⟩)
  refine hK.out _ _ (by exact S) ?_
  clear hK K
  refine Upto.ready (rs := [9]) (by kernel_rfl) (by simp) ?_
  refine Nexts.last rfl (fun K hK => ?_)
  go_simp
  refine hK.out _ _ ?_
  clear hK K
  refine Upto.done (by kernel_rfl) ?_ _
  go_wp2
  go_ret
  exact ⟨by simp [reckS], S.low⟩
set_option maxHeartbeats 2000000 in
set_option maxRecDepth 100000 in
theorem rk18_c (h : HV) (R : List Int) (ho : HOk h) (hR : okR R) (w : World) : Calls Try.prog 55 #[(Cel.host h).val, (Cel.regs R).val] w fun e w' => e = .returned (.int .u32 (reckS 18 (regv R h.a) (regv R h.b) (regv R h.c) h.im)) ∧ Below w.heap.size w w' := by
  have S := SH.start w
  obtain ⟨⟨d0, d1⟩, ⟨a0, a1⟩, ⟨b0, b1⟩, ⟨c0, c1⟩, i0, i1⟩ := ho
  obtain ⟨hA, ua, va⟩ := regv_at hR a0 a1
  obtain ⟨hB, ub, vb⟩ := regv_at hR b0 b1
  obtain ⟨hC, uc, vc⟩ := regv_at hR c0 c1
  have hl := hR.1
  clear hR
  have HA : Hid (R[h.a.toNat]? = some (regv R h.a)) := hA
  have HB : Hid (R[h.b.toNat]? = some (regv R h.b)) := hB
  have HC : Hid (R[h.c.toNat]? = some (regv R h.c)) := hC
  clear hA hB hC
  generalize regv R h.a = x at *
  generalize regv R h.b = y at *
  generalize regv R h.c = z at *
  go_enter Try.func55, Try.ntmps55
  go_wp2_with (first
    | (refine S.box rfl _ _ rfl (Cel.host h) rfl ?_; clear S; intro q1 w1 S)
    | (refine S.box rfl _ _ rfl (Cel.regs R) rfl ?_; clear S; intro q2 w2 S))
  refine Upto.start (S := fun w' => SH noZ w w' [(q2, Cel.regs R), (q1, Cel.host h)]) 10 (by kernel_rfl) ?_
  replace S := S.drew
  refine Upto.take (i := 0) (oi := { dst := some 5, op := Op.fieldAddr 25 (Operand.tmp 2) 2, type := 0, pos := "reckon.go:31", after := #[], guard := none }) (v := ?_) rfl (by kernel_rfl) (by kernel_rfl) (by kernel_rfl) (by kernel_rfl) (fun _ _ _ h => h) (Or.inl ⟨by rfl, ?_⟩) (by exact S) ?_
  rotate_left 1
  · intro w hSw
    clear hSw
    go_simp
    try with_reducible rfl
  simp only [Act.put, List.setIfInBounds_toArray, List.set_cons_zero, List.set_cons_succ]
  refine Upto.take (i := 1) (oi := { dst := some 6, op := Op.load 3 (Operand.tmp 5), type := 3, pos := "reckon.go:31", after := #[{ on := 0, ground := Ground.data }], guard := none }) (v := _) rfl (by kernel_rfl) (by kernel_rfl) (by kernel_rfl) (by kernel_rfl) (fun _ _ _ h => h) (y_load1 (by rfl) _ _ rfl _ _ rfl 1 _ rfl _ rfl _ Try.underlying3 rfl) (by exact S) ?_
  simp only [Act.put, List.setIfInBounds_toArray, List.set_cons_zero, List.set_cons_succ]
  refine Upto.take (i := 2) (oi := { dst := some 7, op := Op.indexAddr 28 (Operand.tmp 3) (Operand.tmp 6), type := 0, pos := "reckon.go:31", after := #[{ on := 1, ground := Ground.data }], guard := none }) (v := ?_) rfl (by kernel_rfl) (by kernel_rfl) (by kernel_rfl) (by kernel_rfl) (fun _ _ _ h => h) (Or.inl ⟨by rfl, ?_⟩) (by exact S) ?_
  rotate_left 1
  · intro w hSw
    clear hSw
    go_simp
    try with_reducible rfl
  simp only [Act.put, List.setIfInBounds_toArray, List.set_cons_zero, List.set_cons_succ]
  refine Upto.take (i := 3) (oi := { dst := some 8, op := Op.load 22 (Operand.tmp 7), type := 22, pos := "reckon.go:31", after := #[{ on := 2, ground := Ground.data }], guard := none }) (v := _) rfl (by kernel_rfl) (by kernel_rfl) (by kernel_rfl) (by kernel_rfl) (fun _ _ _ h => h) (y_load1 (by rfl) _ _ rfl _ _ rfl 0 _ rfl _ (rc_at HA.out) _ Try.underlying22 rfl) (by exact S) ?_
  simp only [Act.put, List.setIfInBounds_toArray, List.set_cons_zero, List.set_cons_succ]
  refine Upto.take (i := 4) (oi := { dst := some 9, op := Op.fieldAddr 25 (Operand.tmp 2) 3, type := 0, pos := "reckon.go:31", after := #[], guard := none }) (v := ?_) rfl (by kernel_rfl) (by kernel_rfl) (by kernel_rfl) (by kernel_rfl) (fun _ _ _ h => h) (Or.inl ⟨by rfl, ?_⟩) (by exact S) ?_
  rotate_left 1
  · intro w hSw
    clear hSw
    go_simp
    try with_reducible rfl
  simp only [Act.put, List.setIfInBounds_toArray, List.set_cons_zero, List.set_cons_succ]
  refine Upto.take (i := 5) (oi := { dst := some 10, op := Op.load 3 (Operand.tmp 9), type := 3, pos := "reckon.go:31", after := #[{ on := 4, ground := Ground.data }], guard := none }) (v := _) rfl (by kernel_rfl) (by kernel_rfl) (by kernel_rfl) (by kernel_rfl) (fun _ _ _ h => h) (y_load1 (by rfl) _ _ rfl _ _ rfl 1 _ rfl _ rfl _ Try.underlying3 rfl) (by exact S) ?_
  simp only [Act.put, List.setIfInBounds_toArray, List.set_cons_zero, List.set_cons_succ]
  refine Upto.take (i := 6) (oi := { dst := some 11, op := Op.indexAddr 28 (Operand.tmp 3) (Operand.tmp 10), type := 0, pos := "reckon.go:31", after := #[{ on := 5, ground := Ground.data }], guard := none }) (v := ?_) rfl (by kernel_rfl) (by kernel_rfl) (by kernel_rfl) (by kernel_rfl) (fun _ _ _ h => h) (Or.inl ⟨by rfl, ?_⟩) (by exact S) ?_
  rotate_left 1
  · intro w hSw
    clear hSw
    go_simp
    try with_reducible rfl
  simp only [Act.put, List.setIfInBounds_toArray, List.set_cons_zero, List.set_cons_succ]
  refine Upto.take (i := 7) (oi := { dst := some 12, op := Op.load 22 (Operand.tmp 11), type := 22, pos := "reckon.go:31", after := #[{ on := 6, ground := Ground.data }], guard := none }) (v := _) rfl (by kernel_rfl) (by kernel_rfl) (by kernel_rfl) (by kernel_rfl) (fun _ _ _ h => h) (y_load1 (by rfl) _ _ rfl _ _ rfl 0 _ rfl _ (rc_at HB.out) _ Try.underlying22 rfl) (by exact S) ?_
  simp only [Act.put, List.setIfInBounds_toArray, List.set_cons_zero, List.set_cons_succ]
  refine Upto.take (i := 8) (oi := { dst := some 13, op := Op.binOp BinOp.lss 22 (Operand.tmp 8) (Operand.tmp 12) 22, type := 4, pos := "reckon.go:31", after := #[{ on := 3, ground := Ground.data }, { on := 7, ground := Ground.data }], guard := none }) (v := ?_) rfl (by kernel_rfl) (by kernel_rfl) (by kernel_rfl) (by kernel_rfl) (fun _ _ _ h => h) (Or.inl ⟨by rfl, ?_⟩) (by exact S) ?_
  rotate_left 1
  · intro w hSw
    clear hSw
    go_simp
    try with_reducible rfl
  simp only [Act.put, List.setIfInBounds_toArray, List.set_cons_zero, List.set_cons_succ]
  refine Upto.ready (rs := [9]) (by kernel_rfl) (by simp) ?_
  refine Nexts.cons rfl (by decide) (fun K hK => ?_) Nexts.nil
  go_simp
  go_wp2_with (refine (hone_c _ _).mono ?_; rintro e w8 ⟨rfl, rfl⟩)
  refine hK.out _ _ (by exact S) ?_
  clear hK K
  refine Upto.ready (rs := [10]) (by kernel_rfl) (by simp) ?_
  refine Nexts.last rfl (fun K hK => ?_)
  go_simp
  refine hK.out _ _ ?_
  clear hK K
  refine Upto.done (by kernel_rfl) ?_ _
  go_wp2
  go_ret
  exact ⟨by simp [reckS, oneB], S.low⟩
set_option maxHeartbeats 2000000 in
set_option maxRecDepth 100000 in
theorem rk20_c (h : HV) (R : List Int) (ho : HOk h) (hR : okR R) (w : World) : Calls Try.prog 58 #[(Cel.host h).val, (Cel.regs R).val] w fun e w' => e = .returned (.int .u32 (reckS 20 (regv R h.a) (regv R h.b) (regv R h.c) h.im)) ∧ Below w.heap.size w w' := by
  have S := SH.start w
  obtain ⟨⟨d0, d1⟩, ⟨a0, a1⟩, ⟨b0, b1⟩, ⟨c0, c1⟩, i0, i1⟩ := ho
  obtain ⟨hA, ua, va⟩ := regv_at hR a0 a1
  obtain ⟨hB, ub, vb⟩ := regv_at hR b0 b1
  obtain ⟨hC, uc, vc⟩ := regv_at hR c0 c1
  have hl := hR.1
  clear hR
  have HA : Hid (R[h.a.toNat]? = some (regv R h.a)) := hA
  have HB : Hid (R[h.b.toNat]? = some (regv R h.b)) := hB
  have HC : Hid (R[h.c.toNat]? = some (regv R h.c)) := hC
  clear hA hB hC
  generalize regv R h.a = x at *
  generalize regv R h.b = y at *
  generalize regv R h.c = z at *
  go_enter Try.func58, Try.ntmps58
  go_wp2_with (first
    | (refine S.box rfl _ _ rfl (Cel.host h) rfl ?_; clear S; intro q1 w1 S)
    | (refine S.box rfl _ _ rfl (Cel.regs R) rfl ?_; clear S; intro q2 w2 S))
  refine Upto.start (S := fun w' => SH noZ w w' [(q2, Cel.regs R), (q1, Cel.host h)]) 10 (by kernel_rfl) ?_
  replace S := S.drew
  refine Upto.take (i := 0) (oi := { dst := some 5, op := Op.fieldAddr 25 (Operand.tmp 2) 2, type := 0, pos := "reckon.go:33", after := #[], guard := none }) (v := ?_) rfl (by kernel_rfl) (by kernel_rfl) (by kernel_rfl) (by kernel_rfl) (fun _ _ _ h => h) (Or.inl ⟨by rfl, ?_⟩) (by exact S) ?_
  rotate_left 1
  · intro w hSw
    clear hSw
    go_simp
    try with_reducible rfl
  simp only [Act.put, List.setIfInBounds_toArray, List.set_cons_zero, List.set_cons_succ]
  refine Upto.take (i := 1) (oi := { dst := some 6, op := Op.load 3 (Operand.tmp 5), type := 3, pos := "reckon.go:33", after := #[{ on := 0, ground := Ground.data }], guard := none }) (v := _) rfl (by kernel_rfl) (by kernel_rfl) (by kernel_rfl) (by kernel_rfl) (fun _ _ _ h => h) (y_load1 (by rfl) _ _ rfl _ _ rfl 1 _ rfl _ rfl _ Try.underlying3 rfl) (by exact S) ?_
  simp only [Act.put, List.setIfInBounds_toArray, List.set_cons_zero, List.set_cons_succ]
  refine Upto.take (i := 2) (oi := { dst := some 7, op := Op.indexAddr 28 (Operand.tmp 3) (Operand.tmp 6), type := 0, pos := "reckon.go:33", after := #[{ on := 1, ground := Ground.data }], guard := none }) (v := ?_) rfl (by kernel_rfl) (by kernel_rfl) (by kernel_rfl) (by kernel_rfl) (fun _ _ _ h => h) (Or.inl ⟨by rfl, ?_⟩) (by exact S) ?_
  rotate_left 1
  · intro w hSw
    clear hSw
    go_simp
    try with_reducible rfl
  simp only [Act.put, List.setIfInBounds_toArray, List.set_cons_zero, List.set_cons_succ]
  refine Upto.take (i := 3) (oi := { dst := some 8, op := Op.load 22 (Operand.tmp 7), type := 22, pos := "reckon.go:33", after := #[{ on := 2, ground := Ground.data }], guard := none }) (v := _) rfl (by kernel_rfl) (by kernel_rfl) (by kernel_rfl) (by kernel_rfl) (fun _ _ _ h => h) (y_load1 (by rfl) _ _ rfl _ _ rfl 0 _ rfl _ (rc_at HA.out) _ Try.underlying22 rfl) (by exact S) ?_
  simp only [Act.put, List.setIfInBounds_toArray, List.set_cons_zero, List.set_cons_succ]
  refine Upto.take (i := 4) (oi := { dst := some 9, op := Op.fieldAddr 25 (Operand.tmp 2) 3, type := 0, pos := "reckon.go:33", after := #[], guard := none }) (v := ?_) rfl (by kernel_rfl) (by kernel_rfl) (by kernel_rfl) (by kernel_rfl) (fun _ _ _ h => h) (Or.inl ⟨by rfl, ?_⟩) (by exact S) ?_
  rotate_left 1
  · intro w hSw
    clear hSw
    go_simp
    try with_reducible rfl
  simp only [Act.put, List.setIfInBounds_toArray, List.set_cons_zero, List.set_cons_succ]
  refine Upto.take (i := 5) (oi := { dst := some 10, op := Op.load 3 (Operand.tmp 9), type := 3, pos := "reckon.go:33", after := #[{ on := 4, ground := Ground.data }], guard := none }) (v := _) rfl (by kernel_rfl) (by kernel_rfl) (by kernel_rfl) (by kernel_rfl) (fun _ _ _ h => h) (y_load1 (by rfl) _ _ rfl _ _ rfl 1 _ rfl _ rfl _ Try.underlying3 rfl) (by exact S) ?_
  simp only [Act.put, List.setIfInBounds_toArray, List.set_cons_zero, List.set_cons_succ]
  refine Upto.take (i := 6) (oi := { dst := some 11, op := Op.indexAddr 28 (Operand.tmp 3) (Operand.tmp 10), type := 0, pos := "reckon.go:33", after := #[{ on := 5, ground := Ground.data }], guard := none }) (v := ?_) rfl (by kernel_rfl) (by kernel_rfl) (by kernel_rfl) (by kernel_rfl) (fun _ _ _ h => h) (Or.inl ⟨by rfl, ?_⟩) (by exact S) ?_
  rotate_left 1
  · intro w hSw
    clear hSw
    go_simp
    try with_reducible rfl
  simp only [Act.put, List.setIfInBounds_toArray, List.set_cons_zero, List.set_cons_succ]
  refine Upto.take (i := 7) (oi := { dst := some 12, op := Op.load 22 (Operand.tmp 11), type := 22, pos := "reckon.go:33", after := #[{ on := 6, ground := Ground.data }], guard := none }) (v := _) rfl (by kernel_rfl) (by kernel_rfl) (by kernel_rfl) (by kernel_rfl) (fun _ _ _ h => h) (y_load1 (by rfl) _ _ rfl _ _ rfl 0 _ rfl _ (rc_at HB.out) _ Try.underlying22 rfl) (by exact S) ?_
  simp only [Act.put, List.setIfInBounds_toArray, List.set_cons_zero, List.set_cons_succ]
  refine Upto.take (i := 8) (oi := { dst := some 13, op := Op.binOp BinOp.eql 22 (Operand.tmp 8) (Operand.tmp 12) 22, type := 4, pos := "reckon.go:33", after := #[{ on := 3, ground := Ground.data }, { on := 7, ground := Ground.data }], guard := none }) (v := ?_) rfl (by kernel_rfl) (by kernel_rfl) (by kernel_rfl) (by kernel_rfl) (fun _ _ _ h => h) (Or.inl ⟨by rfl, ?_⟩) (by exact S) ?_
  rotate_left 1
  · intro w hSw
    clear hSw
    go_simp
    try with_reducible rfl
  simp only [Act.put, List.setIfInBounds_toArray, List.set_cons_zero, List.set_cons_succ]
  refine Upto.ready (rs := [9]) (by kernel_rfl) (by simp) ?_
  refine Nexts.cons rfl (by decide) (fun K hK => ?_) Nexts.nil
  go_simp
  go_wp2_with (refine (hone_c _ _).mono ?_; rintro e w8 ⟨rfl, rfl⟩)
  refine hK.out _ _ (by exact S) ?_
  clear hK K
  refine Upto.ready (rs := [10]) (by kernel_rfl) (by simp) ?_
  refine Nexts.last rfl (fun K hK => ?_)
  go_simp
  refine hK.out _ _ ?_
  clear hK K
  refine Upto.done (by kernel_rfl) ?_ _
  go_wp2
  go_ret
  exact ⟨by simp [reckS, oneB], S.low⟩
set_option maxHeartbeats 2000000 in
set_option maxRecDepth 100000 in
theorem rk19_c (h : HV) (R : List Int) (ho : HOk h) (hR : okR R) (w : World) : Calls Try.prog 57 #[(Cel.host h).val, (Cel.regs R).val] w fun e w' => e = .returned (.int .u32 (reckS 19 (regv R h.a) (regv R h.b) (regv R h.c) h.im)) ∧ Below w.heap.size w w' := by
  have S := SH.start w
  obtain ⟨⟨d0, d1⟩, ⟨a0, a1⟩, ⟨b0, b1⟩, ⟨c0, c1⟩, i0, i1⟩ := ho
  obtain ⟨hA, ua, va⟩ := regv_at hR a0 a1
  obtain ⟨hB, ub, vb⟩ := regv_at hR b0 b1
  obtain ⟨hC, uc, vc⟩ := regv_at hR c0 c1
  have hl := hR.1
  clear hR
  have HA : Hid (R[h.a.toNat]? = some (regv R h.a)) := hA
  have HB : Hid (R[h.b.toNat]? = some (regv R h.b)) := hB
  have HC : Hid (R[h.c.toNat]? = some (regv R h.c)) := hC
  clear hA hB hC
  generalize regv R h.a = x at *
  generalize regv R h.b = y at *
  generalize regv R h.c = z at *
  go_enter Try.func57, Try.ntmps57
  go_wp2_with (first
    | (refine S.box rfl _ _ rfl (Cel.host h) rfl ?_; clear S; intro q1 w1 S)
    | (refine S.box rfl _ _ rfl (Cel.regs R) rfl ?_; clear S; intro q2 w2 S))
  refine Upto.start (S := fun w' => SH noZ w w' [(q2, Cel.regs R), (q1, Cel.host h)]) 12 (by kernel_rfl) ?_
  replace S := S.drew
  refine Upto.take (i := 0) (oi := { dst := some 5, op := Op.fieldAddr 25 (Operand.tmp 2) 2, type := 0, pos := "reckon.go:32", after := #[], guard := none }) (v := ?_) rfl (by kernel_rfl) (by kernel_rfl) (by kernel_rfl) (by kernel_rfl) (fun _ _ _ h => h) (Or.inl ⟨by rfl, ?_⟩) (by exact S) ?_
  rotate_left 1
  · intro w hSw
    clear hSw
    go_simp
    try with_reducible rfl
  simp only [Act.put, List.setIfInBounds_toArray, List.set_cons_zero, List.set_cons_succ]
  refine Upto.take (i := 1) (oi := { dst := some 6, op := Op.load 3 (Operand.tmp 5), type := 3, pos := "reckon.go:32", after := #[{ on := 0, ground := Ground.data }], guard := none }) (v := _) rfl (by kernel_rfl) (by kernel_rfl) (by kernel_rfl) (by kernel_rfl) (fun _ _ _ h => h) (y_load1 (by rfl) _ _ rfl _ _ rfl 1 _ rfl _ rfl _ Try.underlying3 rfl) (by exact S) ?_
  simp only [Act.put, List.setIfInBounds_toArray, List.set_cons_zero, List.set_cons_succ]
  refine Upto.take (i := 2) (oi := { dst := some 7, op := Op.indexAddr 28 (Operand.tmp 3) (Operand.tmp 6), type := 0, pos := "reckon.go:32", after := #[{ on := 1, ground := Ground.data }], guard := none }) (v := ?_) rfl (by kernel_rfl) (by kernel_rfl) (by kernel_rfl) (by kernel_rfl) (fun _ _ _ h => h) (Or.inl ⟨by rfl, ?_⟩) (by exact S) ?_
  rotate_left 1
  · intro w hSw
    clear hSw
    go_simp
    try with_reducible rfl
  simp only [Act.put, List.setIfInBounds_toArray, List.set_cons_zero, List.set_cons_succ]
  refine Upto.take (i := 3) (oi := { dst := some 8, op := Op.load 22 (Operand.tmp 7), type := 22, pos := "reckon.go:32", after := #[{ on := 2, ground := Ground.data }], guard := none }) (v := _) rfl (by kernel_rfl) (by kernel_rfl) (by kernel_rfl) (by kernel_rfl) (fun _ _ _ h => h) (y_load1 (by rfl) _ _ rfl _ _ rfl 0 _ rfl _ (rc_at HA.out) _ Try.underlying22 rfl) (by exact S) ?_
  simp only [Act.put, List.setIfInBounds_toArray, List.set_cons_zero, List.set_cons_succ]
  refine Upto.take (i := 4) (oi := { dst := some 9, op := Op.convert 22 21 (Operand.tmp 8), type := 21, pos := "reckon.go:32", after := #[{ on := 3, ground := Ground.data }], guard := none }) (v := ?_) rfl (by kernel_rfl) (by kernel_rfl) (by kernel_rfl) (by kernel_rfl) (fun _ _ _ h => h) (Or.inl ⟨by rfl, ?_⟩) (by exact S) ?_
  rotate_left 1
  · intro w hSw
    clear hSw
    go_simp
    try with_reducible rfl
  simp only [Act.put, List.setIfInBounds_toArray, List.set_cons_zero, List.set_cons_succ]
  refine Upto.take (i := 5) (oi := { dst := some 10, op := Op.fieldAddr 25 (Operand.tmp 2) 3, type := 0, pos := "reckon.go:32", after := #[], guard := none }) (v := ?_) rfl (by kernel_rfl) (by kernel_rfl) (by kernel_rfl) (by kernel_rfl) (fun _ _ _ h => h) (Or.inl ⟨by rfl, ?_⟩) (by exact S) ?_
  rotate_left 1
  · intro w hSw
    clear hSw
    go_simp
    try with_reducible rfl
  simp only [Act.put, List.setIfInBounds_toArray, List.set_cons_zero, List.set_cons_succ]
  refine Upto.take (i := 6) (oi := { dst := some 11, op := Op.load 3 (Operand.tmp 10), type := 3, pos := "reckon.go:32", after := #[{ on := 5, ground := Ground.data }], guard := none }) (v := _) rfl (by kernel_rfl) (by kernel_rfl) (by kernel_rfl) (by kernel_rfl) (fun _ _ _ h => h) (y_load1 (by rfl) _ _ rfl _ _ rfl 1 _ rfl _ rfl _ Try.underlying3 rfl) (by exact S) ?_
  simp only [Act.put, List.setIfInBounds_toArray, List.set_cons_zero, List.set_cons_succ]
  refine Upto.take (i := 7) (oi := { dst := some 12, op := Op.indexAddr 28 (Operand.tmp 3) (Operand.tmp 11), type := 0, pos := "reckon.go:32", after := #[{ on := 6, ground := Ground.data }], guard := none }) (v := ?_) rfl (by kernel_rfl) (by kernel_rfl) (by kernel_rfl) (by kernel_rfl) (fun _ _ _ h => h) (Or.inl ⟨by rfl, ?_⟩) (by exact S) ?_
  rotate_left 1
  · intro w hSw
    clear hSw
    go_simp
    try with_reducible rfl
  simp only [Act.put, List.setIfInBounds_toArray, List.set_cons_zero, List.set_cons_succ]
  refine Upto.take (i := 8) (oi := { dst := some 13, op := Op.load 22 (Operand.tmp 12), type := 22, pos := "reckon.go:32", after := #[{ on := 7, ground := Ground.data }], guard := none }) (v := _) rfl (by kernel_rfl) (by kernel_rfl) (by kernel_rfl) (by kernel_rfl) (fun _ _ _ h => h) (y_load1 (by rfl) _ _ rfl _ _ rfl 0 _ rfl _ (rc_at HB.out) _ Try.underlying22 rfl) (by exact S) ?_
  simp only [Act.put, List.setIfInBounds_toArray, List.set_cons_zero, List.set_cons_succ]
  refine Upto.take (i := 9) (oi := { dst := some 14, op := Op.convert 22 21 (Operand.tmp 13), type := 21, pos := "reckon.go:32", after := #[{ on := 8, ground := Ground.data }], guard := none }) (v := ?_) rfl (by kernel_rfl) (by kernel_rfl) (by kernel_rfl) (by kernel_rfl) (fun _ _ _ h => h) (Or.inl ⟨by rfl, ?_⟩) (by exact S) ?_
  rotate_left 1
  · intro w hSw
    clear hSw
    go_simp
    try with_reducible rfl
  simp only [Act.put, List.setIfInBounds_toArray, List.set_cons_zero, List.set_cons_succ]
  refine Upto.take (i := 10) (oi := { dst := some 15, op := Op.binOp BinOp.lss 21 (Operand.tmp 9) (Operand.tmp 14) 21, type := 4, pos := "reckon.go:32", after := #[{ on := 4, ground := Ground.data }, { on := 9, ground := Ground.data }], guard := none }) (v := ?_) rfl (by kernel_rfl) (by kernel_rfl) (by kernel_rfl) (by kernel_rfl) (fun _ _ _ h => h) (Or.inl ⟨by rfl, ?_⟩) (by exact S) ?_
  rotate_left 1
  · intro w hSw
    clear hSw
    go_simp
    try with_reducible rfl
  simp only [Act.put, List.setIfInBounds_toArray, List.set_cons_zero, List.set_cons_succ]
  refine Upto.ready (rs := [11]) (by kernel_rfl) (by simp) ?_
  refine Nexts.cons rfl (by decide) (fun K hK => ?_) Nexts.nil
  go_simp
  go_wp2_with (refine (hone_c _ _).mono ?_; rintro e w8 ⟨rfl, rfl⟩)
  refine hK.out _ _ (by exact S) ?_
  clear hK K
  refine Upto.ready (rs := [12]) (by kernel_rfl) (by simp) ?_
  refine Nexts.last rfl (fun K hK => ?_)
  go_simp
  refine hK.out _ _ ?_
  clear hK K
  refine Upto.done (by kernel_rfl) ?_ _
  go_wp2
  go_ret
  exact ⟨by simp [reckS, IntKind.wrap_i32, wrap32, oneB], S.low⟩
set_option maxHeartbeats 2000000 in
set_option maxRecDepth 100000 in
theorem rk17_c (h : HV) (R : List Int) (ho : HOk h) (hR : okR R) (w : World) : Calls Try.prog 53 #[(Cel.host h).val, (Cel.regs R).val] w fun e w' => e = .returned (.int .u32 (reckS 17 (regv R h.a) (regv R h.b) (regv R h.c) h.im)) ∧ Below w.heap.size w w' := by
  have S := SH.start w
  obtain ⟨⟨d0, d1⟩, ⟨a0, a1⟩, ⟨b0, b1⟩, ⟨c0, c1⟩, i0, i1⟩ := ho
  obtain ⟨hA, ua, va⟩ := regv_at hR a0 a1
  obtain ⟨hB, ub, vb⟩ := regv_at hR b0 b1
  obtain ⟨hC, uc, vc⟩ := regv_at hR c0 c1
  have hl := hR.1
  clear hR
  have HA : Hid (R[h.a.toNat]? = some (regv R h.a)) := hA
  have HB : Hid (R[h.b.toNat]? = some (regv R h.b)) := hB
  have HC : Hid (R[h.c.toNat]? = some (regv R h.c)) := hC
  clear hA hB hC
  generalize regv R h.a = x at *
  generalize regv R h.b = y at *
  generalize regv R h.c = z at *
  go_enter Try.func53, Try.ntmps53
  go_wp2_with (first
    | (refine S.box rfl _ _ rfl (Cel.host h) rfl ?_; clear S; intro q1 w1 S)
    | (refine S.box rfl _ _ rfl (Cel.regs R) rfl ?_; clear S; intro q2 w2 S)
    | (refine S.load1 rfl 3 _ rfl _ 2 rfl 1 (Cel.host h) rfl _ rfl _ Try.underlying3 rfl ?_)
    | (refine S.load1 rfl 3 _ rfl _ 3 rfl 1 (Cel.host h) rfl _ rfl _ Try.underlying3 rfl ?_)
    | (refine S.load1 rfl 3 _ rfl _ 4 rfl 1 (Cel.host h) rfl _ rfl _ Try.underlying3 rfl ?_)
    | (refine S.load1 rfl 22 _ rfl _ 5 rfl 1 (Cel.host h) rfl _ rfl _ Try.underlying22 rfl ?_)
    | (refine S.load1 rfl 22 _ rfl _ _ rfl 0 (Cel.regs R) rfl _ (rc_at HA.out) _ Try.underlying22 rfl ?_)
    | (refine S.load1 rfl 22 _ rfl _ _ rfl 0 (Cel.regs R) rfl _ (rc_at HB.out) _ Try.underlying22 rfl ?_)
    | (refine S.load1 rfl 22 _ rfl _ _ rfl 0 (Cel.regs R) rfl _ (rc_at HC.out) _ Try.underlying22 rfl ?_)
    | (refine (clz_c _ (by assumption) (by assumption) _).mono ?_; rintro e w8 ⟨rfl, rfl⟩))
  go_ret
  have hb := clzS_bounds x ua va
  refine ⟨?_, S.low⟩
  simp [reckS]
  omega
set_option maxHeartbeats 2000000 in
set_option maxRecDepth 100000 in
theorem choose_t (h : HV) (R : List Int) (ho : HOk h) (hR : okR R) (hz : regv R h.c ≠ 0) (w : World) : Calls Try.prog 59 #[(Cel.host h).val, (Cel.regs R).val] w fun e w' => e = .returned (.int .u32 (reckS 21 (regv R h.a) (regv R h.b) (regv R h.c) h.im)) ∧ Below w.heap.size w w' := by
  have S := SH.start w
  obtain ⟨⟨d0, d1⟩, ⟨a0, a1⟩, ⟨b0, b1⟩, ⟨c0, c1⟩, i0, i1⟩ := ho
  obtain ⟨hA, ua, va⟩ := regv_at hR a0 a1
  obtain ⟨hB, ub, vb⟩ := regv_at hR b0 b1
  obtain ⟨hC, uc, vc⟩ := regv_at hR c0 c1
  have hl := hR.1
  clear hR
  have HA : Hid (R[h.a.toNat]? = some (regv R h.a)) := hA
  have HB : Hid (R[h.b.toNat]? = some (regv R h.b)) := hB
  have HC : Hid (R[h.c.toNat]? = some (regv R h.c)) := hC
  clear hA hB hC
  generalize regv R h.a = x at *
  generalize regv R h.b = y at *
  generalize regv R h.c = z at *
  go_enter Try.func59, Try.ntmps59
  go_wp2_with (first
    | (refine S.box rfl _ _ rfl (Cel.host h) rfl ?_; clear S; intro q1 w1 S)
    | (refine S.box rfl _ _ rfl (Cel.regs R) rfl ?_; clear S; intro q2 w2 S)
    | (refine S.load1 rfl 3 _ rfl _ 2 rfl 1 (Cel.host h) rfl _ rfl _ Try.underlying3 rfl ?_)
    | (refine S.load1 rfl 3 _ rfl _ 3 rfl 1 (Cel.host h) rfl _ rfl _ Try.underlying3 rfl ?_)
    | (refine S.load1 rfl 3 _ rfl _ 4 rfl 1 (Cel.host h) rfl _ rfl _ Try.underlying3 rfl ?_)
    | (refine S.load1 rfl 22 _ rfl _ 5 rfl 1 (Cel.host h) rfl _ rfl _ Try.underlying22 rfl ?_)
    | (refine S.load1 rfl 22 _ rfl _ _ rfl 0 (Cel.regs R) rfl _ (rc_at HA.out) _ Try.underlying22 rfl ?_)
    | (refine S.load1 rfl 22 _ rfl _ _ rfl 0 (Cel.regs R) rfl _ (rc_at HB.out) _ Try.underlying22 rfl ?_)
    | (refine S.load1 rfl 22 _ rfl _ _ rfl 0 (Cel.regs R) rfl _ (rc_at HC.out) _ Try.underlying22 rfl ?_))
  all_goals
    go_ret
    exact ⟨by simp [reckS, hz], S.low⟩
set_option maxHeartbeats 2000000 in
set_option maxRecDepth 100000 in
theorem choose_f (h : HV) (R : List Int) (ho : HOk h) (hR : okR R) (hz : regv R h.c = 0) (w : World) : Calls Try.prog 59 #[(Cel.host h).val, (Cel.regs R).val] w fun e w' => e = .returned (.int .u32 (reckS 21 (regv R h.a) (regv R h.b) (regv R h.c) h.im)) ∧ Below w.heap.size w w' := by
  have S := SH.start w
  obtain ⟨⟨d0, d1⟩, ⟨a0, a1⟩, ⟨b0, b1⟩, ⟨c0, c1⟩, i0, i1⟩ := ho
  obtain ⟨hA, ua, va⟩ := regv_at hR a0 a1
  obtain ⟨hB, ub, vb⟩ := regv_at hR b0 b1
  obtain ⟨hC, uc, vc⟩ := regv_at hR c0 c1
  have hl := hR.1
  clear hR
  have HA : Hid (R[h.a.toNat]? = some (regv R h.a)) := hA
  have HB : Hid (R[h.b.toNat]? = some (regv R h.b)) := hB
  have HC : Hid (R[h.c.toNat]? = some (regv R h.c)) := hC
  clear hA hB hC
  generalize regv R h.a = x at *
  generalize regv R h.b = y at *
  generalize regv R h.c = z at *
  go_enter Try.func59, Try.ntmps59
  go_wp2_with (first
    | (refine S.box rfl _ _ rfl (Cel.host h) rfl ?_; clear S; intro q1 w1 S)
    | (refine S.box rfl _ _ rfl (Cel.regs R) rfl ?_; clear S; intro q2 w2 S)
    | (refine S.load1 rfl 3 _ rfl _ 2 rfl 1 (Cel.host h) rfl _ rfl _ Try.underlying3 rfl ?_)
    | (refine S.load1 rfl 3 _ rfl _ 3 rfl 1 (Cel.host h) rfl _ rfl _ Try.underlying3 rfl ?_)
    | (refine S.load1 rfl 3 _ rfl _ 4 rfl 1 (Cel.host h) rfl _ rfl _ Try.underlying3 rfl ?_)
    | (refine S.load1 rfl 22 _ rfl _ 5 rfl 1 (Cel.host h) rfl _ rfl _ Try.underlying22 rfl ?_)
    | (refine S.load1 rfl 22 _ rfl _ _ rfl 0 (Cel.regs R) rfl _ (rc_at HA.out) _ Try.underlying22 rfl ?_)
    | (refine S.load1 rfl 22 _ rfl _ _ rfl 0 (Cel.regs R) rfl _ (rc_at HB.out) _ Try.underlying22 rfl ?_)
    | (refine S.load1 rfl 22 _ rfl _ _ rfl 0 (Cel.regs R) rfl _ (rc_at HC.out) _ Try.underlying22 rfl ?_))
  all_goals
    go_ret
    exact ⟨by simp [reckS, hz], S.low⟩
theorem rk21_c (h : HV) (R : List Int) (ho : HOk h) (hR : okR R) (w : World) : Calls Try.prog 59 #[(Cel.host h).val, (Cel.regs R).val] w fun e w' => e = .returned (.int .u32 (reckS 21 (regv R h.a) (regv R h.b) (regv R h.c) h.im)) ∧ Below w.heap.size w w' := by
  by_cases hz : regv R h.c = 0
  · exact choose_f h R ho hR hz w
  · exact choose_t h R ho hR hz w
end Go.Proofs.Yteflboidbogegaa
