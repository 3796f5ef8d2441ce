/- The document's reckon, walked. -/
import Derived.Test.YtjhmmfpmmgebjaaGreatHvf
import Derived.Test.YtjhmmfpmmgebjaaGreatVl
namespace Go.Proofs.YtjhmmfpmmgebjaaGreat
open Go.ChangeShapes Go.WideShapes Go.ChangeAt Go.RowKit
set_option linter.unusedVariables false
set_option linter.unusedSimpArgs false

theorem countS_of (n : Int) (n0 : 0 ≤ n) (n1 : n < 32) : countS n = n.toNat := by
  unfold countS
  rw [if_neg (by omega), if_neg (by omega)]
theorem shl_eq (x n : Int) (x0 : 0 ≤ x) (x1 : x < 4294967296) (n0 : 0 ≤ n) (n1 : n < 32) : (shiftS x 1 n false).1 = x * 2 ^ n.toNat % 4294967296 := by
  rw [shiftS_of x 1 n false (by decide) (by decide), countS_of n n0 n1]
  cases hm : n.toNat with
  | zero =>
    show x = _
    simp
    omega
  | succ m => rw [lsl_iter x false x0 x1]
theorem shr_eq (x n : Int) (x0 : 0 ≤ x) (x1 : x < 4294967296) (n0 : 0 ≤ n) (n1 : n < 32) : (shiftS x 2 n false).1 = x / 2 ^ n.toNat := by
  rw [shiftS_of x 2 n false (by decide) (by decide), countS_of n n0 n1]
  cases hm : n.toNat with
  | zero =>
    show x = _
    simp
  | succ m => rw [lsr_iter]
theorem and_low5 (y : Int) (y0 : 0 ≤ y) (y1 : y < 4294967296) : bits .and .u32 y 31 = y % 32 := by
  rw [u32_and y 31 y0 y1 (by decide) (by decide)]
  have : (31 : Int).toNat = 2 ^ 5 - 1 := by decide
  rw [this, Nat.and_two_pow_sub_one_eq_mod]
  omega
theorem rflag_c (q : Bool) (w : World) : Calls Tryz.prog 85 #[.bool q] w fun e w' => e = .returned (.int .u32 (oneB q)) ∧ w' = w := by
  cases q
  · go_enter Tryz.func85, Tryz.ntmps85
    go_wp2
    go_ret
    exact ⟨rfl, rfl⟩
  · go_enter Tryz.func85, Tryz.ntmps85
    go_wp2
    go_ret
    exact ⟨rfl, rfl⟩
set_option maxHeartbeats 2000000 in
set_option maxRecDepth 100000 in
theorem rrk1_c (h : HV) (R : List Int) (ho : HOk h) (hR : okR R) (hop : h.op = 1) (w : World) : Calls Tryz.prog 32 #[(Cel.host h).val, (Cel.regs R).val] w fun e w' => e = .returned (.int .u32 (reckS 1 (regv R h.a) (regv R h.b) (regv R h.c) h.im)) ∧ Below w.heap.size w w' := by
  have S := SH.start w
  obtain ⟨⟨d0, d1⟩, ⟨a0, a1⟩, ⟨b0, b1⟩, ⟨c0, c1⟩, i0, i1⟩ := ho
  obtain ⟨hA, ua, va⟩ := regv_at hR a0 a1
  obtain ⟨hB, ub, vb⟩ := regv_at hR b0 b1
  obtain ⟨hC, uc, vc⟩ := regv_at hR c0 c1
  have hl := hR.1
  clear hR
  have HA : Hid (R[h.a.toNat]? = some (regv R h.a)) := hA
  have HB : Hid (R[h.b.toNat]? = some (regv R h.b)) := hB
  have HC : Hid (R[h.c.toNat]? = some (regv R h.c)) := hC
  clear hA hB hC
  generalize regv R h.a = x at *
  generalize regv R h.b = y at *
  generalize regv R h.c = z at *
  have e31 : bits .and .u32 y 31 = y % 32 := and_low5 y ub vb
  have ew : IntKind.i64.wrap (y % 32) = y % 32 := by rw [IntKind.wrap_i64]; omega
  have n0 : 0 ≤ y % 32 := by omega
  have n1 : y % 32 < 32 := by omega
  have hop0 : (Cel.host h).cells[0]? = some (.int .i64 1) := by simp [Cel.cells, hop]
  go_enter Tryz.func32, Tryz.ntmps32
  go_wp2_with (first
    | (refine S.box rfl _ _ rfl (Cel.host h) rfl ?_; clear S; intro q1 w1 S)
    | (refine S.box rfl _ _ rfl (Cel.regs R) rfl ?_; clear S; intro q2 w2 S))
  refine Upto.start (S := fun w' => SH noZ w w' [(q2, Cel.regs R), (q1, Cel.host h)]) 9 (by kernel_rfl) ?_
  replace S := S.drew
  refine Upto.take (i := 0) (oi := { dst := some 16, op := Op.fieldAddr 31 (Operand.tmp 2) 2, type := 0, pos := "sourdineref5.go:147", after := #[], guard := none }) (v := ?_) rfl (by kernel_rfl) (by kernel_rfl) (by kernel_rfl) (by kernel_rfl) (fun _ _ _ h => h) (Or.inl ⟨by rfl, ?_⟩) (by exact S) ?_
  rotate_left 1
  · intro w hSw
    clear hSw
    go_simp
    try with_reducible rfl
  simp only [Act.put, List.setIfInBounds_toArray, List.set_cons_zero, List.set_cons_succ]
  refine Upto.take (i := 1) (oi := { dst := some 17, op := Op.load 3 (Operand.tmp 16), type := 3, pos := "sourdineref5.go:147", after := #[{ on := 0, ground := Ground.data }], guard := none }) (v := _) rfl (by kernel_rfl) (by kernel_rfl) (by kernel_rfl) (by kernel_rfl) (fun _ _ _ h => h) (y_load1 (by rfl) _ _ rfl _ _ rfl 1 _ rfl _ rfl _ Tryz.underlying3 rfl) (by exact S) ?_
  simp only [Act.put, List.setIfInBounds_toArray, List.set_cons_zero, List.set_cons_succ]
  refine Upto.take (i := 2) (oi := { dst := some 18, op := Op.indexAddr 27 (Operand.tmp 3) (Operand.tmp 17), type := 0, pos := "sourdineref5.go:147", after := #[{ on := 1, ground := Ground.data }], guard := none }) (v := ?_) rfl (by kernel_rfl) (by kernel_rfl) (by kernel_rfl) (by kernel_rfl) (fun _ _ _ h => h) (Or.inl ⟨by rfl, ?_⟩) (by exact S) ?_
  rotate_left 1
  · intro w hSw
    clear hSw
    go_simp
    try with_reducible rfl
  simp only [Act.put, List.setIfInBounds_toArray, List.set_cons_zero, List.set_cons_succ]
  refine Upto.take (i := 3) (oi := { dst := some 19, op := Op.load 26 (Operand.tmp 18), type := 26, pos := "sourdineref5.go:147", after := #[{ on := 2, ground := Ground.data }], guard := none }) (v := _) rfl (by kernel_rfl) (by kernel_rfl) (by kernel_rfl) (by kernel_rfl) (fun _ _ _ h => h) (y_load1 (by rfl) _ _ rfl _ _ rfl 0 _ rfl _ (rc_at HA.out) _ Tryz.underlying26 rfl) (by exact S) ?_
  simp only [Act.put, List.setIfInBounds_toArray, List.set_cons_zero, List.set_cons_succ]
  refine Upto.take (i := 4) (oi := { dst := some 20, op := Op.fieldAddr 31 (Operand.tmp 2) 3, type := 0, pos := "sourdineref5.go:147", after := #[{ on := 8, ground := Ground.gcOnly Departure.lateStores }], guard := none }) (v := ?_) rfl (by kernel_rfl) (by kernel_rfl) (by kernel_rfl) (by kernel_rfl) (fun _ _ _ h => h) (Or.inl ⟨by rfl, ?_⟩) (by exact S) ?_
  rotate_left 1
  · intro w hSw
    clear hSw
    go_simp
    try with_reducible rfl
  simp only [Act.put, List.setIfInBounds_toArray, List.set_cons_zero, List.set_cons_succ]
  refine Upto.take (i := 5) (oi := { dst := some 21, op := Op.load 3 (Operand.tmp 20), type := 3, pos := "sourdineref5.go:147", after := #[{ on := 4, ground := Ground.data }, { on := 8, ground := Ground.gcOnly Departure.lateStores }], guard := none }) (v := _) rfl (by kernel_rfl) (by kernel_rfl) (by kernel_rfl) (by kernel_rfl) (fun _ _ _ h => h) (y_load1 (by rfl) _ _ rfl _ _ rfl 1 _ rfl _ rfl _ Tryz.underlying3 rfl) (by exact S) ?_
  simp only [Act.put, List.setIfInBounds_toArray, List.set_cons_zero, List.set_cons_succ]
  refine Upto.take (i := 6) (oi := { dst := some 22, op := Op.indexAddr 27 (Operand.tmp 3) (Operand.tmp 21), type := 0, pos := "sourdineref5.go:147", after := #[{ on := 5, ground := Ground.data }, { on := 8, ground := Ground.gcOnly Departure.lateStores }], guard := none }) (v := ?_) rfl (by kernel_rfl) (by kernel_rfl) (by kernel_rfl) (by kernel_rfl) (fun _ _ _ h => h) (Or.inl ⟨by rfl, ?_⟩) (by exact S) ?_
  rotate_left 1
  · intro w hSw
    clear hSw
    go_simp
    try with_reducible rfl
  simp only [Act.put, List.setIfInBounds_toArray, List.set_cons_zero, List.set_cons_succ]
  refine Upto.take (i := 7) (oi := { dst := some 23, op := Op.load 26 (Operand.tmp 22), type := 26, pos := "sourdineref5.go:147", after := #[{ on := 6, ground := Ground.data }, { on := 8, ground := Ground.gcOnly Departure.lateStores }], guard := none }) (v := _) rfl (by kernel_rfl) (by kernel_rfl) (by kernel_rfl) (by kernel_rfl) (fun _ _ _ h => h) (y_load1 (by rfl) _ _ rfl _ _ rfl 0 _ rfl _ (rc_at HB.out) _ Tryz.underlying26 rfl) (by exact S) ?_
  simp only [Act.put, List.setIfInBounds_toArray, List.set_cons_zero, List.set_cons_succ]
  refine Upto.take (i := 8) (oi := { dst := some 5, op := Op.assign (Operand.tmp 19), type := 26, pos := "sourdineref5.go:147", after := #[{ on := 3, ground := Ground.data }, { on := 0, ground := Ground.phase }, { on := 1, ground := Ground.phase }, { on := 2, ground := Ground.phase }, { on := 3, ground := Ground.phase }, { on := 4, ground := Ground.textOnly Departure.lateStores }, { on := 5, ground := Ground.textOnly Departure.lateStores }, { on := 6, ground := Ground.textOnly Departure.lateStores }, { on := 7, ground := Ground.textOnly Departure.lateStores }], guard := none }) (v := ?_) rfl (by kernel_rfl) (by kernel_rfl) (by kernel_rfl) (by kernel_rfl) (fun _ _ _ h => h) (Or.inl ⟨by rfl, ?_⟩) (by exact S) ?_
  rotate_left 1
  · intro w hSw
    clear hSw
    go_simp
    try with_reducible rfl
  simp only [Act.put, List.setIfInBounds_toArray, List.set_cons_zero, List.set_cons_succ]
  refine Upto.ready (rs := [9]) (by kernel_rfl) (by simp) ?_
  refine Nexts.last rfl (fun K hK => ?_)
  go_simp
  refine hK.out _ _ ?_
  clear hK K
  refine Upto.done (by kernel_rfl) ?_ _
  go_wp2_with (first
    | (refine S.load1 rfl 3 _ rfl _ 0 rfl 1 (Cel.host h) rfl _ hop0 _ Tryz.underlying3 rfl ?_)
    | (refine S.load1 rfl 3 _ rfl _ 2 rfl 1 (Cel.host h) rfl _ rfl _ Tryz.underlying3 rfl ?_)
    | (refine S.load1 rfl 3 _ rfl _ 3 rfl 1 (Cel.host h) rfl _ rfl _ Tryz.underlying3 rfl ?_)
    | (refine S.load1 rfl 3 _ rfl _ 4 rfl 1 (Cel.host h) rfl _ rfl _ Tryz.underlying3 rfl ?_)
    | (refine S.load1 rfl 26 _ rfl _ 5 rfl 1 (Cel.host h) rfl _ rfl _ Tryz.underlying26 rfl ?_)
    | (refine S.load1 rfl 26 _ rfl _ _ rfl 0 (Cel.regs R) rfl _ (rc_at HA.out) _ Tryz.underlying26 rfl ?_)
    | (refine S.load1 rfl 26 _ rfl _ _ rfl 0 (Cel.regs R) rfl _ (rc_at HB.out) _ Tryz.underlying26 rfl ?_)
    | (refine S.load1 rfl 26 _ rfl _ _ rfl 0 (Cel.regs R) rfl _ (rc_at HC.out) _ Tryz.underlying26 rfl ?_))
  go_ret
  exact ⟨by simp [reckS], S.low⟩
set_option maxHeartbeats 2000000 in
set_option maxRecDepth 100000 in
theorem rrk2_c (h : HV) (R : List Int) (ho : HOk h) (hR : okR R) (hop : h.op = 2) (w : World) : Calls Tryz.prog 32 #[(Cel.host h).val, (Cel.regs R).val] w fun e w' => e = .returned (.int .u32 (reckS 2 (regv R h.a) (regv R h.b) (regv R h.c) h.im)) ∧ Below w.heap.size w w' := by
  have S := SH.start w
  obtain ⟨⟨d0, d1⟩, ⟨a0, a1⟩, ⟨b0, b1⟩, ⟨c0, c1⟩, i0, i1⟩ := ho
  obtain ⟨hA, ua, va⟩ := regv_at hR a0 a1
  obtain ⟨hB, ub, vb⟩ := regv_at hR b0 b1
  obtain ⟨hC, uc, vc⟩ := regv_at hR c0 c1
  have hl := hR.1
  clear hR
  have HA : Hid (R[h.a.toNat]? = some (regv R h.a)) := hA
  have HB : Hid (R[h.b.toNat]? = some (regv R h.b)) := hB
  have HC : Hid (R[h.c.toNat]? = some (regv R h.c)) := hC
  clear hA hB hC
  generalize regv R h.a = x at *
  generalize regv R h.b = y at *
  generalize regv R h.c = z at *
  have e31 : bits .and .u32 y 31 = y % 32 := and_low5 y ub vb
  have ew : IntKind.i64.wrap (y % 32) = y % 32 := by rw [IntKind.wrap_i64]; omega
  have n0 : 0 ≤ y % 32 := by omega
  have n1 : y % 32 < 32 := by omega
  have hop0 : (Cel.host h).cells[0]? = some (.int .i64 2) := by simp [Cel.cells, hop]
  go_enter Tryz.func32, Tryz.ntmps32
  go_wp2_with (first
    | (refine S.box rfl _ _ rfl (Cel.host h) rfl ?_; clear S; intro q1 w1 S)
    | (refine S.box rfl _ _ rfl (Cel.regs R) rfl ?_; clear S; intro q2 w2 S))
  refine Upto.start (S := fun w' => SH noZ w w' [(q2, Cel.regs R), (q1, Cel.host h)]) 9 (by kernel_rfl) ?_
  replace S := S.drew
  refine Upto.take (i := 0) (oi := { dst := some 16, op := Op.fieldAddr 31 (Operand.tmp 2) 2, type := 0, pos := "sourdineref5.go:147", after := #[], guard := none }) (v := ?_) rfl (by kernel_rfl) (by kernel_rfl) (by kernel_rfl) (by kernel_rfl) (fun _ _ _ h => h) (Or.inl ⟨by rfl, ?_⟩) (by exact S) ?_
  rotate_left 1
  · intro w hSw
    clear hSw
    go_simp
    try with_reducible rfl
  simp only [Act.put, List.setIfInBounds_toArray, List.set_cons_zero, List.set_cons_succ]
  refine Upto.take (i := 1) (oi := { dst := some 17, op := Op.load 3 (Operand.tmp 16), type := 3, pos := "sourdineref5.go:147", after := #[{ on := 0, ground := Ground.data }], guard := none }) (v := _) rfl (by kernel_rfl) (by kernel_rfl) (by kernel_rfl) (by kernel_rfl) (fun _ _ _ h => h) (y_load1 (by rfl) _ _ rfl _ _ rfl 1 _ rfl _ rfl _ Tryz.underlying3 rfl) (by exact S) ?_
  simp only [Act.put, List.setIfInBounds_toArray, List.set_cons_zero, List.set_cons_succ]
  refine Upto.take (i := 2) (oi := { dst := some 18, op := Op.indexAddr 27 (Operand.tmp 3) (Operand.tmp 17), type := 0, pos := "sourdineref5.go:147", after := #[{ on := 1, ground := Ground.data }], guard := none }) (v := ?_) rfl (by kernel_rfl) (by kernel_rfl) (by kernel_rfl) (by kernel_rfl) (fun _ _ _ h => h) (Or.inl ⟨by rfl, ?_⟩) (by exact S) ?_
  rotate_left 1
  · intro w hSw
    clear hSw
    go_simp
    try with_reducible rfl
  simp only [Act.put, List.setIfInBounds_toArray, List.set_cons_zero, List.set_cons_succ]
  refine Upto.take (i := 3) (oi := { dst := some 19, op := Op.load 26 (Operand.tmp 18), type := 26, pos := "sourdineref5.go:147", after := #[{ on := 2, ground := Ground.data }], guard := none }) (v := _) rfl (by kernel_rfl) (by kernel_rfl) (by kernel_rfl) (by kernel_rfl) (fun _ _ _ h => h) (y_load1 (by rfl) _ _ rfl _ _ rfl 0 _ rfl _ (rc_at HA.out) _ Tryz.underlying26 rfl) (by exact S) ?_
  simp only [Act.put, List.setIfInBounds_toArray, List.set_cons_zero, List.set_cons_succ]
  refine Upto.take (i := 4) (oi := { dst := some 20, op := Op.fieldAddr 31 (Operand.tmp 2) 3, type := 0, pos := "sourdineref5.go:147", after := #[{ on := 8, ground := Ground.gcOnly Departure.lateStores }], guard := none }) (v := ?_) rfl (by kernel_rfl) (by kernel_rfl) (by kernel_rfl) (by kernel_rfl) (fun _ _ _ h => h) (Or.inl ⟨by rfl, ?_⟩) (by exact S) ?_
  rotate_left 1
  · intro w hSw
    clear hSw
    go_simp
    try with_reducible rfl
  simp only [Act.put, List.setIfInBounds_toArray, List.set_cons_zero, List.set_cons_succ]
  refine Upto.take (i := 5) (oi := { dst := some 21, op := Op.load 3 (Operand.tmp 20), type := 3, pos := "sourdineref5.go:147", after := #[{ on := 4, ground := Ground.data }, { on := 8, ground := Ground.gcOnly Departure.lateStores }], guard := none }) (v := _) rfl (by kernel_rfl) (by kernel_rfl) (by kernel_rfl) (by kernel_rfl) (fun _ _ _ h => h) (y_load1 (by rfl) _ _ rfl _ _ rfl 1 _ rfl _ rfl _ Tryz.underlying3 rfl) (by exact S) ?_
  simp only [Act.put, List.setIfInBounds_toArray, List.set_cons_zero, List.set_cons_succ]
  refine Upto.take (i := 6) (oi := { dst := some 22, op := Op.indexAddr 27 (Operand.tmp 3) (Operand.tmp 21), type := 0, pos := "sourdineref5.go:147", after := #[{ on := 5, ground := Ground.data }, { on := 8, ground := Ground.gcOnly Departure.lateStores }], guard := none }) (v := ?_) rfl (by kernel_rfl) (by kernel_rfl) (by kernel_rfl) (by kernel_rfl) (fun _ _ _ h => h) (Or.inl ⟨by rfl, ?_⟩) (by exact S) ?_
  rotate_left 1
  · intro w hSw
    clear hSw
    go_simp
    try with_reducible rfl
  simp only [Act.put, List.setIfInBounds_toArray, List.set_cons_zero, List.set_cons_succ]
  refine Upto.take (i := 7) (oi := { dst := some 23, op := Op.load 26 (Operand.tmp 22), type := 26, pos := "sourdineref5.go:147", after := #[{ on := 6, ground := Ground.data }, { on := 8, ground := Ground.gcOnly Departure.lateStores }], guard := none }) (v := _) rfl (by kernel_rfl) (by kernel_rfl) (by kernel_rfl) (by kernel_rfl) (fun _ _ _ h => h) (y_load1 (by rfl) _ _ rfl _ _ rfl 0 _ rfl _ (rc_at HB.out) _ Tryz.underlying26 rfl) (by exact S) ?_
  simp only [Act.put, List.setIfInBounds_toArray, List.set_cons_zero, List.set_cons_succ]
  refine Upto.take (i := 8) (oi := { dst := some 5, op := Op.assign (Operand.tmp 19), type := 26, pos := "sourdineref5.go:147", after := #[{ on := 3, ground := Ground.data }, { on := 0, ground := Ground.phase }, { on := 1, ground := Ground.phase }, { on := 2, ground := Ground.phase }, { on := 3, ground := Ground.phase }, { on := 4, ground := Ground.textOnly Departure.lateStores }, { on := 5, ground := Ground.textOnly Departure.lateStores }, { on := 6, ground := Ground.textOnly Departure.lateStores }, { on := 7, ground := Ground.textOnly Departure.lateStores }], guard := none }) (v := ?_) rfl (by kernel_rfl) (by kernel_rfl) (by kernel_rfl) (by kernel_rfl) (fun _ _ _ h => h) (Or.inl ⟨by rfl, ?_⟩) (by exact S) ?_
  rotate_left 1
  · intro w hSw
    clear hSw
    go_simp
    try with_reducible rfl
  simp only [Act.put, List.setIfInBounds_toArray, List.set_cons_zero, List.set_cons_succ]
  refine Upto.ready (rs := [9]) (by kernel_rfl) (by simp) ?_
  refine Nexts.last rfl (fun K hK => ?_)
  go_simp
  refine hK.out _ _ ?_
  clear hK K
  refine Upto.done (by kernel_rfl) ?_ _
  go_wp2_with (first
    | (refine S.load1 rfl 3 _ rfl _ 0 rfl 1 (Cel.host h) rfl _ hop0 _ Tryz.underlying3 rfl ?_)
    | (refine S.load1 rfl 3 _ rfl _ 2 rfl 1 (Cel.host h) rfl _ rfl _ Tryz.underlying3 rfl ?_)
    | (refine S.load1 rfl 3 _ rfl _ 3 rfl 1 (Cel.host h) rfl _ rfl _ Tryz.underlying3 rfl ?_)
    | (refine S.load1 rfl 3 _ rfl _ 4 rfl 1 (Cel.host h) rfl _ rfl _ Tryz.underlying3 rfl ?_)
    | (refine S.load1 rfl 26 _ rfl _ 5 rfl 1 (Cel.host h) rfl _ rfl _ Tryz.underlying26 rfl ?_)
    | (refine S.load1 rfl 26 _ rfl _ _ rfl 0 (Cel.regs R) rfl _ (rc_at HA.out) _ Tryz.underlying26 rfl ?_)
    | (refine S.load1 rfl 26 _ rfl _ _ rfl 0 (Cel.regs R) rfl _ (rc_at HB.out) _ Tryz.underlying26 rfl ?_)
    | (refine S.load1 rfl 26 _ rfl _ _ rfl 0 (Cel.regs R) rfl _ (rc_at HC.out) _ Tryz.underlying26 rfl ?_))
  go_ret
  exact ⟨by simp [reckS], S.low⟩
set_option maxHeartbeats 2000000 in
set_option maxRecDepth 100000 in
theorem rrk3_c (h : HV) (R : List Int) (ho : HOk h) (hR : okR R) (hop : h.op = 3) (w : World) : Calls Tryz.prog 32 #[(Cel.host h).val, (Cel.regs R).val] w fun e w' => e = .returned (.int .u32 (reckS 3 (regv R h.a) (regv R h.b) (regv R h.c) h.im)) ∧ Below w.heap.size w w' := by
  have S := SH.start w
  obtain ⟨⟨d0, d1⟩, ⟨a0, a1⟩, ⟨b0, b1⟩, ⟨c0, c1⟩, i0, i1⟩ := ho
  obtain ⟨hA, ua, va⟩ := regv_at hR a0 a1
  obtain ⟨hB, ub, vb⟩ := regv_at hR b0 b1
  obtain ⟨hC, uc, vc⟩ := regv_at hR c0 c1
  have hl := hR.1
  clear hR
  have HA : Hid (R[h.a.toNat]? = some (regv R h.a)) := hA
  have HB : Hid (R[h.b.toNat]? = some (regv R h.b)) := hB
  have HC : Hid (R[h.c.toNat]? = some (regv R h.c)) := hC
  clear hA hB hC
  generalize regv R h.a = x at *
  generalize regv R h.b = y at *
  generalize regv R h.c = z at *
  have e31 : bits .and .u32 y 31 = y % 32 := and_low5 y ub vb
  have ew : IntKind.i64.wrap (y % 32) = y % 32 := by rw [IntKind.wrap_i64]; omega
  have n0 : 0 ≤ y % 32 := by omega
  have n1 : y % 32 < 32 := by omega
  have hop0 : (Cel.host h).cells[0]? = some (.int .i64 3) := by simp [Cel.cells, hop]
  go_enter Tryz.func32, Tryz.ntmps32
  go_wp2_with (first
    | (refine S.box rfl _ _ rfl (Cel.host h) rfl ?_; clear S; intro q1 w1 S)
    | (refine S.box rfl _ _ rfl (Cel.regs R) rfl ?_; clear S; intro q2 w2 S))
  refine Upto.start (S := fun w' => SH noZ w w' [(q2, Cel.regs R), (q1, Cel.host h)]) 9 (by kernel_rfl) ?_
  replace S := S.drew
  refine Upto.take (i := 0) (oi := { dst := some 16, op := Op.fieldAddr 31 (Operand.tmp 2) 2, type := 0, pos := "sourdineref5.go:147", after := #[], guard := none }) (v := ?_) rfl (by kernel_rfl) (by kernel_rfl) (by kernel_rfl) (by kernel_rfl) (fun _ _ _ h => h) (Or.inl ⟨by rfl, ?_⟩) (by exact S) ?_
  rotate_left 1
  · intro w hSw
    clear hSw
    go_simp
    try with_reducible rfl
  simp only [Act.put, List.setIfInBounds_toArray, List.set_cons_zero, List.set_cons_succ]
  refine Upto.take (i := 1) (oi := { dst := some 17, op := Op.load 3 (Operand.tmp 16), type := 3, pos := "sourdineref5.go:147", after := #[{ on := 0, ground := Ground.data }], guard := none }) (v := _) rfl (by kernel_rfl) (by kernel_rfl) (by kernel_rfl) (by kernel_rfl) (fun _ _ _ h => h) (y_load1 (by rfl) _ _ rfl _ _ rfl 1 _ rfl _ rfl _ Tryz.underlying3 rfl) (by exact S) ?_
  simp only [Act.put, List.setIfInBounds_toArray, List.set_cons_zero, List.set_cons_succ]
  refine Upto.take (i := 2) (oi := { dst := some 18, op := Op.indexAddr 27 (Operand.tmp 3) (Operand.tmp 17), type := 0, pos := "sourdineref5.go:147", after := #[{ on := 1, ground := Ground.data }], guard := none }) (v := ?_) rfl (by kernel_rfl) (by kernel_rfl) (by kernel_rfl) (by kernel_rfl) (fun _ _ _ h => h) (Or.inl ⟨by rfl, ?_⟩) (by exact S) ?_
  rotate_left 1
  · intro w hSw
    clear hSw
    go_simp
    try with_reducible rfl
  simp only [Act.put, List.setIfInBounds_toArray, List.set_cons_zero, List.set_cons_succ]
  refine Upto.take (i := 3) (oi := { dst := some 19, op := Op.load 26 (Operand.tmp 18), type := 26, pos := "sourdineref5.go:147", after := #[{ on := 2, ground := Ground.data }], guard := none }) (v := _) rfl (by kernel_rfl) (by kernel_rfl) (by kernel_rfl) (by kernel_rfl) (fun _ _ _ h => h) (y_load1 (by rfl) _ _ rfl _ _ rfl 0 _ rfl _ (rc_at HA.out) _ Tryz.underlying26 rfl) (by exact S) ?_
  simp only [Act.put, List.setIfInBounds_toArray, List.set_cons_zero, List.set_cons_succ]
  refine Upto.take (i := 4) (oi := { dst := some 20, op := Op.fieldAddr 31 (Operand.tmp 2) 3, type := 0, pos := "sourdineref5.go:147", after := #[{ on := 8, ground := Ground.gcOnly Departure.lateStores }], guard := none }) (v := ?_) rfl (by kernel_rfl) (by kernel_rfl) (by kernel_rfl) (by kernel_rfl) (fun _ _ _ h => h) (Or.inl ⟨by rfl, ?_⟩) (by exact S) ?_
  rotate_left 1
  · intro w hSw
    clear hSw
    go_simp
    try with_reducible rfl
  simp only [Act.put, List.setIfInBounds_toArray, List.set_cons_zero, List.set_cons_succ]
  refine Upto.take (i := 5) (oi := { dst := some 21, op := Op.load 3 (Operand.tmp 20), type := 3, pos := "sourdineref5.go:147", after := #[{ on := 4, ground := Ground.data }, { on := 8, ground := Ground.gcOnly Departure.lateStores }], guard := none }) (v := _) rfl (by kernel_rfl) (by kernel_rfl) (by kernel_rfl) (by kernel_rfl) (fun _ _ _ h => h) (y_load1 (by rfl) _ _ rfl _ _ rfl 1 _ rfl _ rfl _ Tryz.underlying3 rfl) (by exact S) ?_
  simp only [Act.put, List.setIfInBounds_toArray, List.set_cons_zero, List.set_cons_succ]
  refine Upto.take (i := 6) (oi := { dst := some 22, op := Op.indexAddr 27 (Operand.tmp 3) (Operand.tmp 21), type := 0, pos := "sourdineref5.go:147", after := #[{ on := 5, ground := Ground.data }, { on := 8, ground := Ground.gcOnly Departure.lateStores }], guard := none }) (v := ?_) rfl (by kernel_rfl) (by kernel_rfl) (by kernel_rfl) (by kernel_rfl) (fun _ _ _ h => h) (Or.inl ⟨by rfl, ?_⟩) (by exact S) ?_
  rotate_left 1
  · intro w hSw
    clear hSw
    go_simp
    try with_reducible rfl
  simp only [Act.put, List.setIfInBounds_toArray, List.set_cons_zero, List.set_cons_succ]
  refine Upto.take (i := 7) (oi := { dst := some 23, op := Op.load 26 (Operand.tmp 22), type := 26, pos := "sourdineref5.go:147", after := #[{ on := 6, ground := Ground.data }, { on := 8, ground := Ground.gcOnly Departure.lateStores }], guard := none }) (v := _) rfl (by kernel_rfl) (by kernel_rfl) (by kernel_rfl) (by kernel_rfl) (fun _ _ _ h => h) (y_load1 (by rfl) _ _ rfl _ _ rfl 0 _ rfl _ (rc_at HB.out) _ Tryz.underlying26 rfl) (by exact S) ?_
  simp only [Act.put, List.setIfInBounds_toArray, List.set_cons_zero, List.set_cons_succ]
  refine Upto.take (i := 8) (oi := { dst := some 5, op := Op.assign (Operand.tmp 19), type := 26, pos := "sourdineref5.go:147", after := #[{ on := 3, ground := Ground.data }, { on := 0, ground := Ground.phase }, { on := 1, ground := Ground.phase }, { on := 2, ground := Ground.phase }, { on := 3, ground := Ground.phase }, { on := 4, ground := Ground.textOnly Departure.lateStores }, { on := 5, ground := Ground.textOnly Departure.lateStores }, { on := 6, ground := Ground.textOnly Departure.lateStores }, { on := 7, ground := Ground.textOnly Departure.lateStores }], guard := none }) (v := ?_) rfl (by kernel_rfl) (by kernel_rfl) (by kernel_rfl) (by kernel_rfl) (fun _ _ _ h => h) (Or.inl ⟨by rfl, ?_⟩) (by exact S) ?_
  rotate_left 1
  · intro w hSw
    clear hSw
    go_simp
    try with_reducible rfl
  simp only [Act.put, List.setIfInBounds_toArray, List.set_cons_zero, List.set_cons_succ]
  refine Upto.ready (rs := [9]) (by kernel_rfl) (by simp) ?_
  refine Nexts.last rfl (fun K hK => ?_)
  go_simp
  refine hK.out _ _ ?_
  clear hK K
  refine Upto.done (by kernel_rfl) ?_ _
  go_wp2_with (first
    | (refine S.load1 rfl 3 _ rfl _ 0 rfl 1 (Cel.host h) rfl _ hop0 _ Tryz.underlying3 rfl ?_)
    | (refine S.load1 rfl 3 _ rfl _ 2 rfl 1 (Cel.host h) rfl _ rfl _ Tryz.underlying3 rfl ?_)
    | (refine S.load1 rfl 3 _ rfl _ 3 rfl 1 (Cel.host h) rfl _ rfl _ Tryz.underlying3 rfl ?_)
    | (refine S.load1 rfl 3 _ rfl _ 4 rfl 1 (Cel.host h) rfl _ rfl _ Tryz.underlying3 rfl ?_)
    | (refine S.load1 rfl 26 _ rfl _ 5 rfl 1 (Cel.host h) rfl _ rfl _ Tryz.underlying26 rfl ?_)
    | (refine S.load1 rfl 26 _ rfl _ _ rfl 0 (Cel.regs R) rfl _ (rc_at HA.out) _ Tryz.underlying26 rfl ?_)
    | (refine S.load1 rfl 26 _ rfl _ _ rfl 0 (Cel.regs R) rfl _ (rc_at HB.out) _ Tryz.underlying26 rfl ?_)
    | (refine S.load1 rfl 26 _ rfl _ _ rfl 0 (Cel.regs R) rfl _ (rc_at HC.out) _ Tryz.underlying26 rfl ?_))
  go_ret
  exact ⟨by simp [reckS, IntKind.wrap_u32], S.low⟩
set_option maxHeartbeats 2000000 in
set_option maxRecDepth 100000 in
theorem rrk4_c (h : HV) (R : List Int) (ho : HOk h) (hR : okR R) (hop : h.op = 4) (w : World) : Calls Tryz.prog 32 #[(Cel.host h).val, (Cel.regs R).val] w fun e w' => e = .returned (.int .u32 (reckS 4 (regv R h.a) (regv R h.b) (regv R h.c) h.im)) ∧ Below w.heap.size w w' := by
  have S := SH.start w
  obtain ⟨⟨d0, d1⟩, ⟨a0, a1⟩, ⟨b0, b1⟩, ⟨c0, c1⟩, i0, i1⟩ := ho
  obtain ⟨hA, ua, va⟩ := regv_at hR a0 a1
  obtain ⟨hB, ub, vb⟩ := regv_at hR b0 b1
  obtain ⟨hC, uc, vc⟩ := regv_at hR c0 c1
  have hl := hR.1
  clear hR
  have HA : Hid (R[h.a.toNat]? = some (regv R h.a)) := hA
  have HB : Hid (R[h.b.toNat]? = some (regv R h.b)) := hB
  have HC : Hid (R[h.c.toNat]? = some (regv R h.c)) := hC
  clear hA hB hC
  generalize regv R h.a = x at *
  generalize regv R h.b = y at *
  generalize regv R h.c = z at *
  have e31 : bits .and .u32 y 31 = y % 32 := and_low5 y ub vb
  have ew : IntKind.i64.wrap (y % 32) = y % 32 := by rw [IntKind.wrap_i64]; omega
  have n0 : 0 ≤ y % 32 := by omega
  have n1 : y % 32 < 32 := by omega
  have hop0 : (Cel.host h).cells[0]? = some (.int .i64 4) := by simp [Cel.cells, hop]
  go_enter Tryz.func32, Tryz.ntmps32
  go_wp2_with (first
    | (refine S.box rfl _ _ rfl (Cel.host h) rfl ?_; clear S; intro q1 w1 S)
    | (refine S.box rfl _ _ rfl (Cel.regs R) rfl ?_; clear S; intro q2 w2 S))
  refine Upto.start (S := fun w' => SH noZ w w' [(q2, Cel.regs R), (q1, Cel.host h)]) 9 (by kernel_rfl) ?_
  replace S := S.drew
  refine Upto.take (i := 0) (oi := { dst := some 16, op := Op.fieldAddr 31 (Operand.tmp 2) 2, type := 0, pos := "sourdineref5.go:147", after := #[], guard := none }) (v := ?_) rfl (by kernel_rfl) (by kernel_rfl) (by kernel_rfl) (by kernel_rfl) (fun _ _ _ h => h) (Or.inl ⟨by rfl, ?_⟩) (by exact S) ?_
  rotate_left 1
  · intro w hSw
    clear hSw
    go_simp
    try with_reducible rfl
  simp only [Act.put, List.setIfInBounds_toArray, List.set_cons_zero, List.set_cons_succ]
  refine Upto.take (i := 1) (oi := { dst := some 17, op := Op.load 3 (Operand.tmp 16), type := 3, pos := "sourdineref5.go:147", after := #[{ on := 0, ground := Ground.data }], guard := none }) (v := _) rfl (by kernel_rfl) (by kernel_rfl) (by kernel_rfl) (by kernel_rfl) (fun _ _ _ h => h) (y_load1 (by rfl) _ _ rfl _ _ rfl 1 _ rfl _ rfl _ Tryz.underlying3 rfl) (by exact S) ?_
  simp only [Act.put, List.setIfInBounds_toArray, List.set_cons_zero, List.set_cons_succ]
  refine Upto.take (i := 2) (oi := { dst := some 18, op := Op.indexAddr 27 (Operand.tmp 3) (Operand.tmp 17), type := 0, pos := "sourdineref5.go:147", after := #[{ on := 1, ground := Ground.data }], guard := none }) (v := ?_) rfl (by kernel_rfl) (by kernel_rfl) (by kernel_rfl) (by kernel_rfl) (fun _ _ _ h => h) (Or.inl ⟨by rfl, ?_⟩) (by exact S) ?_
  rotate_left 1
  · intro w hSw
    clear hSw
    go_simp
    try with_reducible rfl
  simp only [Act.put, List.setIfInBounds_toArray, List.set_cons_zero, List.set_cons_succ]
  refine Upto.take (i := 3) (oi := { dst := some 19, op := Op.load 26 (Operand.tmp 18), type := 26, pos := "sourdineref5.go:147", after := #[{ on := 2, ground := Ground.data }], guard := none }) (v := _) rfl (by kernel_rfl) (by kernel_rfl) (by kernel_rfl) (by kernel_rfl) (fun _ _ _ h => h) (y_load1 (by rfl) _ _ rfl _ _ rfl 0 _ rfl _ (rc_at HA.out) _ Tryz.underlying26 rfl) (by exact S) ?_
  simp only [Act.put, List.setIfInBounds_toArray, List.set_cons_zero, List.set_cons_succ]
  refine Upto.take (i := 4) (oi := { dst := some 20, op := Op.fieldAddr 31 (Operand.tmp 2) 3, type := 0, pos := "sourdineref5.go:147", after := #[{ on := 8, ground := Ground.gcOnly Departure.lateStores }], guard := none }) (v := ?_) rfl (by kernel_rfl) (by kernel_rfl) (by kernel_rfl) (by kernel_rfl) (fun _ _ _ h => h) (Or.inl ⟨by rfl, ?_⟩) (by exact S) ?_
  rotate_left 1
  · intro w hSw
    clear hSw
    go_simp
    try with_reducible rfl
  simp only [Act.put, List.setIfInBounds_toArray, List.set_cons_zero, List.set_cons_succ]
  refine Upto.take (i := 5) (oi := { dst := some 21, op := Op.load 3 (Operand.tmp 20), type := 3, pos := "sourdineref5.go:147", after := #[{ on := 4, ground := Ground.data }, { on := 8, ground := Ground.gcOnly Departure.lateStores }], guard := none }) (v := _) rfl (by kernel_rfl) (by kernel_rfl) (by kernel_rfl) (by kernel_rfl) (fun _ _ _ h => h) (y_load1 (by rfl) _ _ rfl _ _ rfl 1 _ rfl _ rfl _ Tryz.underlying3 rfl) (by exact S) ?_
  simp only [Act.put, List.setIfInBounds_toArray, List.set_cons_zero, List.set_cons_succ]
  refine Upto.take (i := 6) (oi := { dst := some 22, op := Op.indexAddr 27 (Operand.tmp 3) (Operand.tmp 21), type := 0, pos := "sourdineref5.go:147", after := #[{ on := 5, ground := Ground.data }, { on := 8, ground := Ground.gcOnly Departure.lateStores }], guard := none }) (v := ?_) rfl (by kernel_rfl) (by kernel_rfl) (by kernel_rfl) (by kernel_rfl) (fun _ _ _ h => h) (Or.inl ⟨by rfl, ?_⟩) (by exact S) ?_
  rotate_left 1
  · intro w hSw
    clear hSw
    go_simp
    try with_reducible rfl
  simp only [Act.put, List.setIfInBounds_toArray, List.set_cons_zero, List.set_cons_succ]
  refine Upto.take (i := 7) (oi := { dst := some 23, op := Op.load 26 (Operand.tmp 22), type := 26, pos := "sourdineref5.go:147", after := #[{ on := 6, ground := Ground.data }, { on := 8, ground := Ground.gcOnly Departure.lateStores }], guard := none }) (v := _) rfl (by kernel_rfl) (by kernel_rfl) (by kernel_rfl) (by kernel_rfl) (fun _ _ _ h => h) (y_load1 (by rfl) _ _ rfl _ _ rfl 0 _ rfl _ (rc_at HB.out) _ Tryz.underlying26 rfl) (by exact S) ?_
  simp only [Act.put, List.setIfInBounds_toArray, List.set_cons_zero, List.set_cons_succ]
  refine Upto.take (i := 8) (oi := { dst := some 5, op := Op.assign (Operand.tmp 19), type := 26, pos := "sourdineref5.go:147", after := #[{ on := 3, ground := Ground.data }, { on := 0, ground := Ground.phase }, { on := 1, ground := Ground.phase }, { on := 2, ground := Ground.phase }, { on := 3, ground := Ground.phase }, { on := 4, ground := Ground.textOnly Departure.lateStores }, { on := 5, ground := Ground.textOnly Departure.lateStores }, { on := 6, ground := Ground.textOnly Departure.lateStores }, { on := 7, ground := Ground.textOnly Departure.lateStores }], guard := none }) (v := ?_) rfl (by kernel_rfl) (by kernel_rfl) (by kernel_rfl) (by kernel_rfl) (fun _ _ _ h => h) (Or.inl ⟨by rfl, ?_⟩) (by exact S) ?_
  rotate_left 1
  · intro w hSw
    clear hSw
    go_simp
    try with_reducible rfl
  simp only [Act.put, List.setIfInBounds_toArray, List.set_cons_zero, List.set_cons_succ]
  refine Upto.ready (rs := [9]) (by kernel_rfl) (by simp) ?_
  refine Nexts.last rfl (fun K hK => ?_)
  go_simp
  refine hK.out _ _ ?_
  clear hK K
  refine Upto.done (by kernel_rfl) ?_ _
  go_wp2_with (first
    | (refine S.load1 rfl 3 _ rfl _ 0 rfl 1 (Cel.host h) rfl _ hop0 _ Tryz.underlying3 rfl ?_)
    | (refine S.load1 rfl 3 _ rfl _ 2 rfl 1 (Cel.host h) rfl _ rfl _ Tryz.underlying3 rfl ?_)
    | (refine S.load1 rfl 3 _ rfl _ 3 rfl 1 (Cel.host h) rfl _ rfl _ Tryz.underlying3 rfl ?_)
    | (refine S.load1 rfl 3 _ rfl _ 4 rfl 1 (Cel.host h) rfl _ rfl _ Tryz.underlying3 rfl ?_)
    | (refine S.load1 rfl 26 _ rfl _ 5 rfl 1 (Cel.host h) rfl _ rfl _ Tryz.underlying26 rfl ?_)
    | (refine S.load1 rfl 26 _ rfl _ _ rfl 0 (Cel.regs R) rfl _ (rc_at HA.out) _ Tryz.underlying26 rfl ?_)
    | (refine S.load1 rfl 26 _ rfl _ _ rfl 0 (Cel.regs R) rfl _ (rc_at HB.out) _ Tryz.underlying26 rfl ?_)
    | (refine S.load1 rfl 26 _ rfl _ _ rfl 0 (Cel.regs R) rfl _ (rc_at HC.out) _ Tryz.underlying26 rfl ?_))
  go_ret
  exact ⟨by simp [reckS, IntKind.wrap_u32], S.low⟩
set_option maxHeartbeats 2000000 in
set_option maxRecDepth 100000 in
theorem rrk5_c (h : HV) (R : List Int) (ho : HOk h) (hR : okR R) (hop : h.op = 5) (w : World) : Calls Tryz.prog 32 #[(Cel.host h).val, (Cel.regs R).val] w fun e w' => e = .returned (.int .u32 (reckS 5 (regv R h.a) (regv R h.b) (regv R h.c) h.im)) ∧ Below w.heap.size w w' := by
  have S := SH.start w
  obtain ⟨⟨d0, d1⟩, ⟨a0, a1⟩, ⟨b0, b1⟩, ⟨c0, c1⟩, i0, i1⟩ := ho
  obtain ⟨hA, ua, va⟩ := regv_at hR a0 a1
  obtain ⟨hB, ub, vb⟩ := regv_at hR b0 b1
  obtain ⟨hC, uc, vc⟩ := regv_at hR c0 c1
  have hl := hR.1
  clear hR
  have HA : Hid (R[h.a.toNat]? = some (regv R h.a)) := hA
  have HB : Hid (R[h.b.toNat]? = some (regv R h.b)) := hB
  have HC : Hid (R[h.c.toNat]? = some (regv R h.c)) := hC
  clear hA hB hC
  generalize regv R h.a = x at *
  generalize regv R h.b = y at *
  generalize regv R h.c = z at *
  have e31 : bits .and .u32 y 31 = y % 32 := and_low5 y ub vb
  have ew : IntKind.i64.wrap (y % 32) = y % 32 := by rw [IntKind.wrap_i64]; omega
  have n0 : 0 ≤ y % 32 := by omega
  have n1 : y % 32 < 32 := by omega
  have hop0 : (Cel.host h).cells[0]? = some (.int .i64 5) := by simp [Cel.cells, hop]
  go_enter Tryz.func32, Tryz.ntmps32
  go_wp2_with (first
    | (refine S.box rfl _ _ rfl (Cel.host h) rfl ?_; clear S; intro q1 w1 S)
    | (refine S.box rfl _ _ rfl (Cel.regs R) rfl ?_; clear S; intro q2 w2 S))
  refine Upto.start (S := fun w' => SH noZ w w' [(q2, Cel.regs R), (q1, Cel.host h)]) 9 (by kernel_rfl) ?_
  replace S := S.drew
  refine Upto.take (i := 0) (oi := { dst := some 16, op := Op.fieldAddr 31 (Operand.tmp 2) 2, type := 0, pos := "sourdineref5.go:147", after := #[], guard := none }) (v := ?_) rfl (by kernel_rfl) (by kernel_rfl) (by kernel_rfl) (by kernel_rfl) (fun _ _ _ h => h) (Or.inl ⟨by rfl, ?_⟩) (by exact S) ?_
  rotate_left 1
  · intro w hSw
    clear hSw
    go_simp
    try with_reducible rfl
  simp only [Act.put, List.setIfInBounds_toArray, List.set_cons_zero, List.set_cons_succ]
  refine Upto.take (i := 1) (oi := { dst := some 17, op := Op.load 3 (Operand.tmp 16), type := 3, pos := "sourdineref5.go:147", after := #[{ on := 0, ground := Ground.data }], guard := none }) (v := _) rfl (by kernel_rfl) (by kernel_rfl) (by kernel_rfl) (by kernel_rfl) (fun _ _ _ h => h) (y_load1 (by rfl) _ _ rfl _ _ rfl 1 _ rfl _ rfl _ Tryz.underlying3 rfl) (by exact S) ?_
  simp only [Act.put, List.setIfInBounds_toArray, List.set_cons_zero, List.set_cons_succ]
  refine Upto.take (i := 2) (oi := { dst := some 18, op := Op.indexAddr 27 (Operand.tmp 3) (Operand.tmp 17), type := 0, pos := "sourdineref5.go:147", after := #[{ on := 1, ground := Ground.data }], guard := none }) (v := ?_) rfl (by kernel_rfl) (by kernel_rfl) (by kernel_rfl) (by kernel_rfl) (fun _ _ _ h => h) (Or.inl ⟨by rfl, ?_⟩) (by exact S) ?_
  rotate_left 1
  · intro w hSw
    clear hSw
    go_simp
    try with_reducible rfl
  simp only [Act.put, List.setIfInBounds_toArray, List.set_cons_zero, List.set_cons_succ]
  refine Upto.take (i := 3) (oi := { dst := some 19, op := Op.load 26 (Operand.tmp 18), type := 26, pos := "sourdineref5.go:147", after := #[{ on := 2, ground := Ground.data }], guard := none }) (v := _) rfl (by kernel_rfl) (by kernel_rfl) (by kernel_rfl) (by kernel_rfl) (fun _ _ _ h => h) (y_load1 (by rfl) _ _ rfl _ _ rfl 0 _ rfl _ (rc_at HA.out) _ Tryz.underlying26 rfl) (by exact S) ?_
  simp only [Act.put, List.setIfInBounds_toArray, List.set_cons_zero, List.set_cons_succ]
  refine Upto.take (i := 4) (oi := { dst := some 20, op := Op.fieldAddr 31 (Operand.tmp 2) 3, type := 0, pos := "sourdineref5.go:147", after := #[{ on := 8, ground := Ground.gcOnly Departure.lateStores }], guard := none }) (v := ?_) rfl (by kernel_rfl) (by kernel_rfl) (by kernel_rfl) (by kernel_rfl) (fun _ _ _ h => h) (Or.inl ⟨by rfl, ?_⟩) (by exact S) ?_
  rotate_left 1
  · intro w hSw
    clear hSw
    go_simp
    try with_reducible rfl
  simp only [Act.put, List.setIfInBounds_toArray, List.set_cons_zero, List.set_cons_succ]
  refine Upto.take (i := 5) (oi := { dst := some 21, op := Op.load 3 (Operand.tmp 20), type := 3, pos := "sourdineref5.go:147", after := #[{ on := 4, ground := Ground.data }, { on := 8, ground := Ground.gcOnly Departure.lateStores }], guard := none }) (v := _) rfl (by kernel_rfl) (by kernel_rfl) (by kernel_rfl) (by kernel_rfl) (fun _ _ _ h => h) (y_load1 (by rfl) _ _ rfl _ _ rfl 1 _ rfl _ rfl _ Tryz.underlying3 rfl) (by exact S) ?_
  simp only [Act.put, List.setIfInBounds_toArray, List.set_cons_zero, List.set_cons_succ]
  refine Upto.take (i := 6) (oi := { dst := some 22, op := Op.indexAddr 27 (Operand.tmp 3) (Operand.tmp 21), type := 0, pos := "sourdineref5.go:147", after := #[{ on := 5, ground := Ground.data }, { on := 8, ground := Ground.gcOnly Departure.lateStores }], guard := none }) (v := ?_) rfl (by kernel_rfl) (by kernel_rfl) (by kernel_rfl) (by kernel_rfl) (fun _ _ _ h => h) (Or.inl ⟨by rfl, ?_⟩) (by exact S) ?_
  rotate_left 1
  · intro w hSw
    clear hSw
    go_simp
    try with_reducible rfl
  simp only [Act.put, List.setIfInBounds_toArray, List.set_cons_zero, List.set_cons_succ]
  refine Upto.take (i := 7) (oi := { dst := some 23, op := Op.load 26 (Operand.tmp 22), type := 26, pos := "sourdineref5.go:147", after := #[{ on := 6, ground := Ground.data }, { on := 8, ground := Ground.gcOnly Departure.lateStores }], guard := none }) (v := _) rfl (by kernel_rfl) (by kernel_rfl) (by kernel_rfl) (by kernel_rfl) (fun _ _ _ h => h) (y_load1 (by rfl) _ _ rfl _ _ rfl 0 _ rfl _ (rc_at HB.out) _ Tryz.underlying26 rfl) (by exact S) ?_
  simp only [Act.put, List.setIfInBounds_toArray, List.set_cons_zero, List.set_cons_succ]
  refine Upto.take (i := 8) (oi := { dst := some 5, op := Op.assign (Operand.tmp 19), type := 26, pos := "sourdineref5.go:147", after := #[{ on := 3, ground := Ground.data }, { on := 0, ground := Ground.phase }, { on := 1, ground := Ground.phase }, { on := 2, ground := Ground.phase }, { on := 3, ground := Ground.phase }, { on := 4, ground := Ground.textOnly Departure.lateStores }, { on := 5, ground := Ground.textOnly Departure.lateStores }, { on := 6, ground := Ground.textOnly Departure.lateStores }, { on := 7, ground := Ground.textOnly Departure.lateStores }], guard := none }) (v := ?_) rfl (by kernel_rfl) (by kernel_rfl) (by kernel_rfl) (by kernel_rfl) (fun _ _ _ h => h) (Or.inl ⟨by rfl, ?_⟩) (by exact S) ?_
  rotate_left 1
  · intro w hSw
    clear hSw
    go_simp
    try with_reducible rfl
  simp only [Act.put, List.setIfInBounds_toArray, List.set_cons_zero, List.set_cons_succ]
  refine Upto.ready (rs := [9]) (by kernel_rfl) (by simp) ?_
  refine Nexts.last rfl (fun K hK => ?_)
  go_simp
  refine hK.out _ _ ?_
  clear hK K
  refine Upto.done (by kernel_rfl) ?_ _
  go_wp2_with (first
    | (refine S.load1 rfl 3 _ rfl _ 0 rfl 1 (Cel.host h) rfl _ hop0 _ Tryz.underlying3 rfl ?_)
    | (refine S.load1 rfl 3 _ rfl _ 2 rfl 1 (Cel.host h) rfl _ rfl _ Tryz.underlying3 rfl ?_)
    | (refine S.load1 rfl 3 _ rfl _ 3 rfl 1 (Cel.host h) rfl _ rfl _ Tryz.underlying3 rfl ?_)
    | (refine S.load1 rfl 3 _ rfl _ 4 rfl 1 (Cel.host h) rfl _ rfl _ Tryz.underlying3 rfl ?_)
    | (refine S.load1 rfl 26 _ rfl _ 5 rfl 1 (Cel.host h) rfl _ rfl _ Tryz.underlying26 rfl ?_)
    | (refine S.load1 rfl 26 _ rfl _ _ rfl 0 (Cel.regs R) rfl _ (rc_at HA.out) _ Tryz.underlying26 rfl ?_)
    | (refine S.load1 rfl 26 _ rfl _ _ rfl 0 (Cel.regs R) rfl _ (rc_at HB.out) _ Tryz.underlying26 rfl ?_)
    | (refine S.load1 rfl 26 _ rfl _ _ rfl 0 (Cel.regs R) rfl _ (rc_at HC.out) _ Tryz.underlying26 rfl ?_))
  go_ret
  exact ⟨by simp [reckS], S.low⟩
set_option maxHeartbeats 2000000 in
set_option maxRecDepth 100000 in
theorem rrk6_c (h : HV) (R : List Int) (ho : HOk h) (hR : okR R) (hop : h.op = 6) (w : World) : Calls Tryz.prog 32 #[(Cel.host h).val, (Cel.regs R).val] w fun e w' => e = .returned (.int .u32 (reckS 6 (regv R h.a) (regv R h.b) (regv R h.c) h.im)) ∧ Below w.heap.size w w' := by
  have S := SH.start w
  obtain ⟨⟨d0, d1⟩, ⟨a0, a1⟩, ⟨b0, b1⟩, ⟨c0, c1⟩, i0, i1⟩ := ho
  obtain ⟨hA, ua, va⟩ := regv_at hR a0 a1
  obtain ⟨hB, ub, vb⟩ := regv_at hR b0 b1
  obtain ⟨hC, uc, vc⟩ := regv_at hR c0 c1
  have hl := hR.1
  clear hR
  have HA : Hid (R[h.a.toNat]? = some (regv R h.a)) := hA
  have HB : Hid (R[h.b.toNat]? = some (regv R h.b)) := hB
  have HC : Hid (R[h.c.toNat]? = some (regv R h.c)) := hC
  clear hA hB hC
  generalize regv R h.a = x at *
  generalize regv R h.b = y at *
  generalize regv R h.c = z at *
  have e31 : bits .and .u32 y 31 = y % 32 := and_low5 y ub vb
  have ew : IntKind.i64.wrap (y % 32) = y % 32 := by rw [IntKind.wrap_i64]; omega
  have n0 : 0 ≤ y % 32 := by omega
  have n1 : y % 32 < 32 := by omega
  have hop0 : (Cel.host h).cells[0]? = some (.int .i64 6) := by simp [Cel.cells, hop]
  go_enter Tryz.func32, Tryz.ntmps32
  go_wp2_with (first
    | (refine S.box rfl _ _ rfl (Cel.host h) rfl ?_; clear S; intro q1 w1 S)
    | (refine S.box rfl _ _ rfl (Cel.regs R) rfl ?_; clear S; intro q2 w2 S))
  refine Upto.start (S := fun w' => SH noZ w w' [(q2, Cel.regs R), (q1, Cel.host h)]) 9 (by kernel_rfl) ?_
  replace S := S.drew
  refine Upto.take (i := 0) (oi := { dst := some 16, op := Op.fieldAddr 31 (Operand.tmp 2) 2, type := 0, pos := "sourdineref5.go:147", after := #[], guard := none }) (v := ?_) rfl (by kernel_rfl) (by kernel_rfl) (by kernel_rfl) (by kernel_rfl) (fun _ _ _ h => h) (Or.inl ⟨by rfl, ?_⟩) (by exact S) ?_
  rotate_left 1
  · intro w hSw
    clear hSw
    go_simp
    try with_reducible rfl
  simp only [Act.put, List.setIfInBounds_toArray, List.set_cons_zero, List.set_cons_succ]
  refine Upto.take (i := 1) (oi := { dst := some 17, op := Op.load 3 (Operand.tmp 16), type := 3, pos := "sourdineref5.go:147", after := #[{ on := 0, ground := Ground.data }], guard := none }) (v := _) rfl (by kernel_rfl) (by kernel_rfl) (by kernel_rfl) (by kernel_rfl) (fun _ _ _ h => h) (y_load1 (by rfl) _ _ rfl _ _ rfl 1 _ rfl _ rfl _ Tryz.underlying3 rfl) (by exact S) ?_
  simp only [Act.put, List.setIfInBounds_toArray, List.set_cons_zero, List.set_cons_succ]
  refine Upto.take (i := 2) (oi := { dst := some 18, op := Op.indexAddr 27 (Operand.tmp 3) (Operand.tmp 17), type := 0, pos := "sourdineref5.go:147", after := #[{ on := 1, ground := Ground.data }], guard := none }) (v := ?_) rfl (by kernel_rfl) (by kernel_rfl) (by kernel_rfl) (by kernel_rfl) (fun _ _ _ h => h) (Or.inl ⟨by rfl, ?_⟩) (by exact S) ?_
  rotate_left 1
  · intro w hSw
    clear hSw
    go_simp
    try with_reducible rfl
  simp only [Act.put, List.setIfInBounds_toArray, List.set_cons_zero, List.set_cons_succ]
  refine Upto.take (i := 3) (oi := { dst := some 19, op := Op.load 26 (Operand.tmp 18), type := 26, pos := "sourdineref5.go:147", after := #[{ on := 2, ground := Ground.data }], guard := none }) (v := _) rfl (by kernel_rfl) (by kernel_rfl) (by kernel_rfl) (by kernel_rfl) (fun _ _ _ h => h) (y_load1 (by rfl) _ _ rfl _ _ rfl 0 _ rfl _ (rc_at HA.out) _ Tryz.underlying26 rfl) (by exact S) ?_
  simp only [Act.put, List.setIfInBounds_toArray, List.set_cons_zero, List.set_cons_succ]
  refine Upto.take (i := 4) (oi := { dst := some 20, op := Op.fieldAddr 31 (Operand.tmp 2) 3, type := 0, pos := "sourdineref5.go:147", after := #[{ on := 8, ground := Ground.gcOnly Departure.lateStores }], guard := none }) (v := ?_) rfl (by kernel_rfl) (by kernel_rfl) (by kernel_rfl) (by kernel_rfl) (fun _ _ _ h => h) (Or.inl ⟨by rfl, ?_⟩) (by exact S) ?_
  rotate_left 1
  · intro w hSw
    clear hSw
    go_simp
    try with_reducible rfl
  simp only [Act.put, List.setIfInBounds_toArray, List.set_cons_zero, List.set_cons_succ]
  refine Upto.take (i := 5) (oi := { dst := some 21, op := Op.load 3 (Operand.tmp 20), type := 3, pos := "sourdineref5.go:147", after := #[{ on := 4, ground := Ground.data }, { on := 8, ground := Ground.gcOnly Departure.lateStores }], guard := none }) (v := _) rfl (by kernel_rfl) (by kernel_rfl) (by kernel_rfl) (by kernel_rfl) (fun _ _ _ h => h) (y_load1 (by rfl) _ _ rfl _ _ rfl 1 _ rfl _ rfl _ Tryz.underlying3 rfl) (by exact S) ?_
  simp only [Act.put, List.setIfInBounds_toArray, List.set_cons_zero, List.set_cons_succ]
  refine Upto.take (i := 6) (oi := { dst := some 22, op := Op.indexAddr 27 (Operand.tmp 3) (Operand.tmp 21), type := 0, pos := "sourdineref5.go:147", after := #[{ on := 5, ground := Ground.data }, { on := 8, ground := Ground.gcOnly Departure.lateStores }], guard := none }) (v := ?_) rfl (by kernel_rfl) (by kernel_rfl) (by kernel_rfl) (by kernel_rfl) (fun _ _ _ h => h) (Or.inl ⟨by rfl, ?_⟩) (by exact S) ?_
  rotate_left 1
  · intro w hSw
    clear hSw
    go_simp
    try with_reducible rfl
  simp only [Act.put, List.setIfInBounds_toArray, List.set_cons_zero, List.set_cons_succ]
  refine Upto.take (i := 7) (oi := { dst := some 23, op := Op.load 26 (Operand.tmp 22), type := 26, pos := "sourdineref5.go:147", after := #[{ on := 6, ground := Ground.data }, { on := 8, ground := Ground.gcOnly Departure.lateStores }], guard := none }) (v := _) rfl (by kernel_rfl) (by kernel_rfl) (by kernel_rfl) (by kernel_rfl) (fun _ _ _ h => h) (y_load1 (by rfl) _ _ rfl _ _ rfl 0 _ rfl _ (rc_at HB.out) _ Tryz.underlying26 rfl) (by exact S) ?_
  simp only [Act.put, List.setIfInBounds_toArray, List.set_cons_zero, List.set_cons_succ]
  refine Upto.take (i := 8) (oi := { dst := some 5, op := Op.assign (Operand.tmp 19), type := 26, pos := "sourdineref5.go:147", after := #[{ on := 3, ground := Ground.data }, { on := 0, ground := Ground.phase }, { on := 1, ground := Ground.phase }, { on := 2, ground := Ground.phase }, { on := 3, ground := Ground.phase }, { on := 4, ground := Ground.textOnly Departure.lateStores }, { on := 5, ground := Ground.textOnly Departure.lateStores }, { on := 6, ground := Ground.textOnly Departure.lateStores }, { on := 7, ground := Ground.textOnly Departure.lateStores }], guard := none }) (v := ?_) rfl (by kernel_rfl) (by kernel_rfl) (by kernel_rfl) (by kernel_rfl) (fun _ _ _ h => h) (Or.inl ⟨by rfl, ?_⟩) (by exact S) ?_
  rotate_left 1
  · intro w hSw
    clear hSw
    go_simp
    try with_reducible rfl
  simp only [Act.put, List.setIfInBounds_toArray, List.set_cons_zero, List.set_cons_succ]
  refine Upto.ready (rs := [9]) (by kernel_rfl) (by simp) ?_
  refine Nexts.last rfl (fun K hK => ?_)
  go_simp
  refine hK.out _ _ ?_
  clear hK K
  refine Upto.done (by kernel_rfl) ?_ _
  go_wp2_with (first
    | (refine S.load1 rfl 3 _ rfl _ 0 rfl 1 (Cel.host h) rfl _ hop0 _ Tryz.underlying3 rfl ?_)
    | (refine S.load1 rfl 3 _ rfl _ 2 rfl 1 (Cel.host h) rfl _ rfl _ Tryz.underlying3 rfl ?_)
    | (refine S.load1 rfl 3 _ rfl _ 3 rfl 1 (Cel.host h) rfl _ rfl _ Tryz.underlying3 rfl ?_)
    | (refine S.load1 rfl 3 _ rfl _ 4 rfl 1 (Cel.host h) rfl _ rfl _ Tryz.underlying3 rfl ?_)
    | (refine S.load1 rfl 26 _ rfl _ 5 rfl 1 (Cel.host h) rfl _ rfl _ Tryz.underlying26 rfl ?_)
    | (refine S.load1 rfl 26 _ rfl _ _ rfl 0 (Cel.regs R) rfl _ (rc_at HA.out) _ Tryz.underlying26 rfl ?_)
    | (refine S.load1 rfl 26 _ rfl _ _ rfl 0 (Cel.regs R) rfl _ (rc_at HB.out) _ Tryz.underlying26 rfl ?_)
    | (refine S.load1 rfl 26 _ rfl _ _ rfl 0 (Cel.regs R) rfl _ (rc_at HC.out) _ Tryz.underlying26 rfl ?_))
  go_ret
  exact ⟨by simp [reckS], S.low⟩
set_option maxHeartbeats 2000000 in
set_option maxRecDepth 100000 in
theorem rrk7_c (h : HV) (R : List Int) (ho : HOk h) (hR : okR R) (hop : h.op = 7) (w : World) : Calls Tryz.prog 32 #[(Cel.host h).val, (Cel.regs R).val] w fun e w' => e = .returned (.int .u32 (reckS 7 (regv R h.a) (regv R h.b) (regv R h.c) h.im)) ∧ Below w.heap.size w w' := by
  have S := SH.start w
  obtain ⟨⟨d0, d1⟩, ⟨a0, a1⟩, ⟨b0, b1⟩, ⟨c0, c1⟩, i0, i1⟩ := ho
  obtain ⟨hA, ua, va⟩ := regv_at hR a0 a1
  obtain ⟨hB, ub, vb⟩ := regv_at hR b0 b1
  obtain ⟨hC, uc, vc⟩ := regv_at hR c0 c1
  have hl := hR.1
  clear hR
  have HA : Hid (R[h.a.toNat]? = some (regv R h.a)) := hA
  have HB : Hid (R[h.b.toNat]? = some (regv R h.b)) := hB
  have HC : Hid (R[h.c.toNat]? = some (regv R h.c)) := hC
  clear hA hB hC
  generalize regv R h.a = x at *
  generalize regv R h.b = y at *
  generalize regv R h.c = z at *
  have e31 : bits .and .u32 y 31 = y % 32 := and_low5 y ub vb
  have ew : IntKind.i64.wrap (y % 32) = y % 32 := by rw [IntKind.wrap_i64]; omega
  have n0 : 0 ≤ y % 32 := by omega
  have n1 : y % 32 < 32 := by omega
  have hop0 : (Cel.host h).cells[0]? = some (.int .i64 7) := by simp [Cel.cells, hop]
  go_enter Tryz.func32, Tryz.ntmps32
  go_wp2_with (first
    | (refine S.box rfl _ _ rfl (Cel.host h) rfl ?_; clear S; intro q1 w1 S)
    | (refine S.box rfl _ _ rfl (Cel.regs R) rfl ?_; clear S; intro q2 w2 S))
  refine Upto.start (S := fun w' => SH noZ w w' [(q2, Cel.regs R), (q1, Cel.host h)]) 9 (by kernel_rfl) ?_
  replace S := S.drew
  refine Upto.take (i := 0) (oi := { dst := some 16, op := Op.fieldAddr 31 (Operand.tmp 2) 2, type := 0, pos := "sourdineref5.go:147", after := #[], guard := none }) (v := ?_) rfl (by kernel_rfl) (by kernel_rfl) (by kernel_rfl) (by kernel_rfl) (fun _ _ _ h => h) (Or.inl ⟨by rfl, ?_⟩) (by exact S) ?_
  rotate_left 1
  · intro w hSw
    clear hSw
    go_simp
    try with_reducible rfl
  simp only [Act.put, List.setIfInBounds_toArray, List.set_cons_zero, List.set_cons_succ]
  refine Upto.take (i := 1) (oi := { dst := some 17, op := Op.load 3 (Operand.tmp 16), type := 3, pos := "sourdineref5.go:147", after := #[{ on := 0, ground := Ground.data }], guard := none }) (v := _) rfl (by kernel_rfl) (by kernel_rfl) (by kernel_rfl) (by kernel_rfl) (fun _ _ _ h => h) (y_load1 (by rfl) _ _ rfl _ _ rfl 1 _ rfl _ rfl _ Tryz.underlying3 rfl) (by exact S) ?_
  simp only [Act.put, List.setIfInBounds_toArray, List.set_cons_zero, List.set_cons_succ]
  refine Upto.take (i := 2) (oi := { dst := some 18, op := Op.indexAddr 27 (Operand.tmp 3) (Operand.tmp 17), type := 0, pos := "sourdineref5.go:147", after := #[{ on := 1, ground := Ground.data }], guard := none }) (v := ?_) rfl (by kernel_rfl) (by kernel_rfl) (by kernel_rfl) (by kernel_rfl) (fun _ _ _ h => h) (Or.inl ⟨by rfl, ?_⟩) (by exact S) ?_
  rotate_left 1
  · intro w hSw
    clear hSw
    go_simp
    try with_reducible rfl
  simp only [Act.put, List.setIfInBounds_toArray, List.set_cons_zero, List.set_cons_succ]
  refine Upto.take (i := 3) (oi := { dst := some 19, op := Op.load 26 (Operand.tmp 18), type := 26, pos := "sourdineref5.go:147", after := #[{ on := 2, ground := Ground.data }], guard := none }) (v := _) rfl (by kernel_rfl) (by kernel_rfl) (by kernel_rfl) (by kernel_rfl) (fun _ _ _ h => h) (y_load1 (by rfl) _ _ rfl _ _ rfl 0 _ rfl _ (rc_at HA.out) _ Tryz.underlying26 rfl) (by exact S) ?_
  simp only [Act.put, List.setIfInBounds_toArray, List.set_cons_zero, List.set_cons_succ]
  refine Upto.take (i := 4) (oi := { dst := some 20, op := Op.fieldAddr 31 (Operand.tmp 2) 3, type := 0, pos := "sourdineref5.go:147", after := #[{ on := 8, ground := Ground.gcOnly Departure.lateStores }], guard := none }) (v := ?_) rfl (by kernel_rfl) (by kernel_rfl) (by kernel_rfl) (by kernel_rfl) (fun _ _ _ h => h) (Or.inl ⟨by rfl, ?_⟩) (by exact S) ?_
  rotate_left 1
  · intro w hSw
    clear hSw
    go_simp
    try with_reducible rfl
  simp only [Act.put, List.setIfInBounds_toArray, List.set_cons_zero, List.set_cons_succ]
  refine Upto.take (i := 5) (oi := { dst := some 21, op := Op.load 3 (Operand.tmp 20), type := 3, pos := "sourdineref5.go:147", after := #[{ on := 4, ground := Ground.data }, { on := 8, ground := Ground.gcOnly Departure.lateStores }], guard := none }) (v := _) rfl (by kernel_rfl) (by kernel_rfl) (by kernel_rfl) (by kernel_rfl) (fun _ _ _ h => h) (y_load1 (by rfl) _ _ rfl _ _ rfl 1 _ rfl _ rfl _ Tryz.underlying3 rfl) (by exact S) ?_
  simp only [Act.put, List.setIfInBounds_toArray, List.set_cons_zero, List.set_cons_succ]
  refine Upto.take (i := 6) (oi := { dst := some 22, op := Op.indexAddr 27 (Operand.tmp 3) (Operand.tmp 21), type := 0, pos := "sourdineref5.go:147", after := #[{ on := 5, ground := Ground.data }, { on := 8, ground := Ground.gcOnly Departure.lateStores }], guard := none }) (v := ?_) rfl (by kernel_rfl) (by kernel_rfl) (by kernel_rfl) (by kernel_rfl) (fun _ _ _ h => h) (Or.inl ⟨by rfl, ?_⟩) (by exact S) ?_
  rotate_left 1
  · intro w hSw
    clear hSw
    go_simp
    try with_reducible rfl
  simp only [Act.put, List.setIfInBounds_toArray, List.set_cons_zero, List.set_cons_succ]
  refine Upto.take (i := 7) (oi := { dst := some 23, op := Op.load 26 (Operand.tmp 22), type := 26, pos := "sourdineref5.go:147", after := #[{ on := 6, ground := Ground.data }, { on := 8, ground := Ground.gcOnly Departure.lateStores }], guard := none }) (v := _) rfl (by kernel_rfl) (by kernel_rfl) (by kernel_rfl) (by kernel_rfl) (fun _ _ _ h => h) (y_load1 (by rfl) _ _ rfl _ _ rfl 0 _ rfl _ (rc_at HB.out) _ Tryz.underlying26 rfl) (by exact S) ?_
  simp only [Act.put, List.setIfInBounds_toArray, List.set_cons_zero, List.set_cons_succ]
  refine Upto.take (i := 8) (oi := { dst := some 5, op := Op.assign (Operand.tmp 19), type := 26, pos := "sourdineref5.go:147", after := #[{ on := 3, ground := Ground.data }, { on := 0, ground := Ground.phase }, { on := 1, ground := Ground.phase }, { on := 2, ground := Ground.phase }, { on := 3, ground := Ground.phase }, { on := 4, ground := Ground.textOnly Departure.lateStores }, { on := 5, ground := Ground.textOnly Departure.lateStores }, { on := 6, ground := Ground.textOnly Departure.lateStores }, { on := 7, ground := Ground.textOnly Departure.lateStores }], guard := none }) (v := ?_) rfl (by kernel_rfl) (by kernel_rfl) (by kernel_rfl) (by kernel_rfl) (fun _ _ _ h => h) (Or.inl ⟨by rfl, ?_⟩) (by exact S) ?_
  rotate_left 1
  · intro w hSw
    clear hSw
    go_simp
    try with_reducible rfl
  simp only [Act.put, List.setIfInBounds_toArray, List.set_cons_zero, List.set_cons_succ]
  refine Upto.ready (rs := [9]) (by kernel_rfl) (by simp) ?_
  refine Nexts.last rfl (fun K hK => ?_)
  go_simp
  refine hK.out _ _ ?_
  clear hK K
  refine Upto.done (by kernel_rfl) ?_ _
  go_wp2_with (first
    | (refine S.load1 rfl 3 _ rfl _ 0 rfl 1 (Cel.host h) rfl _ hop0 _ Tryz.underlying3 rfl ?_)
    | (refine S.load1 rfl 3 _ rfl _ 2 rfl 1 (Cel.host h) rfl _ rfl _ Tryz.underlying3 rfl ?_)
    | (refine S.load1 rfl 3 _ rfl _ 3 rfl 1 (Cel.host h) rfl _ rfl _ Tryz.underlying3 rfl ?_)
    | (refine S.load1 rfl 3 _ rfl _ 4 rfl 1 (Cel.host h) rfl _ rfl _ Tryz.underlying3 rfl ?_)
    | (refine S.load1 rfl 26 _ rfl _ 5 rfl 1 (Cel.host h) rfl _ rfl _ Tryz.underlying26 rfl ?_)
    | (refine S.load1 rfl 26 _ rfl _ _ rfl 0 (Cel.regs R) rfl _ (rc_at HA.out) _ Tryz.underlying26 rfl ?_)
    | (refine S.load1 rfl 26 _ rfl _ _ rfl 0 (Cel.regs R) rfl _ (rc_at HB.out) _ Tryz.underlying26 rfl ?_)
    | (refine S.load1 rfl 26 _ rfl _ _ rfl 0 (Cel.regs R) rfl _ (rc_at HC.out) _ Tryz.underlying26 rfl ?_))
  go_ret
  exact ⟨by simp [reckS], S.low⟩
set_option maxHeartbeats 2000000 in
set_option maxRecDepth 100000 in
theorem rrk8_c (h : HV) (R : List Int) (ho : HOk h) (hR : okR R) (hop : h.op = 8) (w : World) : Calls Tryz.prog 32 #[(Cel.host h).val, (Cel.regs R).val] w fun e w' => e = .returned (.int .u32 (reckS 8 (regv R h.a) (regv R h.b) (regv R h.c) h.im)) ∧ Below w.heap.size w w' := by
  have S := SH.start w
  obtain ⟨⟨d0, d1⟩, ⟨a0, a1⟩, ⟨b0, b1⟩, ⟨c0, c1⟩, i0, i1⟩ := ho
  obtain ⟨hA, ua, va⟩ := regv_at hR a0 a1
  obtain ⟨hB, ub, vb⟩ := regv_at hR b0 b1
  obtain ⟨hC, uc, vc⟩ := regv_at hR c0 c1
  have hl := hR.1
  clear hR
  have HA : Hid (R[h.a.toNat]? = some (regv R h.a)) := hA
  have HB : Hid (R[h.b.toNat]? = some (regv R h.b)) := hB
  have HC : Hid (R[h.c.toNat]? = some (regv R h.c)) := hC
  clear hA hB hC
  generalize regv R h.a = x at *
  generalize regv R h.b = y at *
  generalize regv R h.c = z at *
  have e31 : bits .and .u32 y 31 = y % 32 := and_low5 y ub vb
  have ew : IntKind.i64.wrap (y % 32) = y % 32 := by rw [IntKind.wrap_i64]; omega
  have n0 : 0 ≤ y % 32 := by omega
  have n1 : y % 32 < 32 := by omega
  have hop0 : (Cel.host h).cells[0]? = some (.int .i64 8) := by simp [Cel.cells, hop]
  go_enter Tryz.func32, Tryz.ntmps32
  go_wp2_with (first
    | (refine S.box rfl _ _ rfl (Cel.host h) rfl ?_; clear S; intro q1 w1 S)
    | (refine S.box rfl _ _ rfl (Cel.regs R) rfl ?_; clear S; intro q2 w2 S))
  refine Upto.start (S := fun w' => SH noZ w w' [(q2, Cel.regs R), (q1, Cel.host h)]) 9 (by kernel_rfl) ?_
  replace S := S.drew
  refine Upto.take (i := 0) (oi := { dst := some 16, op := Op.fieldAddr 31 (Operand.tmp 2) 2, type := 0, pos := "sourdineref5.go:147", after := #[], guard := none }) (v := ?_) rfl (by kernel_rfl) (by kernel_rfl) (by kernel_rfl) (by kernel_rfl) (fun _ _ _ h => h) (Or.inl ⟨by rfl, ?_⟩) (by exact S) ?_
  rotate_left 1
  · intro w hSw
    clear hSw
    go_simp
    try with_reducible rfl
  simp only [Act.put, List.setIfInBounds_toArray, List.set_cons_zero, List.set_cons_succ]
  refine Upto.take (i := 1) (oi := { dst := some 17, op := Op.load 3 (Operand.tmp 16), type := 3, pos := "sourdineref5.go:147", after := #[{ on := 0, ground := Ground.data }], guard := none }) (v := _) rfl (by kernel_rfl) (by kernel_rfl) (by kernel_rfl) (by kernel_rfl) (fun _ _ _ h => h) (y_load1 (by rfl) _ _ rfl _ _ rfl 1 _ rfl _ rfl _ Tryz.underlying3 rfl) (by exact S) ?_
  simp only [Act.put, List.setIfInBounds_toArray, List.set_cons_zero, List.set_cons_succ]
  refine Upto.take (i := 2) (oi := { dst := some 18, op := Op.indexAddr 27 (Operand.tmp 3) (Operand.tmp 17), type := 0, pos := "sourdineref5.go:147", after := #[{ on := 1, ground := Ground.data }], guard := none }) (v := ?_) rfl (by kernel_rfl) (by kernel_rfl) (by kernel_rfl) (by kernel_rfl) (fun _ _ _ h => h) (Or.inl ⟨by rfl, ?_⟩) (by exact S) ?_
  rotate_left 1
  · intro w hSw
    clear hSw
    go_simp
    try with_reducible rfl
  simp only [Act.put, List.setIfInBounds_toArray, List.set_cons_zero, List.set_cons_succ]
  refine Upto.take (i := 3) (oi := { dst := some 19, op := Op.load 26 (Operand.tmp 18), type := 26, pos := "sourdineref5.go:147", after := #[{ on := 2, ground := Ground.data }], guard := none }) (v := _) rfl (by kernel_rfl) (by kernel_rfl) (by kernel_rfl) (by kernel_rfl) (fun _ _ _ h => h) (y_load1 (by rfl) _ _ rfl _ _ rfl 0 _ rfl _ (rc_at HA.out) _ Tryz.underlying26 rfl) (by exact S) ?_
  simp only [Act.put, List.setIfInBounds_toArray, List.set_cons_zero, List.set_cons_succ]
  refine Upto.take (i := 4) (oi := { dst := some 20, op := Op.fieldAddr 31 (Operand.tmp 2) 3, type := 0, pos := "sourdineref5.go:147", after := #[{ on := 8, ground := Ground.gcOnly Departure.lateStores }], guard := none }) (v := ?_) rfl (by kernel_rfl) (by kernel_rfl) (by kernel_rfl) (by kernel_rfl) (fun _ _ _ h => h) (Or.inl ⟨by rfl, ?_⟩) (by exact S) ?_
  rotate_left 1
  · intro w hSw
    clear hSw
    go_simp
    try with_reducible rfl
  simp only [Act.put, List.setIfInBounds_toArray, List.set_cons_zero, List.set_cons_succ]
  refine Upto.take (i := 5) (oi := { dst := some 21, op := Op.load 3 (Operand.tmp 20), type := 3, pos := "sourdineref5.go:147", after := #[{ on := 4, ground := Ground.data }, { on := 8, ground := Ground.gcOnly Departure.lateStores }], guard := none }) (v := _) rfl (by kernel_rfl) (by kernel_rfl) (by kernel_rfl) (by kernel_rfl) (fun _ _ _ h => h) (y_load1 (by rfl) _ _ rfl _ _ rfl 1 _ rfl _ rfl _ Tryz.underlying3 rfl) (by exact S) ?_
  simp only [Act.put, List.setIfInBounds_toArray, List.set_cons_zero, List.set_cons_succ]
  refine Upto.take (i := 6) (oi := { dst := some 22, op := Op.indexAddr 27 (Operand.tmp 3) (Operand.tmp 21), type := 0, pos := "sourdineref5.go:147", after := #[{ on := 5, ground := Ground.data }, { on := 8, ground := Ground.gcOnly Departure.lateStores }], guard := none }) (v := ?_) rfl (by kernel_rfl) (by kernel_rfl) (by kernel_rfl) (by kernel_rfl) (fun _ _ _ h => h) (Or.inl ⟨by rfl, ?_⟩) (by exact S) ?_
  rotate_left 1
  · intro w hSw
    clear hSw
    go_simp
    try with_reducible rfl
  simp only [Act.put, List.setIfInBounds_toArray, List.set_cons_zero, List.set_cons_succ]
  refine Upto.take (i := 7) (oi := { dst := some 23, op := Op.load 26 (Operand.tmp 22), type := 26, pos := "sourdineref5.go:147", after := #[{ on := 6, ground := Ground.data }, { on := 8, ground := Ground.gcOnly Departure.lateStores }], guard := none }) (v := _) rfl (by kernel_rfl) (by kernel_rfl) (by kernel_rfl) (by kernel_rfl) (fun _ _ _ h => h) (y_load1 (by rfl) _ _ rfl _ _ rfl 0 _ rfl _ (rc_at HB.out) _ Tryz.underlying26 rfl) (by exact S) ?_
  simp only [Act.put, List.setIfInBounds_toArray, List.set_cons_zero, List.set_cons_succ]
  refine Upto.take (i := 8) (oi := { dst := some 5, op := Op.assign (Operand.tmp 19), type := 26, pos := "sourdineref5.go:147", after := #[{ on := 3, ground := Ground.data }, { on := 0, ground := Ground.phase }, { on := 1, ground := Ground.phase }, { on := 2, ground := Ground.phase }, { on := 3, ground := Ground.phase }, { on := 4, ground := Ground.textOnly Departure.lateStores }, { on := 5, ground := Ground.textOnly Departure.lateStores }, { on := 6, ground := Ground.textOnly Departure.lateStores }, { on := 7, ground := Ground.textOnly Departure.lateStores }], guard := none }) (v := ?_) rfl (by kernel_rfl) (by kernel_rfl) (by kernel_rfl) (by kernel_rfl) (fun _ _ _ h => h) (Or.inl ⟨by rfl, ?_⟩) (by exact S) ?_
  rotate_left 1
  · intro w hSw
    clear hSw
    go_simp
    try with_reducible rfl
  simp only [Act.put, List.setIfInBounds_toArray, List.set_cons_zero, List.set_cons_succ]
  refine Upto.ready (rs := [9]) (by kernel_rfl) (by simp) ?_
  refine Nexts.last rfl (fun K hK => ?_)
  go_simp
  refine hK.out _ _ ?_
  clear hK K
  refine Upto.done (by kernel_rfl) ?_ _
  go_wp2_with (first
    | (refine S.load1 rfl 3 _ rfl _ 0 rfl 1 (Cel.host h) rfl _ hop0 _ Tryz.underlying3 rfl ?_)
    | (refine S.load1 rfl 3 _ rfl _ 2 rfl 1 (Cel.host h) rfl _ rfl _ Tryz.underlying3 rfl ?_)
    | (refine S.load1 rfl 3 _ rfl _ 3 rfl 1 (Cel.host h) rfl _ rfl _ Tryz.underlying3 rfl ?_)
    | (refine S.load1 rfl 3 _ rfl _ 4 rfl 1 (Cel.host h) rfl _ rfl _ Tryz.underlying3 rfl ?_)
    | (refine S.load1 rfl 26 _ rfl _ 5 rfl 1 (Cel.host h) rfl _ rfl _ Tryz.underlying26 rfl ?_)
    | (refine S.load1 rfl 26 _ rfl _ _ rfl 0 (Cel.regs R) rfl _ (rc_at HA.out) _ Tryz.underlying26 rfl ?_)
    | (refine S.load1 rfl 26 _ rfl _ _ rfl 0 (Cel.regs R) rfl _ (rc_at HB.out) _ Tryz.underlying26 rfl ?_)
    | (refine S.load1 rfl 26 _ rfl _ _ rfl 0 (Cel.regs R) rfl _ (rc_at HC.out) _ Tryz.underlying26 rfl ?_))
  go_ret
  refine ⟨?_, S.low⟩
  rw [show reckS 8 x y z h.im = (shiftS x 1 (y % 32) false).1 by simp [reckS], shl_eq x (y % 32) ua va n0 n1]
  rfl
set_option maxHeartbeats 2000000 in
set_option maxRecDepth 100000 in
theorem rrk9_c (h : HV) (R : List Int) (ho : HOk h) (hR : okR R) (hop : h.op = 9) (w : World) : Calls Tryz.prog 32 #[(Cel.host h).val, (Cel.regs R).val] w fun e w' => e = .returned (.int .u32 (reckS 9 (regv R h.a) (regv R h.b) (regv R h.c) h.im)) ∧ Below w.heap.size w w' := by
  have S := SH.start w
  obtain ⟨⟨d0, d1⟩, ⟨a0, a1⟩, ⟨b0, b1⟩, ⟨c0, c1⟩, i0, i1⟩ := ho
  obtain ⟨hA, ua, va⟩ := regv_at hR a0 a1
  obtain ⟨hB, ub, vb⟩ := regv_at hR b0 b1
  obtain ⟨hC, uc, vc⟩ := regv_at hR c0 c1
  have hl := hR.1
  clear hR
  have HA : Hid (R[h.a.toNat]? = some (regv R h.a)) := hA
  have HB : Hid (R[h.b.toNat]? = some (regv R h.b)) := hB
  have HC : Hid (R[h.c.toNat]? = some (regv R h.c)) := hC
  clear hA hB hC
  generalize regv R h.a = x at *
  generalize regv R h.b = y at *
  generalize regv R h.c = z at *
  have e31 : bits .and .u32 y 31 = y % 32 := and_low5 y ub vb
  have ew : IntKind.i64.wrap (y % 32) = y % 32 := by rw [IntKind.wrap_i64]; omega
  have n0 : 0 ≤ y % 32 := by omega
  have n1 : y % 32 < 32 := by omega
  have hop0 : (Cel.host h).cells[0]? = some (.int .i64 9) := by simp [Cel.cells, hop]
  go_enter Tryz.func32, Tryz.ntmps32
  go_wp2_with (first
    | (refine S.box rfl _ _ rfl (Cel.host h) rfl ?_; clear S; intro q1 w1 S)
    | (refine S.box rfl _ _ rfl (Cel.regs R) rfl ?_; clear S; intro q2 w2 S))
  refine Upto.start (S := fun w' => SH noZ w w' [(q2, Cel.regs R), (q1, Cel.host h)]) 9 (by kernel_rfl) ?_
  replace S := S.drew
  refine Upto.take (i := 0) (oi := { dst := some 16, op := Op.fieldAddr 31 (Operand.tmp 2) 2, type := 0, pos := "sourdineref5.go:147", after := #[], guard := none }) (v := ?_) rfl (by kernel_rfl) (by kernel_rfl) (by kernel_rfl) (by kernel_rfl) (fun _ _ _ h => h) (Or.inl ⟨by rfl, ?_⟩) (by exact S) ?_
  rotate_left 1
  · intro w hSw
    clear hSw
    go_simp
    try with_reducible rfl
  simp only [Act.put, List.setIfInBounds_toArray, List.set_cons_zero, List.set_cons_succ]
  refine Upto.take (i := 1) (oi := { dst := some 17, op := Op.load 3 (Operand.tmp 16), type := 3, pos := "sourdineref5.go:147", after := #[{ on := 0, ground := Ground.data }], guard := none }) (v := _) rfl (by kernel_rfl) (by kernel_rfl) (by kernel_rfl) (by kernel_rfl) (fun _ _ _ h => h) (y_load1 (by rfl) _ _ rfl _ _ rfl 1 _ rfl _ rfl _ Tryz.underlying3 rfl) (by exact S) ?_
  simp only [Act.put, List.setIfInBounds_toArray, List.set_cons_zero, List.set_cons_succ]
  refine Upto.take (i := 2) (oi := { dst := some 18, op := Op.indexAddr 27 (Operand.tmp 3) (Operand.tmp 17), type := 0, pos := "sourdineref5.go:147", after := #[{ on := 1, ground := Ground.data }], guard := none }) (v := ?_) rfl (by kernel_rfl) (by kernel_rfl) (by kernel_rfl) (by kernel_rfl) (fun _ _ _ h => h) (Or.inl ⟨by rfl, ?_⟩) (by exact S) ?_
  rotate_left 1
  · intro w hSw
    clear hSw
    go_simp
    try with_reducible rfl
  simp only [Act.put, List.setIfInBounds_toArray, List.set_cons_zero, List.set_cons_succ]
  refine Upto.take (i := 3) (oi := { dst := some 19, op := Op.load 26 (Operand.tmp 18), type := 26, pos := "sourdineref5.go:147", after := #[{ on := 2, ground := Ground.data }], guard := none }) (v := _) rfl (by kernel_rfl) (by kernel_rfl) (by kernel_rfl) (by kernel_rfl) (fun _ _ _ h => h) (y_load1 (by rfl) _ _ rfl _ _ rfl 0 _ rfl _ (rc_at HA.out) _ Tryz.underlying26 rfl) (by exact S) ?_
  simp only [Act.put, List.setIfInBounds_toArray, List.set_cons_zero, List.set_cons_succ]
  refine Upto.take (i := 4) (oi := { dst := some 20, op := Op.fieldAddr 31 (Operand.tmp 2) 3, type := 0, pos := "sourdineref5.go:147", after := #[{ on := 8, ground := Ground.gcOnly Departure.lateStores }], guard := none }) (v := ?_) rfl (by kernel_rfl) (by kernel_rfl) (by kernel_rfl) (by kernel_rfl) (fun _ _ _ h => h) (Or.inl ⟨by rfl, ?_⟩) (by exact S) ?_
  rotate_left 1
  · intro w hSw
    clear hSw
    go_simp
    try with_reducible rfl
  simp only [Act.put, List.setIfInBounds_toArray, List.set_cons_zero, List.set_cons_succ]
  refine Upto.take (i := 5) (oi := { dst := some 21, op := Op.load 3 (Operand.tmp 20), type := 3, pos := "sourdineref5.go:147", after := #[{ on := 4, ground := Ground.data }, { on := 8, ground := Ground.gcOnly Departure.lateStores }], guard := none }) (v := _) rfl (by kernel_rfl) (by kernel_rfl) (by kernel_rfl) (by kernel_rfl) (fun _ _ _ h => h) (y_load1 (by rfl) _ _ rfl _ _ rfl 1 _ rfl _ rfl _ Tryz.underlying3 rfl) (by exact S) ?_
  simp only [Act.put, List.setIfInBounds_toArray, List.set_cons_zero, List.set_cons_succ]
  refine Upto.take (i := 6) (oi := { dst := some 22, op := Op.indexAddr 27 (Operand.tmp 3) (Operand.tmp 21), type := 0, pos := "sourdineref5.go:147", after := #[{ on := 5, ground := Ground.data }, { on := 8, ground := Ground.gcOnly Departure.lateStores }], guard := none }) (v := ?_) rfl (by kernel_rfl) (by kernel_rfl) (by kernel_rfl) (by kernel_rfl) (fun _ _ _ h => h) (Or.inl ⟨by rfl, ?_⟩) (by exact S) ?_
  rotate_left 1
  · intro w hSw
    clear hSw
    go_simp
    try with_reducible rfl
  simp only [Act.put, List.setIfInBounds_toArray, List.set_cons_zero, List.set_cons_succ]
  refine Upto.take (i := 7) (oi := { dst := some 23, op := Op.load 26 (Operand.tmp 22), type := 26, pos := "sourdineref5.go:147", after := #[{ on := 6, ground := Ground.data }, { on := 8, ground := Ground.gcOnly Departure.lateStores }], guard := none }) (v := _) rfl (by kernel_rfl) (by kernel_rfl) (by kernel_rfl) (by kernel_rfl) (fun _ _ _ h => h) (y_load1 (by rfl) _ _ rfl _ _ rfl 0 _ rfl _ (rc_at HB.out) _ Tryz.underlying26 rfl) (by exact S) ?_
  simp only [Act.put, List.setIfInBounds_toArray, List.set_cons_zero, List.set_cons_succ]
  refine Upto.take (i := 8) (oi := { dst := some 5, op := Op.assign (Operand.tmp 19), type := 26, pos := "sourdineref5.go:147", after := #[{ on := 3, ground := Ground.data }, { on := 0, ground := Ground.phase }, { on := 1, ground := Ground.phase }, { on := 2, ground := Ground.phase }, { on := 3, ground := Ground.phase }, { on := 4, ground := Ground.textOnly Departure.lateStores }, { on := 5, ground := Ground.textOnly Departure.lateStores }, { on := 6, ground := Ground.textOnly Departure.lateStores }, { on := 7, ground := Ground.textOnly Departure.lateStores }], guard := none }) (v := ?_) rfl (by kernel_rfl) (by kernel_rfl) (by kernel_rfl) (by kernel_rfl) (fun _ _ _ h => h) (Or.inl ⟨by rfl, ?_⟩) (by exact S) ?_
  rotate_left 1
  · intro w hSw
    clear hSw
    go_simp
    try with_reducible rfl
  simp only [Act.put, List.setIfInBounds_toArray, List.set_cons_zero, List.set_cons_succ]
  refine Upto.ready (rs := [9]) (by kernel_rfl) (by simp) ?_
  refine Nexts.last rfl (fun K hK => ?_)
  go_simp
  refine hK.out _ _ ?_
  clear hK K
  refine Upto.done (by kernel_rfl) ?_ _
  go_wp2_with (first
    | (refine S.load1 rfl 3 _ rfl _ 0 rfl 1 (Cel.host h) rfl _ hop0 _ Tryz.underlying3 rfl ?_)
    | (refine S.load1 rfl 3 _ rfl _ 2 rfl 1 (Cel.host h) rfl _ rfl _ Tryz.underlying3 rfl ?_)
    | (refine S.load1 rfl 3 _ rfl _ 3 rfl 1 (Cel.host h) rfl _ rfl _ Tryz.underlying3 rfl ?_)
    | (refine S.load1 rfl 3 _ rfl _ 4 rfl 1 (Cel.host h) rfl _ rfl _ Tryz.underlying3 rfl ?_)
    | (refine S.load1 rfl 26 _ rfl _ 5 rfl 1 (Cel.host h) rfl _ rfl _ Tryz.underlying26 rfl ?_)
    | (refine S.load1 rfl 26 _ rfl _ _ rfl 0 (Cel.regs R) rfl _ (rc_at HA.out) _ Tryz.underlying26 rfl ?_)
    | (refine S.load1 rfl 26 _ rfl _ _ rfl 0 (Cel.regs R) rfl _ (rc_at HB.out) _ Tryz.underlying26 rfl ?_)
    | (refine S.load1 rfl 26 _ rfl _ _ rfl 0 (Cel.regs R) rfl _ (rc_at HC.out) _ Tryz.underlying26 rfl ?_))
  go_ret
  refine ⟨?_, S.low⟩
  rw [show reckS 9 x y z h.im = (shiftS x 2 (y % 32) false).1 by simp [reckS], shr_eq x (y % 32) ua va n0 n1]
  rfl
set_option maxHeartbeats 2000000 in
set_option maxRecDepth 100000 in
theorem rrk10_c (h : HV) (R : List Int) (ho : HOk h) (hR : okR R) (hop : h.op = 10) (w : World) : Calls Tryz.prog 32 #[(Cel.host h).val, (Cel.regs R).val] w fun e w' => e = .returned (.int .u32 (reckS 10 (regv R h.a) (regv R h.b) (regv R h.c) h.im)) ∧ Below w.heap.size w w' := by
  have S := SH.start w
  obtain ⟨⟨d0, d1⟩, ⟨a0, a1⟩, ⟨b0, b1⟩, ⟨c0, c1⟩, i0, i1⟩ := ho
  obtain ⟨hA, ua, va⟩ := regv_at hR a0 a1
  obtain ⟨hB, ub, vb⟩ := regv_at hR b0 b1
  obtain ⟨hC, uc, vc⟩ := regv_at hR c0 c1
  have hl := hR.1
  clear hR
  have HA : Hid (R[h.a.toNat]? = some (regv R h.a)) := hA
  have HB : Hid (R[h.b.toNat]? = some (regv R h.b)) := hB
  have HC : Hid (R[h.c.toNat]? = some (regv R h.c)) := hC
  clear hA hB hC
  generalize regv R h.a = x at *
  generalize regv R h.b = y at *
  generalize regv R h.c = z at *
  have e31 : bits .and .u32 y 31 = y % 32 := and_low5 y ub vb
  have ew : IntKind.i64.wrap (y % 32) = y % 32 := by rw [IntKind.wrap_i64]; omega
  have n0 : 0 ≤ y % 32 := by omega
  have n1 : y % 32 < 32 := by omega
  have hop0 : (Cel.host h).cells[0]? = some (.int .i64 10) := by simp [Cel.cells, hop]
  have CS : Hid (∀ w1, Calls Tryz.prog 80 #[.int .u32 x, .int .i64 3, .int .i64 (y % 32), .bool false] w1 fun e w' => e = .returned (.tuple #[.int .u32 (shiftS x 3 (y % 32) false).1, .bool (shiftS x 3 (y % 32) false).2]) ∧ w' = w1) := fun w1 => rShift_c x 3 (y % 32) false ua va (by omega) (by omega) w1
  rw [show reckS 10 x y z h.im = (shiftS x 3 (y % 32) false).1 by simp [reckS]]
  generalize shiftS x 3 (y % 32) false = sv at *
  go_enter Tryz.func32, Tryz.ntmps32
  go_wp2_with (first
    | (refine S.box rfl _ _ rfl (Cel.host h) rfl ?_; clear S; intro q1 w1 S)
    | (refine S.box rfl _ _ rfl (Cel.regs R) rfl ?_; clear S; intro q2 w2 S))
  refine Upto.start (S := fun w' => SH noZ w w' [(q2, Cel.regs R), (q1, Cel.host h)]) 9 (by kernel_rfl) ?_
  replace S := S.drew
  refine Upto.take (i := 0) (oi := { dst := some 16, op := Op.fieldAddr 31 (Operand.tmp 2) 2, type := 0, pos := "sourdineref5.go:147", after := #[], guard := none }) (v := ?_) rfl (by kernel_rfl) (by kernel_rfl) (by kernel_rfl) (by kernel_rfl) (fun _ _ _ h => h) (Or.inl ⟨by rfl, ?_⟩) (by exact S) ?_
  rotate_left 1
  · intro w hSw
    clear hSw
    go_simp
    try with_reducible rfl
  simp only [Act.put, List.setIfInBounds_toArray, List.set_cons_zero, List.set_cons_succ]
  refine Upto.take (i := 1) (oi := { dst := some 17, op := Op.load 3 (Operand.tmp 16), type := 3, pos := "sourdineref5.go:147", after := #[{ on := 0, ground := Ground.data }], guard := none }) (v := _) rfl (by kernel_rfl) (by kernel_rfl) (by kernel_rfl) (by kernel_rfl) (fun _ _ _ h => h) (y_load1 (by rfl) _ _ rfl _ _ rfl 1 _ rfl _ rfl _ Tryz.underlying3 rfl) (by exact S) ?_
  simp only [Act.put, List.setIfInBounds_toArray, List.set_cons_zero, List.set_cons_succ]
  refine Upto.take (i := 2) (oi := { dst := some 18, op := Op.indexAddr 27 (Operand.tmp 3) (Operand.tmp 17), type := 0, pos := "sourdineref5.go:147", after := #[{ on := 1, ground := Ground.data }], guard := none }) (v := ?_) rfl (by kernel_rfl) (by kernel_rfl) (by kernel_rfl) (by kernel_rfl) (fun _ _ _ h => h) (Or.inl ⟨by rfl, ?_⟩) (by exact S) ?_
  rotate_left 1
  · intro w hSw
    clear hSw
    go_simp
    try with_reducible rfl
  simp only [Act.put, List.setIfInBounds_toArray, List.set_cons_zero, List.set_cons_succ]
  refine Upto.take (i := 3) (oi := { dst := some 19, op := Op.load 26 (Operand.tmp 18), type := 26, pos := "sourdineref5.go:147", after := #[{ on := 2, ground := Ground.data }], guard := none }) (v := _) rfl (by kernel_rfl) (by kernel_rfl) (by kernel_rfl) (by kernel_rfl) (fun _ _ _ h => h) (y_load1 (by rfl) _ _ rfl _ _ rfl 0 _ rfl _ (rc_at HA.out) _ Tryz.underlying26 rfl) (by exact S) ?_
  simp only [Act.put, List.setIfInBounds_toArray, List.set_cons_zero, List.set_cons_succ]
  refine Upto.take (i := 4) (oi := { dst := some 20, op := Op.fieldAddr 31 (Operand.tmp 2) 3, type := 0, pos := "sourdineref5.go:147", after := #[{ on := 8, ground := Ground.gcOnly Departure.lateStores }], guard := none }) (v := ?_) rfl (by kernel_rfl) (by kernel_rfl) (by kernel_rfl) (by kernel_rfl) (fun _ _ _ h => h) (Or.inl ⟨by rfl, ?_⟩) (by exact S) ?_
  rotate_left 1
  · intro w hSw
    clear hSw
    go_simp
    try with_reducible rfl
  simp only [Act.put, List.setIfInBounds_toArray, List.set_cons_zero, List.set_cons_succ]
  refine Upto.take (i := 5) (oi := { dst := some 21, op := Op.load 3 (Operand.tmp 20), type := 3, pos := "sourdineref5.go:147", after := #[{ on := 4, ground := Ground.data }, { on := 8, ground := Ground.gcOnly Departure.lateStores }], guard := none }) (v := _) rfl (by kernel_rfl) (by kernel_rfl) (by kernel_rfl) (by kernel_rfl) (fun _ _ _ h => h) (y_load1 (by rfl) _ _ rfl _ _ rfl 1 _ rfl _ rfl _ Tryz.underlying3 rfl) (by exact S) ?_
  simp only [Act.put, List.setIfInBounds_toArray, List.set_cons_zero, List.set_cons_succ]
  refine Upto.take (i := 6) (oi := { dst := some 22, op := Op.indexAddr 27 (Operand.tmp 3) (Operand.tmp 21), type := 0, pos := "sourdineref5.go:147", after := #[{ on := 5, ground := Ground.data }, { on := 8, ground := Ground.gcOnly Departure.lateStores }], guard := none }) (v := ?_) rfl (by kernel_rfl) (by kernel_rfl) (by kernel_rfl) (by kernel_rfl) (fun _ _ _ h => h) (Or.inl ⟨by rfl, ?_⟩) (by exact S) ?_
  rotate_left 1
  · intro w hSw
    clear hSw
    go_simp
    try with_reducible rfl
  simp only [Act.put, List.setIfInBounds_toArray, List.set_cons_zero, List.set_cons_succ]
  refine Upto.take (i := 7) (oi := { dst := some 23, op := Op.load 26 (Operand.tmp 22), type := 26, pos := "sourdineref5.go:147", after := #[{ on := 6, ground := Ground.data }, { on := 8, ground := Ground.gcOnly Departure.lateStores }], guard := none }) (v := _) rfl (by kernel_rfl) (by kernel_rfl) (by kernel_rfl) (by kernel_rfl) (fun _ _ _ h => h) (y_load1 (by rfl) _ _ rfl _ _ rfl 0 _ rfl _ (rc_at HB.out) _ Tryz.underlying26 rfl) (by exact S) ?_
  simp only [Act.put, List.setIfInBounds_toArray, List.set_cons_zero, List.set_cons_succ]
  refine Upto.take (i := 8) (oi := { dst := some 5, op := Op.assign (Operand.tmp 19), type := 26, pos := "sourdineref5.go:147", after := #[{ on := 3, ground := Ground.data }, { on := 0, ground := Ground.phase }, { on := 1, ground := Ground.phase }, { on := 2, ground := Ground.phase }, { on := 3, ground := Ground.phase }, { on := 4, ground := Ground.textOnly Departure.lateStores }, { on := 5, ground := Ground.textOnly Departure.lateStores }, { on := 6, ground := Ground.textOnly Departure.lateStores }, { on := 7, ground := Ground.textOnly Departure.lateStores }], guard := none }) (v := ?_) rfl (by kernel_rfl) (by kernel_rfl) (by kernel_rfl) (by kernel_rfl) (fun _ _ _ h => h) (Or.inl ⟨by rfl, ?_⟩) (by exact S) ?_
  rotate_left 1
  · intro w hSw
    clear hSw
    go_simp
    try with_reducible rfl
  simp only [Act.put, List.setIfInBounds_toArray, List.set_cons_zero, List.set_cons_succ]
  refine Upto.ready (rs := [9]) (by kernel_rfl) (by simp) ?_
  refine Nexts.last rfl (fun K hK => ?_)
  go_simp
  refine hK.out _ _ ?_
  clear hK K
  refine Upto.done (by kernel_rfl) ?_ _
  go_wp2_with (first
    | (refine S.load1 rfl 3 _ rfl _ 0 rfl 1 (Cel.host h) rfl _ hop0 _ Tryz.underlying3 rfl ?_)
    | (refine S.load1 rfl 3 _ rfl _ 2 rfl 1 (Cel.host h) rfl _ rfl _ Tryz.underlying3 rfl ?_)
    | (refine S.load1 rfl 3 _ rfl _ 3 rfl 1 (Cel.host h) rfl _ rfl _ Tryz.underlying3 rfl ?_)
    | (refine S.load1 rfl 3 _ rfl _ 4 rfl 1 (Cel.host h) rfl _ rfl _ Tryz.underlying3 rfl ?_)
    | (refine S.load1 rfl 26 _ rfl _ 5 rfl 1 (Cel.host h) rfl _ rfl _ Tryz.underlying26 rfl ?_)
    | (refine S.load1 rfl 26 _ rfl _ _ rfl 0 (Cel.regs R) rfl _ (rc_at HA.out) _ Tryz.underlying26 rfl ?_)
    | (refine S.load1 rfl 26 _ rfl _ _ rfl 0 (Cel.regs R) rfl _ (rc_at HB.out) _ Tryz.underlying26 rfl ?_)
    | (refine S.load1 rfl 26 _ rfl _ _ rfl 0 (Cel.regs R) rfl _ (rc_at HC.out) _ Tryz.underlying26 rfl ?_)
    | (refine (CS.out _).mono ?_; rintro e w8 ⟨rfl, rfl⟩))
  go_ret
  exact ⟨rfl, S.low⟩
set_option maxHeartbeats 2000000 in
set_option maxRecDepth 100000 in
theorem rrk11_c (h : HV) (R : List Int) (ho : HOk h) (hR : okR R) (hop : h.op = 11) (w : World) : Calls Tryz.prog 32 #[(Cel.host h).val, (Cel.regs R).val] w fun e w' => e = .returned (.int .u32 (reckS 11 (regv R h.a) (regv R h.b) (regv R h.c) h.im)) ∧ Below w.heap.size w w' := by
  have S := SH.start w
  obtain ⟨⟨d0, d1⟩, ⟨a0, a1⟩, ⟨b0, b1⟩, ⟨c0, c1⟩, i0, i1⟩ := ho
  obtain ⟨hA, ua, va⟩ := regv_at hR a0 a1
  obtain ⟨hB, ub, vb⟩ := regv_at hR b0 b1
  obtain ⟨hC, uc, vc⟩ := regv_at hR c0 c1
  have hl := hR.1
  clear hR
  have HA : Hid (R[h.a.toNat]? = some (regv R h.a)) := hA
  have HB : Hid (R[h.b.toNat]? = some (regv R h.b)) := hB
  have HC : Hid (R[h.c.toNat]? = some (regv R h.c)) := hC
  clear hA hB hC
  generalize regv R h.a = x at *
  generalize regv R h.b = y at *
  generalize regv R h.c = z at *
  have e31 : bits .and .u32 y 31 = y % 32 := and_low5 y ub vb
  have ew : IntKind.i64.wrap (y % 32) = y % 32 := by rw [IntKind.wrap_i64]; omega
  have n0 : 0 ≤ y % 32 := by omega
  have n1 : y % 32 < 32 := by omega
  have hop0 : (Cel.host h).cells[0]? = some (.int .i64 11) := by simp [Cel.cells, hop]
  have CS : Hid (∀ w1, Calls Tryz.prog 80 #[.int .u32 x, .int .i64 4, .int .i64 (y % 32), .bool false] w1 fun e w' => e = .returned (.tuple #[.int .u32 (shiftS x 4 (y % 32) false).1, .bool (shiftS x 4 (y % 32) false).2]) ∧ w' = w1) := fun w1 => rShift_c x 4 (y % 32) false ua va (by omega) (by omega) w1
  rw [show reckS 11 x y z h.im = (shiftS x 4 (y % 32) false).1 by simp [reckS]]
  generalize shiftS x 4 (y % 32) false = sv at *
  go_enter Tryz.func32, Tryz.ntmps32
  go_wp2_with (first
    | (refine S.box rfl _ _ rfl (Cel.host h) rfl ?_; clear S; intro q1 w1 S)
    | (refine S.box rfl _ _ rfl (Cel.regs R) rfl ?_; clear S; intro q2 w2 S))
  refine Upto.start (S := fun w' => SH noZ w w' [(q2, Cel.regs R), (q1, Cel.host h)]) 9 (by kernel_rfl) ?_
  replace S := S.drew
  refine Upto.take (i := 0) (oi := { dst := some 16, op := Op.fieldAddr 31 (Operand.tmp 2) 2, type := 0, pos := "sourdineref5.go:147", after := #[], guard := none }) (v := ?_) rfl (by kernel_rfl) (by kernel_rfl) (by kernel_rfl) (by kernel_rfl) (fun _ _ _ h => h) (Or.inl ⟨by rfl, ?_⟩) (by exact S) ?_
  rotate_left 1
  · intro w hSw
    clear hSw
    go_simp
    try with_reducible rfl
  simp only [Act.put, List.setIfInBounds_toArray, List.set_cons_zero, List.set_cons_succ]
  refine Upto.take (i := 1) (oi := { dst := some 17, op := Op.load 3 (Operand.tmp 16), type := 3, pos := "sourdineref5.go:147", after := #[{ on := 0, ground := Ground.data }], guard := none }) (v := _) rfl (by kernel_rfl) (by kernel_rfl) (by kernel_rfl) (by kernel_rfl) (fun _ _ _ h => h) (y_load1 (by rfl) _ _ rfl _ _ rfl 1 _ rfl _ rfl _ Tryz.underlying3 rfl) (by exact S) ?_
  simp only [Act.put, List.setIfInBounds_toArray, List.set_cons_zero, List.set_cons_succ]
  refine Upto.take (i := 2) (oi := { dst := some 18, op := Op.indexAddr 27 (Operand.tmp 3) (Operand.tmp 17), type := 0, pos := "sourdineref5.go:147", after := #[{ on := 1, ground := Ground.data }], guard := none }) (v := ?_) rfl (by kernel_rfl) (by kernel_rfl) (by kernel_rfl) (by kernel_rfl) (fun _ _ _ h => h) (Or.inl ⟨by rfl, ?_⟩) (by exact S) ?_
  rotate_left 1
  · intro w hSw
    clear hSw
    go_simp
    try with_reducible rfl
  simp only [Act.put, List.setIfInBounds_toArray, List.set_cons_zero, List.set_cons_succ]
  refine Upto.take (i := 3) (oi := { dst := some 19, op := Op.load 26 (Operand.tmp 18), type := 26, pos := "sourdineref5.go:147", after := #[{ on := 2, ground := Ground.data }], guard := none }) (v := _) rfl (by kernel_rfl) (by kernel_rfl) (by kernel_rfl) (by kernel_rfl) (fun _ _ _ h => h) (y_load1 (by rfl) _ _ rfl _ _ rfl 0 _ rfl _ (rc_at HA.out) _ Tryz.underlying26 rfl) (by exact S) ?_
  simp only [Act.put, List.setIfInBounds_toArray, List.set_cons_zero, List.set_cons_succ]
  refine Upto.take (i := 4) (oi := { dst := some 20, op := Op.fieldAddr 31 (Operand.tmp 2) 3, type := 0, pos := "sourdineref5.go:147", after := #[{ on := 8, ground := Ground.gcOnly Departure.lateStores }], guard := none }) (v := ?_) rfl (by kernel_rfl) (by kernel_rfl) (by kernel_rfl) (by kernel_rfl) (fun _ _ _ h => h) (Or.inl ⟨by rfl, ?_⟩) (by exact S) ?_
  rotate_left 1
  · intro w hSw
    clear hSw
    go_simp
    try with_reducible rfl
  simp only [Act.put, List.setIfInBounds_toArray, List.set_cons_zero, List.set_cons_succ]
  refine Upto.take (i := 5) (oi := { dst := some 21, op := Op.load 3 (Operand.tmp 20), type := 3, pos := "sourdineref5.go:147", after := #[{ on := 4, ground := Ground.data }, { on := 8, ground := Ground.gcOnly Departure.lateStores }], guard := none }) (v := _) rfl (by kernel_rfl) (by kernel_rfl) (by kernel_rfl) (by kernel_rfl) (fun _ _ _ h => h) (y_load1 (by rfl) _ _ rfl _ _ rfl 1 _ rfl _ rfl _ Tryz.underlying3 rfl) (by exact S) ?_
  simp only [Act.put, List.setIfInBounds_toArray, List.set_cons_zero, List.set_cons_succ]
  refine Upto.take (i := 6) (oi := { dst := some 22, op := Op.indexAddr 27 (Operand.tmp 3) (Operand.tmp 21), type := 0, pos := "sourdineref5.go:147", after := #[{ on := 5, ground := Ground.data }, { on := 8, ground := Ground.gcOnly Departure.lateStores }], guard := none }) (v := ?_) rfl (by kernel_rfl) (by kernel_rfl) (by kernel_rfl) (by kernel_rfl) (fun _ _ _ h => h) (Or.inl ⟨by rfl, ?_⟩) (by exact S) ?_
  rotate_left 1
  · intro w hSw
    clear hSw
    go_simp
    try with_reducible rfl
  simp only [Act.put, List.setIfInBounds_toArray, List.set_cons_zero, List.set_cons_succ]
  refine Upto.take (i := 7) (oi := { dst := some 23, op := Op.load 26 (Operand.tmp 22), type := 26, pos := "sourdineref5.go:147", after := #[{ on := 6, ground := Ground.data }, { on := 8, ground := Ground.gcOnly Departure.lateStores }], guard := none }) (v := _) rfl (by kernel_rfl) (by kernel_rfl) (by kernel_rfl) (by kernel_rfl) (fun _ _ _ h => h) (y_load1 (by rfl) _ _ rfl _ _ rfl 0 _ rfl _ (rc_at HB.out) _ Tryz.underlying26 rfl) (by exact S) ?_
  simp only [Act.put, List.setIfInBounds_toArray, List.set_cons_zero, List.set_cons_succ]
  refine Upto.take (i := 8) (oi := { dst := some 5, op := Op.assign (Operand.tmp 19), type := 26, pos := "sourdineref5.go:147", after := #[{ on := 3, ground := Ground.data }, { on := 0, ground := Ground.phase }, { on := 1, ground := Ground.phase }, { on := 2, ground := Ground.phase }, { on := 3, ground := Ground.phase }, { on := 4, ground := Ground.textOnly Departure.lateStores }, { on := 5, ground := Ground.textOnly Departure.lateStores }, { on := 6, ground := Ground.textOnly Departure.lateStores }, { on := 7, ground := Ground.textOnly Departure.lateStores }], guard := none }) (v := ?_) rfl (by kernel_rfl) (by kernel_rfl) (by kernel_rfl) (by kernel_rfl) (fun _ _ _ h => h) (Or.inl ⟨by rfl, ?_⟩) (by exact S) ?_
  rotate_left 1
  · intro w hSw
    clear hSw
    go_simp
    try with_reducible rfl
  simp only [Act.put, List.setIfInBounds_toArray, List.set_cons_zero, List.set_cons_succ]
  refine Upto.ready (rs := [9]) (by kernel_rfl) (by simp) ?_
  refine Nexts.last rfl (fun K hK => ?_)
  go_simp
  refine hK.out _ _ ?_
  clear hK K
  refine Upto.done (by kernel_rfl) ?_ _
  go_wp2_with (first
    | (refine S.load1 rfl 3 _ rfl _ 0 rfl 1 (Cel.host h) rfl _ hop0 _ Tryz.underlying3 rfl ?_)
    | (refine S.load1 rfl 3 _ rfl _ 2 rfl 1 (Cel.host h) rfl _ rfl _ Tryz.underlying3 rfl ?_)
    | (refine S.load1 rfl 3 _ rfl _ 3 rfl 1 (Cel.host h) rfl _ rfl _ Tryz.underlying3 rfl ?_)
    | (refine S.load1 rfl 3 _ rfl _ 4 rfl 1 (Cel.host h) rfl _ rfl _ Tryz.underlying3 rfl ?_)
    | (refine S.load1 rfl 26 _ rfl _ 5 rfl 1 (Cel.host h) rfl _ rfl _ Tryz.underlying26 rfl ?_)
    | (refine S.load1 rfl 26 _ rfl _ _ rfl 0 (Cel.regs R) rfl _ (rc_at HA.out) _ Tryz.underlying26 rfl ?_)
    | (refine S.load1 rfl 26 _ rfl _ _ rfl 0 (Cel.regs R) rfl _ (rc_at HB.out) _ Tryz.underlying26 rfl ?_)
    | (refine S.load1 rfl 26 _ rfl _ _ rfl 0 (Cel.regs R) rfl _ (rc_at HC.out) _ Tryz.underlying26 rfl ?_)
    | (refine (CS.out _).mono ?_; rintro e w8 ⟨rfl, rfl⟩))
  go_ret
  exact ⟨rfl, S.low⟩
set_option maxHeartbeats 2000000 in
set_option maxRecDepth 100000 in
theorem rrk12_c (h : HV) (R : List Int) (ho : HOk h) (hR : okR R) (hop : h.op = 12) (w : World) : Calls Tryz.prog 32 #[(Cel.host h).val, (Cel.regs R).val] w fun e w' => e = .returned (.int .u32 (reckS 12 (regv R h.a) (regv R h.b) (regv R h.c) h.im)) ∧ Below w.heap.size w w' := by
  have S := SH.start w
  obtain ⟨⟨d0, d1⟩, ⟨a0, a1⟩, ⟨b0, b1⟩, ⟨c0, c1⟩, i0, i1⟩ := ho
  obtain ⟨hA, ua, va⟩ := regv_at hR a0 a1
  obtain ⟨hB, ub, vb⟩ := regv_at hR b0 b1
  obtain ⟨hC, uc, vc⟩ := regv_at hR c0 c1
  have hl := hR.1
  clear hR
  have HA : Hid (R[h.a.toNat]? = some (regv R h.a)) := hA
  have HB : Hid (R[h.b.toNat]? = some (regv R h.b)) := hB
  have HC : Hid (R[h.c.toNat]? = some (regv R h.c)) := hC
  clear hA hB hC
  generalize regv R h.a = x at *
  generalize regv R h.b = y at *
  generalize regv R h.c = z at *
  have e31 : bits .and .u32 y 31 = y % 32 := and_low5 y ub vb
  have ew : IntKind.i64.wrap (y % 32) = y % 32 := by rw [IntKind.wrap_i64]; omega
  have n0 : 0 ≤ y % 32 := by omega
  have n1 : y % 32 < 32 := by omega
  have hop0 : (Cel.host h).cells[0]? = some (.int .i64 12) := by simp [Cel.cells, hop]
  go_enter Tryz.func32, Tryz.ntmps32
  go_wp2_with (first
    | (refine S.box rfl _ _ rfl (Cel.host h) rfl ?_; clear S; intro q1 w1 S)
    | (refine S.box rfl _ _ rfl (Cel.regs R) rfl ?_; clear S; intro q2 w2 S))
  refine Upto.start (S := fun w' => SH noZ w w' [(q2, Cel.regs R), (q1, Cel.host h)]) 9 (by kernel_rfl) ?_
  replace S := S.drew
  refine Upto.take (i := 0) (oi := { dst := some 16, op := Op.fieldAddr 31 (Operand.tmp 2) 2, type := 0, pos := "sourdineref5.go:147", after := #[], guard := none }) (v := ?_) rfl (by kernel_rfl) (by kernel_rfl) (by kernel_rfl) (by kernel_rfl) (fun _ _ _ h => h) (Or.inl ⟨by rfl, ?_⟩) (by exact S) ?_
  rotate_left 1
  · intro w hSw
    clear hSw
    go_simp
    try with_reducible rfl
  simp only [Act.put, List.setIfInBounds_toArray, List.set_cons_zero, List.set_cons_succ]
  refine Upto.take (i := 1) (oi := { dst := some 17, op := Op.load 3 (Operand.tmp 16), type := 3, pos := "sourdineref5.go:147", after := #[{ on := 0, ground := Ground.data }], guard := none }) (v := _) rfl (by kernel_rfl) (by kernel_rfl) (by kernel_rfl) (by kernel_rfl) (fun _ _ _ h => h) (y_load1 (by rfl) _ _ rfl _ _ rfl 1 _ rfl _ rfl _ Tryz.underlying3 rfl) (by exact S) ?_
  simp only [Act.put, List.setIfInBounds_toArray, List.set_cons_zero, List.set_cons_succ]
  refine Upto.take (i := 2) (oi := { dst := some 18, op := Op.indexAddr 27 (Operand.tmp 3) (Operand.tmp 17), type := 0, pos := "sourdineref5.go:147", after := #[{ on := 1, ground := Ground.data }], guard := none }) (v := ?_) rfl (by kernel_rfl) (by kernel_rfl) (by kernel_rfl) (by kernel_rfl) (fun _ _ _ h => h) (Or.inl ⟨by rfl, ?_⟩) (by exact S) ?_
  rotate_left 1
  · intro w hSw
    clear hSw
    go_simp
    try with_reducible rfl
  simp only [Act.put, List.setIfInBounds_toArray, List.set_cons_zero, List.set_cons_succ]
  refine Upto.take (i := 3) (oi := { dst := some 19, op := Op.load 26 (Operand.tmp 18), type := 26, pos := "sourdineref5.go:147", after := #[{ on := 2, ground := Ground.data }], guard := none }) (v := _) rfl (by kernel_rfl) (by kernel_rfl) (by kernel_rfl) (by kernel_rfl) (fun _ _ _ h => h) (y_load1 (by rfl) _ _ rfl _ _ rfl 0 _ rfl _ (rc_at HA.out) _ Tryz.underlying26 rfl) (by exact S) ?_
  simp only [Act.put, List.setIfInBounds_toArray, List.set_cons_zero, List.set_cons_succ]
  refine Upto.take (i := 4) (oi := { dst := some 20, op := Op.fieldAddr 31 (Operand.tmp 2) 3, type := 0, pos := "sourdineref5.go:147", after := #[{ on := 8, ground := Ground.gcOnly Departure.lateStores }], guard := none }) (v := ?_) rfl (by kernel_rfl) (by kernel_rfl) (by kernel_rfl) (by kernel_rfl) (fun _ _ _ h => h) (Or.inl ⟨by rfl, ?_⟩) (by exact S) ?_
  rotate_left 1
  · intro w hSw
    clear hSw
    go_simp
    try with_reducible rfl
  simp only [Act.put, List.setIfInBounds_toArray, List.set_cons_zero, List.set_cons_succ]
  refine Upto.take (i := 5) (oi := { dst := some 21, op := Op.load 3 (Operand.tmp 20), type := 3, pos := "sourdineref5.go:147", after := #[{ on := 4, ground := Ground.data }, { on := 8, ground := Ground.gcOnly Departure.lateStores }], guard := none }) (v := _) rfl (by kernel_rfl) (by kernel_rfl) (by kernel_rfl) (by kernel_rfl) (fun _ _ _ h => h) (y_load1 (by rfl) _ _ rfl _ _ rfl 1 _ rfl _ rfl _ Tryz.underlying3 rfl) (by exact S) ?_
  simp only [Act.put, List.setIfInBounds_toArray, List.set_cons_zero, List.set_cons_succ]
  refine Upto.take (i := 6) (oi := { dst := some 22, op := Op.indexAddr 27 (Operand.tmp 3) (Operand.tmp 21), type := 0, pos := "sourdineref5.go:147", after := #[{ on := 5, ground := Ground.data }, { on := 8, ground := Ground.gcOnly Departure.lateStores }], guard := none }) (v := ?_) rfl (by kernel_rfl) (by kernel_rfl) (by kernel_rfl) (by kernel_rfl) (fun _ _ _ h => h) (Or.inl ⟨by rfl, ?_⟩) (by exact S) ?_
  rotate_left 1
  · intro w hSw
    clear hSw
    go_simp
    try with_reducible rfl
  simp only [Act.put, List.setIfInBounds_toArray, List.set_cons_zero, List.set_cons_succ]
  refine Upto.take (i := 7) (oi := { dst := some 23, op := Op.load 26 (Operand.tmp 22), type := 26, pos := "sourdineref5.go:147", after := #[{ on := 6, ground := Ground.data }, { on := 8, ground := Ground.gcOnly Departure.lateStores }], guard := none }) (v := _) rfl (by kernel_rfl) (by kernel_rfl) (by kernel_rfl) (by kernel_rfl) (fun _ _ _ h => h) (y_load1 (by rfl) _ _ rfl _ _ rfl 0 _ rfl _ (rc_at HB.out) _ Tryz.underlying26 rfl) (by exact S) ?_
  simp only [Act.put, List.setIfInBounds_toArray, List.set_cons_zero, List.set_cons_succ]
  refine Upto.take (i := 8) (oi := { dst := some 5, op := Op.assign (Operand.tmp 19), type := 26, pos := "sourdineref5.go:147", after := #[{ on := 3, ground := Ground.data }, { on := 0, ground := Ground.phase }, { on := 1, ground := Ground.phase }, { on := 2, ground := Ground.phase }, { on := 3, ground := Ground.phase }, { on := 4, ground := Ground.textOnly Departure.lateStores }, { on := 5, ground := Ground.textOnly Departure.lateStores }, { on := 6, ground := Ground.textOnly Departure.lateStores }, { on := 7, ground := Ground.textOnly Departure.lateStores }], guard := none }) (v := ?_) rfl (by kernel_rfl) (by kernel_rfl) (by kernel_rfl) (by kernel_rfl) (fun _ _ _ h => h) (Or.inl ⟨by rfl, ?_⟩) (by exact S) ?_
  rotate_left 1
  · intro w hSw
    clear hSw
    go_simp
    try with_reducible rfl
  simp only [Act.put, List.setIfInBounds_toArray, List.set_cons_zero, List.set_cons_succ]
  refine Upto.ready (rs := [9]) (by kernel_rfl) (by simp) ?_
  refine Nexts.last rfl (fun K hK => ?_)
  go_simp
  refine hK.out _ _ ?_
  clear hK K
  refine Upto.done (by kernel_rfl) ?_ _
  go_wp2_with (first
    | (refine S.load1 rfl 3 _ rfl _ 0 rfl 1 (Cel.host h) rfl _ hop0 _ Tryz.underlying3 rfl ?_)
    | (refine S.load1 rfl 3 _ rfl _ 2 rfl 1 (Cel.host h) rfl _ rfl _ Tryz.underlying3 rfl ?_)
    | (refine S.load1 rfl 3 _ rfl _ 3 rfl 1 (Cel.host h) rfl _ rfl _ Tryz.underlying3 rfl ?_)
    | (refine S.load1 rfl 3 _ rfl _ 4 rfl 1 (Cel.host h) rfl _ rfl _ Tryz.underlying3 rfl ?_)
    | (refine S.load1 rfl 26 _ rfl _ 5 rfl 1 (Cel.host h) rfl _ rfl _ Tryz.underlying26 rfl ?_)
    | (refine S.load1 rfl 26 _ rfl _ _ rfl 0 (Cel.regs R) rfl _ (rc_at HA.out) _ Tryz.underlying26 rfl ?_)
    | (refine S.load1 rfl 26 _ rfl _ _ rfl 0 (Cel.regs R) rfl _ (rc_at HB.out) _ Tryz.underlying26 rfl ?_)
    | (refine S.load1 rfl 26 _ rfl _ _ rfl 0 (Cel.regs R) rfl _ (rc_at HC.out) _ Tryz.underlying26 rfl ?_))
  go_ret
  exact ⟨by simp [reckS, IntKind.wrap_u32], S.low⟩
set_option maxHeartbeats 2000000 in
set_option maxRecDepth 100000 in
theorem rrk13_c (h : HV) (R : List Int) (ho : HOk h) (hR : okR R) (hop : h.op = 13) (w : World) : Calls Tryz.prog 32 #[(Cel.host h).val, (Cel.regs R).val] w fun e w' => e = .returned (.int .u32 (reckS 13 (regv R h.a) (regv R h.b) (regv R h.c) h.im)) ∧ Below w.heap.size w w' := by
  have S := SH.start w
  obtain ⟨⟨d0, d1⟩, ⟨a0, a1⟩, ⟨b0, b1⟩, ⟨c0, c1⟩, i0, i1⟩ := ho
  obtain ⟨hA, ua, va⟩ := regv_at hR a0 a1
  obtain ⟨hB, ub, vb⟩ := regv_at hR b0 b1
  obtain ⟨hC, uc, vc⟩ := regv_at hR c0 c1
  have hl := hR.1
  clear hR
  have HA : Hid (R[h.a.toNat]? = some (regv R h.a)) := hA
  have HB : Hid (R[h.b.toNat]? = some (regv R h.b)) := hB
  have HC : Hid (R[h.c.toNat]? = some (regv R h.c)) := hC
  clear hA hB hC
  generalize regv R h.a = x at *
  generalize regv R h.b = y at *
  generalize regv R h.c = z at *
  have e31 : bits .and .u32 y 31 = y % 32 := and_low5 y ub vb
  have ew : IntKind.i64.wrap (y % 32) = y % 32 := by rw [IntKind.wrap_i64]; omega
  have n0 : 0 ≤ y % 32 := by omega
  have n1 : y % 32 < 32 := by omega
  have hop0 : (Cel.host h).cells[0]? = some (.int .i64 13) := by simp [Cel.cells, hop]
  have CS : Hid (∀ w1, Calls Tryz.prog 81 #[.int .u32 x, .int .u32 y, .bool false] w1 fun e w' => e = .returned (.tuple #[.int .u32 (mulS x y false % 4294967296), .int .u32 (mulS x y false / 4294967296 % 4294967296)]) ∧ w' = w1) := fun w1 => rMul_c x y false ua va ub vb w1
  rw [show reckS 13 x y z h.im = mulS x y false / 4294967296 % 4294967296 by simp [reckS]]
  generalize mulS x y false % 4294967296 = s1 at *
  generalize mulS x y false / 4294967296 % 4294967296 = s2 at *
  go_enter Tryz.func32, Tryz.ntmps32
  go_wp2_with (first
    | (refine S.box rfl _ _ rfl (Cel.host h) rfl ?_; clear S; intro q1 w1 S)
    | (refine S.box rfl _ _ rfl (Cel.regs R) rfl ?_; clear S; intro q2 w2 S))
  refine Upto.start (S := fun w' => SH noZ w w' [(q2, Cel.regs R), (q1, Cel.host h)]) 9 (by kernel_rfl) ?_
  replace S := S.drew
  refine Upto.take (i := 0) (oi := { dst := some 16, op := Op.fieldAddr 31 (Operand.tmp 2) 2, type := 0, pos := "sourdineref5.go:147", after := #[], guard := none }) (v := ?_) rfl (by kernel_rfl) (by kernel_rfl) (by kernel_rfl) (by kernel_rfl) (fun _ _ _ h => h) (Or.inl ⟨by rfl, ?_⟩) (by exact S) ?_
  rotate_left 1
  · intro w hSw
    clear hSw
    go_simp
    try with_reducible rfl
  simp only [Act.put, List.setIfInBounds_toArray, List.set_cons_zero, List.set_cons_succ]
  refine Upto.take (i := 1) (oi := { dst := some 17, op := Op.load 3 (Operand.tmp 16), type := 3, pos := "sourdineref5.go:147", after := #[{ on := 0, ground := Ground.data }], guard := none }) (v := _) rfl (by kernel_rfl) (by kernel_rfl) (by kernel_rfl) (by kernel_rfl) (fun _ _ _ h => h) (y_load1 (by rfl) _ _ rfl _ _ rfl 1 _ rfl _ rfl _ Tryz.underlying3 rfl) (by exact S) ?_
  simp only [Act.put, List.setIfInBounds_toArray, List.set_cons_zero, List.set_cons_succ]
  refine Upto.take (i := 2) (oi := { dst := some 18, op := Op.indexAddr 27 (Operand.tmp 3) (Operand.tmp 17), type := 0, pos := "sourdineref5.go:147", after := #[{ on := 1, ground := Ground.data }], guard := none }) (v := ?_) rfl (by kernel_rfl) (by kernel_rfl) (by kernel_rfl) (by kernel_rfl) (fun _ _ _ h => h) (Or.inl ⟨by rfl, ?_⟩) (by exact S) ?_
  rotate_left 1
  · intro w hSw
    clear hSw
    go_simp
    try with_reducible rfl
  simp only [Act.put, List.setIfInBounds_toArray, List.set_cons_zero, List.set_cons_succ]
  refine Upto.take (i := 3) (oi := { dst := some 19, op := Op.load 26 (Operand.tmp 18), type := 26, pos := "sourdineref5.go:147", after := #[{ on := 2, ground := Ground.data }], guard := none }) (v := _) rfl (by kernel_rfl) (by kernel_rfl) (by kernel_rfl) (by kernel_rfl) (fun _ _ _ h => h) (y_load1 (by rfl) _ _ rfl _ _ rfl 0 _ rfl _ (rc_at HA.out) _ Tryz.underlying26 rfl) (by exact S) ?_
  simp only [Act.put, List.setIfInBounds_toArray, List.set_cons_zero, List.set_cons_succ]
  refine Upto.take (i := 4) (oi := { dst := some 20, op := Op.fieldAddr 31 (Operand.tmp 2) 3, type := 0, pos := "sourdineref5.go:147", after := #[{ on := 8, ground := Ground.gcOnly Departure.lateStores }], guard := none }) (v := ?_) rfl (by kernel_rfl) (by kernel_rfl) (by kernel_rfl) (by kernel_rfl) (fun _ _ _ h => h) (Or.inl ⟨by rfl, ?_⟩) (by exact S) ?_
  rotate_left 1
  · intro w hSw
    clear hSw
    go_simp
    try with_reducible rfl
  simp only [Act.put, List.setIfInBounds_toArray, List.set_cons_zero, List.set_cons_succ]
  refine Upto.take (i := 5) (oi := { dst := some 21, op := Op.load 3 (Operand.tmp 20), type := 3, pos := "sourdineref5.go:147", after := #[{ on := 4, ground := Ground.data }, { on := 8, ground := Ground.gcOnly Departure.lateStores }], guard := none }) (v := _) rfl (by kernel_rfl) (by kernel_rfl) (by kernel_rfl) (by kernel_rfl) (fun _ _ _ h => h) (y_load1 (by rfl) _ _ rfl _ _ rfl 1 _ rfl _ rfl _ Tryz.underlying3 rfl) (by exact S) ?_
  simp only [Act.put, List.setIfInBounds_toArray, List.set_cons_zero, List.set_cons_succ]
  refine Upto.take (i := 6) (oi := { dst := some 22, op := Op.indexAddr 27 (Operand.tmp 3) (Operand.tmp 21), type := 0, pos := "sourdineref5.go:147", after := #[{ on := 5, ground := Ground.data }, { on := 8, ground := Ground.gcOnly Departure.lateStores }], guard := none }) (v := ?_) rfl (by kernel_rfl) (by kernel_rfl) (by kernel_rfl) (by kernel_rfl) (fun _ _ _ h => h) (Or.inl ⟨by rfl, ?_⟩) (by exact S) ?_
  rotate_left 1
  · intro w hSw
    clear hSw
    go_simp
    try with_reducible rfl
  simp only [Act.put, List.setIfInBounds_toArray, List.set_cons_zero, List.set_cons_succ]
  refine Upto.take (i := 7) (oi := { dst := some 23, op := Op.load 26 (Operand.tmp 22), type := 26, pos := "sourdineref5.go:147", after := #[{ on := 6, ground := Ground.data }, { on := 8, ground := Ground.gcOnly Departure.lateStores }], guard := none }) (v := _) rfl (by kernel_rfl) (by kernel_rfl) (by kernel_rfl) (by kernel_rfl) (fun _ _ _ h => h) (y_load1 (by rfl) _ _ rfl _ _ rfl 0 _ rfl _ (rc_at HB.out) _ Tryz.underlying26 rfl) (by exact S) ?_
  simp only [Act.put, List.setIfInBounds_toArray, List.set_cons_zero, List.set_cons_succ]
  refine Upto.take (i := 8) (oi := { dst := some 5, op := Op.assign (Operand.tmp 19), type := 26, pos := "sourdineref5.go:147", after := #[{ on := 3, ground := Ground.data }, { on := 0, ground := Ground.phase }, { on := 1, ground := Ground.phase }, { on := 2, ground := Ground.phase }, { on := 3, ground := Ground.phase }, { on := 4, ground := Ground.textOnly Departure.lateStores }, { on := 5, ground := Ground.textOnly Departure.lateStores }, { on := 6, ground := Ground.textOnly Departure.lateStores }, { on := 7, ground := Ground.textOnly Departure.lateStores }], guard := none }) (v := ?_) rfl (by kernel_rfl) (by kernel_rfl) (by kernel_rfl) (by kernel_rfl) (fun _ _ _ h => h) (Or.inl ⟨by rfl, ?_⟩) (by exact S) ?_
  rotate_left 1
  · intro w hSw
    clear hSw
    go_simp
    try with_reducible rfl
  simp only [Act.put, List.setIfInBounds_toArray, List.set_cons_zero, List.set_cons_succ]
  refine Upto.ready (rs := [9]) (by kernel_rfl) (by simp) ?_
  refine Nexts.last rfl (fun K hK => ?_)
  go_simp
  refine hK.out _ _ ?_
  clear hK K
  refine Upto.done (by kernel_rfl) ?_ _
  go_wp2_with (first
    | (refine S.load1 rfl 3 _ rfl _ 0 rfl 1 (Cel.host h) rfl _ hop0 _ Tryz.underlying3 rfl ?_)
    | (refine S.load1 rfl 3 _ rfl _ 2 rfl 1 (Cel.host h) rfl _ rfl _ Tryz.underlying3 rfl ?_)
    | (refine S.load1 rfl 3 _ rfl _ 3 rfl 1 (Cel.host h) rfl _ rfl _ Tryz.underlying3 rfl ?_)
    | (refine S.load1 rfl 3 _ rfl _ 4 rfl 1 (Cel.host h) rfl _ rfl _ Tryz.underlying3 rfl ?_)
    | (refine S.load1 rfl 26 _ rfl _ 5 rfl 1 (Cel.host h) rfl _ rfl _ Tryz.underlying26 rfl ?_)
    | (refine S.load1 rfl 26 _ rfl _ _ rfl 0 (Cel.regs R) rfl _ (rc_at HA.out) _ Tryz.underlying26 rfl ?_)
    | (refine S.load1 rfl 26 _ rfl _ _ rfl 0 (Cel.regs R) rfl _ (rc_at HB.out) _ Tryz.underlying26 rfl ?_)
    | (refine S.load1 rfl 26 _ rfl _ _ rfl 0 (Cel.regs R) rfl _ (rc_at HC.out) _ Tryz.underlying26 rfl ?_)
    | (refine (CS.out _).mono ?_; rintro e w8 ⟨rfl, rfl⟩))
  go_ret
  exact ⟨rfl, S.low⟩
set_option maxHeartbeats 2000000 in
set_option maxRecDepth 100000 in
theorem rrk14_c (h : HV) (R : List Int) (ho : HOk h) (hR : okR R) (hop : h.op = 14) (w : World) : Calls Tryz.prog 32 #[(Cel.host h).val, (Cel.regs R).val] w fun e w' => e = .returned (.int .u32 (reckS 14 (regv R h.a) (regv R h.b) (regv R h.c) h.im)) ∧ Below w.heap.size w w' := by
  have S := SH.start w
  obtain ⟨⟨d0, d1⟩, ⟨a0, a1⟩, ⟨b0, b1⟩, ⟨c0, c1⟩, i0, i1⟩ := ho
  obtain ⟨hA, ua, va⟩ := regv_at hR a0 a1
  obtain ⟨hB, ub, vb⟩ := regv_at hR b0 b1
  obtain ⟨hC, uc, vc⟩ := regv_at hR c0 c1
  have hl := hR.1
  clear hR
  have HA : Hid (R[h.a.toNat]? = some (regv R h.a)) := hA
  have HB : Hid (R[h.b.toNat]? = some (regv R h.b)) := hB
  have HC : Hid (R[h.c.toNat]? = some (regv R h.c)) := hC
  clear hA hB hC
  generalize regv R h.a = x at *
  generalize regv R h.b = y at *
  generalize regv R h.c = z at *
  have e31 : bits .and .u32 y 31 = y % 32 := and_low5 y ub vb
  have ew : IntKind.i64.wrap (y % 32) = y % 32 := by rw [IntKind.wrap_i64]; omega
  have n0 : 0 ≤ y % 32 := by omega
  have n1 : y % 32 < 32 := by omega
  have hop0 : (Cel.host h).cells[0]? = some (.int .i64 14) := by simp [Cel.cells, hop]
  have CS : Hid (∀ w1, Calls Tryz.prog 81 #[.int .u32 x, .int .u32 y, .bool true] w1 fun e w' => e = .returned (.tuple #[.int .u32 (mulS x y true % 4294967296), .int .u32 (mulS x y true / 4294967296 % 4294967296)]) ∧ w' = w1) := fun w1 => rMul_c x y true ua va ub vb w1
  rw [show reckS 14 x y z h.im = mulS x y true / 4294967296 % 4294967296 by simp [reckS]]
  generalize mulS x y true % 4294967296 = s1 at *
  generalize mulS x y true / 4294967296 % 4294967296 = s2 at *
  go_enter Tryz.func32, Tryz.ntmps32
  go_wp2_with (first
    | (refine S.box rfl _ _ rfl (Cel.host h) rfl ?_; clear S; intro q1 w1 S)
    | (refine S.box rfl _ _ rfl (Cel.regs R) rfl ?_; clear S; intro q2 w2 S))
  refine Upto.start (S := fun w' => SH noZ w w' [(q2, Cel.regs R), (q1, Cel.host h)]) 9 (by kernel_rfl) ?_
  replace S := S.drew
  refine Upto.take (i := 0) (oi := { dst := some 16, op := Op.fieldAddr 31 (Operand.tmp 2) 2, type := 0, pos := "sourdineref5.go:147", after := #[], guard := none }) (v := ?_) rfl (by kernel_rfl) (by kernel_rfl) (by kernel_rfl) (by kernel_rfl) (fun _ _ _ h => h) (Or.inl ⟨by rfl, ?_⟩) (by exact S) ?_
  rotate_left 1
  · intro w hSw
    clear hSw
    go_simp
    try with_reducible rfl
  simp only [Act.put, List.setIfInBounds_toArray, List.set_cons_zero, List.set_cons_succ]
  refine Upto.take (i := 1) (oi := { dst := some 17, op := Op.load 3 (Operand.tmp 16), type := 3, pos := "sourdineref5.go:147", after := #[{ on := 0, ground := Ground.data }], guard := none }) (v := _) rfl (by kernel_rfl) (by kernel_rfl) (by kernel_rfl) (by kernel_rfl) (fun _ _ _ h => h) (y_load1 (by rfl) _ _ rfl _ _ rfl 1 _ rfl _ rfl _ Tryz.underlying3 rfl) (by exact S) ?_
  simp only [Act.put, List.setIfInBounds_toArray, List.set_cons_zero, List.set_cons_succ]
  refine Upto.take (i := 2) (oi := { dst := some 18, op := Op.indexAddr 27 (Operand.tmp 3) (Operand.tmp 17), type := 0, pos := "sourdineref5.go:147", after := #[{ on := 1, ground := Ground.data }], guard := none }) (v := ?_) rfl (by kernel_rfl) (by kernel_rfl) (by kernel_rfl) (by kernel_rfl) (fun _ _ _ h => h) (Or.inl ⟨by rfl, ?_⟩) (by exact S) ?_
  rotate_left 1
  · intro w hSw
    clear hSw
    go_simp
    try with_reducible rfl
  simp only [Act.put, List.setIfInBounds_toArray, List.set_cons_zero, List.set_cons_succ]
  refine Upto.take (i := 3) (oi := { dst := some 19, op := Op.load 26 (Operand.tmp 18), type := 26, pos := "sourdineref5.go:147", after := #[{ on := 2, ground := Ground.data }], guard := none }) (v := _) rfl (by kernel_rfl) (by kernel_rfl) (by kernel_rfl) (by kernel_rfl) (fun _ _ _ h => h) (y_load1 (by rfl) _ _ rfl _ _ rfl 0 _ rfl _ (rc_at HA.out) _ Tryz.underlying26 rfl) (by exact S) ?_
  simp only [Act.put, List.setIfInBounds_toArray, List.set_cons_zero, List.set_cons_succ]
  refine Upto.take (i := 4) (oi := { dst := some 20, op := Op.fieldAddr 31 (Operand.tmp 2) 3, type := 0, pos := "sourdineref5.go:147", after := #[{ on := 8, ground := Ground.gcOnly Departure.lateStores }], guard := none }) (v := ?_) rfl (by kernel_rfl) (by kernel_rfl) (by kernel_rfl) (by kernel_rfl) (fun _ _ _ h => h) (Or.inl ⟨by rfl, ?_⟩) (by exact S) ?_
  rotate_left 1
  · intro w hSw
    clear hSw
    go_simp
    try with_reducible rfl
  simp only [Act.put, List.setIfInBounds_toArray, List.set_cons_zero, List.set_cons_succ]
  refine Upto.take (i := 5) (oi := { dst := some 21, op := Op.load 3 (Operand.tmp 20), type := 3, pos := "sourdineref5.go:147", after := #[{ on := 4, ground := Ground.data }, { on := 8, ground := Ground.gcOnly Departure.lateStores }], guard := none }) (v := _) rfl (by kernel_rfl) (by kernel_rfl) (by kernel_rfl) (by kernel_rfl) (fun _ _ _ h => h) (y_load1 (by rfl) _ _ rfl _ _ rfl 1 _ rfl _ rfl _ Tryz.underlying3 rfl) (by exact S) ?_
  simp only [Act.put, List.setIfInBounds_toArray, List.set_cons_zero, List.set_cons_succ]
  refine Upto.take (i := 6) (oi := { dst := some 22, op := Op.indexAddr 27 (Operand.tmp 3) (Operand.tmp 21), type := 0, pos := "sourdineref5.go:147", after := #[{ on := 5, ground := Ground.data }, { on := 8, ground := Ground.gcOnly Departure.lateStores }], guard := none }) (v := ?_) rfl (by kernel_rfl) (by kernel_rfl) (by kernel_rfl) (by kernel_rfl) (fun _ _ _ h => h) (Or.inl ⟨by rfl, ?_⟩) (by exact S) ?_
  rotate_left 1
  · intro w hSw
    clear hSw
    go_simp
    try with_reducible rfl
  simp only [Act.put, List.setIfInBounds_toArray, List.set_cons_zero, List.set_cons_succ]
  refine Upto.take (i := 7) (oi := { dst := some 23, op := Op.load 26 (Operand.tmp 22), type := 26, pos := "sourdineref5.go:147", after := #[{ on := 6, ground := Ground.data }, { on := 8, ground := Ground.gcOnly Departure.lateStores }], guard := none }) (v := _) rfl (by kernel_rfl) (by kernel_rfl) (by kernel_rfl) (by kernel_rfl) (fun _ _ _ h => h) (y_load1 (by rfl) _ _ rfl _ _ rfl 0 _ rfl _ (rc_at HB.out) _ Tryz.underlying26 rfl) (by exact S) ?_
  simp only [Act.put, List.setIfInBounds_toArray, List.set_cons_zero, List.set_cons_succ]
  refine Upto.take (i := 8) (oi := { dst := some 5, op := Op.assign (Operand.tmp 19), type := 26, pos := "sourdineref5.go:147", after := #[{ on := 3, ground := Ground.data }, { on := 0, ground := Ground.phase }, { on := 1, ground := Ground.phase }, { on := 2, ground := Ground.phase }, { on := 3, ground := Ground.phase }, { on := 4, ground := Ground.textOnly Departure.lateStores }, { on := 5, ground := Ground.textOnly Departure.lateStores }, { on := 6, ground := Ground.textOnly Departure.lateStores }, { on := 7, ground := Ground.textOnly Departure.lateStores }], guard := none }) (v := ?_) rfl (by kernel_rfl) (by kernel_rfl) (by kernel_rfl) (by kernel_rfl) (fun _ _ _ h => h) (Or.inl ⟨by rfl, ?_⟩) (by exact S) ?_
  rotate_left 1
  · intro w hSw
    clear hSw
    go_simp
    try with_reducible rfl
  simp only [Act.put, List.setIfInBounds_toArray, List.set_cons_zero, List.set_cons_succ]
  refine Upto.ready (rs := [9]) (by kernel_rfl) (by simp) ?_
  refine Nexts.last rfl (fun K hK => ?_)
  go_simp
  refine hK.out _ _ ?_
  clear hK K
  refine Upto.done (by kernel_rfl) ?_ _
  go_wp2_with (first
    | (refine S.load1 rfl 3 _ rfl _ 0 rfl 1 (Cel.host h) rfl _ hop0 _ Tryz.underlying3 rfl ?_)
    | (refine S.load1 rfl 3 _ rfl _ 2 rfl 1 (Cel.host h) rfl _ rfl _ Tryz.underlying3 rfl ?_)
    | (refine S.load1 rfl 3 _ rfl _ 3 rfl 1 (Cel.host h) rfl _ rfl _ Tryz.underlying3 rfl ?_)
    | (refine S.load1 rfl 3 _ rfl _ 4 rfl 1 (Cel.host h) rfl _ rfl _ Tryz.underlying3 rfl ?_)
    | (refine S.load1 rfl 26 _ rfl _ 5 rfl 1 (Cel.host h) rfl _ rfl _ Tryz.underlying26 rfl ?_)
    | (refine S.load1 rfl 26 _ rfl _ _ rfl 0 (Cel.regs R) rfl _ (rc_at HA.out) _ Tryz.underlying26 rfl ?_)
    | (refine S.load1 rfl 26 _ rfl _ _ rfl 0 (Cel.regs R) rfl _ (rc_at HB.out) _ Tryz.underlying26 rfl ?_)
    | (refine S.load1 rfl 26 _ rfl _ _ rfl 0 (Cel.regs R) rfl _ (rc_at HC.out) _ Tryz.underlying26 rfl ?_)
    | (refine (CS.out _).mono ?_; rintro e w8 ⟨rfl, rfl⟩))
  go_ret
  exact ⟨rfl, S.low⟩
set_option maxHeartbeats 2000000 in
set_option maxRecDepth 100000 in
theorem rrk15_c (h : HV) (R : List Int) (ho : HOk h) (hR : okR R) (hop : h.op = 15) (w : World) : Calls Tryz.prog 32 #[(Cel.host h).val, (Cel.regs R).val] w fun e w' => e = .returned (.int .u32 (reckS 15 (regv R h.a) (regv R h.b) (regv R h.c) h.im)) ∧ Below w.heap.size w w' := by
  have S := SH.start w
  obtain ⟨⟨d0, d1⟩, ⟨a0, a1⟩, ⟨b0, b1⟩, ⟨c0, c1⟩, i0, i1⟩ := ho
  obtain ⟨hA, ua, va⟩ := regv_at hR a0 a1
  obtain ⟨hB, ub, vb⟩ := regv_at hR b0 b1
  obtain ⟨hC, uc, vc⟩ := regv_at hR c0 c1
  have hl := hR.1
  clear hR
  have HA : Hid (R[h.a.toNat]? = some (regv R h.a)) := hA
  have HB : Hid (R[h.b.toNat]? = some (regv R h.b)) := hB
  have HC : Hid (R[h.c.toNat]? = some (regv R h.c)) := hC
  clear hA hB hC
  generalize regv R h.a = x at *
  generalize regv R h.b = y at *
  generalize regv R h.c = z at *
  have e31 : bits .and .u32 y 31 = y % 32 := and_low5 y ub vb
  have ew : IntKind.i64.wrap (y % 32) = y % 32 := by rw [IntKind.wrap_i64]; omega
  have n0 : 0 ≤ y % 32 := by omega
  have n1 : y % 32 < 32 := by omega
  have hop0 : (Cel.host h).cells[0]? = some (.int .i64 15) := by simp [Cel.cells, hop]
  have CS : Hid (∀ w1, Calls Tryz.prog 82 #[.int .u32 x, .int .u32 y] w1 fun e w' => e = .returned (.int .u32 (divuS x y)) ∧ w' = w1) := fun w1 => rDivu_c x y ua va ub vb w1
  rw [show reckS 15 x y z h.im = divuS x y by simp [reckS]]
  generalize divuS x y = s1 at *
  go_enter Tryz.func32, Tryz.ntmps32
  go_wp2_with (first
    | (refine S.box rfl _ _ rfl (Cel.host h) rfl ?_; clear S; intro q1 w1 S)
    | (refine S.box rfl _ _ rfl (Cel.regs R) rfl ?_; clear S; intro q2 w2 S))
  refine Upto.start (S := fun w' => SH noZ w w' [(q2, Cel.regs R), (q1, Cel.host h)]) 9 (by kernel_rfl) ?_
  replace S := S.drew
  refine Upto.take (i := 0) (oi := { dst := some 16, op := Op.fieldAddr 31 (Operand.tmp 2) 2, type := 0, pos := "sourdineref5.go:147", after := #[], guard := none }) (v := ?_) rfl (by kernel_rfl) (by kernel_rfl) (by kernel_rfl) (by kernel_rfl) (fun _ _ _ h => h) (Or.inl ⟨by rfl, ?_⟩) (by exact S) ?_
  rotate_left 1
  · intro w hSw
    clear hSw
    go_simp
    try with_reducible rfl
  simp only [Act.put, List.setIfInBounds_toArray, List.set_cons_zero, List.set_cons_succ]
  refine Upto.take (i := 1) (oi := { dst := some 17, op := Op.load 3 (Operand.tmp 16), type := 3, pos := "sourdineref5.go:147", after := #[{ on := 0, ground := Ground.data }], guard := none }) (v := _) rfl (by kernel_rfl) (by kernel_rfl) (by kernel_rfl) (by kernel_rfl) (fun _ _ _ h => h) (y_load1 (by rfl) _ _ rfl _ _ rfl 1 _ rfl _ rfl _ Tryz.underlying3 rfl) (by exact S) ?_
  simp only [Act.put, List.setIfInBounds_toArray, List.set_cons_zero, List.set_cons_succ]
  refine Upto.take (i := 2) (oi := { dst := some 18, op := Op.indexAddr 27 (Operand.tmp 3) (Operand.tmp 17), type := 0, pos := "sourdineref5.go:147", after := #[{ on := 1, ground := Ground.data }], guard := none }) (v := ?_) rfl (by kernel_rfl) (by kernel_rfl) (by kernel_rfl) (by kernel_rfl) (fun _ _ _ h => h) (Or.inl ⟨by rfl, ?_⟩) (by exact S) ?_
  rotate_left 1
  · intro w hSw
    clear hSw
    go_simp
    try with_reducible rfl
  simp only [Act.put, List.setIfInBounds_toArray, List.set_cons_zero, List.set_cons_succ]
  refine Upto.take (i := 3) (oi := { dst := some 19, op := Op.load 26 (Operand.tmp 18), type := 26, pos := "sourdineref5.go:147", after := #[{ on := 2, ground := Ground.data }], guard := none }) (v := _) rfl (by kernel_rfl) (by kernel_rfl) (by kernel_rfl) (by kernel_rfl) (fun _ _ _ h => h) (y_load1 (by rfl) _ _ rfl _ _ rfl 0 _ rfl _ (rc_at HA.out) _ Tryz.underlying26 rfl) (by exact S) ?_
  simp only [Act.put, List.setIfInBounds_toArray, List.set_cons_zero, List.set_cons_succ]
  refine Upto.take (i := 4) (oi := { dst := some 20, op := Op.fieldAddr 31 (Operand.tmp 2) 3, type := 0, pos := "sourdineref5.go:147", after := #[{ on := 8, ground := Ground.gcOnly Departure.lateStores }], guard := none }) (v := ?_) rfl (by kernel_rfl) (by kernel_rfl) (by kernel_rfl) (by kernel_rfl) (fun _ _ _ h => h) (Or.inl ⟨by rfl, ?_⟩) (by exact S) ?_
  rotate_left 1
  · intro w hSw
    clear hSw
    go_simp
    try with_reducible rfl
  simp only [Act.put, List.setIfInBounds_toArray, List.set_cons_zero, List.set_cons_succ]
  refine Upto.take (i := 5) (oi := { dst := some 21, op := Op.load 3 (Operand.tmp 20), type := 3, pos := "sourdineref5.go:147", after := #[{ on := 4, ground := Ground.data }, { on := 8, ground := Ground.gcOnly Departure.lateStores }], guard := none }) (v := _) rfl (by kernel_rfl) (by kernel_rfl) (by kernel_rfl) (by kernel_rfl) (fun _ _ _ h => h) (y_load1 (by rfl) _ _ rfl _ _ rfl 1 _ rfl _ rfl _ Tryz.underlying3 rfl) (by exact S) ?_
  simp only [Act.put, List.setIfInBounds_toArray, List.set_cons_zero, List.set_cons_succ]
  refine Upto.take (i := 6) (oi := { dst := some 22, op := Op.indexAddr 27 (Operand.tmp 3) (Operand.tmp 21), type := 0, pos := "sourdineref5.go:147", after := #[{ on := 5, ground := Ground.data }, { on := 8, ground := Ground.gcOnly Departure.lateStores }], guard := none }) (v := ?_) rfl (by kernel_rfl) (by kernel_rfl) (by kernel_rfl) (by kernel_rfl) (fun _ _ _ h => h) (Or.inl ⟨by rfl, ?_⟩) (by exact S) ?_
  rotate_left 1
  · intro w hSw
    clear hSw
    go_simp
    try with_reducible rfl
  simp only [Act.put, List.setIfInBounds_toArray, List.set_cons_zero, List.set_cons_succ]
  refine Upto.take (i := 7) (oi := { dst := some 23, op := Op.load 26 (Operand.tmp 22), type := 26, pos := "sourdineref5.go:147", after := #[{ on := 6, ground := Ground.data }, { on := 8, ground := Ground.gcOnly Departure.lateStores }], guard := none }) (v := _) rfl (by kernel_rfl) (by kernel_rfl) (by kernel_rfl) (by kernel_rfl) (fun _ _ _ h => h) (y_load1 (by rfl) _ _ rfl _ _ rfl 0 _ rfl _ (rc_at HB.out) _ Tryz.underlying26 rfl) (by exact S) ?_
  simp only [Act.put, List.setIfInBounds_toArray, List.set_cons_zero, List.set_cons_succ]
  refine Upto.take (i := 8) (oi := { dst := some 5, op := Op.assign (Operand.tmp 19), type := 26, pos := "sourdineref5.go:147", after := #[{ on := 3, ground := Ground.data }, { on := 0, ground := Ground.phase }, { on := 1, ground := Ground.phase }, { on := 2, ground := Ground.phase }, { on := 3, ground := Ground.phase }, { on := 4, ground := Ground.textOnly Departure.lateStores }, { on := 5, ground := Ground.textOnly Departure.lateStores }, { on := 6, ground := Ground.textOnly Departure.lateStores }, { on := 7, ground := Ground.textOnly Departure.lateStores }], guard := none }) (v := ?_) rfl (by kernel_rfl) (by kernel_rfl) (by kernel_rfl) (by kernel_rfl) (fun _ _ _ h => h) (Or.inl ⟨by rfl, ?_⟩) (by exact S) ?_
  rotate_left 1
  · intro w hSw
    clear hSw
    go_simp
    try with_reducible rfl
  simp only [Act.put, List.setIfInBounds_toArray, List.set_cons_zero, List.set_cons_succ]
  refine Upto.ready (rs := [9]) (by kernel_rfl) (by simp) ?_
  refine Nexts.last rfl (fun K hK => ?_)
  go_simp
  refine hK.out _ _ ?_
  clear hK K
  refine Upto.done (by kernel_rfl) ?_ _
  go_wp2_with (first
    | (refine S.load1 rfl 3 _ rfl _ 0 rfl 1 (Cel.host h) rfl _ hop0 _ Tryz.underlying3 rfl ?_)
    | (refine S.load1 rfl 3 _ rfl _ 2 rfl 1 (Cel.host h) rfl _ rfl _ Tryz.underlying3 rfl ?_)
    | (refine S.load1 rfl 3 _ rfl _ 3 rfl 1 (Cel.host h) rfl _ rfl _ Tryz.underlying3 rfl ?_)
    | (refine S.load1 rfl 3 _ rfl _ 4 rfl 1 (Cel.host h) rfl _ rfl _ Tryz.underlying3 rfl ?_)
    | (refine S.load1 rfl 26 _ rfl _ 5 rfl 1 (Cel.host h) rfl _ rfl _ Tryz.underlying26 rfl ?_)
    | (refine S.load1 rfl 26 _ rfl _ _ rfl 0 (Cel.regs R) rfl _ (rc_at HA.out) _ Tryz.underlying26 rfl ?_)
    | (refine S.load1 rfl 26 _ rfl _ _ rfl 0 (Cel.regs R) rfl _ (rc_at HB.out) _ Tryz.underlying26 rfl ?_)
    | (refine S.load1 rfl 26 _ rfl _ _ rfl 0 (Cel.regs R) rfl _ (rc_at HC.out) _ Tryz.underlying26 rfl ?_)
    | (refine (CS.out _).mono ?_; rintro e w8 ⟨rfl, rfl⟩))
  go_ret
  exact ⟨rfl, S.low⟩
set_option maxHeartbeats 2000000 in
set_option maxRecDepth 100000 in
theorem rrk16_c (h : HV) (R : List Int) (ho : HOk h) (hR : okR R) (hop : h.op = 16) (w : World) : Calls Tryz.prog 32 #[(Cel.host h).val, (Cel.regs R).val] w fun e w' => e = .returned (.int .u32 (reckS 16 (regv R h.a) (regv R h.b) (regv R h.c) h.im)) ∧ Below w.heap.size w w' := by
  have S := SH.start w
  obtain ⟨⟨d0, d1⟩, ⟨a0, a1⟩, ⟨b0, b1⟩, ⟨c0, c1⟩, i0, i1⟩ := ho
  obtain ⟨hA, ua, va⟩ := regv_at hR a0 a1
  obtain ⟨hB, ub, vb⟩ := regv_at hR b0 b1
  obtain ⟨hC, uc, vc⟩ := regv_at hR c0 c1
  have hl := hR.1
  clear hR
  have HA : Hid (R[h.a.toNat]? = some (regv R h.a)) := hA
  have HB : Hid (R[h.b.toNat]? = some (regv R h.b)) := hB
  have HC : Hid (R[h.c.toNat]? = some (regv R h.c)) := hC
  clear hA hB hC
  generalize regv R h.a = x at *
  generalize regv R h.b = y at *
  generalize regv R h.c = z at *
  have e31 : bits .and .u32 y 31 = y % 32 := and_low5 y ub vb
  have ew : IntKind.i64.wrap (y % 32) = y % 32 := by rw [IntKind.wrap_i64]; omega
  have n0 : 0 ≤ y % 32 := by omega
  have n1 : y % 32 < 32 := by omega
  have hop0 : (Cel.host h).cells[0]? = some (.int .i64 16) := by simp [Cel.cells, hop]
  have CS : Hid (∀ w1, Calls Tryz.prog 83 #[.int .u32 x, .int .u32 y] w1 fun e w' => e = .returned (.int .u32 (divsS x y)) ∧ w' = w1) := fun w1 => rDivs_c x y ua va ub vb w1
  rw [show reckS 16 x y z h.im = divsS x y by simp [reckS]]
  generalize divsS x y = s1 at *
  go_enter Tryz.func32, Tryz.ntmps32
  go_wp2_with (first
    | (refine S.box rfl _ _ rfl (Cel.host h) rfl ?_; clear S; intro q1 w1 S)
    | (refine S.box rfl _ _ rfl (Cel.regs R) rfl ?_; clear S; intro q2 w2 S))
  refine Upto.start (S := fun w' => SH noZ w w' [(q2, Cel.regs R), (q1, Cel.host h)]) 9 (by kernel_rfl) ?_
  replace S := S.drew
  refine Upto.take (i := 0) (oi := { dst := some 16, op := Op.fieldAddr 31 (Operand.tmp 2) 2, type := 0, pos := "sourdineref5.go:147", after := #[], guard := none }) (v := ?_) rfl (by kernel_rfl) (by kernel_rfl) (by kernel_rfl) (by kernel_rfl) (fun _ _ _ h => h) (Or.inl ⟨by rfl, ?_⟩) (by exact S) ?_
  rotate_left 1
  · intro w hSw
    clear hSw
    go_simp
    try with_reducible rfl
  simp only [Act.put, List.setIfInBounds_toArray, List.set_cons_zero, List.set_cons_succ]
  refine Upto.take (i := 1) (oi := { dst := some 17, op := Op.load 3 (Operand.tmp 16), type := 3, pos := "sourdineref5.go:147", after := #[{ on := 0, ground := Ground.data }], guard := none }) (v := _) rfl (by kernel_rfl) (by kernel_rfl) (by kernel_rfl) (by kernel_rfl) (fun _ _ _ h => h) (y_load1 (by rfl) _ _ rfl _ _ rfl 1 _ rfl _ rfl _ Tryz.underlying3 rfl) (by exact S) ?_
  simp only [Act.put, List.setIfInBounds_toArray, List.set_cons_zero, List.set_cons_succ]
  refine Upto.take (i := 2) (oi := { dst := some 18, op := Op.indexAddr 27 (Operand.tmp 3) (Operand.tmp 17), type := 0, pos := "sourdineref5.go:147", after := #[{ on := 1, ground := Ground.data }], guard := none }) (v := ?_) rfl (by kernel_rfl) (by kernel_rfl) (by kernel_rfl) (by kernel_rfl) (fun _ _ _ h => h) (Or.inl ⟨by rfl, ?_⟩) (by exact S) ?_
  rotate_left 1
  · intro w hSw
    clear hSw
    go_simp
    try with_reducible rfl
  simp only [Act.put, List.setIfInBounds_toArray, List.set_cons_zero, List.set_cons_succ]
  refine Upto.take (i := 3) (oi := { dst := some 19, op := Op.load 26 (Operand.tmp 18), type := 26, pos := "sourdineref5.go:147", after := #[{ on := 2, ground := Ground.data }], guard := none }) (v := _) rfl (by kernel_rfl) (by kernel_rfl) (by kernel_rfl) (by kernel_rfl) (fun _ _ _ h => h) (y_load1 (by rfl) _ _ rfl _ _ rfl 0 _ rfl _ (rc_at HA.out) _ Tryz.underlying26 rfl) (by exact S) ?_
  simp only [Act.put, List.setIfInBounds_toArray, List.set_cons_zero, List.set_cons_succ]
  refine Upto.take (i := 4) (oi := { dst := some 20, op := Op.fieldAddr 31 (Operand.tmp 2) 3, type := 0, pos := "sourdineref5.go:147", after := #[{ on := 8, ground := Ground.gcOnly Departure.lateStores }], guard := none }) (v := ?_) rfl (by kernel_rfl) (by kernel_rfl) (by kernel_rfl) (by kernel_rfl) (fun _ _ _ h => h) (Or.inl ⟨by rfl, ?_⟩) (by exact S) ?_
  rotate_left 1
  · intro w hSw
    clear hSw
    go_simp
    try with_reducible rfl
  simp only [Act.put, List.setIfInBounds_toArray, List.set_cons_zero, List.set_cons_succ]
  refine Upto.take (i := 5) (oi := { dst := some 21, op := Op.load 3 (Operand.tmp 20), type := 3, pos := "sourdineref5.go:147", after := #[{ on := 4, ground := Ground.data }, { on := 8, ground := Ground.gcOnly Departure.lateStores }], guard := none }) (v := _) rfl (by kernel_rfl) (by kernel_rfl) (by kernel_rfl) (by kernel_rfl) (fun _ _ _ h => h) (y_load1 (by rfl) _ _ rfl _ _ rfl 1 _ rfl _ rfl _ Tryz.underlying3 rfl) (by exact S) ?_
  simp only [Act.put, List.setIfInBounds_toArray, List.set_cons_zero, List.set_cons_succ]
  refine Upto.take (i := 6) (oi := { dst := some 22, op := Op.indexAddr 27 (Operand.tmp 3) (Operand.tmp 21), type := 0, pos := "sourdineref5.go:147", after := #[{ on := 5, ground := Ground.data }, { on := 8, ground := Ground.gcOnly Departure.lateStores }], guard := none }) (v := ?_) rfl (by kernel_rfl) (by kernel_rfl) (by kernel_rfl) (by kernel_rfl) (fun _ _ _ h => h) (Or.inl ⟨by rfl, ?_⟩) (by exact S) ?_
  rotate_left 1
  · intro w hSw
    clear hSw
    go_simp
    try with_reducible rfl
  simp only [Act.put, List.setIfInBounds_toArray, List.set_cons_zero, List.set_cons_succ]
  refine Upto.take (i := 7) (oi := { dst := some 23, op := Op.load 26 (Operand.tmp 22), type := 26, pos := "sourdineref5.go:147", after := #[{ on := 6, ground := Ground.data }, { on := 8, ground := Ground.gcOnly Departure.lateStores }], guard := none }) (v := _) rfl (by kernel_rfl) (by kernel_rfl) (by kernel_rfl) (by kernel_rfl) (fun _ _ _ h => h) (y_load1 (by rfl) _ _ rfl _ _ rfl 0 _ rfl _ (rc_at HB.out) _ Tryz.underlying26 rfl) (by exact S) ?_
  simp only [Act.put, List.setIfInBounds_toArray, List.set_cons_zero, List.set_cons_succ]
  refine Upto.take (i := 8) (oi := { dst := some 5, op := Op.assign (Operand.tmp 19), type := 26, pos := "sourdineref5.go:147", after := #[{ on := 3, ground := Ground.data }, { on := 0, ground := Ground.phase }, { on := 1, ground := Ground.phase }, { on := 2, ground := Ground.phase }, { on := 3, ground := Ground.phase }, { on := 4, ground := Ground.textOnly Departure.lateStores }, { on := 5, ground := Ground.textOnly Departure.lateStores }, { on := 6, ground := Ground.textOnly Departure.lateStores }, { on := 7, ground := Ground.textOnly Departure.lateStores }], guard := none }) (v := ?_) rfl (by kernel_rfl) (by kernel_rfl) (by kernel_rfl) (by kernel_rfl) (fun _ _ _ h => h) (Or.inl ⟨by rfl, ?_⟩) (by exact S) ?_
  rotate_left 1
  · intro w hSw
    clear hSw
    go_simp
    try with_reducible rfl
  simp only [Act.put, List.setIfInBounds_toArray, List.set_cons_zero, List.set_cons_succ]
  refine Upto.ready (rs := [9]) (by kernel_rfl) (by simp) ?_
  refine Nexts.last rfl (fun K hK => ?_)
  go_simp
  refine hK.out _ _ ?_
  clear hK K
  refine Upto.done (by kernel_rfl) ?_ _
  go_wp2_with (first
    | (refine S.load1 rfl 3 _ rfl _ 0 rfl 1 (Cel.host h) rfl _ hop0 _ Tryz.underlying3 rfl ?_)
    | (refine S.load1 rfl 3 _ rfl _ 2 rfl 1 (Cel.host h) rfl _ rfl _ Tryz.underlying3 rfl ?_)
    | (refine S.load1 rfl 3 _ rfl _ 3 rfl 1 (Cel.host h) rfl _ rfl _ Tryz.underlying3 rfl ?_)
    | (refine S.load1 rfl 3 _ rfl _ 4 rfl 1 (Cel.host h) rfl _ rfl _ Tryz.underlying3 rfl ?_)
    | (refine S.load1 rfl 26 _ rfl _ 5 rfl 1 (Cel.host h) rfl _ rfl _ Tryz.underlying26 rfl ?_)
    | (refine S.load1 rfl 26 _ rfl _ _ rfl 0 (Cel.regs R) rfl _ (rc_at HA.out) _ Tryz.underlying26 rfl ?_)
    | (refine S.load1 rfl 26 _ rfl _ _ rfl 0 (Cel.regs R) rfl _ (rc_at HB.out) _ Tryz.underlying26 rfl ?_)
    | (refine S.load1 rfl 26 _ rfl _ _ rfl 0 (Cel.regs R) rfl _ (rc_at HC.out) _ Tryz.underlying26 rfl ?_)
    | (refine (CS.out _).mono ?_; rintro e w8 ⟨rfl, rfl⟩))
  go_ret
  exact ⟨rfl, S.low⟩
set_option maxHeartbeats 2000000 in
set_option maxRecDepth 100000 in
theorem rrk17_c (h : HV) (R : List Int) (ho : HOk h) (hR : okR R) (hop : h.op = 17) (w : World) : Calls Tryz.prog 32 #[(Cel.host h).val, (Cel.regs R).val] w fun e w' => e = .returned (.int .u32 (reckS 17 (regv R h.a) (regv R h.b) (regv R h.c) h.im)) ∧ Below w.heap.size w w' := by
  have S := SH.start w
  obtain ⟨⟨d0, d1⟩, ⟨a0, a1⟩, ⟨b0, b1⟩, ⟨c0, c1⟩, i0, i1⟩ := ho
  obtain ⟨hA, ua, va⟩ := regv_at hR a0 a1
  obtain ⟨hB, ub, vb⟩ := regv_at hR b0 b1
  obtain ⟨hC, uc, vc⟩ := regv_at hR c0 c1
  have hl := hR.1
  clear hR
  have HA : Hid (R[h.a.toNat]? = some (regv R h.a)) := hA
  have HB : Hid (R[h.b.toNat]? = some (regv R h.b)) := hB
  have HC : Hid (R[h.c.toNat]? = some (regv R h.c)) := hC
  clear hA hB hC
  generalize regv R h.a = x at *
  generalize regv R h.b = y at *
  generalize regv R h.c = z at *
  have e31 : bits .and .u32 y 31 = y % 32 := and_low5 y ub vb
  have ew : IntKind.i64.wrap (y % 32) = y % 32 := by rw [IntKind.wrap_i64]; omega
  have n0 : 0 ≤ y % 32 := by omega
  have n1 : y % 32 < 32 := by omega
  have hop0 : (Cel.host h).cells[0]? = some (.int .i64 17) := by simp [Cel.cells, hop]
  have CS : Hid (∀ w1, Calls Tryz.prog 84 #[.int .u32 x] w1 fun e w' => e = .returned (.int .i64 (clzS x)) ∧ w' = w1) := fun w1 => rClz_c x ua va w1
  have hcb := clzS_bounds x ua va
  rw [show reckS 17 x y z h.im = clzS x by simp [reckS]]
  generalize clzS x = s1 at *
  have es : IntKind.u32.wrap s1 = s1 := by rw [IntKind.wrap_u32]; omega
  go_enter Tryz.func32, Tryz.ntmps32
  go_wp2_with (first
    | (refine S.box rfl _ _ rfl (Cel.host h) rfl ?_; clear S; intro q1 w1 S)
    | (refine S.box rfl _ _ rfl (Cel.regs R) rfl ?_; clear S; intro q2 w2 S))
  refine Upto.start (S := fun w' => SH noZ w w' [(q2, Cel.regs R), (q1, Cel.host h)]) 9 (by kernel_rfl) ?_
  replace S := S.drew
  refine Upto.take (i := 0) (oi := { dst := some 16, op := Op.fieldAddr 31 (Operand.tmp 2) 2, type := 0, pos := "sourdineref5.go:147", after := #[], guard := none }) (v := ?_) rfl (by kernel_rfl) (by kernel_rfl) (by kernel_rfl) (by kernel_rfl) (fun _ _ _ h => h) (Or.inl ⟨by rfl, ?_⟩) (by exact S) ?_
  rotate_left 1
  · intro w hSw
    clear hSw
    go_simp
    try with_reducible rfl
  simp only [Act.put, List.setIfInBounds_toArray, List.set_cons_zero, List.set_cons_succ]
  refine Upto.take (i := 1) (oi := { dst := some 17, op := Op.load 3 (Operand.tmp 16), type := 3, pos := "sourdineref5.go:147", after := #[{ on := 0, ground := Ground.data }], guard := none }) (v := _) rfl (by kernel_rfl) (by kernel_rfl) (by kernel_rfl) (by kernel_rfl) (fun _ _ _ h => h) (y_load1 (by rfl) _ _ rfl _ _ rfl 1 _ rfl _ rfl _ Tryz.underlying3 rfl) (by exact S) ?_
  simp only [Act.put, List.setIfInBounds_toArray, List.set_cons_zero, List.set_cons_succ]
  refine Upto.take (i := 2) (oi := { dst := some 18, op := Op.indexAddr 27 (Operand.tmp 3) (Operand.tmp 17), type := 0, pos := "sourdineref5.go:147", after := #[{ on := 1, ground := Ground.data }], guard := none }) (v := ?_) rfl (by kernel_rfl) (by kernel_rfl) (by kernel_rfl) (by kernel_rfl) (fun _ _ _ h => h) (Or.inl ⟨by rfl, ?_⟩) (by exact S) ?_
  rotate_left 1
  · intro w hSw
    clear hSw
    go_simp
    try with_reducible rfl
  simp only [Act.put, List.setIfInBounds_toArray, List.set_cons_zero, List.set_cons_succ]
  refine Upto.take (i := 3) (oi := { dst := some 19, op := Op.load 26 (Operand.tmp 18), type := 26, pos := "sourdineref5.go:147", after := #[{ on := 2, ground := Ground.data }], guard := none }) (v := _) rfl (by kernel_rfl) (by kernel_rfl) (by kernel_rfl) (by kernel_rfl) (fun _ _ _ h => h) (y_load1 (by rfl) _ _ rfl _ _ rfl 0 _ rfl _ (rc_at HA.out) _ Tryz.underlying26 rfl) (by exact S) ?_
  simp only [Act.put, List.setIfInBounds_toArray, List.set_cons_zero, List.set_cons_succ]
  refine Upto.take (i := 4) (oi := { dst := some 20, op := Op.fieldAddr 31 (Operand.tmp 2) 3, type := 0, pos := "sourdineref5.go:147", after := #[{ on := 8, ground := Ground.gcOnly Departure.lateStores }], guard := none }) (v := ?_) rfl (by kernel_rfl) (by kernel_rfl) (by kernel_rfl) (by kernel_rfl) (fun _ _ _ h => h) (Or.inl ⟨by rfl, ?_⟩) (by exact S) ?_
  rotate_left 1
  · intro w hSw
    clear hSw
    go_simp
    try with_reducible rfl
  simp only [Act.put, List.setIfInBounds_toArray, List.set_cons_zero, List.set_cons_succ]
  refine Upto.take (i := 5) (oi := { dst := some 21, op := Op.load 3 (Operand.tmp 20), type := 3, pos := "sourdineref5.go:147", after := #[{ on := 4, ground := Ground.data }, { on := 8, ground := Ground.gcOnly Departure.lateStores }], guard := none }) (v := _) rfl (by kernel_rfl) (by kernel_rfl) (by kernel_rfl) (by kernel_rfl) (fun _ _ _ h => h) (y_load1 (by rfl) _ _ rfl _ _ rfl 1 _ rfl _ rfl _ Tryz.underlying3 rfl) (by exact S) ?_
  simp only [Act.put, List.setIfInBounds_toArray, List.set_cons_zero, List.set_cons_succ]
  refine Upto.take (i := 6) (oi := { dst := some 22, op := Op.indexAddr 27 (Operand.tmp 3) (Operand.tmp 21), type := 0, pos := "sourdineref5.go:147", after := #[{ on := 5, ground := Ground.data }, { on := 8, ground := Ground.gcOnly Departure.lateStores }], guard := none }) (v := ?_) rfl (by kernel_rfl) (by kernel_rfl) (by kernel_rfl) (by kernel_rfl) (fun _ _ _ h => h) (Or.inl ⟨by rfl, ?_⟩) (by exact S) ?_
  rotate_left 1
  · intro w hSw
    clear hSw
    go_simp
    try with_reducible rfl
  simp only [Act.put, List.setIfInBounds_toArray, List.set_cons_zero, List.set_cons_succ]
  refine Upto.take (i := 7) (oi := { dst := some 23, op := Op.load 26 (Operand.tmp 22), type := 26, pos := "sourdineref5.go:147", after := #[{ on := 6, ground := Ground.data }, { on := 8, ground := Ground.gcOnly Departure.lateStores }], guard := none }) (v := _) rfl (by kernel_rfl) (by kernel_rfl) (by kernel_rfl) (by kernel_rfl) (fun _ _ _ h => h) (y_load1 (by rfl) _ _ rfl _ _ rfl 0 _ rfl _ (rc_at HB.out) _ Tryz.underlying26 rfl) (by exact S) ?_
  simp only [Act.put, List.setIfInBounds_toArray, List.set_cons_zero, List.set_cons_succ]
  refine Upto.take (i := 8) (oi := { dst := some 5, op := Op.assign (Operand.tmp 19), type := 26, pos := "sourdineref5.go:147", after := #[{ on := 3, ground := Ground.data }, { on := 0, ground := Ground.phase }, { on := 1, ground := Ground.phase }, { on := 2, ground := Ground.phase }, { on := 3, ground := Ground.phase }, { on := 4, ground := Ground.textOnly Departure.lateStores }, { on := 5, ground := Ground.textOnly Departure.lateStores }, { on := 6, ground := Ground.textOnly Departure.lateStores }, { on := 7, ground := Ground.textOnly Departure.lateStores }], guard := none }) (v := ?_) rfl (by kernel_rfl) (by kernel_rfl) (by kernel_rfl) (by kernel_rfl) (fun _ _ _ h => h) (Or.inl ⟨by rfl, ?_⟩) (by exact S) ?_
  rotate_left 1
  · intro w hSw
    clear hSw
    go_simp
    try with_reducible rfl
  simp only [Act.put, List.setIfInBounds_toArray, List.set_cons_zero, List.set_cons_succ]
  refine Upto.ready (rs := [9]) (by kernel_rfl) (by simp) ?_
  refine Nexts.last rfl (fun K hK => ?_)
  go_simp
  refine hK.out _ _ ?_
  clear hK K
  refine Upto.done (by kernel_rfl) ?_ _
  go_wp2_with (first
    | (refine S.load1 rfl 3 _ rfl _ 0 rfl 1 (Cel.host h) rfl _ hop0 _ Tryz.underlying3 rfl ?_)
    | (refine S.load1 rfl 3 _ rfl _ 2 rfl 1 (Cel.host h) rfl _ rfl _ Tryz.underlying3 rfl ?_)
    | (refine S.load1 rfl 3 _ rfl _ 3 rfl 1 (Cel.host h) rfl _ rfl _ Tryz.underlying3 rfl ?_)
    | (refine S.load1 rfl 3 _ rfl _ 4 rfl 1 (Cel.host h) rfl _ rfl _ Tryz.underlying3 rfl ?_)
    | (refine S.load1 rfl 26 _ rfl _ 5 rfl 1 (Cel.host h) rfl _ rfl _ Tryz.underlying26 rfl ?_)
    | (refine S.load1 rfl 26 _ rfl _ _ rfl 0 (Cel.regs R) rfl _ (rc_at HA.out) _ Tryz.underlying26 rfl ?_)
    | (refine S.load1 rfl 26 _ rfl _ _ rfl 0 (Cel.regs R) rfl _ (rc_at HB.out) _ Tryz.underlying26 rfl ?_)
    | (refine S.load1 rfl 26 _ rfl _ _ rfl 0 (Cel.regs R) rfl _ (rc_at HC.out) _ Tryz.underlying26 rfl ?_)
    | (refine (CS.out _).mono ?_; rintro e w8 ⟨rfl, rfl⟩))
  go_ret
  exact ⟨rfl, S.low⟩
set_option maxHeartbeats 2000000 in
set_option maxRecDepth 100000 in
theorem rrk18_c (h : HV) (R : List Int) (ho : HOk h) (hR : okR R) (hop : h.op = 18) (w : World) : Calls Tryz.prog 32 #[(Cel.host h).val, (Cel.regs R).val] w fun e w' => e = .returned (.int .u32 (reckS 18 (regv R h.a) (regv R h.b) (regv R h.c) h.im)) ∧ Below w.heap.size w w' := by
  have S := SH.start w
  obtain ⟨⟨d0, d1⟩, ⟨a0, a1⟩, ⟨b0, b1⟩, ⟨c0, c1⟩, i0, i1⟩ := ho
  obtain ⟨hA, ua, va⟩ := regv_at hR a0 a1
  obtain ⟨hB, ub, vb⟩ := regv_at hR b0 b1
  obtain ⟨hC, uc, vc⟩ := regv_at hR c0 c1
  have hl := hR.1
  clear hR
  have HA : Hid (R[h.a.toNat]? = some (regv R h.a)) := hA
  have HB : Hid (R[h.b.toNat]? = some (regv R h.b)) := hB
  have HC : Hid (R[h.c.toNat]? = some (regv R h.c)) := hC
  clear hA hB hC
  generalize regv R h.a = x at *
  generalize regv R h.b = y at *
  generalize regv R h.c = z at *
  have e31 : bits .and .u32 y 31 = y % 32 := and_low5 y ub vb
  have ew : IntKind.i64.wrap (y % 32) = y % 32 := by rw [IntKind.wrap_i64]; omega
  have n0 : 0 ≤ y % 32 := by omega
  have n1 : y % 32 < 32 := by omega
  have hop0 : (Cel.host h).cells[0]? = some (.int .i64 18) := by simp [Cel.cells, hop]
  go_enter Tryz.func32, Tryz.ntmps32
  go_wp2_with (first
    | (refine S.box rfl _ _ rfl (Cel.host h) rfl ?_; clear S; intro q1 w1 S)
    | (refine S.box rfl _ _ rfl (Cel.regs R) rfl ?_; clear S; intro q2 w2 S))
  refine Upto.start (S := fun w' => SH noZ w w' [(q2, Cel.regs R), (q1, Cel.host h)]) 9 (by kernel_rfl) ?_
  replace S := S.drew
  refine Upto.take (i := 0) (oi := { dst := some 16, op := Op.fieldAddr 31 (Operand.tmp 2) 2, type := 0, pos := "sourdineref5.go:147", after := #[], guard := none }) (v := ?_) rfl (by kernel_rfl) (by kernel_rfl) (by kernel_rfl) (by kernel_rfl) (fun _ _ _ h => h) (Or.inl ⟨by rfl, ?_⟩) (by exact S) ?_
  rotate_left 1
  · intro w hSw
    clear hSw
    go_simp
    try with_reducible rfl
  simp only [Act.put, List.setIfInBounds_toArray, List.set_cons_zero, List.set_cons_succ]
  refine Upto.take (i := 1) (oi := { dst := some 17, op := Op.load 3 (Operand.tmp 16), type := 3, pos := "sourdineref5.go:147", after := #[{ on := 0, ground := Ground.data }], guard := none }) (v := _) rfl (by kernel_rfl) (by kernel_rfl) (by kernel_rfl) (by kernel_rfl) (fun _ _ _ h => h) (y_load1 (by rfl) _ _ rfl _ _ rfl 1 _ rfl _ rfl _ Tryz.underlying3 rfl) (by exact S) ?_
  simp only [Act.put, List.setIfInBounds_toArray, List.set_cons_zero, List.set_cons_succ]
  refine Upto.take (i := 2) (oi := { dst := some 18, op := Op.indexAddr 27 (Operand.tmp 3) (Operand.tmp 17), type := 0, pos := "sourdineref5.go:147", after := #[{ on := 1, ground := Ground.data }], guard := none }) (v := ?_) rfl (by kernel_rfl) (by kernel_rfl) (by kernel_rfl) (by kernel_rfl) (fun _ _ _ h => h) (Or.inl ⟨by rfl, ?_⟩) (by exact S) ?_
  rotate_left 1
  · intro w hSw
    clear hSw
    go_simp
    try with_reducible rfl
  simp only [Act.put, List.setIfInBounds_toArray, List.set_cons_zero, List.set_cons_succ]
  refine Upto.take (i := 3) (oi := { dst := some 19, op := Op.load 26 (Operand.tmp 18), type := 26, pos := "sourdineref5.go:147", after := #[{ on := 2, ground := Ground.data }], guard := none }) (v := _) rfl (by kernel_rfl) (by kernel_rfl) (by kernel_rfl) (by kernel_rfl) (fun _ _ _ h => h) (y_load1 (by rfl) _ _ rfl _ _ rfl 0 _ rfl _ (rc_at HA.out) _ Tryz.underlying26 rfl) (by exact S) ?_
  simp only [Act.put, List.setIfInBounds_toArray, List.set_cons_zero, List.set_cons_succ]
  refine Upto.take (i := 4) (oi := { dst := some 20, op := Op.fieldAddr 31 (Operand.tmp 2) 3, type := 0, pos := "sourdineref5.go:147", after := #[{ on := 8, ground := Ground.gcOnly Departure.lateStores }], guard := none }) (v := ?_) rfl (by kernel_rfl) (by kernel_rfl) (by kernel_rfl) (by kernel_rfl) (fun _ _ _ h => h) (Or.inl ⟨by rfl, ?_⟩) (by exact S) ?_
  rotate_left 1
  · intro w hSw
    clear hSw
    go_simp
    try with_reducible rfl
  simp only [Act.put, List.setIfInBounds_toArray, List.set_cons_zero, List.set_cons_succ]
  refine Upto.take (i := 5) (oi := { dst := some 21, op := Op.load 3 (Operand.tmp 20), type := 3, pos := "sourdineref5.go:147", after := #[{ on := 4, ground := Ground.data }, { on := 8, ground := Ground.gcOnly Departure.lateStores }], guard := none }) (v := _) rfl (by kernel_rfl) (by kernel_rfl) (by kernel_rfl) (by kernel_rfl) (fun _ _ _ h => h) (y_load1 (by rfl) _ _ rfl _ _ rfl 1 _ rfl _ rfl _ Tryz.underlying3 rfl) (by exact S) ?_
  simp only [Act.put, List.setIfInBounds_toArray, List.set_cons_zero, List.set_cons_succ]
  refine Upto.take (i := 6) (oi := { dst := some 22, op := Op.indexAddr 27 (Operand.tmp 3) (Operand.tmp 21), type := 0, pos := "sourdineref5.go:147", after := #[{ on := 5, ground := Ground.data }, { on := 8, ground := Ground.gcOnly Departure.lateStores }], guard := none }) (v := ?_) rfl (by kernel_rfl) (by kernel_rfl) (by kernel_rfl) (by kernel_rfl) (fun _ _ _ h => h) (Or.inl ⟨by rfl, ?_⟩) (by exact S) ?_
  rotate_left 1
  · intro w hSw
    clear hSw
    go_simp
    try with_reducible rfl
  simp only [Act.put, List.setIfInBounds_toArray, List.set_cons_zero, List.set_cons_succ]
  refine Upto.take (i := 7) (oi := { dst := some 23, op := Op.load 26 (Operand.tmp 22), type := 26, pos := "sourdineref5.go:147", after := #[{ on := 6, ground := Ground.data }, { on := 8, ground := Ground.gcOnly Departure.lateStores }], guard := none }) (v := _) rfl (by kernel_rfl) (by kernel_rfl) (by kernel_rfl) (by kernel_rfl) (fun _ _ _ h => h) (y_load1 (by rfl) _ _ rfl _ _ rfl 0 _ rfl _ (rc_at HB.out) _ Tryz.underlying26 rfl) (by exact S) ?_
  simp only [Act.put, List.setIfInBounds_toArray, List.set_cons_zero, List.set_cons_succ]
  refine Upto.take (i := 8) (oi := { dst := some 5, op := Op.assign (Operand.tmp 19), type := 26, pos := "sourdineref5.go:147", after := #[{ on := 3, ground := Ground.data }, { on := 0, ground := Ground.phase }, { on := 1, ground := Ground.phase }, { on := 2, ground := Ground.phase }, { on := 3, ground := Ground.phase }, { on := 4, ground := Ground.textOnly Departure.lateStores }, { on := 5, ground := Ground.textOnly Departure.lateStores }, { on := 6, ground := Ground.textOnly Departure.lateStores }, { on := 7, ground := Ground.textOnly Departure.lateStores }], guard := none }) (v := ?_) rfl (by kernel_rfl) (by kernel_rfl) (by kernel_rfl) (by kernel_rfl) (fun _ _ _ h => h) (Or.inl ⟨by rfl, ?_⟩) (by exact S) ?_
  rotate_left 1
  · intro w hSw
    clear hSw
    go_simp
    try with_reducible rfl
  simp only [Act.put, List.setIfInBounds_toArray, List.set_cons_zero, List.set_cons_succ]
  refine Upto.ready (rs := [9]) (by kernel_rfl) (by simp) ?_
  refine Nexts.last rfl (fun K hK => ?_)
  go_simp
  refine hK.out _ _ ?_
  clear hK K
  refine Upto.done (by kernel_rfl) ?_ _
  go_wp2_with (first
    | (refine S.load1 rfl 3 _ rfl _ 0 rfl 1 (Cel.host h) rfl _ hop0 _ Tryz.underlying3 rfl ?_)
    | (refine S.load1 rfl 3 _ rfl _ 2 rfl 1 (Cel.host h) rfl _ rfl _ Tryz.underlying3 rfl ?_)
    | (refine S.load1 rfl 3 _ rfl _ 3 rfl 1 (Cel.host h) rfl _ rfl _ Tryz.underlying3 rfl ?_)
    | (refine S.load1 rfl 3 _ rfl _ 4 rfl 1 (Cel.host h) rfl _ rfl _ Tryz.underlying3 rfl ?_)
    | (refine S.load1 rfl 26 _ rfl _ 5 rfl 1 (Cel.host h) rfl _ rfl _ Tryz.underlying26 rfl ?_)
    | (refine S.load1 rfl 26 _ rfl _ _ rfl 0 (Cel.regs R) rfl _ (rc_at HA.out) _ Tryz.underlying26 rfl ?_)
    | (refine S.load1 rfl 26 _ rfl _ _ rfl 0 (Cel.regs R) rfl _ (rc_at HB.out) _ Tryz.underlying26 rfl ?_)
    | (refine S.load1 rfl 26 _ rfl _ _ rfl 0 (Cel.regs R) rfl _ (rc_at HC.out) _ Tryz.underlying26 rfl ?_)
    | (refine (rflag_c _ _).mono ?_; rintro e w8 ⟨rfl, rfl⟩))
  go_ret
  exact ⟨by simp [reckS, oneB, IntKind.wrap_i32, wrap32], S.low⟩
set_option maxHeartbeats 2000000 in
set_option maxRecDepth 100000 in
theorem rrk19_c (h : HV) (R : List Int) (ho : HOk h) (hR : okR R) (hop : h.op = 19) (w : World) : Calls Tryz.prog 32 #[(Cel.host h).val, (Cel.regs R).val] w fun e w' => e = .returned (.int .u32 (reckS 19 (regv R h.a) (regv R h.b) (regv R h.c) h.im)) ∧ Below w.heap.size w w' := by
  have S := SH.start w
  obtain ⟨⟨d0, d1⟩, ⟨a0, a1⟩, ⟨b0, b1⟩, ⟨c0, c1⟩, i0, i1⟩ := ho
  obtain ⟨hA, ua, va⟩ := regv_at hR a0 a1
  obtain ⟨hB, ub, vb⟩ := regv_at hR b0 b1
  obtain ⟨hC, uc, vc⟩ := regv_at hR c0 c1
  have hl := hR.1
  clear hR
  have HA : Hid (R[h.a.toNat]? = some (regv R h.a)) := hA
  have HB : Hid (R[h.b.toNat]? = some (regv R h.b)) := hB
  have HC : Hid (R[h.c.toNat]? = some (regv R h.c)) := hC
  clear hA hB hC
  generalize regv R h.a = x at *
  generalize regv R h.b = y at *
  generalize regv R h.c = z at *
  have e31 : bits .and .u32 y 31 = y % 32 := and_low5 y ub vb
  have ew : IntKind.i64.wrap (y % 32) = y % 32 := by rw [IntKind.wrap_i64]; omega
  have n0 : 0 ≤ y % 32 := by omega
  have n1 : y % 32 < 32 := by omega
  have hop0 : (Cel.host h).cells[0]? = some (.int .i64 19) := by simp [Cel.cells, hop]
  go_enter Tryz.func32, Tryz.ntmps32
  go_wp2_with (first
    | (refine S.box rfl _ _ rfl (Cel.host h) rfl ?_; clear S; intro q1 w1 S)
    | (refine S.box rfl _ _ rfl (Cel.regs R) rfl ?_; clear S; intro q2 w2 S))
  refine Upto.start (S := fun w' => SH noZ w w' [(q2, Cel.regs R), (q1, Cel.host h)]) 9 (by kernel_rfl) ?_
  replace S := S.drew
  refine Upto.take (i := 0) (oi := { dst := some 16, op := Op.fieldAddr 31 (Operand.tmp 2) 2, type := 0, pos := "sourdineref5.go:147", after := #[], guard := none }) (v := ?_) rfl (by kernel_rfl) (by kernel_rfl) (by kernel_rfl) (by kernel_rfl) (fun _ _ _ h => h) (Or.inl ⟨by rfl, ?_⟩) (by exact S) ?_
  rotate_left 1
  · intro w hSw
    clear hSw
    go_simp
    try with_reducible rfl
  simp only [Act.put, List.setIfInBounds_toArray, List.set_cons_zero, List.set_cons_succ]
  refine Upto.take (i := 1) (oi := { dst := some 17, op := Op.load 3 (Operand.tmp 16), type := 3, pos := "sourdineref5.go:147", after := #[{ on := 0, ground := Ground.data }], guard := none }) (v := _) rfl (by kernel_rfl) (by kernel_rfl) (by kernel_rfl) (by kernel_rfl) (fun _ _ _ h => h) (y_load1 (by rfl) _ _ rfl _ _ rfl 1 _ rfl _ rfl _ Tryz.underlying3 rfl) (by exact S) ?_
  simp only [Act.put, List.setIfInBounds_toArray, List.set_cons_zero, List.set_cons_succ]
  refine Upto.take (i := 2) (oi := { dst := some 18, op := Op.indexAddr 27 (Operand.tmp 3) (Operand.tmp 17), type := 0, pos := "sourdineref5.go:147", after := #[{ on := 1, ground := Ground.data }], guard := none }) (v := ?_) rfl (by kernel_rfl) (by kernel_rfl) (by kernel_rfl) (by kernel_rfl) (fun _ _ _ h => h) (Or.inl ⟨by rfl, ?_⟩) (by exact S) ?_
  rotate_left 1
  · intro w hSw
    clear hSw
    go_simp
    try with_reducible rfl
  simp only [Act.put, List.setIfInBounds_toArray, List.set_cons_zero, List.set_cons_succ]
  refine Upto.take (i := 3) (oi := { dst := some 19, op := Op.load 26 (Operand.tmp 18), type := 26, pos := "sourdineref5.go:147", after := #[{ on := 2, ground := Ground.data }], guard := none }) (v := _) rfl (by kernel_rfl) (by kernel_rfl) (by kernel_rfl) (by kernel_rfl) (fun _ _ _ h => h) (y_load1 (by rfl) _ _ rfl _ _ rfl 0 _ rfl _ (rc_at HA.out) _ Tryz.underlying26 rfl) (by exact S) ?_
  simp only [Act.put, List.setIfInBounds_toArray, List.set_cons_zero, List.set_cons_succ]
  refine Upto.take (i := 4) (oi := { dst := some 20, op := Op.fieldAddr 31 (Operand.tmp 2) 3, type := 0, pos := "sourdineref5.go:147", after := #[{ on := 8, ground := Ground.gcOnly Departure.lateStores }], guard := none }) (v := ?_) rfl (by kernel_rfl) (by kernel_rfl) (by kernel_rfl) (by kernel_rfl) (fun _ _ _ h => h) (Or.inl ⟨by rfl, ?_⟩) (by exact S) ?_
  rotate_left 1
  · intro w hSw
    clear hSw
    go_simp
    try with_reducible rfl
  simp only [Act.put, List.setIfInBounds_toArray, List.set_cons_zero, List.set_cons_succ]
  refine Upto.take (i := 5) (oi := { dst := some 21, op := Op.load 3 (Operand.tmp 20), type := 3, pos := "sourdineref5.go:147", after := #[{ on := 4, ground := Ground.data }, { on := 8, ground := Ground.gcOnly Departure.lateStores }], guard := none }) (v := _) rfl (by kernel_rfl) (by kernel_rfl) (by kernel_rfl) (by kernel_rfl) (fun _ _ _ h => h) (y_load1 (by rfl) _ _ rfl _ _ rfl 1 _ rfl _ rfl _ Tryz.underlying3 rfl) (by exact S) ?_
  simp only [Act.put, List.setIfInBounds_toArray, List.set_cons_zero, List.set_cons_succ]
  refine Upto.take (i := 6) (oi := { dst := some 22, op := Op.indexAddr 27 (Operand.tmp 3) (Operand.tmp 21), type := 0, pos := "sourdineref5.go:147", after := #[{ on := 5, ground := Ground.data }, { on := 8, ground := Ground.gcOnly Departure.lateStores }], guard := none }) (v := ?_) rfl (by kernel_rfl) (by kernel_rfl) (by kernel_rfl) (by kernel_rfl) (fun _ _ _ h => h) (Or.inl ⟨by rfl, ?_⟩) (by exact S) ?_
  rotate_left 1
  · intro w hSw
    clear hSw
    go_simp
    try with_reducible rfl
  simp only [Act.put, List.setIfInBounds_toArray, List.set_cons_zero, List.set_cons_succ]
  refine Upto.take (i := 7) (oi := { dst := some 23, op := Op.load 26 (Operand.tmp 22), type := 26, pos := "sourdineref5.go:147", after := #[{ on := 6, ground := Ground.data }, { on := 8, ground := Ground.gcOnly Departure.lateStores }], guard := none }) (v := _) rfl (by kernel_rfl) (by kernel_rfl) (by kernel_rfl) (by kernel_rfl) (fun _ _ _ h => h) (y_load1 (by rfl) _ _ rfl _ _ rfl 0 _ rfl _ (rc_at HB.out) _ Tryz.underlying26 rfl) (by exact S) ?_
  simp only [Act.put, List.setIfInBounds_toArray, List.set_cons_zero, List.set_cons_succ]
  refine Upto.take (i := 8) (oi := { dst := some 5, op := Op.assign (Operand.tmp 19), type := 26, pos := "sourdineref5.go:147", after := #[{ on := 3, ground := Ground.data }, { on := 0, ground := Ground.phase }, { on := 1, ground := Ground.phase }, { on := 2, ground := Ground.phase }, { on := 3, ground := Ground.phase }, { on := 4, ground := Ground.textOnly Departure.lateStores }, { on := 5, ground := Ground.textOnly Departure.lateStores }, { on := 6, ground := Ground.textOnly Departure.lateStores }, { on := 7, ground := Ground.textOnly Departure.lateStores }], guard := none }) (v := ?_) rfl (by kernel_rfl) (by kernel_rfl) (by kernel_rfl) (by kernel_rfl) (fun _ _ _ h => h) (Or.inl ⟨by rfl, ?_⟩) (by exact S) ?_
  rotate_left 1
  · intro w hSw
    clear hSw
    go_simp
    try with_reducible rfl
  simp only [Act.put, List.setIfInBounds_toArray, List.set_cons_zero, List.set_cons_succ]
  refine Upto.ready (rs := [9]) (by kernel_rfl) (by simp) ?_
  refine Nexts.last rfl (fun K hK => ?_)
  go_simp
  refine hK.out _ _ ?_
  clear hK K
  refine Upto.done (by kernel_rfl) ?_ _
  go_wp2_with (first
    | (refine S.load1 rfl 3 _ rfl _ 0 rfl 1 (Cel.host h) rfl _ hop0 _ Tryz.underlying3 rfl ?_)
    | (refine S.load1 rfl 3 _ rfl _ 2 rfl 1 (Cel.host h) rfl _ rfl _ Tryz.underlying3 rfl ?_)
    | (refine S.load1 rfl 3 _ rfl _ 3 rfl 1 (Cel.host h) rfl _ rfl _ Tryz.underlying3 rfl ?_)
    | (refine S.load1 rfl 3 _ rfl _ 4 rfl 1 (Cel.host h) rfl _ rfl _ Tryz.underlying3 rfl ?_)
    | (refine S.load1 rfl 26 _ rfl _ 5 rfl 1 (Cel.host h) rfl _ rfl _ Tryz.underlying26 rfl ?_)
    | (refine S.load1 rfl 26 _ rfl _ _ rfl 0 (Cel.regs R) rfl _ (rc_at HA.out) _ Tryz.underlying26 rfl ?_)
    | (refine S.load1 rfl 26 _ rfl _ _ rfl 0 (Cel.regs R) rfl _ (rc_at HB.out) _ Tryz.underlying26 rfl ?_)
    | (refine S.load1 rfl 26 _ rfl _ _ rfl 0 (Cel.regs R) rfl _ (rc_at HC.out) _ Tryz.underlying26 rfl ?_)
    | (refine (rflag_c _ _).mono ?_; rintro e w8 ⟨rfl, rfl⟩))
  go_ret
  exact ⟨by simp [reckS, oneB, IntKind.wrap_i32, wrap32], S.low⟩
set_option maxHeartbeats 2000000 in
set_option maxRecDepth 100000 in
theorem rrk20_c (h : HV) (R : List Int) (ho : HOk h) (hR : okR R) (hop : h.op = 20) (w : World) : Calls Tryz.prog 32 #[(Cel.host h).val, (Cel.regs R).val] w fun e w' => e = .returned (.int .u32 (reckS 20 (regv R h.a) (regv R h.b) (regv R h.c) h.im)) ∧ Below w.heap.size w w' := by
  have S := SH.start w
  obtain ⟨⟨d0, d1⟩, ⟨a0, a1⟩, ⟨b0, b1⟩, ⟨c0, c1⟩, i0, i1⟩ := ho
  obtain ⟨hA, ua, va⟩ := regv_at hR a0 a1
  obtain ⟨hB, ub, vb⟩ := regv_at hR b0 b1
  obtain ⟨hC, uc, vc⟩ := regv_at hR c0 c1
  have hl := hR.1
  clear hR
  have HA : Hid (R[h.a.toNat]? = some (regv R h.a)) := hA
  have HB : Hid (R[h.b.toNat]? = some (regv R h.b)) := hB
  have HC : Hid (R[h.c.toNat]? = some (regv R h.c)) := hC
  clear hA hB hC
  generalize regv R h.a = x at *
  generalize regv R h.b = y at *
  generalize regv R h.c = z at *
  have e31 : bits .and .u32 y 31 = y % 32 := and_low5 y ub vb
  have ew : IntKind.i64.wrap (y % 32) = y % 32 := by rw [IntKind.wrap_i64]; omega
  have n0 : 0 ≤ y % 32 := by omega
  have n1 : y % 32 < 32 := by omega
  have hop0 : (Cel.host h).cells[0]? = some (.int .i64 20) := by simp [Cel.cells, hop]
  go_enter Tryz.func32, Tryz.ntmps32
  go_wp2_with (first
    | (refine S.box rfl _ _ rfl (Cel.host h) rfl ?_; clear S; intro q1 w1 S)
    | (refine S.box rfl _ _ rfl (Cel.regs R) rfl ?_; clear S; intro q2 w2 S))
  refine Upto.start (S := fun w' => SH noZ w w' [(q2, Cel.regs R), (q1, Cel.host h)]) 9 (by kernel_rfl) ?_
  replace S := S.drew
  refine Upto.take (i := 0) (oi := { dst := some 16, op := Op.fieldAddr 31 (Operand.tmp 2) 2, type := 0, pos := "sourdineref5.go:147", after := #[], guard := none }) (v := ?_) rfl (by kernel_rfl) (by kernel_rfl) (by kernel_rfl) (by kernel_rfl) (fun _ _ _ h => h) (Or.inl ⟨by rfl, ?_⟩) (by exact S) ?_
  rotate_left 1
  · intro w hSw
    clear hSw
    go_simp
    try with_reducible rfl
  simp only [Act.put, List.setIfInBounds_toArray, List.set_cons_zero, List.set_cons_succ]
  refine Upto.take (i := 1) (oi := { dst := some 17, op := Op.load 3 (Operand.tmp 16), type := 3, pos := "sourdineref5.go:147", after := #[{ on := 0, ground := Ground.data }], guard := none }) (v := _) rfl (by kernel_rfl) (by kernel_rfl) (by kernel_rfl) (by kernel_rfl) (fun _ _ _ h => h) (y_load1 (by rfl) _ _ rfl _ _ rfl 1 _ rfl _ rfl _ Tryz.underlying3 rfl) (by exact S) ?_
  simp only [Act.put, List.setIfInBounds_toArray, List.set_cons_zero, List.set_cons_succ]
  refine Upto.take (i := 2) (oi := { dst := some 18, op := Op.indexAddr 27 (Operand.tmp 3) (Operand.tmp 17), type := 0, pos := "sourdineref5.go:147", after := #[{ on := 1, ground := Ground.data }], guard := none }) (v := ?_) rfl (by kernel_rfl) (by kernel_rfl) (by kernel_rfl) (by kernel_rfl) (fun _ _ _ h => h) (Or.inl ⟨by rfl, ?_⟩) (by exact S) ?_
  rotate_left 1
  · intro w hSw
    clear hSw
    go_simp
    try with_reducible rfl
  simp only [Act.put, List.setIfInBounds_toArray, List.set_cons_zero, List.set_cons_succ]
  refine Upto.take (i := 3) (oi := { dst := some 19, op := Op.load 26 (Operand.tmp 18), type := 26, pos := "sourdineref5.go:147", after := #[{ on := 2, ground := Ground.data }], guard := none }) (v := _) rfl (by kernel_rfl) (by kernel_rfl) (by kernel_rfl) (by kernel_rfl) (fun _ _ _ h => h) (y_load1 (by rfl) _ _ rfl _ _ rfl 0 _ rfl _ (rc_at HA.out) _ Tryz.underlying26 rfl) (by exact S) ?_
  simp only [Act.put, List.setIfInBounds_toArray, List.set_cons_zero, List.set_cons_succ]
  refine Upto.take (i := 4) (oi := { dst := some 20, op := Op.fieldAddr 31 (Operand.tmp 2) 3, type := 0, pos := "sourdineref5.go:147", after := #[{ on := 8, ground := Ground.gcOnly Departure.lateStores }], guard := none }) (v := ?_) rfl (by kernel_rfl) (by kernel_rfl) (by kernel_rfl) (by kernel_rfl) (fun _ _ _ h => h) (Or.inl ⟨by rfl, ?_⟩) (by exact S) ?_
  rotate_left 1
  · intro w hSw
    clear hSw
    go_simp
    try with_reducible rfl
  simp only [Act.put, List.setIfInBounds_toArray, List.set_cons_zero, List.set_cons_succ]
  refine Upto.take (i := 5) (oi := { dst := some 21, op := Op.load 3 (Operand.tmp 20), type := 3, pos := "sourdineref5.go:147", after := #[{ on := 4, ground := Ground.data }, { on := 8, ground := Ground.gcOnly Departure.lateStores }], guard := none }) (v := _) rfl (by kernel_rfl) (by kernel_rfl) (by kernel_rfl) (by kernel_rfl) (fun _ _ _ h => h) (y_load1 (by rfl) _ _ rfl _ _ rfl 1 _ rfl _ rfl _ Tryz.underlying3 rfl) (by exact S) ?_
  simp only [Act.put, List.setIfInBounds_toArray, List.set_cons_zero, List.set_cons_succ]
  refine Upto.take (i := 6) (oi := { dst := some 22, op := Op.indexAddr 27 (Operand.tmp 3) (Operand.tmp 21), type := 0, pos := "sourdineref5.go:147", after := #[{ on := 5, ground := Ground.data }, { on := 8, ground := Ground.gcOnly Departure.lateStores }], guard := none }) (v := ?_) rfl (by kernel_rfl) (by kernel_rfl) (by kernel_rfl) (by kernel_rfl) (fun _ _ _ h => h) (Or.inl ⟨by rfl, ?_⟩) (by exact S) ?_
  rotate_left 1
  · intro w hSw
    clear hSw
    go_simp
    try with_reducible rfl
  simp only [Act.put, List.setIfInBounds_toArray, List.set_cons_zero, List.set_cons_succ]
  refine Upto.take (i := 7) (oi := { dst := some 23, op := Op.load 26 (Operand.tmp 22), type := 26, pos := "sourdineref5.go:147", after := #[{ on := 6, ground := Ground.data }, { on := 8, ground := Ground.gcOnly Departure.lateStores }], guard := none }) (v := _) rfl (by kernel_rfl) (by kernel_rfl) (by kernel_rfl) (by kernel_rfl) (fun _ _ _ h => h) (y_load1 (by rfl) _ _ rfl _ _ rfl 0 _ rfl _ (rc_at HB.out) _ Tryz.underlying26 rfl) (by exact S) ?_
  simp only [Act.put, List.setIfInBounds_toArray, List.set_cons_zero, List.set_cons_succ]
  refine Upto.take (i := 8) (oi := { dst := some 5, op := Op.assign (Operand.tmp 19), type := 26, pos := "sourdineref5.go:147", after := #[{ on := 3, ground := Ground.data }, { on := 0, ground := Ground.phase }, { on := 1, ground := Ground.phase }, { on := 2, ground := Ground.phase }, { on := 3, ground := Ground.phase }, { on := 4, ground := Ground.textOnly Departure.lateStores }, { on := 5, ground := Ground.textOnly Departure.lateStores }, { on := 6, ground := Ground.textOnly Departure.lateStores }, { on := 7, ground := Ground.textOnly Departure.lateStores }], guard := none }) (v := ?_) rfl (by kernel_rfl) (by kernel_rfl) (by kernel_rfl) (by kernel_rfl) (fun _ _ _ h => h) (Or.inl ⟨by rfl, ?_⟩) (by exact S) ?_
  rotate_left 1
  · intro w hSw
    clear hSw
    go_simp
    try with_reducible rfl
  simp only [Act.put, List.setIfInBounds_toArray, List.set_cons_zero, List.set_cons_succ]
  refine Upto.ready (rs := [9]) (by kernel_rfl) (by simp) ?_
  refine Nexts.last rfl (fun K hK => ?_)
  go_simp
  refine hK.out _ _ ?_
  clear hK K
  refine Upto.done (by kernel_rfl) ?_ _
  go_wp2_with (first
    | (refine S.load1 rfl 3 _ rfl _ 0 rfl 1 (Cel.host h) rfl _ hop0 _ Tryz.underlying3 rfl ?_)
    | (refine S.load1 rfl 3 _ rfl _ 2 rfl 1 (Cel.host h) rfl _ rfl _ Tryz.underlying3 rfl ?_)
    | (refine S.load1 rfl 3 _ rfl _ 3 rfl 1 (Cel.host h) rfl _ rfl _ Tryz.underlying3 rfl ?_)
    | (refine S.load1 rfl 3 _ rfl _ 4 rfl 1 (Cel.host h) rfl _ rfl _ Tryz.underlying3 rfl ?_)
    | (refine S.load1 rfl 26 _ rfl _ 5 rfl 1 (Cel.host h) rfl _ rfl _ Tryz.underlying26 rfl ?_)
    | (refine S.load1 rfl 26 _ rfl _ _ rfl 0 (Cel.regs R) rfl _ (rc_at HA.out) _ Tryz.underlying26 rfl ?_)
    | (refine S.load1 rfl 26 _ rfl _ _ rfl 0 (Cel.regs R) rfl _ (rc_at HB.out) _ Tryz.underlying26 rfl ?_)
    | (refine S.load1 rfl 26 _ rfl _ _ rfl 0 (Cel.regs R) rfl _ (rc_at HC.out) _ Tryz.underlying26 rfl ?_)
    | (refine (rflag_c _ _).mono ?_; rintro e w8 ⟨rfl, rfl⟩))
  go_ret
  exact ⟨by simp [reckS, oneB, IntKind.wrap_i32, wrap32], S.low⟩
set_option maxHeartbeats 2000000 in
set_option maxRecDepth 100000 in
theorem rrk21_t (h : HV) (R : List Int) (ho : HOk h) (hR : okR R) (hop : h.op = 21) (hz : regv R h.c ≠ 0) (w : World) : Calls Tryz.prog 32 #[(Cel.host h).val, (Cel.regs R).val] w fun e w' => e = .returned (.int .u32 (reckS 21 (regv R h.a) (regv R h.b) (regv R h.c) h.im)) ∧ Below w.heap.size w w' := by
  have S := SH.start w
  obtain ⟨⟨d0, d1⟩, ⟨a0, a1⟩, ⟨b0, b1⟩, ⟨c0, c1⟩, i0, i1⟩ := ho
  obtain ⟨hA, ua, va⟩ := regv_at hR a0 a1
  obtain ⟨hB, ub, vb⟩ := regv_at hR b0 b1
  obtain ⟨hC, uc, vc⟩ := regv_at hR c0 c1
  have hl := hR.1
  clear hR
  have HA : Hid (R[h.a.toNat]? = some (regv R h.a)) := hA
  have HB : Hid (R[h.b.toNat]? = some (regv R h.b)) := hB
  have HC : Hid (R[h.c.toNat]? = some (regv R h.c)) := hC
  clear hA hB hC
  generalize regv R h.a = x at *
  generalize regv R h.b = y at *
  generalize regv R h.c = z at *
  have e31 : bits .and .u32 y 31 = y % 32 := and_low5 y ub vb
  have ew : IntKind.i64.wrap (y % 32) = y % 32 := by rw [IntKind.wrap_i64]; omega
  have n0 : 0 ≤ y % 32 := by omega
  have n1 : y % 32 < 32 := by omega
  have hop0 : (Cel.host h).cells[0]? = some (.int .i64 21) := by simp [Cel.cells, hop]
  go_enter Tryz.func32, Tryz.ntmps32
  go_wp2_with (first
    | (refine S.box rfl _ _ rfl (Cel.host h) rfl ?_; clear S; intro q1 w1 S)
    | (refine S.box rfl _ _ rfl (Cel.regs R) rfl ?_; clear S; intro q2 w2 S))
  refine Upto.start (S := fun w' => SH noZ w w' [(q2, Cel.regs R), (q1, Cel.host h)]) 9 (by kernel_rfl) ?_
  replace S := S.drew
  refine Upto.take (i := 0) (oi := { dst := some 16, op := Op.fieldAddr 31 (Operand.tmp 2) 2, type := 0, pos := "sourdineref5.go:147", after := #[], guard := none }) (v := ?_) rfl (by kernel_rfl) (by kernel_rfl) (by kernel_rfl) (by kernel_rfl) (fun _ _ _ h => h) (Or.inl ⟨by rfl, ?_⟩) (by exact S) ?_
  rotate_left 1
  · intro w hSw
    clear hSw
    go_simp
    try with_reducible rfl
  simp only [Act.put, List.setIfInBounds_toArray, List.set_cons_zero, List.set_cons_succ]
  refine Upto.take (i := 1) (oi := { dst := some 17, op := Op.load 3 (Operand.tmp 16), type := 3, pos := "sourdineref5.go:147", after := #[{ on := 0, ground := Ground.data }], guard := none }) (v := _) rfl (by kernel_rfl) (by kernel_rfl) (by kernel_rfl) (by kernel_rfl) (fun _ _ _ h => h) (y_load1 (by rfl) _ _ rfl _ _ rfl 1 _ rfl _ rfl _ Tryz.underlying3 rfl) (by exact S) ?_
  simp only [Act.put, List.setIfInBounds_toArray, List.set_cons_zero, List.set_cons_succ]
  refine Upto.take (i := 2) (oi := { dst := some 18, op := Op.indexAddr 27 (Operand.tmp 3) (Operand.tmp 17), type := 0, pos := "sourdineref5.go:147", after := #[{ on := 1, ground := Ground.data }], guard := none }) (v := ?_) rfl (by kernel_rfl) (by kernel_rfl) (by kernel_rfl) (by kernel_rfl) (fun _ _ _ h => h) (Or.inl ⟨by rfl, ?_⟩) (by exact S) ?_
  rotate_left 1
  · intro w hSw
    clear hSw
    go_simp
    try with_reducible rfl
  simp only [Act.put, List.setIfInBounds_toArray, List.set_cons_zero, List.set_cons_succ]
  refine Upto.take (i := 3) (oi := { dst := some 19, op := Op.load 26 (Operand.tmp 18), type := 26, pos := "sourdineref5.go:147", after := #[{ on := 2, ground := Ground.data }], guard := none }) (v := _) rfl (by kernel_rfl) (by kernel_rfl) (by kernel_rfl) (by kernel_rfl) (fun _ _ _ h => h) (y_load1 (by rfl) _ _ rfl _ _ rfl 0 _ rfl _ (rc_at HA.out) _ Tryz.underlying26 rfl) (by exact S) ?_
  simp only [Act.put, List.setIfInBounds_toArray, List.set_cons_zero, List.set_cons_succ]
  refine Upto.take (i := 4) (oi := { dst := some 20, op := Op.fieldAddr 31 (Operand.tmp 2) 3, type := 0, pos := "sourdineref5.go:147", after := #[{ on := 8, ground := Ground.gcOnly Departure.lateStores }], guard := none }) (v := ?_) rfl (by kernel_rfl) (by kernel_rfl) (by kernel_rfl) (by kernel_rfl) (fun _ _ _ h => h) (Or.inl ⟨by rfl, ?_⟩) (by exact S) ?_
  rotate_left 1
  · intro w hSw
    clear hSw
    go_simp
    try with_reducible rfl
  simp only [Act.put, List.setIfInBounds_toArray, List.set_cons_zero, List.set_cons_succ]
  refine Upto.take (i := 5) (oi := { dst := some 21, op := Op.load 3 (Operand.tmp 20), type := 3, pos := "sourdineref5.go:147", after := #[{ on := 4, ground := Ground.data }, { on := 8, ground := Ground.gcOnly Departure.lateStores }], guard := none }) (v := _) rfl (by kernel_rfl) (by kernel_rfl) (by kernel_rfl) (by kernel_rfl) (fun _ _ _ h => h) (y_load1 (by rfl) _ _ rfl _ _ rfl 1 _ rfl _ rfl _ Tryz.underlying3 rfl) (by exact S) ?_
  simp only [Act.put, List.setIfInBounds_toArray, List.set_cons_zero, List.set_cons_succ]
  refine Upto.take (i := 6) (oi := { dst := some 22, op := Op.indexAddr 27 (Operand.tmp 3) (Operand.tmp 21), type := 0, pos := "sourdineref5.go:147", after := #[{ on := 5, ground := Ground.data }, { on := 8, ground := Ground.gcOnly Departure.lateStores }], guard := none }) (v := ?_) rfl (by kernel_rfl) (by kernel_rfl) (by kernel_rfl) (by kernel_rfl) (fun _ _ _ h => h) (Or.inl ⟨by rfl, ?_⟩) (by exact S) ?_
  rotate_left 1
  · intro w hSw
    clear hSw
    go_simp
    try with_reducible rfl
  simp only [Act.put, List.setIfInBounds_toArray, List.set_cons_zero, List.set_cons_succ]
  refine Upto.take (i := 7) (oi := { dst := some 23, op := Op.load 26 (Operand.tmp 22), type := 26, pos := "sourdineref5.go:147", after := #[{ on := 6, ground := Ground.data }, { on := 8, ground := Ground.gcOnly Departure.lateStores }], guard := none }) (v := _) rfl (by kernel_rfl) (by kernel_rfl) (by kernel_rfl) (by kernel_rfl) (fun _ _ _ h => h) (y_load1 (by rfl) _ _ rfl _ _ rfl 0 _ rfl _ (rc_at HB.out) _ Tryz.underlying26 rfl) (by exact S) ?_
  simp only [Act.put, List.setIfInBounds_toArray, List.set_cons_zero, List.set_cons_succ]
  refine Upto.take (i := 8) (oi := { dst := some 5, op := Op.assign (Operand.tmp 19), type := 26, pos := "sourdineref5.go:147", after := #[{ on := 3, ground := Ground.data }, { on := 0, ground := Ground.phase }, { on := 1, ground := Ground.phase }, { on := 2, ground := Ground.phase }, { on := 3, ground := Ground.phase }, { on := 4, ground := Ground.textOnly Departure.lateStores }, { on := 5, ground := Ground.textOnly Departure.lateStores }, { on := 6, ground := Ground.textOnly Departure.lateStores }, { on := 7, ground := Ground.textOnly Departure.lateStores }], guard := none }) (v := ?_) rfl (by kernel_rfl) (by kernel_rfl) (by kernel_rfl) (by kernel_rfl) (fun _ _ _ h => h) (Or.inl ⟨by rfl, ?_⟩) (by exact S) ?_
  rotate_left 1
  · intro w hSw
    clear hSw
    go_simp
    try with_reducible rfl
  simp only [Act.put, List.setIfInBounds_toArray, List.set_cons_zero, List.set_cons_succ]
  refine Upto.ready (rs := [9]) (by kernel_rfl) (by simp) ?_
  refine Nexts.last rfl (fun K hK => ?_)
  go_simp
  refine hK.out _ _ ?_
  clear hK K
  refine Upto.done (by kernel_rfl) ?_ _
  go_wp2_with (first
    | (refine S.load1 rfl 3 _ rfl _ 0 rfl 1 (Cel.host h) rfl _ hop0 _ Tryz.underlying3 rfl ?_)
    | (refine S.load1 rfl 3 _ rfl _ 2 rfl 1 (Cel.host h) rfl _ rfl _ Tryz.underlying3 rfl ?_)
    | (refine S.load1 rfl 3 _ rfl _ 3 rfl 1 (Cel.host h) rfl _ rfl _ Tryz.underlying3 rfl ?_)
    | (refine S.load1 rfl 3 _ rfl _ 4 rfl 1 (Cel.host h) rfl _ rfl _ Tryz.underlying3 rfl ?_)
    | (refine S.load1 rfl 26 _ rfl _ 5 rfl 1 (Cel.host h) rfl _ rfl _ Tryz.underlying26 rfl ?_)
    | (refine S.load1 rfl 26 _ rfl _ _ rfl 0 (Cel.regs R) rfl _ (rc_at HA.out) _ Tryz.underlying26 rfl ?_)
    | (refine S.load1 rfl 26 _ rfl _ _ rfl 0 (Cel.regs R) rfl _ (rc_at HB.out) _ Tryz.underlying26 rfl ?_)
    | (refine S.load1 rfl 26 _ rfl _ _ rfl 0 (Cel.regs R) rfl _ (rc_at HC.out) _ Tryz.underlying26 rfl ?_))
  all_goals
    go_ret
    exact ⟨by simp [reckS, hz], S.low⟩
set_option maxHeartbeats 2000000 in
set_option maxRecDepth 100000 in
theorem rrk21_f (h : HV) (R : List Int) (ho : HOk h) (hR : okR R) (hop : h.op = 21) (hz : regv R h.c = 0) (w : World) : Calls Tryz.prog 32 #[(Cel.host h).val, (Cel.regs R).val] w fun e w' => e = .returned (.int .u32 (reckS 21 (regv R h.a) (regv R h.b) (regv R h.c) h.im)) ∧ Below w.heap.size w w' := by
  have S := SH.start w
  obtain ⟨⟨d0, d1⟩, ⟨a0, a1⟩, ⟨b0, b1⟩, ⟨c0, c1⟩, i0, i1⟩ := ho
  obtain ⟨hA, ua, va⟩ := regv_at hR a0 a1
  obtain ⟨hB, ub, vb⟩ := regv_at hR b0 b1
  obtain ⟨hC, uc, vc⟩ := regv_at hR c0 c1
  have hl := hR.1
  clear hR
  have HA : Hid (R[h.a.toNat]? = some (regv R h.a)) := hA
  have HB : Hid (R[h.b.toNat]? = some (regv R h.b)) := hB
  have HC : Hid (R[h.c.toNat]? = some (regv R h.c)) := hC
  clear hA hB hC
  generalize regv R h.a = x at *
  generalize regv R h.b = y at *
  generalize regv R h.c = z at *
  have e31 : bits .and .u32 y 31 = y % 32 := and_low5 y ub vb
  have ew : IntKind.i64.wrap (y % 32) = y % 32 := by rw [IntKind.wrap_i64]; omega
  have n0 : 0 ≤ y % 32 := by omega
  have n1 : y % 32 < 32 := by omega
  have hop0 : (Cel.host h).cells[0]? = some (.int .i64 21) := by simp [Cel.cells, hop]
  go_enter Tryz.func32, Tryz.ntmps32
  go_wp2_with (first
    | (refine S.box rfl _ _ rfl (Cel.host h) rfl ?_; clear S; intro q1 w1 S)
    | (refine S.box rfl _ _ rfl (Cel.regs R) rfl ?_; clear S; intro q2 w2 S))
  refine Upto.start (S := fun w' => SH noZ w w' [(q2, Cel.regs R), (q1, Cel.host h)]) 9 (by kernel_rfl) ?_
  replace S := S.drew
  refine Upto.take (i := 0) (oi := { dst := some 16, op := Op.fieldAddr 31 (Operand.tmp 2) 2, type := 0, pos := "sourdineref5.go:147", after := #[], guard := none }) (v := ?_) rfl (by kernel_rfl) (by kernel_rfl) (by kernel_rfl) (by kernel_rfl) (fun _ _ _ h => h) (Or.inl ⟨by rfl, ?_⟩) (by exact S) ?_
  rotate_left 1
  · intro w hSw
    clear hSw
    go_simp
    try with_reducible rfl
  simp only [Act.put, List.setIfInBounds_toArray, List.set_cons_zero, List.set_cons_succ]
  refine Upto.take (i := 1) (oi := { dst := some 17, op := Op.load 3 (Operand.tmp 16), type := 3, pos := "sourdineref5.go:147", after := #[{ on := 0, ground := Ground.data }], guard := none }) (v := _) rfl (by kernel_rfl) (by kernel_rfl) (by kernel_rfl) (by kernel_rfl) (fun _ _ _ h => h) (y_load1 (by rfl) _ _ rfl _ _ rfl 1 _ rfl _ rfl _ Tryz.underlying3 rfl) (by exact S) ?_
  simp only [Act.put, List.setIfInBounds_toArray, List.set_cons_zero, List.set_cons_succ]
  refine Upto.take (i := 2) (oi := { dst := some 18, op := Op.indexAddr 27 (Operand.tmp 3) (Operand.tmp 17), type := 0, pos := "sourdineref5.go:147", after := #[{ on := 1, ground := Ground.data }], guard := none }) (v := ?_) rfl (by kernel_rfl) (by kernel_rfl) (by kernel_rfl) (by kernel_rfl) (fun _ _ _ h => h) (Or.inl ⟨by rfl, ?_⟩) (by exact S) ?_
  rotate_left 1
  · intro w hSw
    clear hSw
    go_simp
    try with_reducible rfl
  simp only [Act.put, List.setIfInBounds_toArray, List.set_cons_zero, List.set_cons_succ]
  refine Upto.take (i := 3) (oi := { dst := some 19, op := Op.load 26 (Operand.tmp 18), type := 26, pos := "sourdineref5.go:147", after := #[{ on := 2, ground := Ground.data }], guard := none }) (v := _) rfl (by kernel_rfl) (by kernel_rfl) (by kernel_rfl) (by kernel_rfl) (fun _ _ _ h => h) (y_load1 (by rfl) _ _ rfl _ _ rfl 0 _ rfl _ (rc_at HA.out) _ Tryz.underlying26 rfl) (by exact S) ?_
  simp only [Act.put, List.setIfInBounds_toArray, List.set_cons_zero, List.set_cons_succ]
  refine Upto.take (i := 4) (oi := { dst := some 20, op := Op.fieldAddr 31 (Operand.tmp 2) 3, type := 0, pos := "sourdineref5.go:147", after := #[{ on := 8, ground := Ground.gcOnly Departure.lateStores }], guard := none }) (v := ?_) rfl (by kernel_rfl) (by kernel_rfl) (by kernel_rfl) (by kernel_rfl) (fun _ _ _ h => h) (Or.inl ⟨by rfl, ?_⟩) (by exact S) ?_
  rotate_left 1
  · intro w hSw
    clear hSw
    go_simp
    try with_reducible rfl
  simp only [Act.put, List.setIfInBounds_toArray, List.set_cons_zero, List.set_cons_succ]
  refine Upto.take (i := 5) (oi := { dst := some 21, op := Op.load 3 (Operand.tmp 20), type := 3, pos := "sourdineref5.go:147", after := #[{ on := 4, ground := Ground.data }, { on := 8, ground := Ground.gcOnly Departure.lateStores }], guard := none }) (v := _) rfl (by kernel_rfl) (by kernel_rfl) (by kernel_rfl) (by kernel_rfl) (fun _ _ _ h => h) (y_load1 (by rfl) _ _ rfl _ _ rfl 1 _ rfl _ rfl _ Tryz.underlying3 rfl) (by exact S) ?_
  simp only [Act.put, List.setIfInBounds_toArray, List.set_cons_zero, List.set_cons_succ]
  refine Upto.take (i := 6) (oi := { dst := some 22, op := Op.indexAddr 27 (Operand.tmp 3) (Operand.tmp 21), type := 0, pos := "sourdineref5.go:147", after := #[{ on := 5, ground := Ground.data }, { on := 8, ground := Ground.gcOnly Departure.lateStores }], guard := none }) (v := ?_) rfl (by kernel_rfl) (by kernel_rfl) (by kernel_rfl) (by kernel_rfl) (fun _ _ _ h => h) (Or.inl ⟨by rfl, ?_⟩) (by exact S) ?_
  rotate_left 1
  · intro w hSw
    clear hSw
    go_simp
    try with_reducible rfl
  simp only [Act.put, List.setIfInBounds_toArray, List.set_cons_zero, List.set_cons_succ]
  refine Upto.take (i := 7) (oi := { dst := some 23, op := Op.load 26 (Operand.tmp 22), type := 26, pos := "sourdineref5.go:147", after := #[{ on := 6, ground := Ground.data }, { on := 8, ground := Ground.gcOnly Departure.lateStores }], guard := none }) (v := _) rfl (by kernel_rfl) (by kernel_rfl) (by kernel_rfl) (by kernel_rfl) (fun _ _ _ h => h) (y_load1 (by rfl) _ _ rfl _ _ rfl 0 _ rfl _ (rc_at HB.out) _ Tryz.underlying26 rfl) (by exact S) ?_
  simp only [Act.put, List.setIfInBounds_toArray, List.set_cons_zero, List.set_cons_succ]
  refine Upto.take (i := 8) (oi := { dst := some 5, op := Op.assign (Operand.tmp 19), type := 26, pos := "sourdineref5.go:147", after := #[{ on := 3, ground := Ground.data }, { on := 0, ground := Ground.phase }, { on := 1, ground := Ground.phase }, { on := 2, ground := Ground.phase }, { on := 3, ground := Ground.phase }, { on := 4, ground := Ground.textOnly Departure.lateStores }, { on := 5, ground := Ground.textOnly Departure.lateStores }, { on := 6, ground := Ground.textOnly Departure.lateStores }, { on := 7, ground := Ground.textOnly Departure.lateStores }], guard := none }) (v := ?_) rfl (by kernel_rfl) (by kernel_rfl) (by kernel_rfl) (by kernel_rfl) (fun _ _ _ h => h) (Or.inl ⟨by rfl, ?_⟩) (by exact S) ?_
  rotate_left 1
  · intro w hSw
    clear hSw
    go_simp
    try with_reducible rfl
  simp only [Act.put, List.setIfInBounds_toArray, List.set_cons_zero, List.set_cons_succ]
  refine Upto.ready (rs := [9]) (by kernel_rfl) (by simp) ?_
  refine Nexts.last rfl (fun K hK => ?_)
  go_simp
  refine hK.out _ _ ?_
  clear hK K
  refine Upto.done (by kernel_rfl) ?_ _
  go_wp2_with (first
    | (refine S.load1 rfl 3 _ rfl _ 0 rfl 1 (Cel.host h) rfl _ hop0 _ Tryz.underlying3 rfl ?_)
    | (refine S.load1 rfl 3 _ rfl _ 2 rfl 1 (Cel.host h) rfl _ rfl _ Tryz.underlying3 rfl ?_)
    | (refine S.load1 rfl 3 _ rfl _ 3 rfl 1 (Cel.host h) rfl _ rfl _ Tryz.underlying3 rfl ?_)
    | (refine S.load1 rfl 3 _ rfl _ 4 rfl 1 (Cel.host h) rfl _ rfl _ Tryz.underlying3 rfl ?_)
    | (refine S.load1 rfl 26 _ rfl _ 5 rfl 1 (Cel.host h) rfl _ rfl _ Tryz.underlying26 rfl ?_)
    | (refine S.load1 rfl 26 _ rfl _ _ rfl 0 (Cel.regs R) rfl _ (rc_at HA.out) _ Tryz.underlying26 rfl ?_)
    | (refine S.load1 rfl 26 _ rfl _ _ rfl 0 (Cel.regs R) rfl _ (rc_at HB.out) _ Tryz.underlying26 rfl ?_)
    | (refine S.load1 rfl 26 _ rfl _ _ rfl 0 (Cel.regs R) rfl _ (rc_at HC.out) _ Tryz.underlying26 rfl ?_))
  all_goals
    go_ret
    exact ⟨by simp [reckS, hz], S.low⟩
theorem rrk21_c (h : HV) (R : List Int) (ho : HOk h) (hR : okR R) (hop : h.op = 21) (w : World) : Calls Tryz.prog 32 #[(Cel.host h).val, (Cel.regs R).val] w fun e w' => e = .returned (.int .u32 (reckS 21 (regv R h.a) (regv R h.b) (regv R h.c) h.im)) ∧ Below w.heap.size w w' := by
  by_cases hz : regv R h.c = 0
  · exact rrk21_f h R ho hR hop hz w
  · exact rrk21_t h R ho hR hop hz w
theorem rreckon_c (h : HV) (R : List Int) (ho : HOk h) (hR : okR R) (o1 : 1 ≤ h.op) (o2 : h.op ≤ 21) (w : World) : Calls Tryz.prog 32 #[(Cel.host h).val, (Cel.regs R).val] w fun e w' => e = .returned (.int .u32 (reckS h.op (regv R h.a) (regv R h.b) (regv R h.c) h.im)) ∧ Below w.heap.size w w' := by
  have hc : h.op = 1 ∨ h.op = 2 ∨ h.op = 3 ∨ h.op = 4 ∨ h.op = 5 ∨ h.op = 6 ∨ h.op = 7 ∨ h.op = 8 ∨ h.op = 9 ∨ h.op = 10 ∨ h.op = 11 ∨ h.op = 12 ∨ h.op = 13 ∨ h.op = 14 ∨ h.op = 15 ∨ h.op = 16 ∨ h.op = 17 ∨ h.op = 18 ∨ h.op = 19 ∨ h.op = 20 ∨ h.op = 21 := by omega
  rcases hc with e | e | e | e | e | e | e | e | e | e | e | e | e | e | e | e | e | e | e | e | e
  · have q := rrk1_c h R ho hR e w
    rw [e]; exact q
  · have q := rrk2_c h R ho hR e w
    rw [e]; exact q
  · have q := rrk3_c h R ho hR e w
    rw [e]; exact q
  · have q := rrk4_c h R ho hR e w
    rw [e]; exact q
  · have q := rrk5_c h R ho hR e w
    rw [e]; exact q
  · have q := rrk6_c h R ho hR e w
    rw [e]; exact q
  · have q := rrk7_c h R ho hR e w
    rw [e]; exact q
  · have q := rrk8_c h R ho hR e w
    rw [e]; exact q
  · have q := rrk9_c h R ho hR e w
    rw [e]; exact q
  · have q := rrk10_c h R ho hR e w
    rw [e]; exact q
  · have q := rrk11_c h R ho hR e w
    rw [e]; exact q
  · have q := rrk12_c h R ho hR e w
    rw [e]; exact q
  · have q := rrk13_c h R ho hR e w
    rw [e]; exact q
  · have q := rrk14_c h R ho hR e w
    rw [e]; exact q
  · have q := rrk15_c h R ho hR e w
    rw [e]; exact q
  · have q := rrk16_c h R ho hR e w
    rw [e]; exact q
  · have q := rrk17_c h R ho hR e w
    rw [e]; exact q
  · have q := rrk18_c h R ho hR e w
    rw [e]; exact q
  · have q := rrk19_c h R ho hR e w
    rw [e]; exact q
  · have q := rrk20_c h R ho hR e w
    rw [e]; exact q
  · have q := rrk21_c h R ho hR e w
    rw [e]; exact q
end Go.Proofs.YtjhmmfpmmgebjaaGreat
