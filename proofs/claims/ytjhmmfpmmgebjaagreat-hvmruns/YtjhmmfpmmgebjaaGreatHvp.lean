/- The instruction of a few numbers: whatever they are, one comes. -/
import Derived.Test.YtjhmmfpmmgebjaaGreatVh
namespace Go.Proofs.YtjhmmfpmmgebjaaGreat
open Go.ChangeShapes Go.WideShapes Go.ChangeAt Go.RowKit
set_option linter.unusedVariables false
set_option linter.unusedSimpArgs false

theorem set_h1 (h : HV) (x : Int) : (Cel.host h).cells.set 1 (.int .i64 x) = (Cel.host ⟨h.op, x, h.a, h.b, h.c, h.im⟩).cells := rfl
theorem set_h2 (h : HV) (x : Int) : (Cel.host h).cells.set 2 (.int .i64 x) = (Cel.host ⟨h.op, h.d, x, h.b, h.c, h.im⟩).cells := rfl
theorem set_h3 (h : HV) (x : Int) : (Cel.host h).cells.set 3 (.int .i64 x) = (Cel.host ⟨h.op, h.d, h.a, x, h.c, h.im⟩).cells := rfl
theorem set_h4 (h : HV) (x : Int) : (Cel.host h).cells.set 4 (.int .i64 x) = (Cel.host ⟨h.op, h.d, h.a, h.b, x, h.im⟩).cells := rfl
theorem set_h5 (h : HV) (x : Int) : (Cel.host h).cells.set 5 (.int .u32 x) = (Cel.host ⟨h.op, h.d, h.a, h.b, h.c, x⟩).cells := rfl
set_option maxHeartbeats 8000000 in
set_option maxRecDepth 100000 in
theorem lone_c (l0 l1 l2 l3 v n : Int) (p0 : 0 ≤ l0 ∧ l0 ≤ 255) (p1 : 0 ≤ l1 ∧ l1 ≤ 255) (p2 : 0 ≤ l2 ∧ l2 ≤ 255) (p3 : 0 ≤ l3 ∧ l3 ≤ 255) (pv : 0 ≤ v ∧ v ≤ 4294967295) (w : World) :
    Calls Tryz.prog 15 #[.agg #[.int .u8 l0, .int .u8 l1, .int .u8 l2, .int .u8 l3], .int .u32 v, .int .i64 n] w fun e w' => ∃ h : HV, e = .returned (Cel.host h).val ∧ h.wf ∧ Below w.heap.size w w' := by
  have S := SH.start w
  obtain ⟨o, ho⟩ : ∃ o, l0 % 31 + 1 = o := ⟨_, rfl⟩
  have o1 : 1 ≤ o := by omega
  have o2 : o ≤ 31 := by omega
  have t0 : l0.tmod 31 = l0 % 31 := Int.tmod_eq_emod_of_nonneg p0.1
  have t1 : l1.tmod 8 = l1 % 8 := Int.tmod_eq_emod_of_nonneg p1.1
  have t2 : l2.tmod 8 = l2 % 8 := Int.tmod_eq_emod_of_nonneg p2.1
  have t3 : l3.tmod 8 = l3 % 8 := Int.tmod_eq_emod_of_nonneg p3.1
  go_enter Tryz.func15, Tryz.ntmps15
  go_wp2_with (first
    | (refine S.box rfl _ _ rfl (Cel.any [.int .u8 l0, .int .u8 l1, .int .u8 l2, .int .u8 l3]) rfl ?_; clear S; intro b3 w3 S)
    | (refine SH.alloc (L := [_]) S rfl 31 rfl _ zeroHost ?_; clear S; intro b6 w6 S)
    | (refine SH.alloc (L := [_, _]) S rfl 31 rfl _ zeroHost ?_; clear S; intro b7 w7 S)
    | (refine S.load1 rfl 5 _ rfl _ 0 rfl 1 (Cel.any _) rfl _ rfl _ Tryz.underlying5 rfl ?_)
    | (refine S.storeAll rfl 31 _ _ rfl _ (Cel.host ⟨o, 0, 0, 0, 0, 0⟩) rfl rfl 0 _ rfl rfl (one_host _) szHost ?_; clear S; intro w8 S; simp only [List.set_cons_zero, List.set_cons_succ] at S))
  refine Upto.start (S := fun w' => SH noZ w w' [(b7, Cel.host ⟨o, 0, 0, 0, 0, 0⟩), (b6, Cel.host noHV), (b3, Cel.any [.int .u8 l0, .int .u8 l1, .int .u8 l2, .int .u8 l3])]) 14 (by kernel_rfl) ?_
  replace S := S.drew
  refine Upto.take (i := 0) (oi := { dst := some 17, op := Op.indexAddr 61 (Operand.tmp 3) (Operand.const (Value.int IntKind.i64 1)), type := 0, pos := "law.go:28", after := #[], guard := none }) (v := ?_) rfl (by kernel_rfl) (by kernel_rfl) (by kernel_rfl) (by kernel_rfl) (fun _ _ _ h => h) (Or.inl ⟨by rfl, ?_⟩) (by exact S) ?_
  rotate_left 1
  · intro w hSw
    clear hSw
    go_simp
    try with_reducible rfl
  simp only [Act.put, List.setIfInBounds_toArray, List.set_cons_zero, List.set_cons_succ]
  refine Upto.take (i := 1) (oi := { dst := some 18, op := Op.load 5 (Operand.tmp 17), type := 5, pos := "law.go:28", after := #[{ on := 0, ground := Ground.data }], guard := none }) (v := _) rfl (by kernel_rfl) (by kernel_rfl) (by kernel_rfl) (by kernel_rfl) (fun _ _ _ h => h) (y_load1 (by rfl) _ _ rfl _ _ rfl 2 _ rfl _ rfl _ Tryz.underlying5 rfl) (by exact S) ?_
  simp only [Act.put, List.setIfInBounds_toArray, List.set_cons_zero, List.set_cons_succ]
  refine Upto.take (i := 2) (oi := { dst := some 19, op := Op.binOp BinOp.rem 5 (Operand.tmp 18) (Operand.const (Value.int IntKind.u8 8)) 5, type := 5, pos := "law.go:28", after := #[{ on := 1, ground := Ground.data }], guard := none }) (v := ?_) rfl (by kernel_rfl) (by kernel_rfl) (by kernel_rfl) (by kernel_rfl) (fun _ _ _ h => h) (Or.inl ⟨by rfl, ?_⟩) (by exact S) ?_
  rotate_left 1
  · intro w hSw
    clear hSw
    go_simp
    try with_reducible rfl
  simp only [Act.put, List.setIfInBounds_toArray, List.set_cons_zero, List.set_cons_succ]
  refine Upto.take (i := 3) (oi := { dst := some 20, op := Op.convert 5 3 (Operand.tmp 19), type := 3, pos := "law.go:28", after := #[{ on := 2, ground := Ground.data }], guard := none }) (v := ?_) rfl (by kernel_rfl) (by kernel_rfl) (by kernel_rfl) (by kernel_rfl) (fun _ _ _ h => h) (Or.inl ⟨by rfl, ?_⟩) (by exact S) ?_
  rotate_left 1
  · intro w hSw
    clear hSw
    go_simp
    try with_reducible rfl
  simp only [Act.put, List.setIfInBounds_toArray, List.set_cons_zero, List.set_cons_succ]
  refine Upto.take (i := 4) (oi := { dst := some 21, op := Op.indexAddr 61 (Operand.tmp 3) (Operand.const (Value.int IntKind.i64 2)), type := 0, pos := "law.go:28", after := #[{ on := 12, ground := Ground.gcOnly Departure.lateStores }], guard := none }) (v := ?_) rfl (by kernel_rfl) (by kernel_rfl) (by kernel_rfl) (by kernel_rfl) (fun _ _ _ h => h) (Or.inl ⟨by rfl, ?_⟩) (by exact S) ?_
  rotate_left 1
  · intro w hSw
    clear hSw
    go_simp
    try with_reducible rfl
  simp only [Act.put, List.setIfInBounds_toArray, List.set_cons_zero, List.set_cons_succ]
  refine Upto.take (i := 5) (oi := { dst := some 22, op := Op.load 5 (Operand.tmp 21), type := 5, pos := "law.go:28", after := #[{ on := 4, ground := Ground.data }, { on := 12, ground := Ground.gcOnly Departure.lateStores }], guard := none }) (v := _) rfl (by kernel_rfl) (by kernel_rfl) (by kernel_rfl) (by kernel_rfl) (fun _ _ _ h => h) (y_load1 (by rfl) _ _ rfl _ _ rfl 2 _ rfl _ rfl _ Tryz.underlying5 rfl) (by exact S) ?_
  simp only [Act.put, List.setIfInBounds_toArray, List.set_cons_zero, List.set_cons_succ]
  refine Upto.take (i := 6) (oi := { dst := some 23, op := Op.binOp BinOp.rem 5 (Operand.tmp 22) (Operand.const (Value.int IntKind.u8 8)) 5, type := 5, pos := "law.go:28", after := #[{ on := 5, ground := Ground.data }, { on := 12, ground := Ground.gcOnly Departure.lateStores }], guard := none }) (v := ?_) rfl (by kernel_rfl) (by kernel_rfl) (by kernel_rfl) (by kernel_rfl) (fun _ _ _ h => h) (Or.inl ⟨by rfl, ?_⟩) (by exact S) ?_
  rotate_left 1
  · intro w hSw
    clear hSw
    go_simp
    try with_reducible rfl
  simp only [Act.put, List.setIfInBounds_toArray, List.set_cons_zero, List.set_cons_succ]
  refine Upto.take (i := 7) (oi := { dst := some 24, op := Op.convert 5 3 (Operand.tmp 23), type := 3, pos := "law.go:28", after := #[{ on := 6, ground := Ground.data }, { on := 12, ground := Ground.gcOnly Departure.lateStores }], guard := none }) (v := ?_) rfl (by kernel_rfl) (by kernel_rfl) (by kernel_rfl) (by kernel_rfl) (fun _ _ _ h => h) (Or.inl ⟨by rfl, ?_⟩) (by exact S) ?_
  rotate_left 1
  · intro w hSw
    clear hSw
    go_simp
    try with_reducible rfl
  simp only [Act.put, List.setIfInBounds_toArray, List.set_cons_zero, List.set_cons_succ]
  refine Upto.take (i := 8) (oi := { dst := some 25, op := Op.indexAddr 61 (Operand.tmp 3) (Operand.const (Value.int IntKind.i64 3)), type := 0, pos := "law.go:28", after := #[{ on := 13, ground := Ground.gcOnly Departure.lateStores }], guard := none }) (v := ?_) rfl (by kernel_rfl) (by kernel_rfl) (by kernel_rfl) (by kernel_rfl) (fun _ _ _ h => h) (Or.inl ⟨by rfl, ?_⟩) (by exact S) ?_
  rotate_left 1
  · intro w hSw
    clear hSw
    go_simp
    try with_reducible rfl
  simp only [Act.put, List.setIfInBounds_toArray, List.set_cons_zero, List.set_cons_succ]
  refine Upto.take (i := 9) (oi := { dst := some 26, op := Op.load 5 (Operand.tmp 25), type := 5, pos := "law.go:28", after := #[{ on := 8, ground := Ground.data }, { on := 13, ground := Ground.gcOnly Departure.lateStores }], guard := none }) (v := _) rfl (by kernel_rfl) (by kernel_rfl) (by kernel_rfl) (by kernel_rfl) (fun _ _ _ h => h) (y_load1 (by rfl) _ _ rfl _ _ rfl 2 _ rfl _ rfl _ Tryz.underlying5 rfl) (by exact S) ?_
  simp only [Act.put, List.setIfInBounds_toArray, List.set_cons_zero, List.set_cons_succ]
  refine Upto.take (i := 10) (oi := { dst := some 27, op := Op.binOp BinOp.rem 5 (Operand.tmp 26) (Operand.const (Value.int IntKind.u8 8)) 5, type := 5, pos := "law.go:28", after := #[{ on := 9, ground := Ground.data }, { on := 13, ground := Ground.gcOnly Departure.lateStores }], guard := none }) (v := ?_) rfl (by kernel_rfl) (by kernel_rfl) (by kernel_rfl) (by kernel_rfl) (fun _ _ _ h => h) (Or.inl ⟨by rfl, ?_⟩) (by exact S) ?_
  rotate_left 1
  · intro w hSw
    clear hSw
    go_simp
    try with_reducible rfl
  simp only [Act.put, List.setIfInBounds_toArray, List.set_cons_zero, List.set_cons_succ]
  refine Upto.take (i := 11) (oi := { dst := some 28, op := Op.convert 5 3 (Operand.tmp 27), type := 3, pos := "law.go:28", after := #[{ on := 10, ground := Ground.data }, { on := 13, ground := Ground.gcOnly Departure.lateStores }], guard := none }) (v := ?_) rfl (by kernel_rfl) (by kernel_rfl) (by kernel_rfl) (by kernel_rfl) (fun _ _ _ h => h) (Or.inl ⟨by rfl, ?_⟩) (by exact S) ?_
  rotate_left 1
  · intro w hSw
    clear hSw
    go_simp
    try with_reducible rfl
  simp only [Act.put, List.setIfInBounds_toArray, List.set_cons_zero, List.set_cons_succ]
  refine Upto.take (i := 12) (oi := { dst := some 8, op := Op.assign (Operand.tmp 20), type := 3, pos := "law.go:28", after := #[{ on := 3, ground := Ground.data }, { on := 0, ground := Ground.phase }, { on := 1, ground := Ground.phase }, { on := 2, ground := Ground.phase }, { on := 3, ground := Ground.phase }, { on := 4, ground := Ground.textOnly Departure.lateStores }, { on := 5, ground := Ground.textOnly Departure.lateStores }, { on := 6, ground := Ground.textOnly Departure.lateStores }, { on := 7, ground := Ground.textOnly Departure.lateStores }, { on := 8, ground := Ground.textOnly Departure.lateStores }, { on := 9, ground := Ground.textOnly Departure.lateStores }, { on := 10, ground := Ground.textOnly Departure.lateStores }, { on := 11, ground := Ground.textOnly Departure.lateStores }], guard := none }) (v := ?_) rfl (by kernel_rfl) (by kernel_rfl) (by kernel_rfl) (by kernel_rfl) (fun _ _ _ h => h) (Or.inl ⟨by rfl, ?_⟩) (by exact S) ?_
  rotate_left 1
  · intro w hSw
    clear hSw
    go_simp
    try with_reducible rfl
  simp only [Act.put, List.setIfInBounds_toArray, List.set_cons_zero, List.set_cons_succ]
  refine Upto.take (i := 13) (oi := { dst := some 9, op := Op.assign (Operand.tmp 24), type := 3, pos := "law.go:28", after := #[{ on := 7, ground := Ground.data }, { on := 12, ground := Ground.chain }, { on := 0, ground := Ground.phase }, { on := 1, ground := Ground.phase }, { on := 2, ground := Ground.phase }, { on := 3, ground := Ground.phase }, { on := 4, ground := Ground.phase }, { on := 5, ground := Ground.phase }, { on := 6, ground := Ground.phase }, { on := 7, ground := Ground.phase }, { on := 8, ground := Ground.textOnly Departure.lateStores }, { on := 9, ground := Ground.textOnly Departure.lateStores }, { on := 10, ground := Ground.textOnly Departure.lateStores }, { on := 11, ground := Ground.textOnly Departure.lateStores }, { on := 12, ground := Ground.phase }], guard := none }) (v := ?_) rfl (by kernel_rfl) (by kernel_rfl) (by kernel_rfl) (by kernel_rfl) (fun _ _ _ h => h) (Or.inl ⟨by rfl, ?_⟩) (by exact S) ?_
  rotate_left 1
  · intro w hSw
    clear hSw
    go_simp
    try with_reducible rfl
  simp only [Act.put, List.setIfInBounds_toArray, List.set_cons_zero, List.set_cons_succ]
  refine Upto.ready (rs := [14]) (by kernel_rfl) (by simp) ?_
  refine Nexts.last rfl (fun K hK => ?_)
  go_simp
  refine hK.out _ _ ?_
  clear hK K
  refine Upto.done (by kernel_rfl) ?_ _
  generalize IntKind.i64.wrap (l1 % 8) = d
  generalize IntKind.i64.wrap (l2 % 8) = a
  generalize IntKind.i64.wrap (l3 % 8) = b
  have tv1 : v.tmod 64 = v % 64 := Int.tmod_eq_emod_of_nonneg pv.1
  have tv2 : v.tmod 99 = v % 99 := Int.tmod_eq_emod_of_nonneg pv.1
  have tv3 : v.tmod 40 = v % 40 := Int.tmod_eq_emod_of_nonneg pv.1
  have t6 : l1.tmod 6 = l1 % 6 := Int.tmod_eq_emod_of_nonneg p1.1
  obtain ⟨m6, hm6⟩ : ∃ m, IntKind.u32.wrap (l1 % 6 - 1) = m := ⟨_, rfl⟩
  have hm6b : 0 ≤ m6 ∧ m6 ≤ 4294967295 := by rw [← hm6, IntKind.wrap_u32]; omega
  clear t0 t1 t2 t3 ho
  have hcl : o = 1 ∨ o = 2 ∨ o = 17 ∨ o = 21 ∨ o = 22 ∨ o = 23 ∨ o = 24 ∨ o = 25 ∨ o = 26 ∨ o = 27 ∨ o = 28 ∨ o = 29 ∨ o = 30 ∨ o = 31 ∨ (o ≠ 1 ∧ o ≠ 2 ∧ o ≠ 17 ∧ o ≠ 21 ∧ o ≠ 22 ∧ o ≠ 23 ∧ o ≠ 24 ∧ o ≠ 25 ∧ o ≠ 26 ∧ o ≠ 27 ∧ o ≠ 28 ∧ o ≠ 29 ∧ o ≠ 30 ∧ o ≠ 31) := by omega
  rcases hcl with rfl | rfl | rfl | rfl | rfl | rfl | rfl | rfl | rfl | rfl | rfl | rfl | rfl | rfl | hno
  · by_cases h250 : 250 < l3
    · go_wp2_with (first
        | (refine S.load1 rfl 3 _ rfl _ 0 rfl 0 (Cel.host _) rfl _ rfl _ Tryz.underlying3 rfl ?_)
        | (refine S.load1 rfl 5 _ rfl _ 1 rfl 2 (Cel.any _) rfl _ rfl _ Tryz.underlying5 rfl ?_)
        | (refine S.load1 rfl 5 _ rfl _ 3 rfl 2 (Cel.any _) rfl _ rfl _ Tryz.underlying5 rfl ?_)
        | (refine S.store1 rfl 3 _ _ rfl _ 1 _ rfl rfl 0 (Cel.host _) rfl rfl (by simp [Cel.cells]) _ (set_h1 _ _) szI ?_; clear S; intro w9 S; simp only [List.set_cons_zero, List.set_cons_succ] at S)
        | (refine S.store1 rfl 3 _ _ rfl _ 2 _ rfl rfl 0 (Cel.host _) rfl rfl (by simp [Cel.cells]) _ (set_h2 _ _) szI ?_; clear S; intro w9 S; simp only [List.set_cons_zero, List.set_cons_succ] at S)
        | (refine S.store1 rfl 3 _ _ rfl _ 3 _ rfl rfl 0 (Cel.host _) rfl rfl (by simp [Cel.cells]) _ (set_h3 _ _) szI ?_; clear S; intro w9 S; simp only [List.set_cons_zero, List.set_cons_succ] at S)
        | (refine S.store1 rfl 26 _ _ rfl _ 5 _ rfl rfl 0 (Cel.host _) rfl rfl (by simp [Cel.cells]) _ (set_h5 _ _) szU ?_; clear S; intro w9 S; simp only [List.set_cons_zero, List.set_cons_succ] at S)
        | (refine S.loadAll rfl 31 _ rfl _ rfl 0 (Cel.host _) rfl _ Tryz.underlying31 rfl szHost ?_)
        | (refine S.storeAll rfl 31 _ _ rfl _ (Cel.host _) rfl rfl 1 _ rfl rfl (one_host _) szHost ?_; clear S; intro w9 S; simp only [List.set_cons_zero, List.set_cons_succ] at S))
      refine bodyPost_ret (S.results rfl _ _ rfl 1 _ rfl _ Tryz.underlying31 rfl szHost) rfl ?_
      exact ⟨_, rfl, by first | exact ⟨by decide, by decide⟩ | (refine ⟨?_, ?_⟩ <;> first | (simp only []; omega) | (simp only [IntKind.wrap_u32]; omega)), S.low⟩
    · have h251 : decide (250 < l3) = false := by simpa using h250
      go_wp2_with (first
        | (refine S.load1 rfl 3 _ rfl _ 0 rfl 0 (Cel.host _) rfl _ rfl _ Tryz.underlying3 rfl ?_)
        | (refine S.load1 rfl 5 _ rfl _ 1 rfl 2 (Cel.any _) rfl _ rfl _ Tryz.underlying5 rfl ?_)
        | (refine S.load1 rfl 5 _ rfl _ 3 rfl 2 (Cel.any _) rfl _ rfl _ Tryz.underlying5 rfl ?_)
        | (refine S.store1 rfl 3 _ _ rfl _ 1 _ rfl rfl 0 (Cel.host _) rfl rfl (by simp [Cel.cells]) _ (set_h1 _ _) szI ?_; clear S; intro w9 S; simp only [List.set_cons_zero, List.set_cons_succ] at S)
        | (refine S.store1 rfl 3 _ _ rfl _ 2 _ rfl rfl 0 (Cel.host _) rfl rfl (by simp [Cel.cells]) _ (set_h2 _ _) szI ?_; clear S; intro w9 S; simp only [List.set_cons_zero, List.set_cons_succ] at S)
        | (refine S.store1 rfl 3 _ _ rfl _ 3 _ rfl rfl 0 (Cel.host _) rfl rfl (by simp [Cel.cells]) _ (set_h3 _ _) szI ?_; clear S; intro w9 S; simp only [List.set_cons_zero, List.set_cons_succ] at S)
        | (refine S.store1 rfl 26 _ _ rfl _ 5 _ rfl rfl 0 (Cel.host _) rfl rfl (by simp [Cel.cells]) _ (set_h5 _ _) szU ?_; clear S; intro w9 S; simp only [List.set_cons_zero, List.set_cons_succ] at S)
        | (refine S.loadAll rfl 31 _ rfl _ rfl 0 (Cel.host _) rfl _ Tryz.underlying31 rfl szHost ?_)
        | (refine S.storeAll rfl 31 _ _ rfl _ (Cel.host _) rfl rfl 1 _ rfl rfl (one_host _) szHost ?_; clear S; intro w9 S; simp only [List.set_cons_zero, List.set_cons_succ] at S))
      refine bodyPost_ret (S.results rfl _ _ rfl 1 _ rfl _ Tryz.underlying31 rfl szHost) rfl ?_
      exact ⟨_, rfl, by first | exact ⟨by decide, by decide⟩ | (refine ⟨?_, ?_⟩ <;> first | (simp only []; omega) | (simp only [IntKind.wrap_u32]; omega)), S.low⟩
  · by_cases h250 : 250 < l3
    · go_wp2_with (first
        | (refine S.load1 rfl 3 _ rfl _ 0 rfl 0 (Cel.host _) rfl _ rfl _ Tryz.underlying3 rfl ?_)
        | (refine S.load1 rfl 5 _ rfl _ 1 rfl 2 (Cel.any _) rfl _ rfl _ Tryz.underlying5 rfl ?_)
        | (refine S.load1 rfl 5 _ rfl _ 3 rfl 2 (Cel.any _) rfl _ rfl _ Tryz.underlying5 rfl ?_)
        | (refine S.store1 rfl 3 _ _ rfl _ 1 _ rfl rfl 0 (Cel.host _) rfl rfl (by simp [Cel.cells]) _ (set_h1 _ _) szI ?_; clear S; intro w9 S; simp only [List.set_cons_zero, List.set_cons_succ] at S)
        | (refine S.store1 rfl 3 _ _ rfl _ 2 _ rfl rfl 0 (Cel.host _) rfl rfl (by simp [Cel.cells]) _ (set_h2 _ _) szI ?_; clear S; intro w9 S; simp only [List.set_cons_zero, List.set_cons_succ] at S)
        | (refine S.store1 rfl 3 _ _ rfl _ 3 _ rfl rfl 0 (Cel.host _) rfl rfl (by simp [Cel.cells]) _ (set_h3 _ _) szI ?_; clear S; intro w9 S; simp only [List.set_cons_zero, List.set_cons_succ] at S)
        | (refine S.store1 rfl 26 _ _ rfl _ 5 _ rfl rfl 0 (Cel.host _) rfl rfl (by simp [Cel.cells]) _ (set_h5 _ _) szU ?_; clear S; intro w9 S; simp only [List.set_cons_zero, List.set_cons_succ] at S)
        | (refine S.loadAll rfl 31 _ rfl _ rfl 0 (Cel.host _) rfl _ Tryz.underlying31 rfl szHost ?_)
        | (refine S.storeAll rfl 31 _ _ rfl _ (Cel.host _) rfl rfl 1 _ rfl rfl (one_host _) szHost ?_; clear S; intro w9 S; simp only [List.set_cons_zero, List.set_cons_succ] at S))
      refine bodyPost_ret (S.results rfl _ _ rfl 1 _ rfl _ Tryz.underlying31 rfl szHost) rfl ?_
      exact ⟨_, rfl, by first | exact ⟨by decide, by decide⟩ | (refine ⟨?_, ?_⟩ <;> first | (simp only []; omega) | (simp only [IntKind.wrap_u32]; omega)), S.low⟩
    · have h251 : decide (250 < l3) = false := by simpa using h250
      go_wp2_with (first
        | (refine S.load1 rfl 3 _ rfl _ 0 rfl 0 (Cel.host _) rfl _ rfl _ Tryz.underlying3 rfl ?_)
        | (refine S.load1 rfl 5 _ rfl _ 1 rfl 2 (Cel.any _) rfl _ rfl _ Tryz.underlying5 rfl ?_)
        | (refine S.load1 rfl 5 _ rfl _ 3 rfl 2 (Cel.any _) rfl _ rfl _ Tryz.underlying5 rfl ?_)
        | (refine S.store1 rfl 3 _ _ rfl _ 1 _ rfl rfl 0 (Cel.host _) rfl rfl (by simp [Cel.cells]) _ (set_h1 _ _) szI ?_; clear S; intro w9 S; simp only [List.set_cons_zero, List.set_cons_succ] at S)
        | (refine S.store1 rfl 3 _ _ rfl _ 2 _ rfl rfl 0 (Cel.host _) rfl rfl (by simp [Cel.cells]) _ (set_h2 _ _) szI ?_; clear S; intro w9 S; simp only [List.set_cons_zero, List.set_cons_succ] at S)
        | (refine S.store1 rfl 3 _ _ rfl _ 3 _ rfl rfl 0 (Cel.host _) rfl rfl (by simp [Cel.cells]) _ (set_h3 _ _) szI ?_; clear S; intro w9 S; simp only [List.set_cons_zero, List.set_cons_succ] at S)
        | (refine S.store1 rfl 26 _ _ rfl _ 5 _ rfl rfl 0 (Cel.host _) rfl rfl (by simp [Cel.cells]) _ (set_h5 _ _) szU ?_; clear S; intro w9 S; simp only [List.set_cons_zero, List.set_cons_succ] at S)
        | (refine S.loadAll rfl 31 _ rfl _ rfl 0 (Cel.host _) rfl _ Tryz.underlying31 rfl szHost ?_)
        | (refine S.storeAll rfl 31 _ _ rfl _ (Cel.host _) rfl rfl 1 _ rfl rfl (one_host _) szHost ?_; clear S; intro w9 S; simp only [List.set_cons_zero, List.set_cons_succ] at S))
      refine bodyPost_ret (S.results rfl _ _ rfl 1 _ rfl _ Tryz.underlying31 rfl szHost) rfl ?_
      exact ⟨_, rfl, by first | exact ⟨by decide, by decide⟩ | (refine ⟨?_, ?_⟩ <;> first | (simp only []; omega) | (simp only [IntKind.wrap_u32]; omega)), S.low⟩
  · by_cases h250 : 250 < l3
    · go_wp2_with (first
        | (refine S.load1 rfl 3 _ rfl _ 0 rfl 0 (Cel.host _) rfl _ rfl _ Tryz.underlying3 rfl ?_)
        | (refine S.load1 rfl 5 _ rfl _ 1 rfl 2 (Cel.any _) rfl _ rfl _ Tryz.underlying5 rfl ?_)
        | (refine S.load1 rfl 5 _ rfl _ 3 rfl 2 (Cel.any _) rfl _ rfl _ Tryz.underlying5 rfl ?_)
        | (refine S.store1 rfl 3 _ _ rfl _ 1 _ rfl rfl 0 (Cel.host _) rfl rfl (by simp [Cel.cells]) _ (set_h1 _ _) szI ?_; clear S; intro w9 S; simp only [List.set_cons_zero, List.set_cons_succ] at S)
        | (refine S.store1 rfl 3 _ _ rfl _ 2 _ rfl rfl 0 (Cel.host _) rfl rfl (by simp [Cel.cells]) _ (set_h2 _ _) szI ?_; clear S; intro w9 S; simp only [List.set_cons_zero, List.set_cons_succ] at S)
        | (refine S.store1 rfl 3 _ _ rfl _ 3 _ rfl rfl 0 (Cel.host _) rfl rfl (by simp [Cel.cells]) _ (set_h3 _ _) szI ?_; clear S; intro w9 S; simp only [List.set_cons_zero, List.set_cons_succ] at S)
        | (refine S.store1 rfl 26 _ _ rfl _ 5 _ rfl rfl 0 (Cel.host _) rfl rfl (by simp [Cel.cells]) _ (set_h5 _ _) szU ?_; clear S; intro w9 S; simp only [List.set_cons_zero, List.set_cons_succ] at S)
        | (refine S.loadAll rfl 31 _ rfl _ rfl 0 (Cel.host _) rfl _ Tryz.underlying31 rfl szHost ?_)
        | (refine S.storeAll rfl 31 _ _ rfl _ (Cel.host _) rfl rfl 1 _ rfl rfl (one_host _) szHost ?_; clear S; intro w9 S; simp only [List.set_cons_zero, List.set_cons_succ] at S))
      refine bodyPost_ret (S.results rfl _ _ rfl 1 _ rfl _ Tryz.underlying31 rfl szHost) rfl ?_
      exact ⟨_, rfl, by first | exact ⟨by decide, by decide⟩ | (refine ⟨?_, ?_⟩ <;> first | (simp only []; omega) | (simp only [IntKind.wrap_u32]; omega)), S.low⟩
    · have h251 : decide (250 < l3) = false := by simpa using h250
      go_wp2_with (first
        | (refine S.load1 rfl 3 _ rfl _ 0 rfl 0 (Cel.host _) rfl _ rfl _ Tryz.underlying3 rfl ?_)
        | (refine S.load1 rfl 5 _ rfl _ 1 rfl 2 (Cel.any _) rfl _ rfl _ Tryz.underlying5 rfl ?_)
        | (refine S.load1 rfl 5 _ rfl _ 3 rfl 2 (Cel.any _) rfl _ rfl _ Tryz.underlying5 rfl ?_)
        | (refine S.store1 rfl 3 _ _ rfl _ 1 _ rfl rfl 0 (Cel.host _) rfl rfl (by simp [Cel.cells]) _ (set_h1 _ _) szI ?_; clear S; intro w9 S; simp only [List.set_cons_zero, List.set_cons_succ] at S)
        | (refine S.store1 rfl 3 _ _ rfl _ 2 _ rfl rfl 0 (Cel.host _) rfl rfl (by simp [Cel.cells]) _ (set_h2 _ _) szI ?_; clear S; intro w9 S; simp only [List.set_cons_zero, List.set_cons_succ] at S)
        | (refine S.store1 rfl 3 _ _ rfl _ 3 _ rfl rfl 0 (Cel.host _) rfl rfl (by simp [Cel.cells]) _ (set_h3 _ _) szI ?_; clear S; intro w9 S; simp only [List.set_cons_zero, List.set_cons_succ] at S)
        | (refine S.store1 rfl 26 _ _ rfl _ 5 _ rfl rfl 0 (Cel.host _) rfl rfl (by simp [Cel.cells]) _ (set_h5 _ _) szU ?_; clear S; intro w9 S; simp only [List.set_cons_zero, List.set_cons_succ] at S)
        | (refine S.loadAll rfl 31 _ rfl _ rfl 0 (Cel.host _) rfl _ Tryz.underlying31 rfl szHost ?_)
        | (refine S.storeAll rfl 31 _ _ rfl _ (Cel.host _) rfl rfl 1 _ rfl rfl (one_host _) szHost ?_; clear S; intro w9 S; simp only [List.set_cons_zero, List.set_cons_succ] at S))
      refine bodyPost_ret (S.results rfl _ _ rfl 1 _ rfl _ Tryz.underlying31 rfl szHost) rfl ?_
      exact ⟨_, rfl, by first | exact ⟨by decide, by decide⟩ | (refine ⟨?_, ?_⟩ <;> first | (simp only []; omega) | (simp only [IntKind.wrap_u32]; omega)), S.low⟩
  · go_wp2_with (first
      | (refine S.load1 rfl 3 _ rfl _ 0 rfl 0 (Cel.host _) rfl _ rfl _ Tryz.underlying3 rfl ?_)
      | (refine S.load1 rfl 5 _ rfl _ 1 rfl 2 (Cel.any _) rfl _ rfl _ Tryz.underlying5 rfl ?_)
      | (refine S.load1 rfl 5 _ rfl _ 3 rfl 2 (Cel.any _) rfl _ rfl _ Tryz.underlying5 rfl ?_)
      | (refine S.store1 rfl 3 _ _ rfl _ 1 _ rfl rfl 0 (Cel.host _) rfl rfl (by simp [Cel.cells]) _ (set_h1 _ _) szI ?_; clear S; intro w9 S; simp only [List.set_cons_zero, List.set_cons_succ] at S)
      | (refine S.store1 rfl 3 _ _ rfl _ 2 _ rfl rfl 0 (Cel.host _) rfl rfl (by simp [Cel.cells]) _ (set_h2 _ _) szI ?_; clear S; intro w9 S; simp only [List.set_cons_zero, List.set_cons_succ] at S)
      | (refine S.store1 rfl 3 _ _ rfl _ 3 _ rfl rfl 0 (Cel.host _) rfl rfl (by simp [Cel.cells]) _ (set_h3 _ _) szI ?_; clear S; intro w9 S; simp only [List.set_cons_zero, List.set_cons_succ] at S)
      | (refine S.store1 rfl 26 _ _ rfl _ 5 _ rfl rfl 0 (Cel.host _) rfl rfl (by simp [Cel.cells]) _ (set_h5 _ _) szU ?_; clear S; intro w9 S; simp only [List.set_cons_zero, List.set_cons_succ] at S)
      | (refine S.loadAll rfl 31 _ rfl _ rfl 0 (Cel.host _) rfl _ Tryz.underlying31 rfl szHost ?_)
      | (refine S.storeAll rfl 31 _ _ rfl _ (Cel.host _) rfl rfl 1 _ rfl rfl (one_host _) szHost ?_; clear S; intro w9 S; simp only [List.set_cons_zero, List.set_cons_succ] at S))
    refine Upto.start (S := fun w' => SH noZ w w' [(b6, Cel.host noHV), (b3, Cel.any [.int .u8 l0, .int .u8 l1, .int .u8 l2, .int .u8 l3])]) 15 (by kernel_rfl) ?_
    replace S := S.drew
    refine Upto.take (i := 0) (oi := { dst := some 52, op := Op.move (Operand.tmp 8), type := 3, pos := "law.go:35", after := #[], guard := none }) (v := ?_) rfl (by kernel_rfl) (by kernel_rfl) (by kernel_rfl) (by kernel_rfl) (fun _ _ _ h => h) (Or.inl ⟨by rfl, ?_⟩) (by exact S.fewer 1) ?_
    rotate_left 1
    · intro w hSw
      clear hSw
      go_simp
      try with_reducible rfl
    simp only [Act.put, List.setIfInBounds_toArray, List.set_cons_zero, List.set_cons_succ]
    refine Upto.take (i := 1) (oi := { dst := some 53, op := Op.move (Operand.tmp 9), type := 3, pos := "law.go:35", after := #[{ on := 9, ground := Ground.gcOnly Departure.lateStores }], guard := none }) (v := ?_) rfl (by kernel_rfl) (by kernel_rfl) (by kernel_rfl) (by kernel_rfl) (fun _ _ _ h => h) (Or.inl ⟨by rfl, ?_⟩) (by exact S.fewer 1) ?_
    rotate_left 1
    · intro w hSw
      clear hSw
      go_simp
      try with_reducible rfl
    simp only [Act.put, List.setIfInBounds_toArray, List.set_cons_zero, List.set_cons_succ]
    refine Upto.take (i := 2) (oi := { dst := some 54, op := Op.move (Operand.tmp 10), type := 3, pos := "law.go:35", after := #[{ on := 11, ground := Ground.gcOnly Departure.lateStores }], guard := none }) (v := ?_) rfl (by kernel_rfl) (by kernel_rfl) (by kernel_rfl) (by kernel_rfl) (fun _ _ _ h => h) (Or.inl ⟨by rfl, ?_⟩) (by exact S.fewer 1) ?_
    rotate_left 1
    · intro w hSw
      clear hSw
      go_simp
      try with_reducible rfl
    simp only [Act.put, List.setIfInBounds_toArray, List.set_cons_zero, List.set_cons_succ]
    refine Upto.take (i := 3) (oi := { dst := some 55, op := Op.indexAddr 61 (Operand.tmp 3) (Operand.const (Value.int IntKind.i64 1)), type := 0, pos := "law.go:35", after := #[{ on := 13, ground := Ground.gcOnly Departure.lateStores }], guard := none }) (v := ?_) rfl (by kernel_rfl) (by kernel_rfl) (by kernel_rfl) (by kernel_rfl) (fun _ _ _ h => h) (Or.inl ⟨by rfl, ?_⟩) (by exact S.fewer 1) ?_
    rotate_left 1
    · intro w hSw
      clear hSw
      go_simp
      try with_reducible rfl
    simp only [Act.put, List.setIfInBounds_toArray, List.set_cons_zero, List.set_cons_succ]
    refine Upto.take (i := 4) (oi := { dst := some 56, op := Op.load 5 (Operand.tmp 55), type := 5, pos := "law.go:35", after := #[{ on := 3, ground := Ground.data }, { on := 13, ground := Ground.gcOnly Departure.lateStores }], guard := none }) (v := _) rfl (by kernel_rfl) (by kernel_rfl) (by kernel_rfl) (by kernel_rfl) (fun _ _ _ h => h) (y_load1 (by rfl) _ _ rfl _ _ rfl 1 _ rfl _ rfl _ Tryz.underlying5 rfl) (by exact S.fewer 1) ?_
    simp only [Act.put, List.setIfInBounds_toArray, List.set_cons_zero, List.set_cons_succ]
    refine Upto.take (i := 5) (oi := { dst := some 57, op := Op.binOp BinOp.quo 5 (Operand.tmp 56) (Operand.const (Value.int IntKind.u8 8)) 5, type := 5, pos := "law.go:35", after := #[{ on := 4, ground := Ground.data }, { on := 13, ground := Ground.gcOnly Departure.lateStores }], guard := none }) (v := ?_) rfl (by kernel_rfl) (by kernel_rfl) (by kernel_rfl) (by kernel_rfl) (fun _ _ _ h => h) (Or.inl ⟨by rfl, ?_⟩) (by exact S.fewer 1) ?_
    rotate_left 1
    · intro w hSw
      clear hSw
      go_simp
      try with_reducible rfl
    simp only [Act.put, List.setIfInBounds_toArray, List.set_cons_zero, List.set_cons_succ]
    refine Upto.take (i := 6) (oi := { dst := some 58, op := Op.binOp BinOp.rem 5 (Operand.tmp 57) (Operand.const (Value.int IntKind.u8 8)) 5, type := 5, pos := "law.go:35", after := #[{ on := 5, ground := Ground.data }, { on := 13, ground := Ground.gcOnly Departure.lateStores }], guard := none }) (v := ?_) rfl (by kernel_rfl) (by kernel_rfl) (by kernel_rfl) (by kernel_rfl) (fun _ _ _ h => h) (Or.inl ⟨by rfl, ?_⟩) (by exact S.fewer 1) ?_
    rotate_left 1
    · intro w hSw
      clear hSw
      go_simp
      try with_reducible rfl
    simp only [Act.put, List.setIfInBounds_toArray, List.set_cons_zero, List.set_cons_succ]
    refine Upto.take (i := 7) (oi := { dst := some 59, op := Op.convert 5 3 (Operand.tmp 58), type := 3, pos := "law.go:35", after := #[{ on := 6, ground := Ground.data }, { on := 13, ground := Ground.gcOnly Departure.lateStores }], guard := none }) (v := ?_) rfl (by kernel_rfl) (by kernel_rfl) (by kernel_rfl) (by kernel_rfl) (fun _ _ _ h => h) (Or.inl ⟨by rfl, ?_⟩) (by exact S.fewer 1) ?_
    rotate_left 1
    · intro w hSw
      clear hSw
      go_simp
      try with_reducible rfl
    simp only [Act.put, List.setIfInBounds_toArray, List.set_cons_zero, List.set_cons_succ]
    refine Upto.take (i := 8) (oi := { dst := some 60, op := Op.fieldAddr 31 (Operand.tmp 7) 1, type := 0, pos := "law.go:35", after := #[{ on := 0, ground := Ground.phase }, { on := 1, ground := Ground.textOnly Departure.lateStores }, { on := 2, ground := Ground.textOnly Departure.lateStores }, { on := 3, ground := Ground.textOnly Departure.lateStores }, { on := 4, ground := Ground.textOnly Departure.lateStores }, { on := 5, ground := Ground.textOnly Departure.lateStores }, { on := 6, ground := Ground.textOnly Departure.lateStores }, { on := 7, ground := Ground.textOnly Departure.lateStores }], guard := none }) (v := ?_) rfl (by kernel_rfl) (by kernel_rfl) (by kernel_rfl) (by kernel_rfl) (fun _ _ _ h => h) (Or.inl ⟨by rfl, ?_⟩) (by exact S.fewer 1) ?_
    rotate_left 1
    · intro w hSw
      clear hSw
      go_simp
      try with_reducible rfl
    simp only [Act.put, List.setIfInBounds_toArray, List.set_cons_zero, List.set_cons_succ]
    refine Upto.ready (rs := [9]) (by kernel_rfl) (by simp) ?_
    refine Nexts.cons rfl (by decide) (fun K hK => ?_) Nexts.nil
    rw [if_pos (by rfl)]
    refine S.wpStore1 3 _ _ rfl _ 1 _ rfl rfl 0 _ rfl rfl (by simp [Cel.cells]) _ (set_h1 _ _) szI ?_
    clear S
    intro w9 S
    simp only [List.set_cons_zero, List.set_cons_succ] at S
    refine hK.out _ _ (by exact S.fewer 1) ?_
    clear hK K
    refine Upto.take (i := 10) (oi := { dst := some 61, op := Op.fieldAddr 31 (Operand.tmp 7) 2, type := 0, pos := "law.go:35", after := #[{ on := 0, ground := Ground.phase }, { on := 1, ground := Ground.phase }, { on := 2, ground := Ground.textOnly Departure.lateStores }, { on := 3, ground := Ground.textOnly Departure.lateStores }, { on := 4, ground := Ground.textOnly Departure.lateStores }, { on := 5, ground := Ground.textOnly Departure.lateStores }, { on := 6, ground := Ground.textOnly Departure.lateStores }, { on := 7, ground := Ground.textOnly Departure.lateStores }, { on := 8, ground := Ground.phase }, { on := 9, ground := Ground.phase }], guard := none }) (v := ?_) rfl (by kernel_rfl) (by kernel_rfl) (by kernel_rfl) (by kernel_rfl) (fun _ _ _ h => h) (Or.inl ⟨by rfl, ?_⟩) (by exact S.fewer 1) ?_
    rotate_left 1
    · intro w hSw
      clear hSw
      go_simp
      try with_reducible rfl
    simp only [Act.put, List.setIfInBounds_toArray, List.set_cons_zero, List.set_cons_succ]
    refine Upto.ready (rs := [11]) (by kernel_rfl) (by simp) ?_
    refine Nexts.cons rfl (by decide) (fun K hK => ?_) Nexts.nil
    rw [if_pos (by rfl)]
    refine S.wpStore1 3 _ _ rfl _ 2 _ rfl rfl 0 _ rfl rfl (by simp [Cel.cells]) _ (set_h2 _ _) szI ?_
    clear S
    intro w9 S
    simp only [List.set_cons_zero, List.set_cons_succ] at S
    refine hK.out _ _ (by exact S.fewer 1) ?_
    clear hK K
    refine Upto.take (i := 12) (oi := { dst := some 62, op := Op.fieldAddr 31 (Operand.tmp 7) 3, type := 0, pos := "law.go:35", after := #[{ on := 0, ground := Ground.phase }, { on := 1, ground := Ground.phase }, { on := 2, ground := Ground.phase }, { on := 3, ground := Ground.textOnly Departure.lateStores }, { on := 4, ground := Ground.textOnly Departure.lateStores }, { on := 5, ground := Ground.textOnly Departure.lateStores }, { on := 6, ground := Ground.textOnly Departure.lateStores }, { on := 7, ground := Ground.textOnly Departure.lateStores }, { on := 8, ground := Ground.phase }, { on := 9, ground := Ground.phase }, { on := 10, ground := Ground.phase }, { on := 11, ground := Ground.phase }], guard := none }) (v := ?_) rfl (by kernel_rfl) (by kernel_rfl) (by kernel_rfl) (by kernel_rfl) (fun _ _ _ h => h) (Or.inl ⟨by rfl, ?_⟩) (by exact S.fewer 1) ?_
    rotate_left 1
    · intro w hSw
      clear hSw
      go_simp
      try with_reducible rfl
    simp only [Act.put, List.setIfInBounds_toArray, List.set_cons_zero, List.set_cons_succ]
    refine Upto.ready (rs := [13]) (by kernel_rfl) (by simp) ?_
    refine Nexts.cons rfl (by decide) (fun K hK => ?_) Nexts.nil
    rw [if_pos (by rfl)]
    refine S.wpStore1 3 _ _ rfl _ 3 _ rfl rfl 0 _ rfl rfl (by simp [Cel.cells]) _ (set_h3 _ _) szI ?_
    clear S
    intro w9 S
    simp only [List.set_cons_zero, List.set_cons_succ] at S
    refine hK.out _ _ (by exact S.fewer 1) ?_
    clear hK K
    refine Upto.take (i := 14) (oi := { dst := some 63, op := Op.fieldAddr 31 (Operand.tmp 7) 4, type := 0, pos := "law.go:35", after := #[{ on := 0, ground := Ground.phase }, { on := 1, ground := Ground.phase }, { on := 2, ground := Ground.phase }, { on := 3, ground := Ground.phase }, { on := 4, ground := Ground.phase }, { on := 5, ground := Ground.phase }, { on := 6, ground := Ground.phase }, { on := 7, ground := Ground.phase }, { on := 8, ground := Ground.phase }, { on := 9, ground := Ground.phase }, { on := 10, ground := Ground.phase }, { on := 11, ground := Ground.phase }, { on := 12, ground := Ground.phase }, { on := 13, ground := Ground.phase }], guard := none }) (v := ?_) rfl (by kernel_rfl) (by kernel_rfl) (by kernel_rfl) (by kernel_rfl) (fun _ _ _ h => h) (Or.inl ⟨by rfl, ?_⟩) (by exact S.fewer 1) ?_
    rotate_left 1
    · intro w hSw
      clear hSw
      go_simp
      try with_reducible rfl
    simp only [Act.put, List.setIfInBounds_toArray, List.set_cons_zero, List.set_cons_succ]
    refine Upto.ready (rs := [15]) (by kernel_rfl) (by simp) ?_
    refine Nexts.last rfl (fun K hK => ?_)
    rw [if_pos (by rfl)]
    refine S.wpStore1 3 _ _ rfl _ 4 _ rfl rfl 0 _ rfl rfl (by simp [Cel.cells]) _ (set_h4 _ _) szI ?_
    clear S
    intro w9 S
    simp only [List.set_cons_zero, List.set_cons_succ] at S
    refine hK.out _ _ ?_
    simp only [Act.put, List.setIfInBounds_toArray, List.set_cons_zero, List.set_cons_succ]
    clear hK K
    refine Upto.done (by kernel_rfl) ?_ _
    by_cases h250 : 250 < l3
    · go_wp2_with (first
        | (refine S.load1 rfl 3 _ rfl _ 0 rfl 0 (Cel.host _) rfl _ rfl _ Tryz.underlying3 rfl ?_)
        | (refine S.load1 rfl 5 _ rfl _ 1 rfl 2 (Cel.any _) rfl _ rfl _ Tryz.underlying5 rfl ?_)
        | (refine S.load1 rfl 5 _ rfl _ 3 rfl 2 (Cel.any _) rfl _ rfl _ Tryz.underlying5 rfl ?_)
        | (refine S.store1 rfl 3 _ _ rfl _ 1 _ rfl rfl 0 (Cel.host _) rfl rfl (by simp [Cel.cells]) _ (set_h1 _ _) szI ?_; clear S; intro w9 S; simp only [List.set_cons_zero, List.set_cons_succ] at S)
        | (refine S.store1 rfl 3 _ _ rfl _ 2 _ rfl rfl 0 (Cel.host _) rfl rfl (by simp [Cel.cells]) _ (set_h2 _ _) szI ?_; clear S; intro w9 S; simp only [List.set_cons_zero, List.set_cons_succ] at S)
        | (refine S.store1 rfl 3 _ _ rfl _ 3 _ rfl rfl 0 (Cel.host _) rfl rfl (by simp [Cel.cells]) _ (set_h3 _ _) szI ?_; clear S; intro w9 S; simp only [List.set_cons_zero, List.set_cons_succ] at S)
        | (refine S.store1 rfl 26 _ _ rfl _ 5 _ rfl rfl 0 (Cel.host _) rfl rfl (by simp [Cel.cells]) _ (set_h5 _ _) szU ?_; clear S; intro w9 S; simp only [List.set_cons_zero, List.set_cons_succ] at S)
        | (refine S.loadAll rfl 31 _ rfl _ rfl 0 (Cel.host _) rfl _ Tryz.underlying31 rfl szHost ?_)
        | (refine S.storeAll rfl 31 _ _ rfl _ (Cel.host _) rfl rfl 1 _ rfl rfl (one_host _) szHost ?_; clear S; intro w9 S; simp only [List.set_cons_zero, List.set_cons_succ] at S))
      refine bodyPost_ret (S.results rfl _ _ rfl 1 _ rfl _ Tryz.underlying31 rfl szHost) rfl ?_
      exact ⟨_, rfl, by first | exact ⟨by decide, by decide⟩ | (refine ⟨?_, ?_⟩ <;> first | (simp only []; omega) | (simp only [IntKind.wrap_u32]; omega)), S.low⟩
    · have h251 : decide (250 < l3) = false := by simpa using h250
      go_wp2_with (first
        | (refine S.load1 rfl 3 _ rfl _ 0 rfl 0 (Cel.host _) rfl _ rfl _ Tryz.underlying3 rfl ?_)
        | (refine S.load1 rfl 5 _ rfl _ 1 rfl 2 (Cel.any _) rfl _ rfl _ Tryz.underlying5 rfl ?_)
        | (refine S.load1 rfl 5 _ rfl _ 3 rfl 2 (Cel.any _) rfl _ rfl _ Tryz.underlying5 rfl ?_)
        | (refine S.store1 rfl 3 _ _ rfl _ 1 _ rfl rfl 0 (Cel.host _) rfl rfl (by simp [Cel.cells]) _ (set_h1 _ _) szI ?_; clear S; intro w9 S; simp only [List.set_cons_zero, List.set_cons_succ] at S)
        | (refine S.store1 rfl 3 _ _ rfl _ 2 _ rfl rfl 0 (Cel.host _) rfl rfl (by simp [Cel.cells]) _ (set_h2 _ _) szI ?_; clear S; intro w9 S; simp only [List.set_cons_zero, List.set_cons_succ] at S)
        | (refine S.store1 rfl 3 _ _ rfl _ 3 _ rfl rfl 0 (Cel.host _) rfl rfl (by simp [Cel.cells]) _ (set_h3 _ _) szI ?_; clear S; intro w9 S; simp only [List.set_cons_zero, List.set_cons_succ] at S)
        | (refine S.store1 rfl 26 _ _ rfl _ 5 _ rfl rfl 0 (Cel.host _) rfl rfl (by simp [Cel.cells]) _ (set_h5 _ _) szU ?_; clear S; intro w9 S; simp only [List.set_cons_zero, List.set_cons_succ] at S)
        | (refine S.loadAll rfl 31 _ rfl _ rfl 0 (Cel.host _) rfl _ Tryz.underlying31 rfl szHost ?_)
        | (refine S.storeAll rfl 31 _ _ rfl _ (Cel.host _) rfl rfl 1 _ rfl rfl (one_host _) szHost ?_; clear S; intro w9 S; simp only [List.set_cons_zero, List.set_cons_succ] at S))
      refine bodyPost_ret (S.results rfl _ _ rfl 1 _ rfl _ Tryz.underlying31 rfl szHost) rfl ?_
      exact ⟨_, rfl, by first | exact ⟨by decide, by decide⟩ | (refine ⟨?_, ?_⟩ <;> first | (simp only []; omega) | (simp only [IntKind.wrap_u32]; omega)), S.low⟩
  · by_cases h250 : 250 < l3
    · go_wp2_with (first
        | (refine S.load1 rfl 3 _ rfl _ 0 rfl 0 (Cel.host _) rfl _ rfl _ Tryz.underlying3 rfl ?_)
        | (refine S.load1 rfl 5 _ rfl _ 1 rfl 2 (Cel.any _) rfl _ rfl _ Tryz.underlying5 rfl ?_)
        | (refine S.load1 rfl 5 _ rfl _ 3 rfl 2 (Cel.any _) rfl _ rfl _ Tryz.underlying5 rfl ?_)
        | (refine S.store1 rfl 3 _ _ rfl _ 1 _ rfl rfl 0 (Cel.host _) rfl rfl (by simp [Cel.cells]) _ (set_h1 _ _) szI ?_; clear S; intro w9 S; simp only [List.set_cons_zero, List.set_cons_succ] at S)
        | (refine S.store1 rfl 3 _ _ rfl _ 2 _ rfl rfl 0 (Cel.host _) rfl rfl (by simp [Cel.cells]) _ (set_h2 _ _) szI ?_; clear S; intro w9 S; simp only [List.set_cons_zero, List.set_cons_succ] at S)
        | (refine S.store1 rfl 3 _ _ rfl _ 3 _ rfl rfl 0 (Cel.host _) rfl rfl (by simp [Cel.cells]) _ (set_h3 _ _) szI ?_; clear S; intro w9 S; simp only [List.set_cons_zero, List.set_cons_succ] at S)
        | (refine S.store1 rfl 26 _ _ rfl _ 5 _ rfl rfl 0 (Cel.host _) rfl rfl (by simp [Cel.cells]) _ (set_h5 _ _) szU ?_; clear S; intro w9 S; simp only [List.set_cons_zero, List.set_cons_succ] at S)
        | (refine S.loadAll rfl 31 _ rfl _ rfl 0 (Cel.host _) rfl _ Tryz.underlying31 rfl szHost ?_)
        | (refine S.storeAll rfl 31 _ _ rfl _ (Cel.host _) rfl rfl 1 _ rfl rfl (one_host _) szHost ?_; clear S; intro w9 S; simp only [List.set_cons_zero, List.set_cons_succ] at S))
      refine bodyPost_ret (S.results rfl _ _ rfl 1 _ rfl _ Tryz.underlying31 rfl szHost) rfl ?_
      exact ⟨_, rfl, by first | exact ⟨by decide, by decide⟩ | (refine ⟨?_, ?_⟩ <;> first | (simp only []; omega) | (simp only [IntKind.wrap_u32]; omega)), S.low⟩
    · have h251 : decide (250 < l3) = false := by simpa using h250
      go_wp2_with (first
        | (refine S.load1 rfl 3 _ rfl _ 0 rfl 0 (Cel.host _) rfl _ rfl _ Tryz.underlying3 rfl ?_)
        | (refine S.load1 rfl 5 _ rfl _ 1 rfl 2 (Cel.any _) rfl _ rfl _ Tryz.underlying5 rfl ?_)
        | (refine S.load1 rfl 5 _ rfl _ 3 rfl 2 (Cel.any _) rfl _ rfl _ Tryz.underlying5 rfl ?_)
        | (refine S.store1 rfl 3 _ _ rfl _ 1 _ rfl rfl 0 (Cel.host _) rfl rfl (by simp [Cel.cells]) _ (set_h1 _ _) szI ?_; clear S; intro w9 S; simp only [List.set_cons_zero, List.set_cons_succ] at S)
        | (refine S.store1 rfl 3 _ _ rfl _ 2 _ rfl rfl 0 (Cel.host _) rfl rfl (by simp [Cel.cells]) _ (set_h2 _ _) szI ?_; clear S; intro w9 S; simp only [List.set_cons_zero, List.set_cons_succ] at S)
        | (refine S.store1 rfl 3 _ _ rfl _ 3 _ rfl rfl 0 (Cel.host _) rfl rfl (by simp [Cel.cells]) _ (set_h3 _ _) szI ?_; clear S; intro w9 S; simp only [List.set_cons_zero, List.set_cons_succ] at S)
        | (refine S.store1 rfl 26 _ _ rfl _ 5 _ rfl rfl 0 (Cel.host _) rfl rfl (by simp [Cel.cells]) _ (set_h5 _ _) szU ?_; clear S; intro w9 S; simp only [List.set_cons_zero, List.set_cons_succ] at S)
        | (refine S.loadAll rfl 31 _ rfl _ rfl 0 (Cel.host _) rfl _ Tryz.underlying31 rfl szHost ?_)
        | (refine S.storeAll rfl 31 _ _ rfl _ (Cel.host _) rfl rfl 1 _ rfl rfl (one_host _) szHost ?_; clear S; intro w9 S; simp only [List.set_cons_zero, List.set_cons_succ] at S))
      refine bodyPost_ret (S.results rfl _ _ rfl 1 _ rfl _ Tryz.underlying31 rfl szHost) rfl ?_
      exact ⟨_, rfl, by first | exact ⟨by decide, by decide⟩ | (refine ⟨?_, ?_⟩ <;> first | (simp only []; omega) | (simp only [IntKind.wrap_u32]; omega)), S.low⟩
  · by_cases h250 : 250 < l3
    · go_wp2_with (first
        | (refine S.load1 rfl 3 _ rfl _ 0 rfl 0 (Cel.host _) rfl _ rfl _ Tryz.underlying3 rfl ?_)
        | (refine S.load1 rfl 5 _ rfl _ 1 rfl 2 (Cel.any _) rfl _ rfl _ Tryz.underlying5 rfl ?_)
        | (refine S.load1 rfl 5 _ rfl _ 3 rfl 2 (Cel.any _) rfl _ rfl _ Tryz.underlying5 rfl ?_)
        | (refine S.store1 rfl 3 _ _ rfl _ 1 _ rfl rfl 0 (Cel.host _) rfl rfl (by simp [Cel.cells]) _ (set_h1 _ _) szI ?_; clear S; intro w9 S; simp only [List.set_cons_zero, List.set_cons_succ] at S)
        | (refine S.store1 rfl 3 _ _ rfl _ 2 _ rfl rfl 0 (Cel.host _) rfl rfl (by simp [Cel.cells]) _ (set_h2 _ _) szI ?_; clear S; intro w9 S; simp only [List.set_cons_zero, List.set_cons_succ] at S)
        | (refine S.store1 rfl 3 _ _ rfl _ 3 _ rfl rfl 0 (Cel.host _) rfl rfl (by simp [Cel.cells]) _ (set_h3 _ _) szI ?_; clear S; intro w9 S; simp only [List.set_cons_zero, List.set_cons_succ] at S)
        | (refine S.store1 rfl 26 _ _ rfl _ 5 _ rfl rfl 0 (Cel.host _) rfl rfl (by simp [Cel.cells]) _ (set_h5 _ _) szU ?_; clear S; intro w9 S; simp only [List.set_cons_zero, List.set_cons_succ] at S)
        | (refine S.loadAll rfl 31 _ rfl _ rfl 0 (Cel.host _) rfl _ Tryz.underlying31 rfl szHost ?_)
        | (refine S.storeAll rfl 31 _ _ rfl _ (Cel.host _) rfl rfl 1 _ rfl rfl (one_host _) szHost ?_; clear S; intro w9 S; simp only [List.set_cons_zero, List.set_cons_succ] at S))
      refine bodyPost_ret (S.results rfl _ _ rfl 1 _ rfl _ Tryz.underlying31 rfl szHost) rfl ?_
      exact ⟨_, rfl, by first | exact ⟨by decide, by decide⟩ | (refine ⟨?_, ?_⟩ <;> first | (simp only []; omega) | (simp only [IntKind.wrap_u32]; omega)), S.low⟩
    · have h251 : decide (250 < l3) = false := by simpa using h250
      go_wp2_with (first
        | (refine S.load1 rfl 3 _ rfl _ 0 rfl 0 (Cel.host _) rfl _ rfl _ Tryz.underlying3 rfl ?_)
        | (refine S.load1 rfl 5 _ rfl _ 1 rfl 2 (Cel.any _) rfl _ rfl _ Tryz.underlying5 rfl ?_)
        | (refine S.load1 rfl 5 _ rfl _ 3 rfl 2 (Cel.any _) rfl _ rfl _ Tryz.underlying5 rfl ?_)
        | (refine S.store1 rfl 3 _ _ rfl _ 1 _ rfl rfl 0 (Cel.host _) rfl rfl (by simp [Cel.cells]) _ (set_h1 _ _) szI ?_; clear S; intro w9 S; simp only [List.set_cons_zero, List.set_cons_succ] at S)
        | (refine S.store1 rfl 3 _ _ rfl _ 2 _ rfl rfl 0 (Cel.host _) rfl rfl (by simp [Cel.cells]) _ (set_h2 _ _) szI ?_; clear S; intro w9 S; simp only [List.set_cons_zero, List.set_cons_succ] at S)
        | (refine S.store1 rfl 3 _ _ rfl _ 3 _ rfl rfl 0 (Cel.host _) rfl rfl (by simp [Cel.cells]) _ (set_h3 _ _) szI ?_; clear S; intro w9 S; simp only [List.set_cons_zero, List.set_cons_succ] at S)
        | (refine S.store1 rfl 26 _ _ rfl _ 5 _ rfl rfl 0 (Cel.host _) rfl rfl (by simp [Cel.cells]) _ (set_h5 _ _) szU ?_; clear S; intro w9 S; simp only [List.set_cons_zero, List.set_cons_succ] at S)
        | (refine S.loadAll rfl 31 _ rfl _ rfl 0 (Cel.host _) rfl _ Tryz.underlying31 rfl szHost ?_)
        | (refine S.storeAll rfl 31 _ _ rfl _ (Cel.host _) rfl rfl 1 _ rfl rfl (one_host _) szHost ?_; clear S; intro w9 S; simp only [List.set_cons_zero, List.set_cons_succ] at S))
      refine bodyPost_ret (S.results rfl _ _ rfl 1 _ rfl _ Tryz.underlying31 rfl szHost) rfl ?_
      exact ⟨_, rfl, by first | exact ⟨by decide, by decide⟩ | (refine ⟨?_, ?_⟩ <;> first | (simp only []; omega) | (simp only [IntKind.wrap_u32]; omega)), S.low⟩
  · by_cases h250 : 250 < l3
    · go_wp2_with (first
        | (refine S.load1 rfl 3 _ rfl _ 0 rfl 0 (Cel.host _) rfl _ rfl _ Tryz.underlying3 rfl ?_)
        | (refine S.load1 rfl 5 _ rfl _ 1 rfl 2 (Cel.any _) rfl _ rfl _ Tryz.underlying5 rfl ?_)
        | (refine S.load1 rfl 5 _ rfl _ 3 rfl 2 (Cel.any _) rfl _ rfl _ Tryz.underlying5 rfl ?_)
        | (refine S.store1 rfl 3 _ _ rfl _ 1 _ rfl rfl 0 (Cel.host _) rfl rfl (by simp [Cel.cells]) _ (set_h1 _ _) szI ?_; clear S; intro w9 S; simp only [List.set_cons_zero, List.set_cons_succ] at S)
        | (refine S.store1 rfl 3 _ _ rfl _ 2 _ rfl rfl 0 (Cel.host _) rfl rfl (by simp [Cel.cells]) _ (set_h2 _ _) szI ?_; clear S; intro w9 S; simp only [List.set_cons_zero, List.set_cons_succ] at S)
        | (refine S.store1 rfl 3 _ _ rfl _ 3 _ rfl rfl 0 (Cel.host _) rfl rfl (by simp [Cel.cells]) _ (set_h3 _ _) szI ?_; clear S; intro w9 S; simp only [List.set_cons_zero, List.set_cons_succ] at S)
        | (refine S.store1 rfl 26 _ _ rfl _ 5 _ rfl rfl 0 (Cel.host _) rfl rfl (by simp [Cel.cells]) _ (set_h5 _ _) szU ?_; clear S; intro w9 S; simp only [List.set_cons_zero, List.set_cons_succ] at S)
        | (refine S.loadAll rfl 31 _ rfl _ rfl 0 (Cel.host _) rfl _ Tryz.underlying31 rfl szHost ?_)
        | (refine S.storeAll rfl 31 _ _ rfl _ (Cel.host _) rfl rfl 1 _ rfl rfl (one_host _) szHost ?_; clear S; intro w9 S; simp only [List.set_cons_zero, List.set_cons_succ] at S))
      refine bodyPost_ret (S.results rfl _ _ rfl 1 _ rfl _ Tryz.underlying31 rfl szHost) rfl ?_
      exact ⟨_, rfl, by first | exact ⟨by decide, by decide⟩ | (refine ⟨?_, ?_⟩ <;> first | (simp only []; omega) | (simp only [IntKind.wrap_u32]; omega)), S.low⟩
    · have h251 : decide (250 < l3) = false := by simpa using h250
      go_wp2_with (first
        | (refine S.load1 rfl 3 _ rfl _ 0 rfl 0 (Cel.host _) rfl _ rfl _ Tryz.underlying3 rfl ?_)
        | (refine S.load1 rfl 5 _ rfl _ 1 rfl 2 (Cel.any _) rfl _ rfl _ Tryz.underlying5 rfl ?_)
        | (refine S.load1 rfl 5 _ rfl _ 3 rfl 2 (Cel.any _) rfl _ rfl _ Tryz.underlying5 rfl ?_)
        | (refine S.store1 rfl 3 _ _ rfl _ 1 _ rfl rfl 0 (Cel.host _) rfl rfl (by simp [Cel.cells]) _ (set_h1 _ _) szI ?_; clear S; intro w9 S; simp only [List.set_cons_zero, List.set_cons_succ] at S)
        | (refine S.store1 rfl 3 _ _ rfl _ 2 _ rfl rfl 0 (Cel.host _) rfl rfl (by simp [Cel.cells]) _ (set_h2 _ _) szI ?_; clear S; intro w9 S; simp only [List.set_cons_zero, List.set_cons_succ] at S)
        | (refine S.store1 rfl 3 _ _ rfl _ 3 _ rfl rfl 0 (Cel.host _) rfl rfl (by simp [Cel.cells]) _ (set_h3 _ _) szI ?_; clear S; intro w9 S; simp only [List.set_cons_zero, List.set_cons_succ] at S)
        | (refine S.store1 rfl 26 _ _ rfl _ 5 _ rfl rfl 0 (Cel.host _) rfl rfl (by simp [Cel.cells]) _ (set_h5 _ _) szU ?_; clear S; intro w9 S; simp only [List.set_cons_zero, List.set_cons_succ] at S)
        | (refine S.loadAll rfl 31 _ rfl _ rfl 0 (Cel.host _) rfl _ Tryz.underlying31 rfl szHost ?_)
        | (refine S.storeAll rfl 31 _ _ rfl _ (Cel.host _) rfl rfl 1 _ rfl rfl (one_host _) szHost ?_; clear S; intro w9 S; simp only [List.set_cons_zero, List.set_cons_succ] at S))
      refine bodyPost_ret (S.results rfl _ _ rfl 1 _ rfl _ Tryz.underlying31 rfl szHost) rfl ?_
      exact ⟨_, rfl, by first | exact ⟨by decide, by decide⟩ | (refine ⟨?_, ?_⟩ <;> first | (simp only []; omega) | (simp only [IntKind.wrap_u32]; omega)), S.low⟩
  · by_cases h250 : 250 < l3
    · go_wp2_with (first
        | (refine S.load1 rfl 3 _ rfl _ 0 rfl 0 (Cel.host _) rfl _ rfl _ Tryz.underlying3 rfl ?_)
        | (refine S.load1 rfl 5 _ rfl _ 1 rfl 2 (Cel.any _) rfl _ rfl _ Tryz.underlying5 rfl ?_)
        | (refine S.load1 rfl 5 _ rfl _ 3 rfl 2 (Cel.any _) rfl _ rfl _ Tryz.underlying5 rfl ?_)
        | (refine S.store1 rfl 3 _ _ rfl _ 1 _ rfl rfl 0 (Cel.host _) rfl rfl (by simp [Cel.cells]) _ (set_h1 _ _) szI ?_; clear S; intro w9 S; simp only [List.set_cons_zero, List.set_cons_succ] at S)
        | (refine S.store1 rfl 3 _ _ rfl _ 2 _ rfl rfl 0 (Cel.host _) rfl rfl (by simp [Cel.cells]) _ (set_h2 _ _) szI ?_; clear S; intro w9 S; simp only [List.set_cons_zero, List.set_cons_succ] at S)
        | (refine S.store1 rfl 3 _ _ rfl _ 3 _ rfl rfl 0 (Cel.host _) rfl rfl (by simp [Cel.cells]) _ (set_h3 _ _) szI ?_; clear S; intro w9 S; simp only [List.set_cons_zero, List.set_cons_succ] at S)
        | (refine S.store1 rfl 26 _ _ rfl _ 5 _ rfl rfl 0 (Cel.host _) rfl rfl (by simp [Cel.cells]) _ (set_h5 _ _) szU ?_; clear S; intro w9 S; simp only [List.set_cons_zero, List.set_cons_succ] at S)
        | (refine S.loadAll rfl 31 _ rfl _ rfl 0 (Cel.host _) rfl _ Tryz.underlying31 rfl szHost ?_)
        | (refine S.storeAll rfl 31 _ _ rfl _ (Cel.host _) rfl rfl 1 _ rfl rfl (one_host _) szHost ?_; clear S; intro w9 S; simp only [List.set_cons_zero, List.set_cons_succ] at S))
      refine bodyPost_ret (S.results rfl _ _ rfl 1 _ rfl _ Tryz.underlying31 rfl szHost) rfl ?_
      exact ⟨_, rfl, by first | exact ⟨by decide, by decide⟩ | (refine ⟨?_, ?_⟩ <;> first | (simp only []; omega) | (simp only [IntKind.wrap_u32]; omega)), S.low⟩
    · have h251 : decide (250 < l3) = false := by simpa using h250
      go_wp2_with (first
        | (refine S.load1 rfl 3 _ rfl _ 0 rfl 0 (Cel.host _) rfl _ rfl _ Tryz.underlying3 rfl ?_)
        | (refine S.load1 rfl 5 _ rfl _ 1 rfl 2 (Cel.any _) rfl _ rfl _ Tryz.underlying5 rfl ?_)
        | (refine S.load1 rfl 5 _ rfl _ 3 rfl 2 (Cel.any _) rfl _ rfl _ Tryz.underlying5 rfl ?_)
        | (refine S.store1 rfl 3 _ _ rfl _ 1 _ rfl rfl 0 (Cel.host _) rfl rfl (by simp [Cel.cells]) _ (set_h1 _ _) szI ?_; clear S; intro w9 S; simp only [List.set_cons_zero, List.set_cons_succ] at S)
        | (refine S.store1 rfl 3 _ _ rfl _ 2 _ rfl rfl 0 (Cel.host _) rfl rfl (by simp [Cel.cells]) _ (set_h2 _ _) szI ?_; clear S; intro w9 S; simp only [List.set_cons_zero, List.set_cons_succ] at S)
        | (refine S.store1 rfl 3 _ _ rfl _ 3 _ rfl rfl 0 (Cel.host _) rfl rfl (by simp [Cel.cells]) _ (set_h3 _ _) szI ?_; clear S; intro w9 S; simp only [List.set_cons_zero, List.set_cons_succ] at S)
        | (refine S.store1 rfl 26 _ _ rfl _ 5 _ rfl rfl 0 (Cel.host _) rfl rfl (by simp [Cel.cells]) _ (set_h5 _ _) szU ?_; clear S; intro w9 S; simp only [List.set_cons_zero, List.set_cons_succ] at S)
        | (refine S.loadAll rfl 31 _ rfl _ rfl 0 (Cel.host _) rfl _ Tryz.underlying31 rfl szHost ?_)
        | (refine S.storeAll rfl 31 _ _ rfl _ (Cel.host _) rfl rfl 1 _ rfl rfl (one_host _) szHost ?_; clear S; intro w9 S; simp only [List.set_cons_zero, List.set_cons_succ] at S))
      refine bodyPost_ret (S.results rfl _ _ rfl 1 _ rfl _ Tryz.underlying31 rfl szHost) rfl ?_
      exact ⟨_, rfl, by first | exact ⟨by decide, by decide⟩ | (refine ⟨?_, ?_⟩ <;> first | (simp only []; omega) | (simp only [IntKind.wrap_u32]; omega)), S.low⟩
  · by_cases h250 : 250 < l3
    · go_wp2_with (first
        | (refine S.load1 rfl 3 _ rfl _ 0 rfl 0 (Cel.host _) rfl _ rfl _ Tryz.underlying3 rfl ?_)
        | (refine S.load1 rfl 5 _ rfl _ 1 rfl 2 (Cel.any _) rfl _ rfl _ Tryz.underlying5 rfl ?_)
        | (refine S.load1 rfl 5 _ rfl _ 3 rfl 2 (Cel.any _) rfl _ rfl _ Tryz.underlying5 rfl ?_)
        | (refine S.store1 rfl 3 _ _ rfl _ 1 _ rfl rfl 0 (Cel.host _) rfl rfl (by simp [Cel.cells]) _ (set_h1 _ _) szI ?_; clear S; intro w9 S; simp only [List.set_cons_zero, List.set_cons_succ] at S)
        | (refine S.store1 rfl 3 _ _ rfl _ 2 _ rfl rfl 0 (Cel.host _) rfl rfl (by simp [Cel.cells]) _ (set_h2 _ _) szI ?_; clear S; intro w9 S; simp only [List.set_cons_zero, List.set_cons_succ] at S)
        | (refine S.store1 rfl 3 _ _ rfl _ 3 _ rfl rfl 0 (Cel.host _) rfl rfl (by simp [Cel.cells]) _ (set_h3 _ _) szI ?_; clear S; intro w9 S; simp only [List.set_cons_zero, List.set_cons_succ] at S)
        | (refine S.store1 rfl 26 _ _ rfl _ 5 _ rfl rfl 0 (Cel.host _) rfl rfl (by simp [Cel.cells]) _ (set_h5 _ _) szU ?_; clear S; intro w9 S; simp only [List.set_cons_zero, List.set_cons_succ] at S)
        | (refine S.loadAll rfl 31 _ rfl _ rfl 0 (Cel.host _) rfl _ Tryz.underlying31 rfl szHost ?_)
        | (refine S.storeAll rfl 31 _ _ rfl _ (Cel.host _) rfl rfl 1 _ rfl rfl (one_host _) szHost ?_; clear S; intro w9 S; simp only [List.set_cons_zero, List.set_cons_succ] at S))
      refine bodyPost_ret (S.results rfl _ _ rfl 1 _ rfl _ Tryz.underlying31 rfl szHost) rfl ?_
      exact ⟨_, rfl, by first | exact ⟨by decide, by decide⟩ | (refine ⟨?_, ?_⟩ <;> first | (simp only []; omega) | (simp only [IntKind.wrap_u32]; omega)), S.low⟩
    · have h251 : decide (250 < l3) = false := by simpa using h250
      go_wp2_with (first
        | (refine S.load1 rfl 3 _ rfl _ 0 rfl 0 (Cel.host _) rfl _ rfl _ Tryz.underlying3 rfl ?_)
        | (refine S.load1 rfl 5 _ rfl _ 1 rfl 2 (Cel.any _) rfl _ rfl _ Tryz.underlying5 rfl ?_)
        | (refine S.load1 rfl 5 _ rfl _ 3 rfl 2 (Cel.any _) rfl _ rfl _ Tryz.underlying5 rfl ?_)
        | (refine S.store1 rfl 3 _ _ rfl _ 1 _ rfl rfl 0 (Cel.host _) rfl rfl (by simp [Cel.cells]) _ (set_h1 _ _) szI ?_; clear S; intro w9 S; simp only [List.set_cons_zero, List.set_cons_succ] at S)
        | (refine S.store1 rfl 3 _ _ rfl _ 2 _ rfl rfl 0 (Cel.host _) rfl rfl (by simp [Cel.cells]) _ (set_h2 _ _) szI ?_; clear S; intro w9 S; simp only [List.set_cons_zero, List.set_cons_succ] at S)
        | (refine S.store1 rfl 3 _ _ rfl _ 3 _ rfl rfl 0 (Cel.host _) rfl rfl (by simp [Cel.cells]) _ (set_h3 _ _) szI ?_; clear S; intro w9 S; simp only [List.set_cons_zero, List.set_cons_succ] at S)
        | (refine S.store1 rfl 26 _ _ rfl _ 5 _ rfl rfl 0 (Cel.host _) rfl rfl (by simp [Cel.cells]) _ (set_h5 _ _) szU ?_; clear S; intro w9 S; simp only [List.set_cons_zero, List.set_cons_succ] at S)
        | (refine S.loadAll rfl 31 _ rfl _ rfl 0 (Cel.host _) rfl _ Tryz.underlying31 rfl szHost ?_)
        | (refine S.storeAll rfl 31 _ _ rfl _ (Cel.host _) rfl rfl 1 _ rfl rfl (one_host _) szHost ?_; clear S; intro w9 S; simp only [List.set_cons_zero, List.set_cons_succ] at S))
      refine bodyPost_ret (S.results rfl _ _ rfl 1 _ rfl _ Tryz.underlying31 rfl szHost) rfl ?_
      exact ⟨_, rfl, by first | exact ⟨by decide, by decide⟩ | (refine ⟨?_, ?_⟩ <;> first | (simp only []; omega) | (simp only [IntKind.wrap_u32]; omega)), S.low⟩
  · by_cases h250 : 250 < l3
    · go_wp2_with (first
        | (refine S.load1 rfl 3 _ rfl _ 0 rfl 0 (Cel.host _) rfl _ rfl _ Tryz.underlying3 rfl ?_)
        | (refine S.load1 rfl 5 _ rfl _ 1 rfl 2 (Cel.any _) rfl _ rfl _ Tryz.underlying5 rfl ?_)
        | (refine S.load1 rfl 5 _ rfl _ 3 rfl 2 (Cel.any _) rfl _ rfl _ Tryz.underlying5 rfl ?_)
        | (refine S.store1 rfl 3 _ _ rfl _ 1 _ rfl rfl 0 (Cel.host _) rfl rfl (by simp [Cel.cells]) _ (set_h1 _ _) szI ?_; clear S; intro w9 S; simp only [List.set_cons_zero, List.set_cons_succ] at S)
        | (refine S.store1 rfl 3 _ _ rfl _ 2 _ rfl rfl 0 (Cel.host _) rfl rfl (by simp [Cel.cells]) _ (set_h2 _ _) szI ?_; clear S; intro w9 S; simp only [List.set_cons_zero, List.set_cons_succ] at S)
        | (refine S.store1 rfl 3 _ _ rfl _ 3 _ rfl rfl 0 (Cel.host _) rfl rfl (by simp [Cel.cells]) _ (set_h3 _ _) szI ?_; clear S; intro w9 S; simp only [List.set_cons_zero, List.set_cons_succ] at S)
        | (refine S.store1 rfl 26 _ _ rfl _ 5 _ rfl rfl 0 (Cel.host _) rfl rfl (by simp [Cel.cells]) _ (set_h5 _ _) szU ?_; clear S; intro w9 S; simp only [List.set_cons_zero, List.set_cons_succ] at S)
        | (refine S.loadAll rfl 31 _ rfl _ rfl 0 (Cel.host _) rfl _ Tryz.underlying31 rfl szHost ?_)
        | (refine S.storeAll rfl 31 _ _ rfl _ (Cel.host _) rfl rfl 1 _ rfl rfl (one_host _) szHost ?_; clear S; intro w9 S; simp only [List.set_cons_zero, List.set_cons_succ] at S))
      refine bodyPost_ret (S.results rfl _ _ rfl 1 _ rfl _ Tryz.underlying31 rfl szHost) rfl ?_
      exact ⟨_, rfl, by first | exact ⟨by decide, by decide⟩ | (refine ⟨?_, ?_⟩ <;> first | (simp only []; omega) | (simp only [IntKind.wrap_u32]; omega)), S.low⟩
    · have h251 : decide (250 < l3) = false := by simpa using h250
      go_wp2_with (first
        | (refine S.load1 rfl 3 _ rfl _ 0 rfl 0 (Cel.host _) rfl _ rfl _ Tryz.underlying3 rfl ?_)
        | (refine S.load1 rfl 5 _ rfl _ 1 rfl 2 (Cel.any _) rfl _ rfl _ Tryz.underlying5 rfl ?_)
        | (refine S.load1 rfl 5 _ rfl _ 3 rfl 2 (Cel.any _) rfl _ rfl _ Tryz.underlying5 rfl ?_)
        | (refine S.store1 rfl 3 _ _ rfl _ 1 _ rfl rfl 0 (Cel.host _) rfl rfl (by simp [Cel.cells]) _ (set_h1 _ _) szI ?_; clear S; intro w9 S; simp only [List.set_cons_zero, List.set_cons_succ] at S)
        | (refine S.store1 rfl 3 _ _ rfl _ 2 _ rfl rfl 0 (Cel.host _) rfl rfl (by simp [Cel.cells]) _ (set_h2 _ _) szI ?_; clear S; intro w9 S; simp only [List.set_cons_zero, List.set_cons_succ] at S)
        | (refine S.store1 rfl 3 _ _ rfl _ 3 _ rfl rfl 0 (Cel.host _) rfl rfl (by simp [Cel.cells]) _ (set_h3 _ _) szI ?_; clear S; intro w9 S; simp only [List.set_cons_zero, List.set_cons_succ] at S)
        | (refine S.store1 rfl 26 _ _ rfl _ 5 _ rfl rfl 0 (Cel.host _) rfl rfl (by simp [Cel.cells]) _ (set_h5 _ _) szU ?_; clear S; intro w9 S; simp only [List.set_cons_zero, List.set_cons_succ] at S)
        | (refine S.loadAll rfl 31 _ rfl _ rfl 0 (Cel.host _) rfl _ Tryz.underlying31 rfl szHost ?_)
        | (refine S.storeAll rfl 31 _ _ rfl _ (Cel.host _) rfl rfl 1 _ rfl rfl (one_host _) szHost ?_; clear S; intro w9 S; simp only [List.set_cons_zero, List.set_cons_succ] at S))
      refine bodyPost_ret (S.results rfl _ _ rfl 1 _ rfl _ Tryz.underlying31 rfl szHost) rfl ?_
      exact ⟨_, rfl, by first | exact ⟨by decide, by decide⟩ | (refine ⟨?_, ?_⟩ <;> first | (simp only []; omega) | (simp only [IntKind.wrap_u32]; omega)), S.low⟩
  · by_cases h250 : 250 < l3
    · go_wp2_with (first
        | (refine S.load1 rfl 3 _ rfl _ 0 rfl 0 (Cel.host _) rfl _ rfl _ Tryz.underlying3 rfl ?_)
        | (refine S.load1 rfl 5 _ rfl _ 1 rfl 2 (Cel.any _) rfl _ rfl _ Tryz.underlying5 rfl ?_)
        | (refine S.load1 rfl 5 _ rfl _ 3 rfl 2 (Cel.any _) rfl _ rfl _ Tryz.underlying5 rfl ?_)
        | (refine S.store1 rfl 3 _ _ rfl _ 1 _ rfl rfl 0 (Cel.host _) rfl rfl (by simp [Cel.cells]) _ (set_h1 _ _) szI ?_; clear S; intro w9 S; simp only [List.set_cons_zero, List.set_cons_succ] at S)
        | (refine S.store1 rfl 3 _ _ rfl _ 2 _ rfl rfl 0 (Cel.host _) rfl rfl (by simp [Cel.cells]) _ (set_h2 _ _) szI ?_; clear S; intro w9 S; simp only [List.set_cons_zero, List.set_cons_succ] at S)
        | (refine S.store1 rfl 3 _ _ rfl _ 3 _ rfl rfl 0 (Cel.host _) rfl rfl (by simp [Cel.cells]) _ (set_h3 _ _) szI ?_; clear S; intro w9 S; simp only [List.set_cons_zero, List.set_cons_succ] at S)
        | (refine S.store1 rfl 26 _ _ rfl _ 5 _ rfl rfl 0 (Cel.host _) rfl rfl (by simp [Cel.cells]) _ (set_h5 _ _) szU ?_; clear S; intro w9 S; simp only [List.set_cons_zero, List.set_cons_succ] at S)
        | (refine S.loadAll rfl 31 _ rfl _ rfl 0 (Cel.host _) rfl _ Tryz.underlying31 rfl szHost ?_)
        | (refine S.storeAll rfl 31 _ _ rfl _ (Cel.host _) rfl rfl 1 _ rfl rfl (one_host _) szHost ?_; clear S; intro w9 S; simp only [List.set_cons_zero, List.set_cons_succ] at S))
      refine bodyPost_ret (S.results rfl _ _ rfl 1 _ rfl _ Tryz.underlying31 rfl szHost) rfl ?_
      exact ⟨_, rfl, by first | exact ⟨by decide, by decide⟩ | (refine ⟨?_, ?_⟩ <;> first | (simp only []; omega) | (simp only [IntKind.wrap_u32]; omega)), S.low⟩
    · have h251 : decide (250 < l3) = false := by simpa using h250
      go_wp2_with (first
        | (refine S.load1 rfl 3 _ rfl _ 0 rfl 0 (Cel.host _) rfl _ rfl _ Tryz.underlying3 rfl ?_)
        | (refine S.load1 rfl 5 _ rfl _ 1 rfl 2 (Cel.any _) rfl _ rfl _ Tryz.underlying5 rfl ?_)
        | (refine S.load1 rfl 5 _ rfl _ 3 rfl 2 (Cel.any _) rfl _ rfl _ Tryz.underlying5 rfl ?_)
        | (refine S.store1 rfl 3 _ _ rfl _ 1 _ rfl rfl 0 (Cel.host _) rfl rfl (by simp [Cel.cells]) _ (set_h1 _ _) szI ?_; clear S; intro w9 S; simp only [List.set_cons_zero, List.set_cons_succ] at S)
        | (refine S.store1 rfl 3 _ _ rfl _ 2 _ rfl rfl 0 (Cel.host _) rfl rfl (by simp [Cel.cells]) _ (set_h2 _ _) szI ?_; clear S; intro w9 S; simp only [List.set_cons_zero, List.set_cons_succ] at S)
        | (refine S.store1 rfl 3 _ _ rfl _ 3 _ rfl rfl 0 (Cel.host _) rfl rfl (by simp [Cel.cells]) _ (set_h3 _ _) szI ?_; clear S; intro w9 S; simp only [List.set_cons_zero, List.set_cons_succ] at S)
        | (refine S.store1 rfl 26 _ _ rfl _ 5 _ rfl rfl 0 (Cel.host _) rfl rfl (by simp [Cel.cells]) _ (set_h5 _ _) szU ?_; clear S; intro w9 S; simp only [List.set_cons_zero, List.set_cons_succ] at S)
        | (refine S.loadAll rfl 31 _ rfl _ rfl 0 (Cel.host _) rfl _ Tryz.underlying31 rfl szHost ?_)
        | (refine S.storeAll rfl 31 _ _ rfl _ (Cel.host _) rfl rfl 1 _ rfl rfl (one_host _) szHost ?_; clear S; intro w9 S; simp only [List.set_cons_zero, List.set_cons_succ] at S))
      refine bodyPost_ret (S.results rfl _ _ rfl 1 _ rfl _ Tryz.underlying31 rfl szHost) rfl ?_
      exact ⟨_, rfl, by first | exact ⟨by decide, by decide⟩ | (refine ⟨?_, ?_⟩ <;> first | (simp only []; omega) | (simp only [IntKind.wrap_u32]; omega)), S.low⟩
  · go_wp2_with (first
      | (refine S.load1 rfl 3 _ rfl _ 0 rfl 0 (Cel.host _) rfl _ rfl _ Tryz.underlying3 rfl ?_)
      | (refine S.load1 rfl 5 _ rfl _ 1 rfl 2 (Cel.any _) rfl _ rfl _ Tryz.underlying5 rfl ?_)
      | (refine S.load1 rfl 5 _ rfl _ 3 rfl 2 (Cel.any _) rfl _ rfl _ Tryz.underlying5 rfl ?_)
      | (refine S.store1 rfl 3 _ _ rfl _ 1 _ rfl rfl 0 (Cel.host _) rfl rfl (by simp [Cel.cells]) _ (set_h1 _ _) szI ?_; clear S; intro w9 S; simp only [List.set_cons_zero, List.set_cons_succ] at S)
      | (refine S.store1 rfl 3 _ _ rfl _ 2 _ rfl rfl 0 (Cel.host _) rfl rfl (by simp [Cel.cells]) _ (set_h2 _ _) szI ?_; clear S; intro w9 S; simp only [List.set_cons_zero, List.set_cons_succ] at S)
      | (refine S.store1 rfl 3 _ _ rfl _ 3 _ rfl rfl 0 (Cel.host _) rfl rfl (by simp [Cel.cells]) _ (set_h3 _ _) szI ?_; clear S; intro w9 S; simp only [List.set_cons_zero, List.set_cons_succ] at S)
      | (refine S.store1 rfl 26 _ _ rfl _ 5 _ rfl rfl 0 (Cel.host _) rfl rfl (by simp [Cel.cells]) _ (set_h5 _ _) szU ?_; clear S; intro w9 S; simp only [List.set_cons_zero, List.set_cons_succ] at S)
      | (refine S.loadAll rfl 31 _ rfl _ rfl 0 (Cel.host _) rfl _ Tryz.underlying31 rfl szHost ?_)
      | (refine S.storeAll rfl 31 _ _ rfl _ (Cel.host _) rfl rfl 1 _ rfl rfl (one_host _) szHost ?_; clear S; intro w9 S; simp only [List.set_cons_zero, List.set_cons_succ] at S))
    refine Upto.start (S := fun w' => SH noZ w w' [(b6, Cel.host noHV), (b3, Cel.any [.int .u8 l0, .int .u8 l1, .int .u8 l2, .int .u8 l3])]) 9 (by kernel_rfl) ?_
    replace S := S.drew
    refine Upto.take (i := 0) (oi := { dst := some 100, op := Op.move (Operand.tmp 9), type := 3, pos := "law.go:43", after := #[], guard := none }) (v := ?_) rfl (by kernel_rfl) (by kernel_rfl) (by kernel_rfl) (by kernel_rfl) (fun _ _ _ h => h) (Or.inl ⟨by rfl, ?_⟩) (by exact S.fewer 1) ?_
    rotate_left 1
    · intro w hSw
      clear hSw
      go_simp
      try with_reducible rfl
    simp only [Act.put, List.setIfInBounds_toArray, List.set_cons_zero, List.set_cons_succ]
    refine Upto.take (i := 1) (oi := { dst := some 101, op := Op.indexAddr 61 (Operand.tmp 3) (Operand.const (Value.int IntKind.i64 1)), type := 0, pos := "law.go:43", after := #[{ on := 7, ground := Ground.gcOnly Departure.lateStores }], guard := none }) (v := ?_) rfl (by kernel_rfl) (by kernel_rfl) (by kernel_rfl) (by kernel_rfl) (fun _ _ _ h => h) (Or.inl ⟨by rfl, ?_⟩) (by exact S.fewer 1) ?_
    rotate_left 1
    · intro w hSw
      clear hSw
      go_simp
      try with_reducible rfl
    simp only [Act.put, List.setIfInBounds_toArray, List.set_cons_zero, List.set_cons_succ]
    refine Upto.take (i := 2) (oi := { dst := some 102, op := Op.load 5 (Operand.tmp 101), type := 5, pos := "law.go:43", after := #[{ on := 1, ground := Ground.data }, { on := 7, ground := Ground.gcOnly Departure.lateStores }], guard := none }) (v := _) rfl (by kernel_rfl) (by kernel_rfl) (by kernel_rfl) (by kernel_rfl) (fun _ _ _ h => h) (y_load1 (by rfl) _ _ rfl _ _ rfl 1 _ rfl _ rfl _ Tryz.underlying5 rfl) (by exact S.fewer 1) ?_
    simp only [Act.put, List.setIfInBounds_toArray, List.set_cons_zero, List.set_cons_succ]
    refine Upto.take (i := 3) (oi := { dst := some 103, op := Op.binOp BinOp.rem 5 (Operand.tmp 102) (Operand.const (Value.int IntKind.u8 6)) 5, type := 5, pos := "law.go:43", after := #[{ on := 2, ground := Ground.data }, { on := 7, ground := Ground.gcOnly Departure.lateStores }], guard := none }) (v := ?_) rfl (by kernel_rfl) (by kernel_rfl) (by kernel_rfl) (by kernel_rfl) (fun _ _ _ h => h) (Or.inl ⟨by rfl, ?_⟩) (by exact S.fewer 1) ?_
    rotate_left 1
    · intro w hSw
      clear hSw
      go_simp
      try with_reducible rfl
    simp only [Act.put, List.setIfInBounds_toArray, List.set_cons_zero, List.set_cons_succ]
    refine Upto.take (i := 4) (oi := { dst := some 104, op := Op.convert 5 26 (Operand.tmp 103), type := 26, pos := "law.go:43", after := #[{ on := 3, ground := Ground.data }, { on := 7, ground := Ground.gcOnly Departure.lateStores }], guard := none }) (v := ?_) rfl (by kernel_rfl) (by kernel_rfl) (by kernel_rfl) (by kernel_rfl) (fun _ _ _ h => h) (Or.inl ⟨by rfl, ?_⟩) (by exact S.fewer 1) ?_
    rotate_left 1
    · intro w hSw
      clear hSw
      go_simp
      try with_reducible rfl
    simp only [Act.put, List.setIfInBounds_toArray, List.set_cons_zero, List.set_cons_succ]
    refine Upto.take (i := 5) (oi := { dst := some 105, op := Op.binOp BinOp.sub 26 (Operand.tmp 104) (Operand.const (Value.int IntKind.u32 1)) 26, type := 26, pos := "law.go:43", after := #[{ on := 4, ground := Ground.data }, { on := 7, ground := Ground.gcOnly Departure.lateStores }], guard := none }) (v := ?_) rfl (by kernel_rfl) (by kernel_rfl) (by kernel_rfl) (by kernel_rfl) (fun _ _ _ h => h) (Or.inl ⟨by rfl, ?_⟩) (by exact S.fewer 1) ?_
    rotate_left 1
    · intro w hSw
      clear hSw
      go_simp
      try with_reducible rfl
    simp only [Act.put, List.setIfInBounds_toArray, List.set_cons_zero, List.set_cons_succ]
    refine Upto.take (i := 6) (oi := { dst := some 106, op := Op.fieldAddr 31 (Operand.tmp 7) 2, type := 0, pos := "law.go:43", after := #[{ on := 0, ground := Ground.phase }, { on := 1, ground := Ground.textOnly Departure.lateStores }, { on := 2, ground := Ground.textOnly Departure.lateStores }, { on := 3, ground := Ground.textOnly Departure.lateStores }, { on := 4, ground := Ground.textOnly Departure.lateStores }, { on := 5, ground := Ground.textOnly Departure.lateStores }], guard := none }) (v := ?_) rfl (by kernel_rfl) (by kernel_rfl) (by kernel_rfl) (by kernel_rfl) (fun _ _ _ h => h) (Or.inl ⟨by rfl, ?_⟩) (by exact S.fewer 1) ?_
    rotate_left 1
    · intro w hSw
      clear hSw
      go_simp
      try with_reducible rfl
    simp only [Act.put, List.setIfInBounds_toArray, List.set_cons_zero, List.set_cons_succ]
    refine Upto.ready (rs := [7]) (by kernel_rfl) (by simp) ?_
    refine Nexts.cons rfl (by decide) (fun K hK => ?_) Nexts.nil
    rw [if_pos (by rfl)]
    refine S.wpStore1 3 _ _ rfl _ 2 _ rfl rfl 0 _ rfl rfl (by simp [Cel.cells]) _ (set_h2 _ _) szI ?_
    clear S
    intro w9 S
    simp only [List.set_cons_zero, List.set_cons_succ] at S
    refine hK.out _ _ (by exact S.fewer 1) ?_
    clear hK K
    refine Upto.take (i := 8) (oi := { dst := some 107, op := Op.fieldAddr 31 (Operand.tmp 7) 5, type := 0, pos := "law.go:43", after := #[{ on := 0, ground := Ground.phase }, { on := 1, ground := Ground.phase }, { on := 2, ground := Ground.phase }, { on := 3, ground := Ground.phase }, { on := 4, ground := Ground.phase }, { on := 5, ground := Ground.phase }, { on := 6, ground := Ground.phase }, { on := 7, ground := Ground.phase }], guard := none }) (v := ?_) rfl (by kernel_rfl) (by kernel_rfl) (by kernel_rfl) (by kernel_rfl) (fun _ _ _ h => h) (Or.inl ⟨by rfl, ?_⟩) (by exact S.fewer 1) ?_
    rotate_left 1
    · intro w hSw
      clear hSw
      go_simp
      try with_reducible rfl
    simp only [Act.put, List.setIfInBounds_toArray, List.set_cons_zero, List.set_cons_succ]
    refine Upto.ready (rs := [9]) (by kernel_rfl) (by simp) ?_
    refine Nexts.last rfl (fun K hK => ?_)
    rw [if_pos (by rfl)]
    refine S.wpStore1 26 _ _ rfl _ 5 _ rfl rfl 0 _ rfl rfl (by simp [Cel.cells]) _ (set_h5 _ _) szU ?_
    clear S
    intro w9 S
    simp only [List.set_cons_zero, List.set_cons_succ] at S
    refine hK.out _ _ ?_
    simp only [Act.put, List.setIfInBounds_toArray, List.set_cons_zero, List.set_cons_succ]
    clear hK K
    refine Upto.done (by kernel_rfl) ?_ _
    by_cases h250 : 250 < l3
    · go_wp2_with (first
        | (refine S.load1 rfl 3 _ rfl _ 0 rfl 0 (Cel.host _) rfl _ rfl _ Tryz.underlying3 rfl ?_)
        | (refine S.load1 rfl 5 _ rfl _ 1 rfl 2 (Cel.any _) rfl _ rfl _ Tryz.underlying5 rfl ?_)
        | (refine S.load1 rfl 5 _ rfl _ 3 rfl 2 (Cel.any _) rfl _ rfl _ Tryz.underlying5 rfl ?_)
        | (refine S.store1 rfl 3 _ _ rfl _ 1 _ rfl rfl 0 (Cel.host _) rfl rfl (by simp [Cel.cells]) _ (set_h1 _ _) szI ?_; clear S; intro w9 S; simp only [List.set_cons_zero, List.set_cons_succ] at S)
        | (refine S.store1 rfl 3 _ _ rfl _ 2 _ rfl rfl 0 (Cel.host _) rfl rfl (by simp [Cel.cells]) _ (set_h2 _ _) szI ?_; clear S; intro w9 S; simp only [List.set_cons_zero, List.set_cons_succ] at S)
        | (refine S.store1 rfl 3 _ _ rfl _ 3 _ rfl rfl 0 (Cel.host _) rfl rfl (by simp [Cel.cells]) _ (set_h3 _ _) szI ?_; clear S; intro w9 S; simp only [List.set_cons_zero, List.set_cons_succ] at S)
        | (refine S.store1 rfl 26 _ _ rfl _ 5 _ rfl rfl 0 (Cel.host _) rfl rfl (by simp [Cel.cells]) _ (set_h5 _ _) szU ?_; clear S; intro w9 S; simp only [List.set_cons_zero, List.set_cons_succ] at S)
        | (refine S.loadAll rfl 31 _ rfl _ rfl 0 (Cel.host _) rfl _ Tryz.underlying31 rfl szHost ?_)
        | (refine S.storeAll rfl 31 _ _ rfl _ (Cel.host _) rfl rfl 1 _ rfl rfl (one_host _) szHost ?_; clear S; intro w9 S; simp only [List.set_cons_zero, List.set_cons_succ] at S))
      refine bodyPost_ret (S.results rfl _ _ rfl 1 _ rfl _ Tryz.underlying31 rfl szHost) rfl ?_
      exact ⟨_, rfl, by first | exact ⟨by decide, by decide⟩ | (refine ⟨?_, ?_⟩ <;> first | (simp only []; omega) | (simp only [IntKind.wrap_u32]; omega)), S.low⟩
    · have h251 : decide (250 < l3) = false := by simpa using h250
      go_wp2_with (first
        | (refine S.load1 rfl 3 _ rfl _ 0 rfl 0 (Cel.host _) rfl _ rfl _ Tryz.underlying3 rfl ?_)
        | (refine S.load1 rfl 5 _ rfl _ 1 rfl 2 (Cel.any _) rfl _ rfl _ Tryz.underlying5 rfl ?_)
        | (refine S.load1 rfl 5 _ rfl _ 3 rfl 2 (Cel.any _) rfl _ rfl _ Tryz.underlying5 rfl ?_)
        | (refine S.store1 rfl 3 _ _ rfl _ 1 _ rfl rfl 0 (Cel.host _) rfl rfl (by simp [Cel.cells]) _ (set_h1 _ _) szI ?_; clear S; intro w9 S; simp only [List.set_cons_zero, List.set_cons_succ] at S)
        | (refine S.store1 rfl 3 _ _ rfl _ 2 _ rfl rfl 0 (Cel.host _) rfl rfl (by simp [Cel.cells]) _ (set_h2 _ _) szI ?_; clear S; intro w9 S; simp only [List.set_cons_zero, List.set_cons_succ] at S)
        | (refine S.store1 rfl 3 _ _ rfl _ 3 _ rfl rfl 0 (Cel.host _) rfl rfl (by simp [Cel.cells]) _ (set_h3 _ _) szI ?_; clear S; intro w9 S; simp only [List.set_cons_zero, List.set_cons_succ] at S)
        | (refine S.store1 rfl 26 _ _ rfl _ 5 _ rfl rfl 0 (Cel.host _) rfl rfl (by simp [Cel.cells]) _ (set_h5 _ _) szU ?_; clear S; intro w9 S; simp only [List.set_cons_zero, List.set_cons_succ] at S)
        | (refine S.loadAll rfl 31 _ rfl _ rfl 0 (Cel.host _) rfl _ Tryz.underlying31 rfl szHost ?_)
        | (refine S.storeAll rfl 31 _ _ rfl _ (Cel.host _) rfl rfl 1 _ rfl rfl (one_host _) szHost ?_; clear S; intro w9 S; simp only [List.set_cons_zero, List.set_cons_succ] at S))
      refine bodyPost_ret (S.results rfl _ _ rfl 1 _ rfl _ Tryz.underlying31 rfl szHost) rfl ?_
      exact ⟨_, rfl, by first | exact ⟨by decide, by decide⟩ | (refine ⟨?_, ?_⟩ <;> first | (simp only []; omega) | (simp only [IntKind.wrap_u32]; omega)), S.low⟩
  · by_cases h250 : 250 < l3
    · go_wp2_with (first
        | (refine S.load1 rfl 3 _ rfl _ 0 rfl 0 (Cel.host _) rfl _ rfl _ Tryz.underlying3 rfl ?_)
        | (refine S.load1 rfl 5 _ rfl _ 1 rfl 2 (Cel.any _) rfl _ rfl _ Tryz.underlying5 rfl ?_)
        | (refine S.load1 rfl 5 _ rfl _ 3 rfl 2 (Cel.any _) rfl _ rfl _ Tryz.underlying5 rfl ?_)
        | (refine S.store1 rfl 3 _ _ rfl _ 1 _ rfl rfl 0 (Cel.host _) rfl rfl (by simp [Cel.cells]) _ (set_h1 _ _) szI ?_; clear S; intro w9 S; simp only [List.set_cons_zero, List.set_cons_succ] at S)
        | (refine S.store1 rfl 3 _ _ rfl _ 2 _ rfl rfl 0 (Cel.host _) rfl rfl (by simp [Cel.cells]) _ (set_h2 _ _) szI ?_; clear S; intro w9 S; simp only [List.set_cons_zero, List.set_cons_succ] at S)
        | (refine S.store1 rfl 3 _ _ rfl _ 3 _ rfl rfl 0 (Cel.host _) rfl rfl (by simp [Cel.cells]) _ (set_h3 _ _) szI ?_; clear S; intro w9 S; simp only [List.set_cons_zero, List.set_cons_succ] at S)
        | (refine S.store1 rfl 26 _ _ rfl _ 5 _ rfl rfl 0 (Cel.host _) rfl rfl (by simp [Cel.cells]) _ (set_h5 _ _) szU ?_; clear S; intro w9 S; simp only [List.set_cons_zero, List.set_cons_succ] at S)
        | (refine S.loadAll rfl 31 _ rfl _ rfl 0 (Cel.host _) rfl _ Tryz.underlying31 rfl szHost ?_)
        | (refine S.storeAll rfl 31 _ _ rfl _ (Cel.host _) rfl rfl 1 _ rfl rfl (one_host _) szHost ?_; clear S; intro w9 S; simp only [List.set_cons_zero, List.set_cons_succ] at S))
      refine bodyPost_ret (S.results rfl _ _ rfl 1 _ rfl _ Tryz.underlying31 rfl szHost) rfl ?_
      exact ⟨_, rfl, by first | exact ⟨by decide, by decide⟩ | (refine ⟨?_, ?_⟩ <;> first | (simp only []; omega) | (simp only [IntKind.wrap_u32]; omega)), S.low⟩
    · have h251 : decide (250 < l3) = false := by simpa using h250
      go_wp2_with (first
        | (refine S.load1 rfl 3 _ rfl _ 0 rfl 0 (Cel.host _) rfl _ rfl _ Tryz.underlying3 rfl ?_)
        | (refine S.load1 rfl 5 _ rfl _ 1 rfl 2 (Cel.any _) rfl _ rfl _ Tryz.underlying5 rfl ?_)
        | (refine S.load1 rfl 5 _ rfl _ 3 rfl 2 (Cel.any _) rfl _ rfl _ Tryz.underlying5 rfl ?_)
        | (refine S.store1 rfl 3 _ _ rfl _ 1 _ rfl rfl 0 (Cel.host _) rfl rfl (by simp [Cel.cells]) _ (set_h1 _ _) szI ?_; clear S; intro w9 S; simp only [List.set_cons_zero, List.set_cons_succ] at S)
        | (refine S.store1 rfl 3 _ _ rfl _ 2 _ rfl rfl 0 (Cel.host _) rfl rfl (by simp [Cel.cells]) _ (set_h2 _ _) szI ?_; clear S; intro w9 S; simp only [List.set_cons_zero, List.set_cons_succ] at S)
        | (refine S.store1 rfl 3 _ _ rfl _ 3 _ rfl rfl 0 (Cel.host _) rfl rfl (by simp [Cel.cells]) _ (set_h3 _ _) szI ?_; clear S; intro w9 S; simp only [List.set_cons_zero, List.set_cons_succ] at S)
        | (refine S.store1 rfl 26 _ _ rfl _ 5 _ rfl rfl 0 (Cel.host _) rfl rfl (by simp [Cel.cells]) _ (set_h5 _ _) szU ?_; clear S; intro w9 S; simp only [List.set_cons_zero, List.set_cons_succ] at S)
        | (refine S.loadAll rfl 31 _ rfl _ rfl 0 (Cel.host _) rfl _ Tryz.underlying31 rfl szHost ?_)
        | (refine S.storeAll rfl 31 _ _ rfl _ (Cel.host _) rfl rfl 1 _ rfl rfl (one_host _) szHost ?_; clear S; intro w9 S; simp only [List.set_cons_zero, List.set_cons_succ] at S))
      refine bodyPost_ret (S.results rfl _ _ rfl 1 _ rfl _ Tryz.underlying31 rfl szHost) rfl ?_
      exact ⟨_, rfl, by first | exact ⟨by decide, by decide⟩ | (refine ⟨?_, ?_⟩ <;> first | (simp only []; omega) | (simp only [IntKind.wrap_u32]; omega)), S.low⟩
  · by_cases h250 : 250 < l3
    · go_wp2_with (first
        | (refine S.load1 rfl 3 _ rfl _ 0 rfl 0 (Cel.host _) rfl _ rfl _ Tryz.underlying3 rfl ?_)
        | (refine S.load1 rfl 5 _ rfl _ 1 rfl 2 (Cel.any _) rfl _ rfl _ Tryz.underlying5 rfl ?_)
        | (refine S.load1 rfl 5 _ rfl _ 3 rfl 2 (Cel.any _) rfl _ rfl _ Tryz.underlying5 rfl ?_)
        | (refine S.store1 rfl 3 _ _ rfl _ 1 _ rfl rfl 0 (Cel.host _) rfl rfl (by simp [Cel.cells]) _ (set_h1 _ _) szI ?_; clear S; intro w9 S; simp only [List.set_cons_zero, List.set_cons_succ] at S)
        | (refine S.store1 rfl 3 _ _ rfl _ 2 _ rfl rfl 0 (Cel.host _) rfl rfl (by simp [Cel.cells]) _ (set_h2 _ _) szI ?_; clear S; intro w9 S; simp only [List.set_cons_zero, List.set_cons_succ] at S)
        | (refine S.store1 rfl 3 _ _ rfl _ 3 _ rfl rfl 0 (Cel.host _) rfl rfl (by simp [Cel.cells]) _ (set_h3 _ _) szI ?_; clear S; intro w9 S; simp only [List.set_cons_zero, List.set_cons_succ] at S)
        | (refine S.store1 rfl 26 _ _ rfl _ 5 _ rfl rfl 0 (Cel.host _) rfl rfl (by simp [Cel.cells]) _ (set_h5 _ _) szU ?_; clear S; intro w9 S; simp only [List.set_cons_zero, List.set_cons_succ] at S)
        | (refine S.loadAll rfl 31 _ rfl _ rfl 0 (Cel.host _) rfl _ Tryz.underlying31 rfl szHost ?_)
        | (refine S.storeAll rfl 31 _ _ rfl _ (Cel.host _) rfl rfl 1 _ rfl rfl (one_host _) szHost ?_; clear S; intro w9 S; simp only [List.set_cons_zero, List.set_cons_succ] at S))
      refine bodyPost_ret (S.results rfl _ _ rfl 1 _ rfl _ Tryz.underlying31 rfl szHost) rfl ?_
      exact ⟨_, rfl, by first | exact ⟨by decide, by decide⟩ | (refine ⟨?_, ?_⟩ <;> first | (simp only []; omega) | (simp only [IntKind.wrap_u32]; omega)), S.low⟩
    · have h251 : decide (250 < l3) = false := by simpa using h250
      go_wp2_with (first
        | (refine S.load1 rfl 3 _ rfl _ 0 rfl 0 (Cel.host _) rfl _ rfl _ Tryz.underlying3 rfl ?_)
        | (refine S.load1 rfl 5 _ rfl _ 1 rfl 2 (Cel.any _) rfl _ rfl _ Tryz.underlying5 rfl ?_)
        | (refine S.load1 rfl 5 _ rfl _ 3 rfl 2 (Cel.any _) rfl _ rfl _ Tryz.underlying5 rfl ?_)
        | (refine S.store1 rfl 3 _ _ rfl _ 1 _ rfl rfl 0 (Cel.host _) rfl rfl (by simp [Cel.cells]) _ (set_h1 _ _) szI ?_; clear S; intro w9 S; simp only [List.set_cons_zero, List.set_cons_succ] at S)
        | (refine S.store1 rfl 3 _ _ rfl _ 2 _ rfl rfl 0 (Cel.host _) rfl rfl (by simp [Cel.cells]) _ (set_h2 _ _) szI ?_; clear S; intro w9 S; simp only [List.set_cons_zero, List.set_cons_succ] at S)
        | (refine S.store1 rfl 3 _ _ rfl _ 3 _ rfl rfl 0 (Cel.host _) rfl rfl (by simp [Cel.cells]) _ (set_h3 _ _) szI ?_; clear S; intro w9 S; simp only [List.set_cons_zero, List.set_cons_succ] at S)
        | (refine S.store1 rfl 26 _ _ rfl _ 5 _ rfl rfl 0 (Cel.host _) rfl rfl (by simp [Cel.cells]) _ (set_h5 _ _) szU ?_; clear S; intro w9 S; simp only [List.set_cons_zero, List.set_cons_succ] at S)
        | (refine S.loadAll rfl 31 _ rfl _ rfl 0 (Cel.host _) rfl _ Tryz.underlying31 rfl szHost ?_)
        | (refine S.storeAll rfl 31 _ _ rfl _ (Cel.host _) rfl rfl 1 _ rfl rfl (one_host _) szHost ?_; clear S; intro w9 S; simp only [List.set_cons_zero, List.set_cons_succ] at S))
      refine bodyPost_ret (S.results rfl _ _ rfl 1 _ rfl _ Tryz.underlying31 rfl szHost) rfl ?_
      exact ⟨_, rfl, by first | exact ⟨by decide, by decide⟩ | (refine ⟨?_, ?_⟩ <;> first | (simp only []; omega) | (simp only [IntKind.wrap_u32]; omega)), S.low⟩
  · obtain ⟨n1, n2, n17, n21, n22, n23, n24, n25, n26, n27, n28, n29, n30, n31⟩ := hno
    have q1 : (o == 1) = false := by simpa using n1
    have q2 : (o == 2) = false := by simpa using n2
    have q17 : (o == 17) = false := by simpa using n17
    have q21 : (o == 21) = false := by simpa using n21
    have q22 : (o == 22) = false := by simpa using n22
    have q23 : (o == 23) = false := by simpa using n23
    have q24 : (o == 24) = false := by simpa using n24
    have q25 : (o == 25) = false := by simpa using n25
    have q26 : (o == 26) = false := by simpa using n26
    have q27 : (o == 27) = false := by simpa using n27
    have q28 : (o == 28) = false := by simpa using n28
    have q29 : (o == 29) = false := by simpa using n29
    have q30 : (o == 30) = false := by simpa using n30
    have q31 : (o == 31) = false := by simpa using n31
    by_cases h250 : 250 < l3
    · go_wp2_with (first
        | (refine S.load1 rfl 3 _ rfl _ 0 rfl 0 (Cel.host _) rfl _ rfl _ Tryz.underlying3 rfl ?_)
        | (refine S.load1 rfl 5 _ rfl _ 1 rfl 2 (Cel.any _) rfl _ rfl _ Tryz.underlying5 rfl ?_)
        | (refine S.load1 rfl 5 _ rfl _ 3 rfl 2 (Cel.any _) rfl _ rfl _ Tryz.underlying5 rfl ?_)
        | (refine S.store1 rfl 3 _ _ rfl _ 1 _ rfl rfl 0 (Cel.host _) rfl rfl (by simp [Cel.cells]) _ (set_h1 _ _) szI ?_; clear S; intro w9 S; simp only [List.set_cons_zero, List.set_cons_succ] at S)
        | (refine S.store1 rfl 3 _ _ rfl _ 2 _ rfl rfl 0 (Cel.host _) rfl rfl (by simp [Cel.cells]) _ (set_h2 _ _) szI ?_; clear S; intro w9 S; simp only [List.set_cons_zero, List.set_cons_succ] at S)
        | (refine S.store1 rfl 3 _ _ rfl _ 3 _ rfl rfl 0 (Cel.host _) rfl rfl (by simp [Cel.cells]) _ (set_h3 _ _) szI ?_; clear S; intro w9 S; simp only [List.set_cons_zero, List.set_cons_succ] at S)
        | (refine S.store1 rfl 26 _ _ rfl _ 5 _ rfl rfl 0 (Cel.host _) rfl rfl (by simp [Cel.cells]) _ (set_h5 _ _) szU ?_; clear S; intro w9 S; simp only [List.set_cons_zero, List.set_cons_succ] at S)
        | (refine S.loadAll rfl 31 _ rfl _ rfl 0 (Cel.host _) rfl _ Tryz.underlying31 rfl szHost ?_)
        | (refine S.storeAll rfl 31 _ _ rfl _ (Cel.host _) rfl rfl 1 _ rfl rfl (one_host _) szHost ?_; clear S; intro w9 S; simp only [List.set_cons_zero, List.set_cons_succ] at S))
      refine bodyPost_ret (S.results rfl _ _ rfl 1 _ rfl _ Tryz.underlying31 rfl szHost) rfl ?_
      exact ⟨_, rfl, by first | exact ⟨by decide, by decide⟩ | (refine ⟨?_, ?_⟩ <;> first | (simp only []; omega) | (simp only [IntKind.wrap_u32]; omega)), S.low⟩
    · have h251 : decide (250 < l3) = false := by simpa using h250
      go_wp2_with (first
        | (refine S.load1 rfl 3 _ rfl _ 0 rfl 0 (Cel.host _) rfl _ rfl _ Tryz.underlying3 rfl ?_)
        | (refine S.load1 rfl 5 _ rfl _ 1 rfl 2 (Cel.any _) rfl _ rfl _ Tryz.underlying5 rfl ?_)
        | (refine S.load1 rfl 5 _ rfl _ 3 rfl 2 (Cel.any _) rfl _ rfl _ Tryz.underlying5 rfl ?_)
        | (refine S.store1 rfl 3 _ _ rfl _ 1 _ rfl rfl 0 (Cel.host _) rfl rfl (by simp [Cel.cells]) _ (set_h1 _ _) szI ?_; clear S; intro w9 S; simp only [List.set_cons_zero, List.set_cons_succ] at S)
        | (refine S.store1 rfl 3 _ _ rfl _ 2 _ rfl rfl 0 (Cel.host _) rfl rfl (by simp [Cel.cells]) _ (set_h2 _ _) szI ?_; clear S; intro w9 S; simp only [List.set_cons_zero, List.set_cons_succ] at S)
        | (refine S.store1 rfl 3 _ _ rfl _ 3 _ rfl rfl 0 (Cel.host _) rfl rfl (by simp [Cel.cells]) _ (set_h3 _ _) szI ?_; clear S; intro w9 S; simp only [List.set_cons_zero, List.set_cons_succ] at S)
        | (refine S.store1 rfl 26 _ _ rfl _ 5 _ rfl rfl 0 (Cel.host _) rfl rfl (by simp [Cel.cells]) _ (set_h5 _ _) szU ?_; clear S; intro w9 S; simp only [List.set_cons_zero, List.set_cons_succ] at S)
        | (refine S.loadAll rfl 31 _ rfl _ rfl 0 (Cel.host _) rfl _ Tryz.underlying31 rfl szHost ?_)
        | (refine S.storeAll rfl 31 _ _ rfl _ (Cel.host _) rfl rfl 1 _ rfl rfl (one_host _) szHost ?_; clear S; intro w9 S; simp only [List.set_cons_zero, List.set_cons_succ] at S))
      refine bodyPost_ret (S.results rfl _ _ rfl 1 _ rfl _ Tryz.underlying31 rfl szHost) rfl ?_
      exact ⟨_, rfl, by first | exact ⟨by decide, by decide⟩ | (refine ⟨?_, ?_⟩ <;> first | (simp only []; omega) | (simp only [IntKind.wrap_u32]; omega)), S.low⟩
end Go.Proofs.YtjhmmfpmmgebjaaGreat
