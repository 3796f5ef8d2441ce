/- store, walked. -/
import Derived.Test.YteflboidbogegaaHv6
namespace Go.Proofs.Yteflboidbogegaa
open Go.ChangeShapes Go.WideShapes Go.ChangeAt Go.RowKit
set_option linter.unusedVariables false
set_option linter.unusedSimpArgs false

set_option maxHeartbeats 4000000 in
set_option maxRecDepth 100000 in
theorem hstore_w (R : List Int) (v : Value) (p : Int) (h : HV) (ho : HOk h) (hR : okR R) (hv : v.oneCell' = true) (p0 : -4611686018427387904 ≤ p) (p1 : p ≤ 4611686018427387904)
    {pm l0 lo hi : Nat} {Bs : List Reg} {G D : List (List Int)} {q : Nat → Nat} (w : World) (hM : MemAt w pm l0 lo hi Bs G D q) (hl0 : l0 ≤ w.heap.size) (er : Int) (her : stErr Bs h R = er) (D' : List (List Int)) (hD : stDat Bs D h R = D') :
    Calls Try.prog 66 #[(Cel.res R v 0 p).val, (Cel.host h).val, .pointer (some ⟨pm, 0, none⟩)] w fun en w' =>
      en = .returned (.tuple #[if er = 0 then (Cel.res R v 0 (p + 1)).val else (Cel.res R v er p).val, .bool (decide (er = 0))]) ∧ MemAt w' pm l0 lo hi Bs G D' q ∧ Mid lo hi w w' := by
  have S := SH.mem hM hl0
  have hR32 := hR.1
  have ad0 : 0 ≤ (regv R h.a + h.im) % 4294967296 ∧ (regv R h.a + h.im) % 4294967296 ≤ 4294967295 := by omega
  have hl4 := storesS_le h.op
  have C1 : Hid (∀ w1, Calls Try.prog 64 #[(Cel.host h).val, (Cel.regs R).val] w1 fun e w' => e = .returned (.int .u32 ((regv R h.a + h.im) % 4294967296)) ∧ Below w1.heap.size w1 w') := fun w1 => addr_c h R ho hR w1
  have C2 : Hid (∀ w1, Calls Try.prog 63 #[.int .i64 h.op] w1 fun e w' => e = .returned (.int .i64 (storesS h.op)) ∧ w' = w1) := fun w1 => stores_c h.op w1
  obtain ⟨b0, b1'⟩ := ho.2.2.1
  obtain ⟨hB, ub, vb⟩ := regv_at hR b0 b1'
  have HB : Hid (R[h.b.toNat]? = some (regv R h.b)) := hB
  have C3 : Hid (∀ w1, MemAt w1 pm l0 lo hi Bs G D q → Calls Try.prog 90 #[.pointer (some ⟨pm, 0, none⟩), .int .u32 ((regv R h.a + h.im) % 4294967296), .int .u32 (storesS h.op), .int .u32 (regv R h.b)] w1 fun e w' => e = .returned (.int .i64 er) ∧ MemAt w' pm l0 lo hi Bs G D' q ∧ Mid lo hi w1 w') :=
    fun w1 h1 => by
      have := store_c h1 ((regv R h.a + h.im) % 4294967296) (storesS h.op) (regv R h.b) ad0.1 ad0.2 ub (by omega)
      rw [← her, ← hD]
      exact this
  have C4 : Hid (∀ w1, Calls Try.prog 68 #[(Cel.res R v 0 p).val, .int .i64 er] w1 fun en w' => en = .returned (.tuple #[(Cel.res R v er p).val, .bool false]) ∧ Below w1.heap.size w1 w') := fun w1 => hend_c R v 0 p er hR32 hv w1
  have ew : IntKind.u32.wrap (storesS h.op) = storesS h.op := by rw [IntKind.wrap_u32]; omega
  clear ho hR hM ad0 hl4 her hD hB
  generalize (regv R h.a + h.im) % 4294967296 = ad at *
  generalize storesS h.op = lw at *
  generalize regv R h.b = y at *
  go_enter Try.func66, Try.ntmps66
  go_wp2_with (first
    | (refine S.box rfl _ _ rfl (Cel.res R v 0 p) rfl ?_; clear S; intro b1 w1 S)
    | (refine S.box rfl _ _ rfl (Cel.host h) rfl ?_; clear S; intro b2 w2 S)
    | (refine S.alloc rfl 32 rfl _ zeroRes ?_; clear S; intro b3 w3 S))
  have HM : Hid (MemAt w3.drew pm l0 lo hi Bs G D q) := S.inv.below (Below.refl _ _).drew
  replace S := S.toFree
  refine Upto.start (S := fun w' => SH (memZ pm l0 lo hi Bs G D q).free w w' [(b3, Cel.res (List.replicate 32 0) (.slice none 0 0) 0 0), (b2, Cel.host h), (b1, Cel.res R v 0 p)]) 15 (by kernel_rfl) ?_
  replace S := S.drew
  refine Upto.take (i := 0) (oi := { dst := some 9, op := Op.move (Operand.tmp 2), type := 55, pos := "hvm.go:118", after := #[], guard := none }) (v := ?_) rfl (by kernel_rfl) (by kernel_rfl) (by kernel_rfl) (by kernel_rfl) (fun _ _ _ h => h) (Or.inl ⟨by rfl, ?_⟩) (by exact S) ?_
  rotate_left 1
  · intro w hSw
    clear hSw
    go_simp
    try with_reducible rfl
  simp only [Act.put, List.setIfInBounds_toArray, List.set_cons_zero, List.set_cons_succ]
  refine Upto.take (i := 1) (oi := { dst := some 10, op := Op.load 25 (Operand.tmp 4), type := 25, pos := "hvm.go:118", after := #[], guard := none }) (v := _) rfl (by kernel_rfl) (by kernel_rfl) (by kernel_rfl) (by kernel_rfl) (fun _ _ _ h => h) (y_loadAll (by rfl) _ _ rfl _ rfl 1 _ rfl _ Try.underlying25 rfl szHost) (by exact S) ?_
  simp only [Act.put, List.setIfInBounds_toArray, List.set_cons_zero, List.set_cons_succ]
  refine Upto.take (i := 2) (oi := { dst := some 11, op := Op.fieldAddr 32 (Operand.tmp 3) 0, type := 0, pos := "hvm.go:118", after := #[], guard := none }) (v := ?_) rfl (by kernel_rfl) (by kernel_rfl) (by kernel_rfl) (by kernel_rfl) (fun _ _ _ h => h) (Or.inl ⟨by rfl, ?_⟩) (by exact S) ?_
  rotate_left 1
  · intro w hSw
    clear hSw
    go_simp
    try with_reducible rfl
  simp only [Act.put, List.setIfInBounds_toArray, List.set_cons_zero, List.set_cons_succ]
  refine Upto.take (i := 3) (oi := { dst := some 12, op := Op.load 28 (Operand.tmp 11), type := 28, pos := "hvm.go:118", after := #[{ on := 2, ground := Ground.data }], guard := none }) (v := _) rfl (by kernel_rfl) (by kernel_rfl) (by kernel_rfl) (by kernel_rfl) (fun _ _ _ h => h) (y_loadRegs (by rfl) _ _ rfl _ rfl 2 _ _ _ _ rfl _ Try.underlying28 rfl (by rw [rc_length, hR32]; exact szRegs)) (by exact S) ?_
  simp only [Act.put, List.setIfInBounds_toArray, List.set_cons_zero, List.set_cons_succ]
  refine Upto.take (i := 5) (oi := { dst := some 14, op := Op.fieldAddr 25 (Operand.tmp 4) 0, type := 0, pos := "hvm.go:118", after := #[], guard := none }) (v := ?_) rfl (by kernel_rfl) (by kernel_rfl) (by kernel_rfl) (by kernel_rfl) (fun _ _ _ h => h) (Or.inl ⟨by rfl, ?_⟩) (by exact S) ?_
  rotate_left 1
  · intro w hSw
    clear hSw
    go_simp
    try with_reducible rfl
  simp only [Act.put, List.setIfInBounds_toArray, List.set_cons_zero, List.set_cons_succ]
  refine Upto.take (i := 6) (oi := { dst := some 15, op := Op.load 3 (Operand.tmp 14), type := 3, pos := "hvm.go:118", after := #[{ on := 5, ground := Ground.data }], guard := none }) (v := _) rfl (by kernel_rfl) (by kernel_rfl) (by kernel_rfl) (by kernel_rfl) (fun _ _ _ h => h) (y_load1 (by rfl) _ _ rfl _ _ rfl 1 _ rfl _ rfl _ Try.underlying3 rfl) (by exact S) ?_
  simp only [Act.put, List.setIfInBounds_toArray, List.set_cons_zero, List.set_cons_succ]
  refine Upto.take (i := 9) (oi := { dst := some 18, op := Op.fieldAddr 25 (Operand.tmp 4) 3, type := 0, pos := "hvm.go:118", after := #[], guard := none }) (v := ?_) rfl (by kernel_rfl) (by kernel_rfl) (by kernel_rfl) (by kernel_rfl) (fun _ _ _ h => h) (Or.inl ⟨by rfl, ?_⟩) (by exact S) ?_
  rotate_left 1
  · intro w hSw
    clear hSw
    go_simp
    try with_reducible rfl
  simp only [Act.put, List.setIfInBounds_toArray, List.set_cons_zero, List.set_cons_succ]
  refine Upto.take (i := 10) (oi := { dst := some 19, op := Op.load 3 (Operand.tmp 18), type := 3, pos := "hvm.go:118", after := #[{ on := 9, ground := Ground.data }], guard := none }) (v := _) rfl (by kernel_rfl) (by kernel_rfl) (by kernel_rfl) (by kernel_rfl) (fun _ _ _ h => h) (y_load1 (by rfl) _ _ rfl _ _ rfl 1 _ rfl _ rfl _ Try.underlying3 rfl) (by exact S) ?_
  simp only [Act.put, List.setIfInBounds_toArray, List.set_cons_zero, List.set_cons_succ]
  refine Upto.take (i := 11) (oi := { dst := some 20, op := Op.fieldAddr 32 (Operand.tmp 3) 0, type := 0, pos := "hvm.go:118", after := #[], guard := none }) (v := ?_) rfl (by kernel_rfl) (by kernel_rfl) (by kernel_rfl) (by kernel_rfl) (fun _ _ _ h => h) (Or.inl ⟨by rfl, ?_⟩) (by exact S) ?_
  rotate_left 1
  · intro w hSw
    clear hSw
    go_simp
    try with_reducible rfl
  simp only [Act.put, List.setIfInBounds_toArray, List.set_cons_zero, List.set_cons_succ]
  refine Upto.take (i := 12) (oi := { dst := some 21, op := Op.indexAddr 28 (Operand.tmp 20) (Operand.tmp 19), type := 0, pos := "hvm.go:118", after := #[{ on := 11, ground := Ground.data }, { on := 10, ground := Ground.data }], guard := none }) (v := ?_) rfl (by kernel_rfl) (by kernel_rfl) (by kernel_rfl) (by kernel_rfl) (fun _ _ _ h => h) (Or.inl ⟨by rfl, ?_⟩) (by exact S) ?_
  rotate_left 1
  · intro w hSw
    clear hSw
    go_simp
    try with_reducible rfl
  simp only [Act.put, List.setIfInBounds_toArray, List.set_cons_zero, List.set_cons_succ]
  refine Upto.take (i := 13) (oi := { dst := some 22, op := Op.load 22 (Operand.tmp 21), type := 22, pos := "hvm.go:118", after := #[{ on := 12, ground := Ground.data }], guard := none }) (v := _) rfl (by kernel_rfl) (by kernel_rfl) (by kernel_rfl) (by kernel_rfl) (fun _ _ _ h => h) (y_load1 (by rfl) _ _ rfl _ _ rfl 2 _ rfl _ (res_reg HB.out _ _ _) _ Try.underlying22 rfl) (by exact S) ?_
  simp only [Act.put, List.setIfInBounds_toArray, List.set_cons_zero, List.set_cons_succ]
  refine Upto.ready (rs := [4]) (by kernel_rfl) (by simp) ?_
  refine Nexts.cons rfl (by decide) (fun K hK => ?_) Nexts.nil
  go_simp
  go_wp2_with (refine (C1.out _).mono ?_; rintro e w8 ⟨rfl, hw8⟩)
  replace S := S.below hw8
  replace HM : Hid (MemAt w8 pm l0 lo hi Bs G D q) := HM.out.below hw8
  clear hw8
  refine hK.out _ _ (by exact S) ?_
  clear hK K
  refine Upto.ready (rs := [7]) (by kernel_rfl) (by simp) ?_
  refine Nexts.cons rfl (by decide) (fun K hK => ?_) Nexts.nil
  go_simp
  go_wp2_with (refine (C2.out _).mono ?_; rintro e w9 ⟨rfl, rfl⟩)
  refine hK.out _ _ (by exact S) ?_
  clear hK K
  refine Upto.take (i := 8) (oi := { dst := some 17, op := Op.convert 3 22 (Operand.tmp 16), type := 22, pos := "hvm.go:118", after := #[{ on := 7, ground := Ground.data }], guard := none }) (v := ?_) rfl (by kernel_rfl) (by kernel_rfl) (by kernel_rfl) (by kernel_rfl) (fun _ _ _ h => h) (Or.inl ⟨by rfl, ?_⟩) (by exact S) ?_
  rotate_left 1
  · intro w hSw
    clear hSw
    go_simp
    try with_reducible rfl
  simp only [Act.put, List.setIfInBounds_toArray, List.set_cons_zero, List.set_cons_succ]
  refine Upto.ready (rs := [14]) (by kernel_rfl) (by simp) ?_
  refine Nexts.cons rfl (by decide) (fun K hK => ?_) Nexts.nil
  go_simp
  go_wp2_with (refine (C3.out _ HM.out).mono ?_; rintro e w9 ⟨rfl, hm9, hw8⟩)
  replace S := S.freeMid hw8
  replace HM : Hid (MemAt w9 pm l0 lo hi Bs G D' q) := hm9
  clear hw8 hm9
  refine hK.out _ _ (by exact S) ?_
  clear hK K
  refine Upto.ready (rs := [15]) (by kernel_rfl) (by simp) ?_
  refine Nexts.last rfl (fun K hK => ?_)
  go_simp
  refine hK.out _ _ ?_
  clear hK K
  refine Upto.done (by kernel_rfl) ?_ _
  replace S := S.join (M := memZ pm l0 lo hi Bs G D' q) (memZ_ok _ _ _ _ _ _ _ _) HM.out
  clear C1 C2 C3 ew HM
  by_cases h0 : er = 0
  · subst h0
    go_wp2_with (first
      | (refine S.loadAll rfl 32 _ rfl _ rfl 2 (Cel.res R v 0 _) rfl _ Try.underlying32 rfl (by rw [res_length hR32]; exact szRes) ?_)
      | (refine S.load1 rfl 3 _ rfl _ 34 rfl 2 (Cel.res R v 0 p) rfl _ (res_34 hR32 _ _ _) _ Try.underlying3 rfl ?_)
      | (refine S.store1 rfl 3 _ _ rfl _ 34 _ rfl rfl 2 _ rfl rfl (by rw [res_length hR32]; omega) _ (set_34 hR32 _ _ _ _) szI ?_; clear S; intro w S; simp only [List.set_cons_zero, List.set_cons_succ] at S)
      | (refine S.storeAll rfl 32 _ _ rfl _ (Cel.res _ _ _ _) rfl rfl 0 _ rfl (by rw [res_length hR32, res_length (by simp)]) (one_res hv) (by rw [res_length hR32]; exact szRes) ?_; clear S; intro w S; simp only [List.set_cons_zero, List.set_cons_succ] at S))
    refine bodyPost_ret (S.results2 rfl _ _ rfl 0 _ rfl _ Try.underlying32 rfl (by rw [res_length hR32]; exact szRes)) rfl ?_
    exact ⟨rfl, S.inv, S.mid⟩
  · have hne : (er != 0) = true := by simpa using h0
    go_wp2_with (first
      | (refine S.loadAll rfl 32 _ rfl _ rfl 2 (Cel.res R v 0 p) rfl _ Try.underlying32 rfl (by rw [res_length hR32]; exact szRes) ?_)
      | (refine (C4.out _).mono ?_; rintro e w9 ⟨rfl, hw8⟩; replace S := S.below hw8; clear hw8)
      | (refine S.storeAll rfl 32 _ _ rfl _ (Cel.res _ _ _ _) rfl rfl 0 _ rfl (by rw [res_length hR32, res_length (by simp)]) (one_res hv) (by rw [res_length hR32]; exact szRes) ?_; clear S; intro w S; simp only [List.set_cons_zero, List.set_cons_succ] at S))
    refine bodyPost_ret (S.results2 rfl _ _ rfl 0 _ rfl _ Try.underlying32 rfl (by rw [res_length hR32]; exact szRes)) rfl ?_
    exact ⟨by simp [h0], S.inv, S.mid⟩
end Go.Proofs.Yteflboidbogegaa
