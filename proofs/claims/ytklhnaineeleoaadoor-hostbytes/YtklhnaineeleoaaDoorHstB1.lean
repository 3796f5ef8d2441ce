/- HostBytes, walked: two ops. -/
import Derived.Test.YtklhnaineeleoaaDoorHstB
import Derived.Deep.RegionHeld
namespace Go.Proofs.YtklhnaineeleoaaDoor
open Go.ChangeShapes Go.WideShapes Go.ChangeAt Go.RowKit
set_option linter.unusedVariables false
set_option linter.unusedSimpArgs false

set_option maxHeartbeats 16000000 in
set_option maxRecDepth 1000000 in
theorem bytes_diff (o p d a b v u op1 op2 D A B kc : Int) (F : Int → Int → Int → Int → Int → Int → ByteArray) (t1 : Bool) (w : World)
    (o1 : 0 ≤ o) (o2 : o ≤ 255) (p1 : 0 ≤ p) (p2 : p ≤ 255) (d1 : 0 ≤ d) (d2 : d ≤ 255) (a1 : 0 ≤ a) (a2 : a ≤ 255) (b1 : 0 ≤ b) (b2 : b ≤ 255) (v1 : 0 ≤ v) (v2 : v ≤ 4294967295) (u1 : 0 ≤ u) (u2 : u ≤ 4294967295)
    (eop1 : o % 14 + 3 = op1) (eop2 : p % 14 + 3 = op2) (eD : d % 32 = D) (eA : a % 32 = A) (eB : b % 32 = B)
    (K : Hid (Calls Tryd.prog 7 #[] w fun e w' => e = .returned (.bool true) ∧ Below w.heap.size w w'))
    (CP : Hid (∀ (op d a b c im : Int), Hid (rightS ⟨op, d, a, b, c, im⟩ = true ∧ 0 ≤ im ∧ im ≤ 4294967295) → ∀ (W w6 : World), Below W.heap.size W w6 → Calls Tryd.prog 11 #[.agg #[.int .i64 op, .int .i64 d, .int .i64 a, .int .i64 b, .int .i64 c, .int .u32 im]] w6 fun e w' =>
        ∃ A cc, e = .returned (.slice A 9 cc) ∧ (∀ wx, Below w'.heap.size w' wx → (convert 29 9 (.slice A 9 cc)).run Tryd.prog wx = .ok (.string (F op d a b c im)) wx) ∧ Below w'.heap.size w' w' ∧ Below w6.heap.size w6 w' ∧ Below W.heap.size W w'))
    (R1 : Hid (rightS ⟨op1, D, A, B, 0, 0⟩ = true ∧ (0 : Int) ≤ 0 ∧ (0 : Int) ≤ 4294967295)) (R2 : Hid (rightS ⟨1, A, 0, 0, 0, v⟩ = true ∧ 0 ≤ v ∧ v ≤ 4294967295)) (R3 : Hid (rightS ⟨1, A, 0, 0, 0, u⟩ = true ∧ 0 ≤ u ∧ u ≤ 4294967295)) (R4 : Hid (rightS ⟨op2, D, A, B, 0, 0⟩ = true ∧ (0 : Int) ≤ 0 ∧ (0 : Int) ≤ 4294967295))
    (q1 : ((F 1 A 0 0 0 v).toList == (F 1 A 0 0 0 u).toList) = t1) (q2 : (v == u) = t1) (q3 : ((F op1 D A B 0 0).toList == (F op2 D A B 0 0).toList) = false) (q4 : (op1 == op2) = false)
    (CC : Hid (∀ (W w6 : World), Below W.heap.size W w6 → Calls Tryd.prog 15 #[.int .i64 op1] w6 fun e w' => e = .returned (.int .i64 kc) ∧ Below w6.heap.size w6 w' ∧ Below W.heap.size W w')) (hkc : 0 < kc)
    (CL : Hid (∀ (W w6 : World), Below W.heap.size W w6 → Calls Tryd.prog 16 #[.int .i64 op1] w6 fun e w' => e = .returned (.int .i64 0) ∧ Below w6.heap.size w6 w' ∧ Below W.heap.size W w'))
    (CS : Hid (∀ (W w6 : World), Below W.heap.size W w6 → Calls Tryd.prog 17 #[.int .i64 op1] w6 fun e w' => e = .returned (.int .i64 0) ∧ Below w6.heap.size w6 w' ∧ Below W.heap.size W w')) :
    Calls Tryd.prog 6 #[.int .u8 o, .int .u8 p, .int .u8 d, .int .u8 a, .int .u8 b, .int .u32 v, .int .u32 u] w fun e w' => e = .returned (.bool true) ∧ Below w.heap.size w w' := by
  go_enter Tryd.func6, Tryd.ntmps6
  go_wp2_with fail
  refine Calls.mono K.out ?_
  rintro e w1 ⟨rfl, hw1⟩
  have HB1 : Hid (Below w.heap.size w w1) := hw1
  clear hw1 K
  go_wp2_with fail
  obtain ⟨W, hW⟩ : ∃ W, (((w1.alloc (HObj ⟨op1, D, A, B, 0, 0⟩)).alloc (HObj ⟨1, A, 0, 0, 0, v⟩)).alloc (HObj ⟨1, A, 0, 0, 0, u⟩)).alloc (HObj ⟨op2, D, A, B, 0, 0⟩) = W := ⟨_, rfl⟩
  obtain ⟨f1, f2, f3, f4, f5⟩ := four_blocks w1 _ _ _ _ W hW
  have HBW : Hid (Below w.heap.size w W) := HB1.out.trans (f5.mono HB1.out.size)
  simp only [HObj] at hW
  rw [hW]
  have HL : Hid (w1.heap.size < W.heap.size ∧ w1.heap.size + 1 < W.heap.size ∧ w1.heap.size + 1 + 1 < W.heap.size ∧ w1.heap.size + 1 + 1 + 1 < W.heap.size) := ⟨f1.lt, f2.lt, f3.lt, f4.lt⟩
  clear hW f5 HB1 eop1 eop2 eD eA eB
  generalize w1.heap.size + 1 + 1 + 1 = g4 at *
  generalize w1.heap.size + 1 + 1 = g3 at *
  generalize w1.heap.size + 1 = g2 at *
  generalize w1.heap.size = g1 at *
  obtain ⟨cx0, cx1, cx2, cx3, cx4, cx5⟩ := f1
  obtain ⟨cy0, cy1, cy2, cy3, cy4, cy5⟩ := f2
  obtain ⟨cz0, cz1, cz2, cz3, cz4, cz5⟩ := f3
  obtain ⟨cq0, cq1, cq2, cq3, cq4, cq5⟩ := f4
  simp only [Nat.zero_add] at cx0 cx1 cx2 cx3 cx4 cx5 cy0 cy1 cy2 cy3 cy4 cy5 cz0 cz1 cz2 cz3 cz4 cz5 cq0 cq1 cq2 cq3 cq4 cq5
  refine wp_region_held_drew (S := fun w' => w'.cell? ⟨g1, 0, none⟩ = some (.int .i64 op1) ∧ w'.cell? ⟨g1, 1, none⟩ = some (.int .i64 D) ∧ w'.cell? ⟨g1, 2, none⟩ = some (.int .i64 A) ∧ w'.cell? ⟨g1, 3, none⟩ = some (.int .i64 B) ∧ w'.cell? ⟨g1, 4, none⟩ = some (.int .i64 0) ∧ w'.cell? ⟨g1, 5, none⟩ = some (.int .u32 0) ∧ w'.cell? ⟨g2, 0, none⟩ = some (.int .i64 1) ∧ w'.cell? ⟨g2, 1, none⟩ = some (.int .i64 A) ∧ w'.cell? ⟨g2, 2, none⟩ = some (.int .i64 0) ∧ w'.cell? ⟨g2, 3, none⟩ = some (.int .i64 0) ∧ w'.cell? ⟨g2, 4, none⟩ = some (.int .i64 0) ∧ w'.cell? ⟨g2, 5, none⟩ = some (.int .u32 v) ∧ w'.cell? ⟨g3, 0, none⟩ = some (.int .i64 1) ∧ w'.cell? ⟨g3, 1, none⟩ = some (.int .i64 A) ∧ w'.cell? ⟨g3, 2, none⟩ = some (.int .i64 0) ∧ w'.cell? ⟨g3, 3, none⟩ = some (.int .i64 0) ∧ w'.cell? ⟨g3, 4, none⟩ = some (.int .i64 0) ∧ w'.cell? ⟨g3, 5, none⟩ = some (.int .u32 u) ∧ w'.cell? ⟨g4, 0, none⟩ = some (.int .i64 op2) ∧ w'.cell? ⟨g4, 1, none⟩ = some (.int .i64 D) ∧ w'.cell? ⟨g4, 2, none⟩ = some (.int .i64 A) ∧ w'.cell? ⟨g4, 3, none⟩ = some (.int .i64 B) ∧ w'.cell? ⟨g4, 4, none⟩ = some (.int .i64 0) ∧ w'.cell? ⟨g4, 5, none⟩ = some (.int .u32 0)) (by kernel_rfl) ⟨cx0, cx1, cx2, cx3, cx4, cx5, cy0, cy1, cy2, cy3, cy4, cy5, cz0, cz1, cz2, cz3, cz4, cz5, cq0, cq1, cq2, cq3, cq4, cq5⟩ (fun hHeld => ?_)
  refine wpAnyH_take (i := 0) (oi := { dst := some 51, op := Op.load 26 (Operand.tmp 15), type := 26, pos := "more.go:18", after := #[], guard := none }) (v := ?_) rfl (by kernel_rfl) (by kernel_rfl) (by kernel_rfl) (fun _ _ _ h => h) (Or.inl ⟨by rfl, ?_⟩) (by assumption) ?_
  rotate_left 1
  · intro w hSw
    (try dsimp only at hSw)
    go_simp
    try with_reducible rfl
  simp only [Act.put, List.setIfInBounds_toArray, List.set_cons_zero, List.set_cons_succ]
  refine wpAnyH_ready (rs := [1]) (by kernel_rfl) (by simp) ?_
  refine AllReadyH.cons rfl (fun K hK => ?_) AllReadyH.nil
  go_simp
  go_wp2_with (go_at_call 11; refine (CP.out _ _ _ _ _ _ (by assumption) W _ (by exact (Below.refl _ _).drew)).mono ?_; rintro e w1 ⟨A1, c1, rfl, hv1, hr1, hs1, hb1⟩)
  refine hK.out _ _ ⟨(hb1.cell HL.out.1).trans cx0, (hb1.cell HL.out.1).trans cx1, (hb1.cell HL.out.1).trans cx2, (hb1.cell HL.out.1).trans cx3, (hb1.cell HL.out.1).trans cx4, (hb1.cell HL.out.1).trans cx5, (hb1.cell HL.out.2.1).trans cy0, (hb1.cell HL.out.2.1).trans cy1, (hb1.cell HL.out.2.1).trans cy2, (hb1.cell HL.out.2.1).trans cy3, (hb1.cell HL.out.2.1).trans cy4, (hb1.cell HL.out.2.1).trans cy5, (hb1.cell HL.out.2.2.1).trans cz0, (hb1.cell HL.out.2.2.1).trans cz1, (hb1.cell HL.out.2.2.1).trans cz2, (hb1.cell HL.out.2.2.1).trans cz3, (hb1.cell HL.out.2.2.1).trans cz4, (hb1.cell HL.out.2.2.1).trans cz5, (hb1.cell HL.out.2.2.2).trans cq0, (hb1.cell HL.out.2.2.2).trans cq1, (hb1.cell HL.out.2.2.2).trans cq2, (hb1.cell HL.out.2.2.2).trans cq3, (hb1.cell HL.out.2.2.2).trans cq4, (hb1.cell HL.out.2.2.2).trans cq5⟩ (fun hHeld => ?_)
  clear hK K
  refine wpAnyH_take (i := 2) (oi := { dst := some 53, op := Op.call { callee := Callee.builtin Builtin.len, args := #[Operand.tmp 52], argTypes := #[29] }, type := 3, pos := "more.go:18", after := #[{ on := 1, ground := Ground.data }], guard := none }) (v := ?_) rfl (by kernel_rfl) (by kernel_rfl) (by kernel_rfl) (fun _ _ _ h => h) (Or.inl ⟨by rfl, ?_⟩) (by assumption) ?_
  rotate_left 1
  · intro w hSw
    (try dsimp only at hSw)
    go_simp
    try with_reducible rfl
  simp only [Act.put, List.setIfInBounds_toArray, List.set_cons_zero, List.set_cons_succ]
  refine wpAnyH_take (i := 3) (oi := { dst := some 54, op := Op.binOp BinOp.eql 3 (Operand.tmp 53) (Operand.const (Value.int IntKind.i64 9)) 3, type := 4, pos := "more.go:18", after := #[{ on := 2, ground := Ground.data }], guard := none }) (v := ?_) rfl (by kernel_rfl) (by kernel_rfl) (by kernel_rfl) (fun _ _ _ h => h) (Or.inl ⟨by rfl, ?_⟩) (by assumption) ?_
  rotate_left 1
  · intro w hSw
    (try dsimp only at hSw)
    go_simp
    try with_reducible rfl
  simp only [Act.put, List.setIfInBounds_toArray, List.set_cons_zero, List.set_cons_succ]
  refine wpAnyH_take (i := 4) (oi := { dst := some 55, op := Op.move (Operand.tmp 54), type := 4, pos := "more.go:18", after := #[{ on := 3, ground := Ground.data }, { on := 1, ground := Ground.chain }], guard := none }) (v := ?_) rfl (by kernel_rfl) (by kernel_rfl) (by kernel_rfl) (fun _ _ _ h => h) (Or.inl ⟨by rfl, ?_⟩) (by assumption) ?_
  rotate_left 1
  · intro w hSw
    (try dsimp only at hSw)
    go_simp
    try with_reducible rfl
  simp only [Act.put, List.setIfInBounds_toArray, List.set_cons_zero, List.set_cons_succ]
  refine wpAnyH_take (i := 5) (oi := { dst := some 56, op := Op.load 26 (Operand.tmp 16), type := 26, pos := "more.go:18", after := #[{ on := 4, ground := Ground.guard }], guard := some (4, true) }) (v := ?_) rfl (by kernel_rfl) (by kernel_rfl) (by kernel_rfl) (fun _ _ _ h => h) (Or.inl ⟨by rfl, ?_⟩) (by assumption) ?_
  rotate_left 1
  · intro w hSw
    (try dsimp only at hSw)
    go_simp
    try with_reducible rfl
  simp only [Act.put, List.setIfInBounds_toArray, List.set_cons_zero, List.set_cons_succ]
  refine wpAnyH_ready (rs := [6]) (by kernel_rfl) (by simp) ?_
  refine AllReadyH.cons rfl (fun K hK => ?_) AllReadyH.nil
  go_simp
  go_wp2_with (go_at_call 11; refine (CP.out _ _ _ _ _ _ (by assumption) W _ (by exact hb1)).mono ?_; rintro e w2 ⟨A2, c2, rfl, hv2, hr2, hs2, hb2⟩)
  refine hK.out _ _ ⟨(hb2.cell HL.out.1).trans cx0, (hb2.cell HL.out.1).trans cx1, (hb2.cell HL.out.1).trans cx2, (hb2.cell HL.out.1).trans cx3, (hb2.cell HL.out.1).trans cx4, (hb2.cell HL.out.1).trans cx5, (hb2.cell HL.out.2.1).trans cy0, (hb2.cell HL.out.2.1).trans cy1, (hb2.cell HL.out.2.1).trans cy2, (hb2.cell HL.out.2.1).trans cy3, (hb2.cell HL.out.2.1).trans cy4, (hb2.cell HL.out.2.1).trans cy5, (hb2.cell HL.out.2.2.1).trans cz0, (hb2.cell HL.out.2.2.1).trans cz1, (hb2.cell HL.out.2.2.1).trans cz2, (hb2.cell HL.out.2.2.1).trans cz3, (hb2.cell HL.out.2.2.1).trans cz4, (hb2.cell HL.out.2.2.1).trans cz5, (hb2.cell HL.out.2.2.2).trans cq0, (hb2.cell HL.out.2.2.2).trans cq1, (hb2.cell HL.out.2.2.2).trans cq2, (hb2.cell HL.out.2.2.2).trans cq3, (hb2.cell HL.out.2.2.2).trans cq4, (hb2.cell HL.out.2.2.2).trans cq5⟩ (fun hHeld => ?_)
  clear hK K
  refine wpAnyH_take (i := 7) (oi := { dst := some 58, op := Op.call { callee := Callee.builtin Builtin.len, args := #[Operand.tmp 57], argTypes := #[29] }, type := 3, pos := "more.go:18", after := #[{ on := 6, ground := Ground.data }, { on := 4, ground := Ground.guard }], guard := some (4, true) }) (v := ?_) rfl (by kernel_rfl) (by kernel_rfl) (by kernel_rfl) (fun _ _ _ h => h) (Or.inl ⟨by rfl, ?_⟩) (by assumption) ?_
  rotate_left 1
  · intro w hSw
    (try dsimp only at hSw)
    go_simp
    try with_reducible rfl
  simp only [Act.put, List.setIfInBounds_toArray, List.set_cons_zero, List.set_cons_succ]
  refine wpAnyH_take (i := 8) (oi := { dst := some 59, op := Op.binOp BinOp.eql 3 (Operand.tmp 58) (Operand.const (Value.int IntKind.i64 9)) 3, type := 4, pos := "more.go:18", after := #[{ on := 7, ground := Ground.data }, { on := 4, ground := Ground.guard }], guard := some (4, true) }) (v := ?_) rfl (by kernel_rfl) (by kernel_rfl) (by kernel_rfl) (fun _ _ _ h => h) (Or.inl ⟨by rfl, ?_⟩) (by assumption) ?_
  rotate_left 1
  · intro w hSw
    (try dsimp only at hSw)
    go_simp
    try with_reducible rfl
  simp only [Act.put, List.setIfInBounds_toArray, List.set_cons_zero, List.set_cons_succ]
  refine wpAnyH_take (i := 9) (oi := { dst := some 60, op := Op.pick (Operand.tmp 55) (Operand.tmp 59) (Operand.const (Value.bool false)), type := 4, pos := "more.go:18", after := #[{ on := 4, ground := Ground.data }, { on := 8, ground := Ground.data }], guard := none }) (v := ?_) rfl (by kernel_rfl) (by kernel_rfl) (by kernel_rfl) (fun _ _ _ h => h) (Or.inl ⟨by rfl, ?_⟩) (by assumption) ?_
  rotate_left 1
  · intro w hSw
    (try dsimp only at hSw)
    go_simp
    try with_reducible rfl
  simp only [Act.put, List.setIfInBounds_toArray, List.set_cons_zero, List.set_cons_succ]
  refine wpAnyH_take (i := 10) (oi := { dst := some 61, op := Op.move (Operand.tmp 60), type := 4, pos := "more.go:18", after := #[{ on := 9, ground := Ground.data }, { on := 6, ground := Ground.chain }], guard := none }) (v := ?_) rfl (by kernel_rfl) (by kernel_rfl) (by kernel_rfl) (fun _ _ _ h => h) (Or.inl ⟨by rfl, ?_⟩) (by assumption) ?_
  rotate_left 1
  · intro w hSw
    (try dsimp only at hSw)
    go_simp
    try with_reducible rfl
  simp only [Act.put, List.setIfInBounds_toArray, List.set_cons_zero, List.set_cons_succ]
  refine wpAnyH_take (i := 11) (oi := { dst := some 62, op := Op.load 26 (Operand.tmp 16), type := 26, pos := "more.go:18", after := #[{ on := 10, ground := Ground.guard }], guard := some (10, true) }) (v := ?_) rfl (by kernel_rfl) (by kernel_rfl) (by kernel_rfl) (fun _ _ _ h => h) (Or.inl ⟨by rfl, ?_⟩) (by assumption) ?_
  rotate_left 1
  · intro w hSw
    (try dsimp only at hSw)
    go_simp
    try with_reducible rfl
  simp only [Act.put, List.setIfInBounds_toArray, List.set_cons_zero, List.set_cons_succ]
  refine wpAnyH_take (i := 14) (oi := { dst := some 65, op := Op.load 26 (Operand.tmp 17), type := 26, pos := "more.go:18", after := #[{ on := 10, ground := Ground.guard }], guard := some (10, true) }) (v := ?_) rfl (by kernel_rfl) (by kernel_rfl) (by kernel_rfl) (fun _ _ _ h => h) (Or.inl ⟨by rfl, ?_⟩) (by assumption) ?_
  rotate_left 1
  · intro w hSw
    (try dsimp only at hSw)
    go_simp
    try with_reducible rfl
  simp only [Act.put, List.setIfInBounds_toArray, List.set_cons_zero, List.set_cons_succ]
  refine wpAnyH_take (i := 18) (oi := { dst := some 69, op := Op.move (Operand.tmp 5), type := 24, pos := "more.go:18", after := #[{ on := 10, ground := Ground.guard }], guard := some (10, true) }) (v := ?_) rfl (by kernel_rfl) (by kernel_rfl) (by kernel_rfl) (fun _ _ _ h => h) (Or.inl ⟨by rfl, ?_⟩) (by assumption) ?_
  rotate_left 1
  · intro w hSw
    (try dsimp only at hSw)
    go_simp
    try with_reducible rfl
  simp only [Act.put, List.setIfInBounds_toArray, List.set_cons_zero, List.set_cons_succ]
  refine wpAnyH_take (i := 19) (oi := { dst := some 70, op := Op.move (Operand.tmp 6), type := 24, pos := "more.go:18", after := #[{ on := 10, ground := Ground.guard }], guard := some (10, true) }) (v := ?_) rfl (by kernel_rfl) (by kernel_rfl) (by kernel_rfl) (fun _ _ _ h => h) (Or.inl ⟨by rfl, ?_⟩) (by assumption) ?_
  rotate_left 1
  · intro w hSw
    (try dsimp only at hSw)
    go_simp
    try with_reducible rfl
  simp only [Act.put, List.setIfInBounds_toArray, List.set_cons_zero, List.set_cons_succ]
  refine wpAnyH_take (i := 20) (oi := { dst := some 71, op := Op.binOp BinOp.eql 24 (Operand.tmp 69) (Operand.tmp 70) 24, type := 4, pos := "more.go:18", after := #[{ on := 18, ground := Ground.data }, { on := 19, ground := Ground.data }, { on := 10, ground := Ground.guard }], guard := some (10, true) }) (v := ?_) rfl (by kernel_rfl) (by kernel_rfl) (by kernel_rfl) (fun _ _ _ h => h) (Or.inl ⟨by rfl, ?_⟩) (by assumption) ?_
  rotate_left 1
  · intro w hSw
    (try dsimp only at hSw)
    go_simp
    try with_reducible rfl
  simp only [Act.put, List.setIfInBounds_toArray, List.set_cons_zero, List.set_cons_succ]
  refine wpAnyH_ready (rs := [12]) (by kernel_rfl) (by simp) ?_
  refine AllReadyH.cons rfl (fun K hK => ?_) AllReadyH.nil
  go_simp
  go_wp2_with (go_at_call 11; refine (CP.out _ _ _ _ _ _ (by assumption) W _ (by exact hb2)).mono ?_; rintro e w3 ⟨A3, c3, rfl, hv3, hr3, hs3, hb3⟩)
  refine hK.out _ _ ⟨(hb3.cell HL.out.1).trans cx0, (hb3.cell HL.out.1).trans cx1, (hb3.cell HL.out.1).trans cx2, (hb3.cell HL.out.1).trans cx3, (hb3.cell HL.out.1).trans cx4, (hb3.cell HL.out.1).trans cx5, (hb3.cell HL.out.2.1).trans cy0, (hb3.cell HL.out.2.1).trans cy1, (hb3.cell HL.out.2.1).trans cy2, (hb3.cell HL.out.2.1).trans cy3, (hb3.cell HL.out.2.1).trans cy4, (hb3.cell HL.out.2.1).trans cy5, (hb3.cell HL.out.2.2.1).trans cz0, (hb3.cell HL.out.2.2.1).trans cz1, (hb3.cell HL.out.2.2.1).trans cz2, (hb3.cell HL.out.2.2.1).trans cz3, (hb3.cell HL.out.2.2.1).trans cz4, (hb3.cell HL.out.2.2.1).trans cz5, (hb3.cell HL.out.2.2.2).trans cq0, (hb3.cell HL.out.2.2.2).trans cq1, (hb3.cell HL.out.2.2.2).trans cq2, (hb3.cell HL.out.2.2.2).trans cq3, (hb3.cell HL.out.2.2.2).trans cq4, (hb3.cell HL.out.2.2.2).trans cq5⟩ (fun hHeld => ?_)
  clear hK K
  refine wpAnyH_mono (S' := fun w' => w'.cell? ⟨g1, 0, none⟩ = some (.int .i64 op1) ∧ w'.cell? ⟨g1, 1, none⟩ = some (.int .i64 D) ∧ w'.cell? ⟨g1, 2, none⟩ = some (.int .i64 A) ∧ w'.cell? ⟨g1, 3, none⟩ = some (.int .i64 B) ∧ w'.cell? ⟨g1, 4, none⟩ = some (.int .i64 0) ∧ w'.cell? ⟨g1, 5, none⟩ = some (.int .u32 0) ∧ w'.cell? ⟨g2, 0, none⟩ = some (.int .i64 1) ∧ w'.cell? ⟨g2, 1, none⟩ = some (.int .i64 A) ∧ w'.cell? ⟨g2, 2, none⟩ = some (.int .i64 0) ∧ w'.cell? ⟨g2, 3, none⟩ = some (.int .i64 0) ∧ w'.cell? ⟨g2, 4, none⟩ = some (.int .i64 0) ∧ w'.cell? ⟨g2, 5, none⟩ = some (.int .u32 v) ∧ w'.cell? ⟨g3, 0, none⟩ = some (.int .i64 1) ∧ w'.cell? ⟨g3, 1, none⟩ = some (.int .i64 A) ∧ w'.cell? ⟨g3, 2, none⟩ = some (.int .i64 0) ∧ w'.cell? ⟨g3, 3, none⟩ = some (.int .i64 0) ∧ w'.cell? ⟨g3, 4, none⟩ = some (.int .i64 0) ∧ w'.cell? ⟨g3, 5, none⟩ = some (.int .u32 u) ∧ w'.cell? ⟨g4, 0, none⟩ = some (.int .i64 op2) ∧ w'.cell? ⟨g4, 1, none⟩ = some (.int .i64 D) ∧ w'.cell? ⟨g4, 2, none⟩ = some (.int .i64 A) ∧ w'.cell? ⟨g4, 3, none⟩ = some (.int .i64 B) ∧ w'.cell? ⟨g4, 4, none⟩ = some (.int .i64 0) ∧ w'.cell? ⟨g4, 5, none⟩ = some (.int .u32 0) ∧ (convert 29 9 (.slice A3 9 c3)).run Tryd.prog w' = .ok (.string (F 1 A 0 0 0 v)) w') (fun w h => ⟨h.1, h.2.1, h.2.2.1, h.2.2.2.1, h.2.2.2.2.1, h.2.2.2.2.2.1, h.2.2.2.2.2.2.1, h.2.2.2.2.2.2.2.1, h.2.2.2.2.2.2.2.2.1, h.2.2.2.2.2.2.2.2.2.1, h.2.2.2.2.2.2.2.2.2.2.1, h.2.2.2.2.2.2.2.2.2.2.2.1, h.2.2.2.2.2.2.2.2.2.2.2.2.1, h.2.2.2.2.2.2.2.2.2.2.2.2.2.1, h.2.2.2.2.2.2.2.2.2.2.2.2.2.2.1, h.2.2.2.2.2.2.2.2.2.2.2.2.2.2.2.1, h.2.2.2.2.2.2.2.2.2.2.2.2.2.2.2.2.1, h.2.2.2.2.2.2.2.2.2.2.2.2.2.2.2.2.2.1, h.2.2.2.2.2.2.2.2.2.2.2.2.2.2.2.2.2.2.1, h.2.2.2.2.2.2.2.2.2.2.2.2.2.2.2.2.2.2.2.1, h.2.2.2.2.2.2.2.2.2.2.2.2.2.2.2.2.2.2.2.2.1, h.2.2.2.2.2.2.2.2.2.2.2.2.2.2.2.2.2.2.2.2.2.1, h.2.2.2.2.2.2.2.2.2.2.2.2.2.2.2.2.2.2.2.2.2.2.1, h.2.2.2.2.2.2.2.2.2.2.2.2.2.2.2.2.2.2.2.2.2.2.2.1⟩) _ _ _ _ ?_
  replace hHeld : (fun w' => w'.cell? ⟨g1, 0, none⟩ = some (.int .i64 op1) ∧ w'.cell? ⟨g1, 1, none⟩ = some (.int .i64 D) ∧ w'.cell? ⟨g1, 2, none⟩ = some (.int .i64 A) ∧ w'.cell? ⟨g1, 3, none⟩ = some (.int .i64 B) ∧ w'.cell? ⟨g1, 4, none⟩ = some (.int .i64 0) ∧ w'.cell? ⟨g1, 5, none⟩ = some (.int .u32 0) ∧ w'.cell? ⟨g2, 0, none⟩ = some (.int .i64 1) ∧ w'.cell? ⟨g2, 1, none⟩ = some (.int .i64 A) ∧ w'.cell? ⟨g2, 2, none⟩ = some (.int .i64 0) ∧ w'.cell? ⟨g2, 3, none⟩ = some (.int .i64 0) ∧ w'.cell? ⟨g2, 4, none⟩ = some (.int .i64 0) ∧ w'.cell? ⟨g2, 5, none⟩ = some (.int .u32 v) ∧ w'.cell? ⟨g3, 0, none⟩ = some (.int .i64 1) ∧ w'.cell? ⟨g3, 1, none⟩ = some (.int .i64 A) ∧ w'.cell? ⟨g3, 2, none⟩ = some (.int .i64 0) ∧ w'.cell? ⟨g3, 3, none⟩ = some (.int .i64 0) ∧ w'.cell? ⟨g3, 4, none⟩ = some (.int .i64 0) ∧ w'.cell? ⟨g3, 5, none⟩ = some (.int .u32 u) ∧ w'.cell? ⟨g4, 0, none⟩ = some (.int .i64 op2) ∧ w'.cell? ⟨g4, 1, none⟩ = some (.int .i64 D) ∧ w'.cell? ⟨g4, 2, none⟩ = some (.int .i64 A) ∧ w'.cell? ⟨g4, 3, none⟩ = some (.int .i64 B) ∧ w'.cell? ⟨g4, 4, none⟩ = some (.int .i64 0) ∧ w'.cell? ⟨g4, 5, none⟩ = some (.int .u32 0) ∧ (convert 29 9 (.slice A3 9 c3)).run Tryd.prog w' = .ok (.string (F 1 A 0 0 0 v)) w') w3 := ⟨(hb3.cell HL.out.1).trans cx0, (hb3.cell HL.out.1).trans cx1, (hb3.cell HL.out.1).trans cx2, (hb3.cell HL.out.1).trans cx3, (hb3.cell HL.out.1).trans cx4, (hb3.cell HL.out.1).trans cx5, (hb3.cell HL.out.2.1).trans cy0, (hb3.cell HL.out.2.1).trans cy1, (hb3.cell HL.out.2.1).trans cy2, (hb3.cell HL.out.2.1).trans cy3, (hb3.cell HL.out.2.1).trans cy4, (hb3.cell HL.out.2.1).trans cy5, (hb3.cell HL.out.2.2.1).trans cz0, (hb3.cell HL.out.2.2.1).trans cz1, (hb3.cell HL.out.2.2.1).trans cz2, (hb3.cell HL.out.2.2.1).trans cz3, (hb3.cell HL.out.2.2.1).trans cz4, (hb3.cell HL.out.2.2.1).trans cz5, (hb3.cell HL.out.2.2.2).trans cq0, (hb3.cell HL.out.2.2.2).trans cq1, (hb3.cell HL.out.2.2.2).trans cq2, (hb3.cell HL.out.2.2.2).trans cq3, (hb3.cell HL.out.2.2.2).trans cq4, (hb3.cell HL.out.2.2.2).trans cq5, hv3 _ hr3⟩
  refine wpAnyH_take (i := 13) (oi := { dst := some 64, op := Op.convert 29 9 (Operand.tmp 63), type := 9, pos := "more.go:18", after := #[{ on := 12, ground := Ground.data }, { on := 10, ground := Ground.guard }], guard := some (10, true) }) (v := ?_) rfl (by kernel_rfl) (by kernel_rfl) (by kernel_rfl) (fun _ _ _ h => h) (Or.inl ⟨by rfl, ?_⟩) (by assumption) ?_
  rotate_left 1
  · intro w hSw
    (try dsimp only at hSw)
    go_simp
    try with_reducible rfl
  simp only [Act.put, List.setIfInBounds_toArray, List.set_cons_zero, List.set_cons_succ]
  refine wpAnyH_ready (rs := [15]) (by kernel_rfl) (by simp) ?_
  refine AllReadyH.cons rfl (fun K hK => ?_) AllReadyH.nil
  go_simp
  go_wp2_with (go_at_call 11; refine (CP.out _ _ _ _ _ _ (by assumption) W _ (by exact hb3)).mono ?_; rintro e w4 ⟨A4, c4, rfl, hv4, hr4, hs4, hb4⟩)
  refine hK.out _ _ ⟨(hb4.cell HL.out.1).trans cx0, (hb4.cell HL.out.1).trans cx1, (hb4.cell HL.out.1).trans cx2, (hb4.cell HL.out.1).trans cx3, (hb4.cell HL.out.1).trans cx4, (hb4.cell HL.out.1).trans cx5, (hb4.cell HL.out.2.1).trans cy0, (hb4.cell HL.out.2.1).trans cy1, (hb4.cell HL.out.2.1).trans cy2, (hb4.cell HL.out.2.1).trans cy3, (hb4.cell HL.out.2.1).trans cy4, (hb4.cell HL.out.2.1).trans cy5, (hb4.cell HL.out.2.2.1).trans cz0, (hb4.cell HL.out.2.2.1).trans cz1, (hb4.cell HL.out.2.2.1).trans cz2, (hb4.cell HL.out.2.2.1).trans cz3, (hb4.cell HL.out.2.2.1).trans cz4, (hb4.cell HL.out.2.2.1).trans cz5, (hb4.cell HL.out.2.2.2).trans cq0, (hb4.cell HL.out.2.2.2).trans cq1, (hb4.cell HL.out.2.2.2).trans cq2, (hb4.cell HL.out.2.2.2).trans cq3, (hb4.cell HL.out.2.2.2).trans cq4, (hb4.cell HL.out.2.2.2).trans cq5, hv3 _ (hs4)⟩ (fun hHeld => ?_)
  clear hK K
  refine wpAnyH_mono (S' := fun w' => w'.cell? ⟨g1, 0, none⟩ = some (.int .i64 op1) ∧ w'.cell? ⟨g1, 1, none⟩ = some (.int .i64 D) ∧ w'.cell? ⟨g1, 2, none⟩ = some (.int .i64 A) ∧ w'.cell? ⟨g1, 3, none⟩ = some (.int .i64 B) ∧ w'.cell? ⟨g1, 4, none⟩ = some (.int .i64 0) ∧ w'.cell? ⟨g1, 5, none⟩ = some (.int .u32 0) ∧ w'.cell? ⟨g2, 0, none⟩ = some (.int .i64 1) ∧ w'.cell? ⟨g2, 1, none⟩ = some (.int .i64 A) ∧ w'.cell? ⟨g2, 2, none⟩ = some (.int .i64 0) ∧ w'.cell? ⟨g2, 3, none⟩ = some (.int .i64 0) ∧ w'.cell? ⟨g2, 4, none⟩ = some (.int .i64 0) ∧ w'.cell? ⟨g2, 5, none⟩ = some (.int .u32 v) ∧ w'.cell? ⟨g3, 0, none⟩ = some (.int .i64 1) ∧ w'.cell? ⟨g3, 1, none⟩ = some (.int .i64 A) ∧ w'.cell? ⟨g3, 2, none⟩ = some (.int .i64 0) ∧ w'.cell? ⟨g3, 3, none⟩ = some (.int .i64 0) ∧ w'.cell? ⟨g3, 4, none⟩ = some (.int .i64 0) ∧ w'.cell? ⟨g3, 5, none⟩ = some (.int .u32 u) ∧ w'.cell? ⟨g4, 0, none⟩ = some (.int .i64 op2) ∧ w'.cell? ⟨g4, 1, none⟩ = some (.int .i64 D) ∧ w'.cell? ⟨g4, 2, none⟩ = some (.int .i64 A) ∧ w'.cell? ⟨g4, 3, none⟩ = some (.int .i64 B) ∧ w'.cell? ⟨g4, 4, none⟩ = some (.int .i64 0) ∧ w'.cell? ⟨g4, 5, none⟩ = some (.int .u32 0) ∧ (convert 29 9 (.slice A3 9 c3)).run Tryd.prog w' = .ok (.string (F 1 A 0 0 0 v)) w' ∧ (convert 29 9 (.slice A4 9 c4)).run Tryd.prog w' = .ok (.string (F 1 A 0 0 0 u)) w') (fun w h => ⟨h.1, h.2.1, h.2.2.1, h.2.2.2.1, h.2.2.2.2.1, h.2.2.2.2.2.1, h.2.2.2.2.2.2.1, h.2.2.2.2.2.2.2.1, h.2.2.2.2.2.2.2.2.1, h.2.2.2.2.2.2.2.2.2.1, h.2.2.2.2.2.2.2.2.2.2.1, h.2.2.2.2.2.2.2.2.2.2.2.1, h.2.2.2.2.2.2.2.2.2.2.2.2.1, h.2.2.2.2.2.2.2.2.2.2.2.2.2.1, h.2.2.2.2.2.2.2.2.2.2.2.2.2.2.1, h.2.2.2.2.2.2.2.2.2.2.2.2.2.2.2.1, h.2.2.2.2.2.2.2.2.2.2.2.2.2.2.2.2.1, h.2.2.2.2.2.2.2.2.2.2.2.2.2.2.2.2.2.1, h.2.2.2.2.2.2.2.2.2.2.2.2.2.2.2.2.2.2.1, h.2.2.2.2.2.2.2.2.2.2.2.2.2.2.2.2.2.2.2.1, h.2.2.2.2.2.2.2.2.2.2.2.2.2.2.2.2.2.2.2.2.1, h.2.2.2.2.2.2.2.2.2.2.2.2.2.2.2.2.2.2.2.2.2.1, h.2.2.2.2.2.2.2.2.2.2.2.2.2.2.2.2.2.2.2.2.2.2.1, h.2.2.2.2.2.2.2.2.2.2.2.2.2.2.2.2.2.2.2.2.2.2.2.1, h.2.2.2.2.2.2.2.2.2.2.2.2.2.2.2.2.2.2.2.2.2.2.2.2.1⟩) _ _ _ _ ?_
  replace hHeld : (fun w' => w'.cell? ⟨g1, 0, none⟩ = some (.int .i64 op1) ∧ w'.cell? ⟨g1, 1, none⟩ = some (.int .i64 D) ∧ w'.cell? ⟨g1, 2, none⟩ = some (.int .i64 A) ∧ w'.cell? ⟨g1, 3, none⟩ = some (.int .i64 B) ∧ w'.cell? ⟨g1, 4, none⟩ = some (.int .i64 0) ∧ w'.cell? ⟨g1, 5, none⟩ = some (.int .u32 0) ∧ w'.cell? ⟨g2, 0, none⟩ = some (.int .i64 1) ∧ w'.cell? ⟨g2, 1, none⟩ = some (.int .i64 A) ∧ w'.cell? ⟨g2, 2, none⟩ = some (.int .i64 0) ∧ w'.cell? ⟨g2, 3, none⟩ = some (.int .i64 0) ∧ w'.cell? ⟨g2, 4, none⟩ = some (.int .i64 0) ∧ w'.cell? ⟨g2, 5, none⟩ = some (.int .u32 v) ∧ w'.cell? ⟨g3, 0, none⟩ = some (.int .i64 1) ∧ w'.cell? ⟨g3, 1, none⟩ = some (.int .i64 A) ∧ w'.cell? ⟨g3, 2, none⟩ = some (.int .i64 0) ∧ w'.cell? ⟨g3, 3, none⟩ = some (.int .i64 0) ∧ w'.cell? ⟨g3, 4, none⟩ = some (.int .i64 0) ∧ w'.cell? ⟨g3, 5, none⟩ = some (.int .u32 u) ∧ w'.cell? ⟨g4, 0, none⟩ = some (.int .i64 op2) ∧ w'.cell? ⟨g4, 1, none⟩ = some (.int .i64 D) ∧ w'.cell? ⟨g4, 2, none⟩ = some (.int .i64 A) ∧ w'.cell? ⟨g4, 3, none⟩ = some (.int .i64 B) ∧ w'.cell? ⟨g4, 4, none⟩ = some (.int .i64 0) ∧ w'.cell? ⟨g4, 5, none⟩ = some (.int .u32 0) ∧ (convert 29 9 (.slice A3 9 c3)).run Tryd.prog w' = .ok (.string (F 1 A 0 0 0 v)) w' ∧ (convert 29 9 (.slice A4 9 c4)).run Tryd.prog w' = .ok (.string (F 1 A 0 0 0 u)) w') w4 := ⟨(hb4.cell HL.out.1).trans cx0, (hb4.cell HL.out.1).trans cx1, (hb4.cell HL.out.1).trans cx2, (hb4.cell HL.out.1).trans cx3, (hb4.cell HL.out.1).trans cx4, (hb4.cell HL.out.1).trans cx5, (hb4.cell HL.out.2.1).trans cy0, (hb4.cell HL.out.2.1).trans cy1, (hb4.cell HL.out.2.1).trans cy2, (hb4.cell HL.out.2.1).trans cy3, (hb4.cell HL.out.2.1).trans cy4, (hb4.cell HL.out.2.1).trans cy5, (hb4.cell HL.out.2.2.1).trans cz0, (hb4.cell HL.out.2.2.1).trans cz1, (hb4.cell HL.out.2.2.1).trans cz2, (hb4.cell HL.out.2.2.1).trans cz3, (hb4.cell HL.out.2.2.1).trans cz4, (hb4.cell HL.out.2.2.1).trans cz5, (hb4.cell HL.out.2.2.2).trans cq0, (hb4.cell HL.out.2.2.2).trans cq1, (hb4.cell HL.out.2.2.2).trans cq2, (hb4.cell HL.out.2.2.2).trans cq3, (hb4.cell HL.out.2.2.2).trans cq4, (hb4.cell HL.out.2.2.2).trans cq5, hv3 _ (hs4), hv4 _ hr4⟩
  refine wpAnyH_take (i := 16) (oi := { dst := some 67, op := Op.convert 29 9 (Operand.tmp 66), type := 9, pos := "more.go:18", after := #[{ on := 15, ground := Ground.data }, { on := 10, ground := Ground.guard }], guard := some (10, true) }) (v := ?_) rfl (by kernel_rfl) (by kernel_rfl) (by kernel_rfl) (fun _ _ _ h => h) (Or.inl ⟨by rfl, ?_⟩) (by assumption) ?_
  rotate_left 1
  · intro w hSw
    (try dsimp only at hSw)
    go_simp
    try with_reducible rfl
  simp only [Act.put, List.setIfInBounds_toArray, List.set_cons_zero, List.set_cons_succ]
  refine wpAnyH_take (i := 17) (oi := { dst := some 68, op := Op.binOp BinOp.eql 9 (Operand.tmp 64) (Operand.tmp 67) 9, type := 4, pos := "more.go:18", after := #[{ on := 13, ground := Ground.data }, { on := 16, ground := Ground.data }, { on := 10, ground := Ground.guard }], guard := some (10, true) }) (v := ?_) rfl (by kernel_rfl) (by kernel_rfl) (by kernel_rfl) (fun _ _ _ h => h) (Or.inl ⟨by rfl, ?_⟩) (by assumption) ?_
  rotate_left 1
  · intro w hSw
    (try dsimp only at hSw)
    go_simp
    try with_reducible rfl
  simp only [Act.put, List.setIfInBounds_toArray, List.set_cons_zero, List.set_cons_succ]
  refine wpAnyH_take (i := 21) (oi := { dst := some 72, op := Op.binOp BinOp.eql 4 (Operand.tmp 68) (Operand.tmp 71) 4, type := 4, pos := "more.go:18", after := #[{ on := 17, ground := Ground.data }, { on := 20, ground := Ground.data }, { on := 10, ground := Ground.guard }], guard := some (10, true) }) (v := ?_) rfl (by kernel_rfl) (by kernel_rfl) (by kernel_rfl) (fun _ _ _ h => h) (Or.inl ⟨by rfl, ?_⟩) (by assumption) ?_
  rotate_left 1
  · intro w hSw
    (try dsimp only at hSw)
    go_simp
    try with_reducible rfl
  simp only [Act.put, List.setIfInBounds_toArray, List.set_cons_zero, List.set_cons_succ]
  refine wpAnyH_take (i := 22) (oi := { dst := some 73, op := Op.pick (Operand.tmp 61) (Operand.tmp 72) (Operand.const (Value.bool false)), type := 4, pos := "more.go:18", after := #[{ on := 10, ground := Ground.data }, { on := 21, ground := Ground.data }], guard := none }) (v := ?_) rfl (by kernel_rfl) (by kernel_rfl) (by kernel_rfl) (fun _ _ _ h => h) (Or.inl ⟨by rfl, ?_⟩) (by assumption) ?_
  rotate_left 1
  · intro w hSw
    (try dsimp only at hSw)
    go_simp
    try with_reducible rfl
  simp only [Act.put, List.setIfInBounds_toArray, List.set_cons_zero, List.set_cons_succ]
  refine wpAnyH_take (i := 23) (oi := { dst := some 74, op := Op.move (Operand.tmp 73), type := 4, pos := "more.go:18", after := #[{ on := 22, ground := Ground.data }, { on := 15, ground := Ground.chain }], guard := none }) (v := ?_) rfl (by kernel_rfl) (by kernel_rfl) (by kernel_rfl) (fun _ _ _ h => h) (Or.inl ⟨by rfl, ?_⟩) (by assumption) ?_
  rotate_left 1
  · intro w hSw
    (try dsimp only at hSw)
    go_simp
    try with_reducible rfl
  simp only [Act.put, List.setIfInBounds_toArray, List.set_cons_zero, List.set_cons_succ]
  refine wpAnyH_take (i := 24) (oi := { dst := some 75, op := Op.load 26 (Operand.tmp 15), type := 26, pos := "more.go:18", after := #[{ on := 23, ground := Ground.guard }], guard := some (23, true) }) (v := ?_) rfl (by kernel_rfl) (by kernel_rfl) (by kernel_rfl) (fun _ _ _ h => h) (Or.inl ⟨by rfl, ?_⟩) (by assumption) ?_
  rotate_left 1
  · intro w hSw
    (try dsimp only at hSw)
    go_simp
    try with_reducible rfl
  simp only [Act.put, List.setIfInBounds_toArray, List.set_cons_zero, List.set_cons_succ]
  refine wpAnyH_take (i := 27) (oi := { dst := some 78, op := Op.load 26 (Operand.tmp 18), type := 26, pos := "more.go:18", after := #[{ on := 23, ground := Ground.guard }], guard := some (23, true) }) (v := ?_) rfl (by kernel_rfl) (by kernel_rfl) (by kernel_rfl) (fun _ _ _ h => h) (Or.inl ⟨by rfl, ?_⟩) (by assumption) ?_
  rotate_left 1
  · intro w hSw
    (try dsimp only at hSw)
    go_simp
    try with_reducible rfl
  simp only [Act.put, List.setIfInBounds_toArray, List.set_cons_zero, List.set_cons_succ]
  refine wpAnyH_take (i := 31) (oi := { dst := some 82, op := Op.load 26 (Operand.tmp 15), type := 26, pos := "more.go:18", after := #[{ on := 23, ground := Ground.guard }], guard := some (23, true) }) (v := ?_) rfl (by kernel_rfl) (by kernel_rfl) (by kernel_rfl) (fun _ _ _ h => h) (Or.inl ⟨by rfl, ?_⟩) (by assumption) ?_
  rotate_left 1
  · intro w hSw
    (try dsimp only at hSw)
    go_simp
    try with_reducible rfl
  simp only [Act.put, List.setIfInBounds_toArray, List.set_cons_zero, List.set_cons_succ]
  refine wpAnyH_take (i := 32) (oi := { dst := some 83, op := Op.load 26 (Operand.tmp 18), type := 26, pos := "more.go:18", after := #[{ on := 23, ground := Ground.guard }], guard := some (23, true) }) (v := ?_) rfl (by kernel_rfl) (by kernel_rfl) (by kernel_rfl) (fun _ _ _ h => h) (Or.inl ⟨by rfl, ?_⟩) (by assumption) ?_
  rotate_left 1
  · intro w hSw
    (try dsimp only at hSw)
    go_simp
    try with_reducible rfl
  simp only [Act.put, List.setIfInBounds_toArray, List.set_cons_zero, List.set_cons_succ]
  refine wpAnyH_take (i := 33) (oi := { dst := some 84, op := Op.binOp BinOp.eql 26 (Operand.tmp 82) (Operand.tmp 83) 26, type := 4, pos := "more.go:18", after := #[{ on := 31, ground := Ground.data }, { on := 32, ground := Ground.data }, { on := 23, ground := Ground.guard }], guard := some (23, true) }) (v := ?_) rfl (by kernel_rfl) (by kernel_rfl) (by kernel_rfl) (fun _ _ _ h => h) (Or.inl ⟨by rfl, ?_⟩) (by assumption) ?_
  rotate_left 1
  · intro w hSw
    (try dsimp only at hSw)
    go_simp
    try with_reducible rfl
  simp only [Act.put, List.setIfInBounds_toArray, List.set_cons_zero, List.set_cons_succ]
  refine wpAnyH_ready (rs := [25]) (by kernel_rfl) (by simp) ?_
  refine AllReadyH.cons rfl (fun K hK => ?_) AllReadyH.nil
  go_simp
  go_wp2_with (go_at_call 11; refine (CP.out _ _ _ _ _ _ (by assumption) W _ (by exact hb4)).mono ?_; rintro e w5 ⟨A5, c5, rfl, hv5, hr5, hs5, hb5⟩)
  have hx3_5 : Below w3.heap.size w3 w5 := (hs4).trans (hs5.mono (hs4).size)
  refine hK.out _ _ ⟨(hb5.cell HL.out.1).trans cx0, (hb5.cell HL.out.1).trans cx1, (hb5.cell HL.out.1).trans cx2, (hb5.cell HL.out.1).trans cx3, (hb5.cell HL.out.1).trans cx4, (hb5.cell HL.out.1).trans cx5, (hb5.cell HL.out.2.1).trans cy0, (hb5.cell HL.out.2.1).trans cy1, (hb5.cell HL.out.2.1).trans cy2, (hb5.cell HL.out.2.1).trans cy3, (hb5.cell HL.out.2.1).trans cy4, (hb5.cell HL.out.2.1).trans cy5, (hb5.cell HL.out.2.2.1).trans cz0, (hb5.cell HL.out.2.2.1).trans cz1, (hb5.cell HL.out.2.2.1).trans cz2, (hb5.cell HL.out.2.2.1).trans cz3, (hb5.cell HL.out.2.2.1).trans cz4, (hb5.cell HL.out.2.2.1).trans cz5, (hb5.cell HL.out.2.2.2).trans cq0, (hb5.cell HL.out.2.2.2).trans cq1, (hb5.cell HL.out.2.2.2).trans cq2, (hb5.cell HL.out.2.2.2).trans cq3, (hb5.cell HL.out.2.2.2).trans cq4, (hb5.cell HL.out.2.2.2).trans cq5, hv3 _ (hx3_5), hv4 _ (hs5)⟩ (fun hHeld => ?_)
  clear hK K
  refine wpAnyH_mono (S' := fun w' => w'.cell? ⟨g1, 0, none⟩ = some (.int .i64 op1) ∧ w'.cell? ⟨g1, 1, none⟩ = some (.int .i64 D) ∧ w'.cell? ⟨g1, 2, none⟩ = some (.int .i64 A) ∧ w'.cell? ⟨g1, 3, none⟩ = some (.int .i64 B) ∧ w'.cell? ⟨g1, 4, none⟩ = some (.int .i64 0) ∧ w'.cell? ⟨g1, 5, none⟩ = some (.int .u32 0) ∧ w'.cell? ⟨g2, 0, none⟩ = some (.int .i64 1) ∧ w'.cell? ⟨g2, 1, none⟩ = some (.int .i64 A) ∧ w'.cell? ⟨g2, 2, none⟩ = some (.int .i64 0) ∧ w'.cell? ⟨g2, 3, none⟩ = some (.int .i64 0) ∧ w'.cell? ⟨g2, 4, none⟩ = some (.int .i64 0) ∧ w'.cell? ⟨g2, 5, none⟩ = some (.int .u32 v) ∧ w'.cell? ⟨g3, 0, none⟩ = some (.int .i64 1) ∧ w'.cell? ⟨g3, 1, none⟩ = some (.int .i64 A) ∧ w'.cell? ⟨g3, 2, none⟩ = some (.int .i64 0) ∧ w'.cell? ⟨g3, 3, none⟩ = some (.int .i64 0) ∧ w'.cell? ⟨g3, 4, none⟩ = some (.int .i64 0) ∧ w'.cell? ⟨g3, 5, none⟩ = some (.int .u32 u) ∧ w'.cell? ⟨g4, 0, none⟩ = some (.int .i64 op2) ∧ w'.cell? ⟨g4, 1, none⟩ = some (.int .i64 D) ∧ w'.cell? ⟨g4, 2, none⟩ = some (.int .i64 A) ∧ w'.cell? ⟨g4, 3, none⟩ = some (.int .i64 B) ∧ w'.cell? ⟨g4, 4, none⟩ = some (.int .i64 0) ∧ w'.cell? ⟨g4, 5, none⟩ = some (.int .u32 0) ∧ (convert 29 9 (.slice A3 9 c3)).run Tryd.prog w' = .ok (.string (F 1 A 0 0 0 v)) w' ∧ (convert 29 9 (.slice A4 9 c4)).run Tryd.prog w' = .ok (.string (F 1 A 0 0 0 u)) w' ∧ (convert 29 9 (.slice A5 9 c5)).run Tryd.prog w' = .ok (.string (F op1 D A B 0 0)) w') (fun w h => ⟨h.1, h.2.1, h.2.2.1, h.2.2.2.1, h.2.2.2.2.1, h.2.2.2.2.2.1, h.2.2.2.2.2.2.1, h.2.2.2.2.2.2.2.1, h.2.2.2.2.2.2.2.2.1, h.2.2.2.2.2.2.2.2.2.1, h.2.2.2.2.2.2.2.2.2.2.1, h.2.2.2.2.2.2.2.2.2.2.2.1, h.2.2.2.2.2.2.2.2.2.2.2.2.1, h.2.2.2.2.2.2.2.2.2.2.2.2.2.1, h.2.2.2.2.2.2.2.2.2.2.2.2.2.2.1, h.2.2.2.2.2.2.2.2.2.2.2.2.2.2.2.1, h.2.2.2.2.2.2.2.2.2.2.2.2.2.2.2.2.1, h.2.2.2.2.2.2.2.2.2.2.2.2.2.2.2.2.2.1, h.2.2.2.2.2.2.2.2.2.2.2.2.2.2.2.2.2.2.1, h.2.2.2.2.2.2.2.2.2.2.2.2.2.2.2.2.2.2.2.1, h.2.2.2.2.2.2.2.2.2.2.2.2.2.2.2.2.2.2.2.2.1, h.2.2.2.2.2.2.2.2.2.2.2.2.2.2.2.2.2.2.2.2.2.1, h.2.2.2.2.2.2.2.2.2.2.2.2.2.2.2.2.2.2.2.2.2.2.1, h.2.2.2.2.2.2.2.2.2.2.2.2.2.2.2.2.2.2.2.2.2.2.2.1, h.2.2.2.2.2.2.2.2.2.2.2.2.2.2.2.2.2.2.2.2.2.2.2.2.1, h.2.2.2.2.2.2.2.2.2.2.2.2.2.2.2.2.2.2.2.2.2.2.2.2.2.1⟩) _ _ _ _ ?_
  replace hHeld : (fun w' => w'.cell? ⟨g1, 0, none⟩ = some (.int .i64 op1) ∧ w'.cell? ⟨g1, 1, none⟩ = some (.int .i64 D) ∧ w'.cell? ⟨g1, 2, none⟩ = some (.int .i64 A) ∧ w'.cell? ⟨g1, 3, none⟩ = some (.int .i64 B) ∧ w'.cell? ⟨g1, 4, none⟩ = some (.int .i64 0) ∧ w'.cell? ⟨g1, 5, none⟩ = some (.int .u32 0) ∧ w'.cell? ⟨g2, 0, none⟩ = some (.int .i64 1) ∧ w'.cell? ⟨g2, 1, none⟩ = some (.int .i64 A) ∧ w'.cell? ⟨g2, 2, none⟩ = some (.int .i64 0) ∧ w'.cell? ⟨g2, 3, none⟩ = some (.int .i64 0) ∧ w'.cell? ⟨g2, 4, none⟩ = some (.int .i64 0) ∧ w'.cell? ⟨g2, 5, none⟩ = some (.int .u32 v) ∧ w'.cell? ⟨g3, 0, none⟩ = some (.int .i64 1) ∧ w'.cell? ⟨g3, 1, none⟩ = some (.int .i64 A) ∧ w'.cell? ⟨g3, 2, none⟩ = some (.int .i64 0) ∧ w'.cell? ⟨g3, 3, none⟩ = some (.int .i64 0) ∧ w'.cell? ⟨g3, 4, none⟩ = some (.int .i64 0) ∧ w'.cell? ⟨g3, 5, none⟩ = some (.int .u32 u) ∧ w'.cell? ⟨g4, 0, none⟩ = some (.int .i64 op2) ∧ w'.cell? ⟨g4, 1, none⟩ = some (.int .i64 D) ∧ w'.cell? ⟨g4, 2, none⟩ = some (.int .i64 A) ∧ w'.cell? ⟨g4, 3, none⟩ = some (.int .i64 B) ∧ w'.cell? ⟨g4, 4, none⟩ = some (.int .i64 0) ∧ w'.cell? ⟨g4, 5, none⟩ = some (.int .u32 0) ∧ (convert 29 9 (.slice A3 9 c3)).run Tryd.prog w' = .ok (.string (F 1 A 0 0 0 v)) w' ∧ (convert 29 9 (.slice A4 9 c4)).run Tryd.prog w' = .ok (.string (F 1 A 0 0 0 u)) w' ∧ (convert 29 9 (.slice A5 9 c5)).run Tryd.prog w' = .ok (.string (F op1 D A B 0 0)) w') w5 := ⟨(hb5.cell HL.out.1).trans cx0, (hb5.cell HL.out.1).trans cx1, (hb5.cell HL.out.1).trans cx2, (hb5.cell HL.out.1).trans cx3, (hb5.cell HL.out.1).trans cx4, (hb5.cell HL.out.1).trans cx5, (hb5.cell HL.out.2.1).trans cy0, (hb5.cell HL.out.2.1).trans cy1, (hb5.cell HL.out.2.1).trans cy2, (hb5.cell HL.out.2.1).trans cy3, (hb5.cell HL.out.2.1).trans cy4, (hb5.cell HL.out.2.1).trans cy5, (hb5.cell HL.out.2.2.1).trans cz0, (hb5.cell HL.out.2.2.1).trans cz1, (hb5.cell HL.out.2.2.1).trans cz2, (hb5.cell HL.out.2.2.1).trans cz3, (hb5.cell HL.out.2.2.1).trans cz4, (hb5.cell HL.out.2.2.1).trans cz5, (hb5.cell HL.out.2.2.2).trans cq0, (hb5.cell HL.out.2.2.2).trans cq1, (hb5.cell HL.out.2.2.2).trans cq2, (hb5.cell HL.out.2.2.2).trans cq3, (hb5.cell HL.out.2.2.2).trans cq4, (hb5.cell HL.out.2.2.2).trans cq5, hv3 _ (hx3_5), hv4 _ (hs5), hv5 _ hr5⟩
  refine wpAnyH_take (i := 26) (oi := { dst := some 77, op := Op.convert 29 9 (Operand.tmp 76), type := 9, pos := "more.go:18", after := #[{ on := 25, ground := Ground.data }, { on := 23, ground := Ground.guard }], guard := some (23, true) }) (v := ?_) rfl (by kernel_rfl) (by kernel_rfl) (by kernel_rfl) (fun _ _ _ h => h) (Or.inl ⟨by rfl, ?_⟩) (by assumption) ?_
  rotate_left 1
  · intro w hSw
    (try dsimp only at hSw)
    go_simp
    try with_reducible rfl
  simp only [Act.put, List.setIfInBounds_toArray, List.set_cons_zero, List.set_cons_succ]
  refine wpAnyH_ready (rs := [28]) (by kernel_rfl) (by simp) ?_
  refine AllReadyH.cons rfl (fun K hK => ?_) AllReadyH.nil
  go_simp
  go_wp2_with (go_at_call 11; refine (CP.out _ _ _ _ _ _ (by assumption) W _ (by exact hb5)).mono ?_; rintro e w6 ⟨A6, c6, rfl, hv6, hr6, hs6, hb6⟩)
  have hx3_6 : Below w3.heap.size w3 w6 := (hx3_5).trans (hs6.mono (hx3_5).size)
  have hx4_6 : Below w4.heap.size w4 w6 := (hs5).trans (hs6.mono (hs5).size)
  refine hK.out _ _ ⟨(hb6.cell HL.out.1).trans cx0, (hb6.cell HL.out.1).trans cx1, (hb6.cell HL.out.1).trans cx2, (hb6.cell HL.out.1).trans cx3, (hb6.cell HL.out.1).trans cx4, (hb6.cell HL.out.1).trans cx5, (hb6.cell HL.out.2.1).trans cy0, (hb6.cell HL.out.2.1).trans cy1, (hb6.cell HL.out.2.1).trans cy2, (hb6.cell HL.out.2.1).trans cy3, (hb6.cell HL.out.2.1).trans cy4, (hb6.cell HL.out.2.1).trans cy5, (hb6.cell HL.out.2.2.1).trans cz0, (hb6.cell HL.out.2.2.1).trans cz1, (hb6.cell HL.out.2.2.1).trans cz2, (hb6.cell HL.out.2.2.1).trans cz3, (hb6.cell HL.out.2.2.1).trans cz4, (hb6.cell HL.out.2.2.1).trans cz5, (hb6.cell HL.out.2.2.2).trans cq0, (hb6.cell HL.out.2.2.2).trans cq1, (hb6.cell HL.out.2.2.2).trans cq2, (hb6.cell HL.out.2.2.2).trans cq3, (hb6.cell HL.out.2.2.2).trans cq4, (hb6.cell HL.out.2.2.2).trans cq5, hv3 _ (hx3_6), hv4 _ (hx4_6), hv5 _ (hs6)⟩ (fun hHeld => ?_)
  clear hK K
  refine wpAnyH_mono (S' := fun w' => w'.cell? ⟨g1, 0, none⟩ = some (.int .i64 op1) ∧ w'.cell? ⟨g1, 1, none⟩ = some (.int .i64 D) ∧ w'.cell? ⟨g1, 2, none⟩ = some (.int .i64 A) ∧ w'.cell? ⟨g1, 3, none⟩ = some (.int .i64 B) ∧ w'.cell? ⟨g1, 4, none⟩ = some (.int .i64 0) ∧ w'.cell? ⟨g1, 5, none⟩ = some (.int .u32 0) ∧ w'.cell? ⟨g2, 0, none⟩ = some (.int .i64 1) ∧ w'.cell? ⟨g2, 1, none⟩ = some (.int .i64 A) ∧ w'.cell? ⟨g2, 2, none⟩ = some (.int .i64 0) ∧ w'.cell? ⟨g2, 3, none⟩ = some (.int .i64 0) ∧ w'.cell? ⟨g2, 4, none⟩ = some (.int .i64 0) ∧ w'.cell? ⟨g2, 5, none⟩ = some (.int .u32 v) ∧ w'.cell? ⟨g3, 0, none⟩ = some (.int .i64 1) ∧ w'.cell? ⟨g3, 1, none⟩ = some (.int .i64 A) ∧ w'.cell? ⟨g3, 2, none⟩ = some (.int .i64 0) ∧ w'.cell? ⟨g3, 3, none⟩ = some (.int .i64 0) ∧ w'.cell? ⟨g3, 4, none⟩ = some (.int .i64 0) ∧ w'.cell? ⟨g3, 5, none⟩ = some (.int .u32 u) ∧ w'.cell? ⟨g4, 0, none⟩ = some (.int .i64 op2) ∧ w'.cell? ⟨g4, 1, none⟩ = some (.int .i64 D) ∧ w'.cell? ⟨g4, 2, none⟩ = some (.int .i64 A) ∧ w'.cell? ⟨g4, 3, none⟩ = some (.int .i64 B) ∧ w'.cell? ⟨g4, 4, none⟩ = some (.int .i64 0) ∧ w'.cell? ⟨g4, 5, none⟩ = some (.int .u32 0) ∧ (convert 29 9 (.slice A3 9 c3)).run Tryd.prog w' = .ok (.string (F 1 A 0 0 0 v)) w' ∧ (convert 29 9 (.slice A4 9 c4)).run Tryd.prog w' = .ok (.string (F 1 A 0 0 0 u)) w' ∧ (convert 29 9 (.slice A5 9 c5)).run Tryd.prog w' = .ok (.string (F op1 D A B 0 0)) w' ∧ (convert 29 9 (.slice A6 9 c6)).run Tryd.prog w' = .ok (.string (F op2 D A B 0 0)) w') (fun w h => ⟨h.1, h.2.1, h.2.2.1, h.2.2.2.1, h.2.2.2.2.1, h.2.2.2.2.2.1, h.2.2.2.2.2.2.1, h.2.2.2.2.2.2.2.1, h.2.2.2.2.2.2.2.2.1, h.2.2.2.2.2.2.2.2.2.1, h.2.2.2.2.2.2.2.2.2.2.1, h.2.2.2.2.2.2.2.2.2.2.2.1, h.2.2.2.2.2.2.2.2.2.2.2.2.1, h.2.2.2.2.2.2.2.2.2.2.2.2.2.1, h.2.2.2.2.2.2.2.2.2.2.2.2.2.2.1, h.2.2.2.2.2.2.2.2.2.2.2.2.2.2.2.1, h.2.2.2.2.2.2.2.2.2.2.2.2.2.2.2.2.1, h.2.2.2.2.2.2.2.2.2.2.2.2.2.2.2.2.2.1, h.2.2.2.2.2.2.2.2.2.2.2.2.2.2.2.2.2.2.1, h.2.2.2.2.2.2.2.2.2.2.2.2.2.2.2.2.2.2.2.1, h.2.2.2.2.2.2.2.2.2.2.2.2.2.2.2.2.2.2.2.2.1, h.2.2.2.2.2.2.2.2.2.2.2.2.2.2.2.2.2.2.2.2.2.1, h.2.2.2.2.2.2.2.2.2.2.2.2.2.2.2.2.2.2.2.2.2.2.1, h.2.2.2.2.2.2.2.2.2.2.2.2.2.2.2.2.2.2.2.2.2.2.2.1, h.2.2.2.2.2.2.2.2.2.2.2.2.2.2.2.2.2.2.2.2.2.2.2.2.1, h.2.2.2.2.2.2.2.2.2.2.2.2.2.2.2.2.2.2.2.2.2.2.2.2.2.1, h.2.2.2.2.2.2.2.2.2.2.2.2.2.2.2.2.2.2.2.2.2.2.2.2.2.2.1⟩) _ _ _ _ ?_
  replace hHeld : (fun w' => w'.cell? ⟨g1, 0, none⟩ = some (.int .i64 op1) ∧ w'.cell? ⟨g1, 1, none⟩ = some (.int .i64 D) ∧ w'.cell? ⟨g1, 2, none⟩ = some (.int .i64 A) ∧ w'.cell? ⟨g1, 3, none⟩ = some (.int .i64 B) ∧ w'.cell? ⟨g1, 4, none⟩ = some (.int .i64 0) ∧ w'.cell? ⟨g1, 5, none⟩ = some (.int .u32 0) ∧ w'.cell? ⟨g2, 0, none⟩ = some (.int .i64 1) ∧ w'.cell? ⟨g2, 1, none⟩ = some (.int .i64 A) ∧ w'.cell? ⟨g2, 2, none⟩ = some (.int .i64 0) ∧ w'.cell? ⟨g2, 3, none⟩ = some (.int .i64 0) ∧ w'.cell? ⟨g2, 4, none⟩ = some (.int .i64 0) ∧ w'.cell? ⟨g2, 5, none⟩ = some (.int .u32 v) ∧ w'.cell? ⟨g3, 0, none⟩ = some (.int .i64 1) ∧ w'.cell? ⟨g3, 1, none⟩ = some (.int .i64 A) ∧ w'.cell? ⟨g3, 2, none⟩ = some (.int .i64 0) ∧ w'.cell? ⟨g3, 3, none⟩ = some (.int .i64 0) ∧ w'.cell? ⟨g3, 4, none⟩ = some (.int .i64 0) ∧ w'.cell? ⟨g3, 5, none⟩ = some (.int .u32 u) ∧ w'.cell? ⟨g4, 0, none⟩ = some (.int .i64 op2) ∧ w'.cell? ⟨g4, 1, none⟩ = some (.int .i64 D) ∧ w'.cell? ⟨g4, 2, none⟩ = some (.int .i64 A) ∧ w'.cell? ⟨g4, 3, none⟩ = some (.int .i64 B) ∧ w'.cell? ⟨g4, 4, none⟩ = some (.int .i64 0) ∧ w'.cell? ⟨g4, 5, none⟩ = some (.int .u32 0) ∧ (convert 29 9 (.slice A3 9 c3)).run Tryd.prog w' = .ok (.string (F 1 A 0 0 0 v)) w' ∧ (convert 29 9 (.slice A4 9 c4)).run Tryd.prog w' = .ok (.string (F 1 A 0 0 0 u)) w' ∧ (convert 29 9 (.slice A5 9 c5)).run Tryd.prog w' = .ok (.string (F op1 D A B 0 0)) w' ∧ (convert 29 9 (.slice A6 9 c6)).run Tryd.prog w' = .ok (.string (F op2 D A B 0 0)) w') w6 := ⟨(hb6.cell HL.out.1).trans cx0, (hb6.cell HL.out.1).trans cx1, (hb6.cell HL.out.1).trans cx2, (hb6.cell HL.out.1).trans cx3, (hb6.cell HL.out.1).trans cx4, (hb6.cell HL.out.1).trans cx5, (hb6.cell HL.out.2.1).trans cy0, (hb6.cell HL.out.2.1).trans cy1, (hb6.cell HL.out.2.1).trans cy2, (hb6.cell HL.out.2.1).trans cy3, (hb6.cell HL.out.2.1).trans cy4, (hb6.cell HL.out.2.1).trans cy5, (hb6.cell HL.out.2.2.1).trans cz0, (hb6.cell HL.out.2.2.1).trans cz1, (hb6.cell HL.out.2.2.1).trans cz2, (hb6.cell HL.out.2.2.1).trans cz3, (hb6.cell HL.out.2.2.1).trans cz4, (hb6.cell HL.out.2.2.1).trans cz5, (hb6.cell HL.out.2.2.2).trans cq0, (hb6.cell HL.out.2.2.2).trans cq1, (hb6.cell HL.out.2.2.2).trans cq2, (hb6.cell HL.out.2.2.2).trans cq3, (hb6.cell HL.out.2.2.2).trans cq4, (hb6.cell HL.out.2.2.2).trans cq5, hv3 _ (hx3_6), hv4 _ (hx4_6), hv5 _ (hs6), hv6 _ hr6⟩
  refine wpAnyH_take (i := 29) (oi := { dst := some 80, op := Op.convert 29 9 (Operand.tmp 79), type := 9, pos := "more.go:18", after := #[{ on := 28, ground := Ground.data }, { on := 23, ground := Ground.guard }], guard := some (23, true) }) (v := ?_) rfl (by kernel_rfl) (by kernel_rfl) (by kernel_rfl) (fun _ _ _ h => h) (Or.inl ⟨by rfl, ?_⟩) (by assumption) ?_
  rotate_left 1
  · intro w hSw
    (try dsimp only at hSw)
    go_simp
    try with_reducible rfl
  simp only [Act.put, List.setIfInBounds_toArray, List.set_cons_zero, List.set_cons_succ]
  refine wpAnyH_take (i := 30) (oi := { dst := some 81, op := Op.binOp BinOp.eql 9 (Operand.tmp 77) (Operand.tmp 80) 9, type := 4, pos := "more.go:18", after := #[{ on := 26, ground := Ground.data }, { on := 29, ground := Ground.data }, { on := 23, ground := Ground.guard }], guard := some (23, true) }) (v := ?_) rfl (by kernel_rfl) (by kernel_rfl) (by kernel_rfl) (fun _ _ _ h => h) (Or.inl ⟨by rfl, ?_⟩) (by assumption) ?_
  rotate_left 1
  · intro w hSw
    (try dsimp only at hSw)
    go_simp
    try with_reducible rfl
  simp only [Act.put, List.setIfInBounds_toArray, List.set_cons_zero, List.set_cons_succ]
  refine wpAnyH_take (i := 34) (oi := { dst := some 85, op := Op.binOp BinOp.eql 4 (Operand.tmp 81) (Operand.tmp 84) 4, type := 4, pos := "more.go:18", after := #[{ on := 30, ground := Ground.data }, { on := 33, ground := Ground.data }, { on := 23, ground := Ground.guard }], guard := some (23, true) }) (v := ?_) rfl (by kernel_rfl) (by kernel_rfl) (by kernel_rfl) (fun _ _ _ h => h) (Or.inl ⟨by rfl, ?_⟩) (by assumption) ?_
  rotate_left 1
  · intro w hSw
    (try dsimp only at hSw)
    go_simp
    try with_reducible rfl
  simp only [Act.put, List.setIfInBounds_toArray, List.set_cons_zero, List.set_cons_succ]
  refine wpAnyH_take (i := 35) (oi := { dst := some 86, op := Op.pick (Operand.tmp 74) (Operand.tmp 85) (Operand.const (Value.bool false)), type := 4, pos := "more.go:18", after := #[{ on := 23, ground := Ground.data }, { on := 34, ground := Ground.data }], guard := none }) (v := ?_) rfl (by kernel_rfl) (by kernel_rfl) (by kernel_rfl) (fun _ _ _ h => h) (Or.inl ⟨by rfl, ?_⟩) (by assumption) ?_
  rotate_left 1
  · intro w hSw
    (try dsimp only at hSw)
    go_simp
    try with_reducible rfl
  simp only [Act.put, List.setIfInBounds_toArray, List.set_cons_zero, List.set_cons_succ]
  refine wpAnyH_take (i := 36) (oi := { dst := some 87, op := Op.move (Operand.tmp 86), type := 4, pos := "more.go:18", after := #[{ on := 35, ground := Ground.data }, { on := 28, ground := Ground.chain }], guard := none }) (v := ?_) rfl (by kernel_rfl) (by kernel_rfl) (by kernel_rfl) (fun _ _ _ h => h) (Or.inl ⟨by rfl, ?_⟩) (by assumption) ?_
  rotate_left 1
  · intro w hSw
    (try dsimp only at hSw)
    go_simp
    try with_reducible rfl
  simp only [Act.put, List.setIfInBounds_toArray, List.set_cons_zero, List.set_cons_succ]
  refine wpAnyH_take (i := 37) (oi := { dst := some 88, op := Op.fieldAddr 26 (Operand.tmp 15) 0, type := 0, pos := "more.go:18", after := #[{ on := 36, ground := Ground.guard }], guard := some (36, true) }) (v := ?_) rfl (by kernel_rfl) (by kernel_rfl) (by kernel_rfl) (fun _ _ _ h => h) (Or.inl ⟨by rfl, ?_⟩) (by assumption) ?_
  rotate_left 1
  · intro w hSw
    (try dsimp only at hSw)
    go_simp
    try with_reducible rfl
  simp only [Act.put, List.setIfInBounds_toArray, List.set_cons_zero, List.set_cons_succ]
  refine wpAnyH_take (i := 38) (oi := { dst := some 89, op := Op.load 3 (Operand.tmp 88), type := 3, pos := "more.go:18", after := #[{ on := 37, ground := Ground.data }, { on := 36, ground := Ground.guard }], guard := some (36, true) }) (v := ?_) rfl (by kernel_rfl) (by kernel_rfl) (by kernel_rfl) (fun _ _ _ h => h) (Or.inl ⟨by rfl, ?_⟩) (by assumption) ?_
  rotate_left 1
  · intro w hSw
    (try dsimp only at hSw)
    go_simp
    try with_reducible rfl
  simp only [Act.put, List.setIfInBounds_toArray, List.set_cons_zero, List.set_cons_succ]
  refine wpAnyH_ready (rs := [39]) (by kernel_rfl) (by simp) ?_
  refine AllReadyH.cons rfl (fun K hK => ?_) AllReadyH.nil
  go_simp
  go_wp2_with (go_at_call 15; refine (CC.out W _ (by exact hb6)).mono ?_; rintro e w7 ⟨rfl, hs7, hb7⟩)
  have hx3_7 : Below w3.heap.size w3 w7 := (hx3_6).trans (hs7.mono (hx3_6).size)
  have hx4_7 : Below w4.heap.size w4 w7 := (hx4_6).trans (hs7.mono (hx4_6).size)
  have hx5_7 : Below w5.heap.size w5 w7 := (hs6).trans (hs7.mono (hs6).size)
  refine hK.out _ _ ⟨(hb7.cell HL.out.1).trans cx0, (hb7.cell HL.out.1).trans cx1, (hb7.cell HL.out.1).trans cx2, (hb7.cell HL.out.1).trans cx3, (hb7.cell HL.out.1).trans cx4, (hb7.cell HL.out.1).trans cx5, (hb7.cell HL.out.2.1).trans cy0, (hb7.cell HL.out.2.1).trans cy1, (hb7.cell HL.out.2.1).trans cy2, (hb7.cell HL.out.2.1).trans cy3, (hb7.cell HL.out.2.1).trans cy4, (hb7.cell HL.out.2.1).trans cy5, (hb7.cell HL.out.2.2.1).trans cz0, (hb7.cell HL.out.2.2.1).trans cz1, (hb7.cell HL.out.2.2.1).trans cz2, (hb7.cell HL.out.2.2.1).trans cz3, (hb7.cell HL.out.2.2.1).trans cz4, (hb7.cell HL.out.2.2.1).trans cz5, (hb7.cell HL.out.2.2.2).trans cq0, (hb7.cell HL.out.2.2.2).trans cq1, (hb7.cell HL.out.2.2.2).trans cq2, (hb7.cell HL.out.2.2.2).trans cq3, (hb7.cell HL.out.2.2.2).trans cq4, (hb7.cell HL.out.2.2.2).trans cq5, hv3 _ (hx3_7), hv4 _ (hx4_7), hv5 _ (hx5_7), hv6 _ (hs7)⟩ (fun hHeld => ?_)
  clear hK K
  refine wpAnyH_take (i := 40) (oi := { dst := some 91, op := Op.binOp BinOp.gtr 3 (Operand.tmp 90) (Operand.const (Value.int IntKind.i64 0)) 3, type := 4, pos := "more.go:18", after := #[{ on := 39, ground := Ground.data }, { on := 36, ground := Ground.guard }], guard := some (36, true) }) (v := ?_) rfl (by kernel_rfl) (by kernel_rfl) (by kernel_rfl) (fun _ _ _ h => h) (Or.inl ⟨by rfl, ?_⟩) (by assumption) ?_
  rotate_left 1
  · intro w hSw
    (try dsimp only at hSw)
    go_simp
    try with_reducible rfl
  simp only [Act.put, List.setIfInBounds_toArray, List.set_cons_zero, List.set_cons_succ]
  refine wpAnyH_take (i := 41) (oi := { dst := some 92, op := Op.pick (Operand.tmp 87) (Operand.tmp 91) (Operand.const (Value.bool false)), type := 4, pos := "more.go:18", after := #[{ on := 36, ground := Ground.data }, { on := 40, ground := Ground.data }], guard := none }) (v := ?_) rfl (by kernel_rfl) (by kernel_rfl) (by kernel_rfl) (fun _ _ _ h => h) (Or.inl ⟨by rfl, ?_⟩) (by assumption) ?_
  rotate_left 1
  · intro w hSw
    (try dsimp only at hSw)
    go_simp
    try with_reducible rfl
  simp only [Act.put, List.setIfInBounds_toArray, List.set_cons_zero, List.set_cons_succ]
  refine wpAnyH_take (i := 42) (oi := { dst := some 93, op := Op.move (Operand.tmp 92), type := 4, pos := "more.go:18", after := #[{ on := 41, ground := Ground.data }, { on := 39, ground := Ground.chain }], guard := none }) (v := ?_) rfl (by kernel_rfl) (by kernel_rfl) (by kernel_rfl) (fun _ _ _ h => h) (Or.inl ⟨by rfl, ?_⟩) (by assumption) ?_
  rotate_left 1
  · intro w hSw
    (try dsimp only at hSw)
    go_simp
    try with_reducible rfl
  simp only [Act.put, List.setIfInBounds_toArray, List.set_cons_zero, List.set_cons_succ]
  refine wpAnyH_take (i := 43) (oi := { dst := some 94, op := Op.fieldAddr 26 (Operand.tmp 15) 0, type := 0, pos := "more.go:18", after := #[{ on := 42, ground := Ground.guard }], guard := some (42, true) }) (v := ?_) rfl (by kernel_rfl) (by kernel_rfl) (by kernel_rfl) (fun _ _ _ h => h) (Or.inl ⟨by rfl, ?_⟩) (by assumption) ?_
  rotate_left 1
  · intro w hSw
    (try dsimp only at hSw)
    go_simp
    try with_reducible rfl
  simp only [Act.put, List.setIfInBounds_toArray, List.set_cons_zero, List.set_cons_succ]
  refine wpAnyH_take (i := 44) (oi := { dst := some 95, op := Op.load 3 (Operand.tmp 94), type := 3, pos := "more.go:18", after := #[{ on := 43, ground := Ground.data }, { on := 42, ground := Ground.guard }], guard := some (42, true) }) (v := ?_) rfl (by kernel_rfl) (by kernel_rfl) (by kernel_rfl) (fun _ _ _ h => h) (Or.inl ⟨by rfl, ?_⟩) (by assumption) ?_
  rotate_left 1
  · intro w hSw
    (try dsimp only at hSw)
    go_simp
    try with_reducible rfl
  simp only [Act.put, List.setIfInBounds_toArray, List.set_cons_zero, List.set_cons_succ]
  refine wpAnyH_ready (rs := [45]) (by kernel_rfl) (by simp) ?_
  refine AllReadyH.cons rfl (fun K hK => ?_) AllReadyH.nil
  go_simp
  go_wp2_with (go_at_call 16; refine (CL.out W _ (by exact hb7)).mono ?_; rintro e w8 ⟨rfl, hs8, hb8⟩)
  have hx3_8 : Below w3.heap.size w3 w8 := (hx3_7).trans (hs8.mono (hx3_7).size)
  have hx4_8 : Below w4.heap.size w4 w8 := (hx4_7).trans (hs8.mono (hx4_7).size)
  have hx5_8 : Below w5.heap.size w5 w8 := (hx5_7).trans (hs8.mono (hx5_7).size)
  have hx6_8 : Below w6.heap.size w6 w8 := (hs7).trans (hs8.mono (hs7).size)
  refine hK.out _ _ ⟨(hb8.cell HL.out.1).trans cx0, (hb8.cell HL.out.1).trans cx1, (hb8.cell HL.out.1).trans cx2, (hb8.cell HL.out.1).trans cx3, (hb8.cell HL.out.1).trans cx4, (hb8.cell HL.out.1).trans cx5, (hb8.cell HL.out.2.1).trans cy0, (hb8.cell HL.out.2.1).trans cy1, (hb8.cell HL.out.2.1).trans cy2, (hb8.cell HL.out.2.1).trans cy3, (hb8.cell HL.out.2.1).trans cy4, (hb8.cell HL.out.2.1).trans cy5, (hb8.cell HL.out.2.2.1).trans cz0, (hb8.cell HL.out.2.2.1).trans cz1, (hb8.cell HL.out.2.2.1).trans cz2, (hb8.cell HL.out.2.2.1).trans cz3, (hb8.cell HL.out.2.2.1).trans cz4, (hb8.cell HL.out.2.2.1).trans cz5, (hb8.cell HL.out.2.2.2).trans cq0, (hb8.cell HL.out.2.2.2).trans cq1, (hb8.cell HL.out.2.2.2).trans cq2, (hb8.cell HL.out.2.2.2).trans cq3, (hb8.cell HL.out.2.2.2).trans cq4, (hb8.cell HL.out.2.2.2).trans cq5, hv3 _ (hx3_8), hv4 _ (hx4_8), hv5 _ (hx5_8), hv6 _ (hx6_8)⟩ (fun hHeld => ?_)
  clear hK K
  refine wpAnyH_take (i := 46) (oi := { dst := some 97, op := Op.binOp BinOp.eql 3 (Operand.tmp 96) (Operand.const (Value.int IntKind.i64 0)) 3, type := 4, pos := "more.go:18", after := #[{ on := 45, ground := Ground.data }, { on := 42, ground := Ground.guard }], guard := some (42, true) }) (v := ?_) rfl (by kernel_rfl) (by kernel_rfl) (by kernel_rfl) (fun _ _ _ h => h) (Or.inl ⟨by rfl, ?_⟩) (by assumption) ?_
  rotate_left 1
  · intro w hSw
    (try dsimp only at hSw)
    go_simp
    try with_reducible rfl
  simp only [Act.put, List.setIfInBounds_toArray, List.set_cons_zero, List.set_cons_succ]
  refine wpAnyH_take (i := 47) (oi := { dst := some 98, op := Op.move (Operand.tmp 97), type := 4, pos := "more.go:18", after := #[{ on := 46, ground := Ground.data }, { on := 45, ground := Ground.chain }, { on := 42, ground := Ground.guard }], guard := some (42, true) }) (v := ?_) rfl (by kernel_rfl) (by kernel_rfl) (by kernel_rfl) (fun _ _ _ h => h) (Or.inl ⟨by rfl, ?_⟩) (by assumption) ?_
  rotate_left 1
  · intro w hSw
    (try dsimp only at hSw)
    go_simp
    try with_reducible rfl
  simp only [Act.put, List.setIfInBounds_toArray, List.set_cons_zero, List.set_cons_succ]
  refine wpAnyH_take (i := 48) (oi := { dst := some 99, op := Op.fieldAddr 26 (Operand.tmp 15) 0, type := 0, pos := "more.go:18", after := #[{ on := 47, ground := Ground.guard }], guard := some (47, true) }) (v := ?_) rfl (by kernel_rfl) (by kernel_rfl) (by kernel_rfl) (fun _ _ _ h => h) (Or.inl ⟨by rfl, ?_⟩) (by assumption) ?_
  rotate_left 1
  · intro w hSw
    (try dsimp only at hSw)
    go_simp
    try with_reducible rfl
  simp only [Act.put, List.setIfInBounds_toArray, List.set_cons_zero, List.set_cons_succ]
  refine wpAnyH_take (i := 49) (oi := { dst := some 100, op := Op.load 3 (Operand.tmp 99), type := 3, pos := "more.go:18", after := #[{ on := 48, ground := Ground.data }, { on := 47, ground := Ground.guard }], guard := some (47, true) }) (v := ?_) rfl (by kernel_rfl) (by kernel_rfl) (by kernel_rfl) (fun _ _ _ h => h) (Or.inl ⟨by rfl, ?_⟩) (by assumption) ?_
  rotate_left 1
  · intro w hSw
    (try dsimp only at hSw)
    go_simp
    try with_reducible rfl
  simp only [Act.put, List.setIfInBounds_toArray, List.set_cons_zero, List.set_cons_succ]
  refine wpAnyH_ready (rs := [50]) (by kernel_rfl) (by simp) ?_
  refine AllReadyH.cons rfl (fun K hK => ?_) AllReadyH.nil
  go_simp
  go_wp2_with (go_at_call 17; refine (CS.out W _ (by exact hb8)).mono ?_; rintro e w9 ⟨rfl, hs9, hb9⟩)
  have hx3_9 : Below w3.heap.size w3 w9 := (hx3_8).trans (hs9.mono (hx3_8).size)
  have hx4_9 : Below w4.heap.size w4 w9 := (hx4_8).trans (hs9.mono (hx4_8).size)
  have hx5_9 : Below w5.heap.size w5 w9 := (hx5_8).trans (hs9.mono (hx5_8).size)
  have hx6_9 : Below w6.heap.size w6 w9 := (hx6_8).trans (hs9.mono (hx6_8).size)
  refine hK.out _ _ ⟨(hb9.cell HL.out.1).trans cx0, (hb9.cell HL.out.1).trans cx1, (hb9.cell HL.out.1).trans cx2, (hb9.cell HL.out.1).trans cx3, (hb9.cell HL.out.1).trans cx4, (hb9.cell HL.out.1).trans cx5, (hb9.cell HL.out.2.1).trans cy0, (hb9.cell HL.out.2.1).trans cy1, (hb9.cell HL.out.2.1).trans cy2, (hb9.cell HL.out.2.1).trans cy3, (hb9.cell HL.out.2.1).trans cy4, (hb9.cell HL.out.2.1).trans cy5, (hb9.cell HL.out.2.2.1).trans cz0, (hb9.cell HL.out.2.2.1).trans cz1, (hb9.cell HL.out.2.2.1).trans cz2, (hb9.cell HL.out.2.2.1).trans cz3, (hb9.cell HL.out.2.2.1).trans cz4, (hb9.cell HL.out.2.2.1).trans cz5, (hb9.cell HL.out.2.2.2).trans cq0, (hb9.cell HL.out.2.2.2).trans cq1, (hb9.cell HL.out.2.2.2).trans cq2, (hb9.cell HL.out.2.2.2).trans cq3, (hb9.cell HL.out.2.2.2).trans cq4, (hb9.cell HL.out.2.2.2).trans cq5, hv3 _ (hx3_9), hv4 _ (hx4_9), hv5 _ (hx5_9), hv6 _ (hx6_9)⟩ (fun hHeld => ?_)
  clear hK K
  refine wpAnyH_take (i := 51) (oi := { dst := some 102, op := Op.binOp BinOp.eql 3 (Operand.tmp 101) (Operand.const (Value.int IntKind.i64 0)) 3, type := 4, pos := "more.go:18", after := #[{ on := 50, ground := Ground.data }, { on := 47, ground := Ground.guard }], guard := some (47, true) }) (v := ?_) rfl (by kernel_rfl) (by kernel_rfl) (by kernel_rfl) (fun _ _ _ h => h) (Or.inl ⟨by rfl, ?_⟩) (by assumption) ?_
  rotate_left 1
  · intro w hSw
    (try dsimp only at hSw)
    go_simp
    try with_reducible rfl
  simp only [Act.put, List.setIfInBounds_toArray, List.set_cons_zero, List.set_cons_succ]
  refine wpAnyH_take (i := 52) (oi := { dst := some 103, op := Op.pick (Operand.tmp 98) (Operand.tmp 102) (Operand.const (Value.bool false)), type := 4, pos := "more.go:18", after := #[{ on := 47, ground := Ground.data }, { on := 51, ground := Ground.data }, { on := 42, ground := Ground.guard }], guard := some (42, true) }) (v := ?_) rfl (by kernel_rfl) (by kernel_rfl) (by kernel_rfl) (fun _ _ _ h => h) (Or.inl ⟨by rfl, ?_⟩) (by assumption) ?_
  rotate_left 1
  · intro w hSw
    (try dsimp only at hSw)
    go_simp
    try with_reducible rfl
  simp only [Act.put, List.setIfInBounds_toArray, List.set_cons_zero, List.set_cons_succ]
  refine wpAnyH_take (i := 53) (oi := { dst := some 104, op := Op.pick (Operand.tmp 93) (Operand.tmp 103) (Operand.const (Value.bool false)), type := 4, pos := "more.go:18", after := #[{ on := 42, ground := Ground.data }, { on := 52, ground := Ground.data }], guard := none }) (v := ?_) rfl (by kernel_rfl) (by kernel_rfl) (by kernel_rfl) (fun _ _ _ h => h) (Or.inl ⟨by rfl, ?_⟩) (by assumption) ?_
  rotate_left 1
  · intro w hSw
    (try dsimp only at hSw)
    go_simp
    try with_reducible rfl
  simp only [Act.put, List.setIfInBounds_toArray, List.set_cons_zero, List.set_cons_succ]
  refine wpAnyH_take (i := 54) (oi := { dst := some 14, op := Op.assign (Operand.tmp 104), type := 4, pos := "more.go:18", after := #[{ on := 53, ground := Ground.data }, { on := 50, ground := Ground.chain }, { on := 0, ground := Ground.phase }, { on := 1, ground := Ground.phase }, { on := 2, ground := Ground.phase }, { on := 3, ground := Ground.phase }, { on := 4, ground := Ground.phase }, { on := 5, ground := Ground.phase }, { on := 6, ground := Ground.phase }, { on := 7, ground := Ground.phase }, { on := 8, ground := Ground.phase }, { on := 9, ground := Ground.phase }, { on := 10, ground := Ground.phase }, { on := 11, ground := Ground.phase }, { on := 12, ground := Ground.phase }, { on := 13, ground := Ground.phase }, { on := 14, ground := Ground.phase }, { on := 15, ground := Ground.phase }, { on := 16, ground := Ground.phase }, { on := 17, ground := Ground.phase }, { on := 18, ground := Ground.phase }, { on := 19, ground := Ground.phase }, { on := 20, ground := Ground.phase }, { on := 21, ground := Ground.phase }, { on := 22, ground := Ground.phase }, { on := 23, ground := Ground.phase }, { on := 24, ground := Ground.phase }, { on := 25, ground := Ground.phase }, { on := 26, ground := Ground.phase }, { on := 27, ground := Ground.phase }, { on := 28, ground := Ground.phase }, { on := 29, ground := Ground.phase }, { on := 30, ground := Ground.phase }, { on := 31, ground := Ground.phase }, { on := 32, ground := Ground.phase }, { on := 33, ground := Ground.phase }, { on := 34, ground := Ground.phase }, { on := 35, ground := Ground.phase }, { on := 36, ground := Ground.phase }, { on := 37, ground := Ground.phase }, { on := 38, ground := Ground.phase }, { on := 39, ground := Ground.phase }, { on := 40, ground := Ground.phase }, { on := 41, ground := Ground.phase }, { on := 42, ground := Ground.phase }, { on := 43, ground := Ground.phase }, { on := 44, ground := Ground.phase }, { on := 45, ground := Ground.phase }, { on := 46, ground := Ground.phase }, { on := 47, ground := Ground.phase }, { on := 48, ground := Ground.phase }, { on := 49, ground := Ground.phase }, { on := 50, ground := Ground.phase }, { on := 51, ground := Ground.phase }, { on := 52, ground := Ground.phase }, { on := 53, ground := Ground.phase }], guard := none }) (v := ?_) rfl (by kernel_rfl) (by kernel_rfl) (by kernel_rfl) (fun _ _ _ h => h) (Or.inl ⟨by rfl, ?_⟩) (by assumption) ?_
  rotate_left 1
  · intro w hSw
    (try dsimp only at hSw)
    go_simp
    try with_reducible rfl
  simp only [Act.put, List.setIfInBounds_toArray, List.set_cons_zero, List.set_cons_succ]
  refine wpAnyH_done (by kernel_rfl) ?_ _
  all_goals
    have HBE : Hid (Below w.heap.size w w9) := HBW.out.trans (hb9.mono HBW.out.size)
    clear hb9
    go_wp2
    go_ret
    exact ⟨rfl, HBE.out⟩
end Go.Proofs.YtklhnaineeleoaaDoor
