/- Stage 12: known; more held in a drawn region. -/
import Derived.Test.YtabipgncbbjcgaaSt5
namespace Go.Proofs.Ytabipgncbbjcgaa
open Go.ChangeShapes Go.WideShapes Go.ChangeAt Go.RowKit
set_option linter.unusedVariables false
set_option linter.unusedSimpArgs false

theorem Upto.mono {P : Program} {ops : Array Oper} {Q : Exit → Act → World → Prop} {md : Region.Mode} {S S' : World → Prop} {n : Nat} (hS : ∀ w, S' w → S w) : ∀ (k : Nat) {l : Array Bool} {a : Act} {w : World}, Upto P md ops Q S' n k l a w → Upto P md ops Q S n k l a w
  | 0, _, _, _, h => h
  | k + 1, _, _, _, h => ⟨h.1, fun i hi => wpOp_mono (fun _ _ q => ⟨fun e => hS _ (q.1 e), Upto.mono hS k q.2⟩) (h.2 i hi)⟩
theorem YieldsIf.weak {P : Program} {ops : Array Oper} {S S' : World → Prop} {o : Oper} {v : Value} {a : Act} (h : YieldsIf P ops S o v a) (hS : ∀ w, S' w → S w) : YieldsIf P ops S' o v a :=
  h.imp (fun ⟨h1, h2⟩ => ⟨h1, fun w hw => h2 w (hS w hw)⟩) id
theorem bytes_b (s : SV) (hs : s.ok) (w : World) : Calls Try.prog 11 #[s.val] w fun e w' => ∃ A c, e = .returned (.slice A 66 c) ∧ BL w' (fun _ => True) (.slice A 66 c) (bytesL s) ∧ Below w.heap.size w w' :=
  (bytes_c s hs w).mono fun e w' ⟨A, c, he, ho, hb⟩ => by
    have hbl := (BL.own (bytesL_ok s) ho).mono (S' := fun _ => True) fun _ _ => trivial
    rw [bytesL_len hs.1.1] at he hbl
    exact ⟨A, c, he, hbl, hb⟩
theorem rbytes_b (s : SV) (hs : s.ok) (w : World) : Calls Try.prog 12 #[s.val] w fun e w' => ∃ A c, e = .returned (.slice A 66 c) ∧ BL w' (fun _ => True) (.slice A 66 c) (bytesL s) ∧ Below w.heap.size w w' :=
  (rbytes_c s hs w).mono fun e w' ⟨A, c, he, ho, hb⟩ => by
    have hbl := (BL.own (bytesL_ok s) ho).mono (S' := fun _ => True) fun _ _ => trivial
    rw [bytesL_len hs.1.1] at he hbl
    exact ⟨A, c, he, hbl, hb⟩
def S0 : SV := ⟨[0, 0, 0, 0, 0, 0, 0, 0, 0, 0, 0, 0, 0, 256, 4294967295, 32768], 5, false⟩
def S1 : SV := ⟨[0, 0, 0, 0, 0, 0, 0, 0, 0, 0, 0, 0, 0, 256, 4294967295, 32768], 5, true⟩
def R0 : List Int := [0, 0, 0, 0, 0, 0, 0, 0, 0, 0, 0, 0, 0, 256, 4294967295, 32768, 5, 0, 0, 0, 0, 0, 0, 0, 0, 0, 0, 0, 0, 0, 0, 0]
theorem S0_ok : S0.ok := ⟨⟨rfl, fun x hx => by simp only [S0, List.mem_cons, List.not_mem_nil, or_false] at hx; unfold okU; omega⟩, by decide⟩
theorem S1_ok : S1.ok := ⟨⟨rfl, fun x hx => by simp only [S1, List.mem_cons, List.not_mem_nil, or_false] at hx; unfold okU; omega⟩, by decide⟩
theorem R0_ok : okN 32 R0 := ⟨rfl, fun x hx => by simp only [R0, List.mem_cons, List.not_mem_nil, or_false] at hx; unfold okU; omega⟩
set_option maxHeartbeats 4000000 in
set_option maxRecDepth 100000 in
theorem known_c (w : World) : Calls Try.prog 6 #[] w fun e w' => e = .returned (.bool true) ∧ Below w.heap.size w w' := by
  have CN : Hid _ := fun w => new_c 32768 256 w
  have CP : Hid (∀ w, Calls Try.prog 9 #[S0.val] w fun e w' => e = .returned (Cel.any (rc R0)).val ∧ Below w.heap.size w w') := fun w => pack_c S0 S0_ok w
  have CU0 : Hid (∀ w, Calls Try.prog 13 #[(Cel.any (rc R0)).val, .bool false] w fun e w' => e = .returned S0.val ∧ Below w.heap.size w w') := fun w => unpack_c R0 R0_ok false w
  have CU1 : Hid (∀ w, Calls Try.prog 13 #[(Cel.any (rc R0)).val, .bool true] w fun e w' => e = .returned S1.val ∧ Below w.heap.size w w') := fun w => unpack_c R0 R0_ok true w
  have CS0 : Hid (∀ w, Calls Try.prog 7 #[S0.val, S0.val] w fun e w' => e = .returned (.bool true) ∧ Below w.heap.size w w') := fun w => same_c S0 S0 S0_ok S0_ok w
  have CS1 : Hid (∀ w, Calls Try.prog 7 #[S1.val, S0.val] w fun e w' => e = .returned (.bool false) ∧ Below w.heap.size w w') := fun w => same_c S1 S0 S1_ok S0_ok w
  have CB : Hid _ := fun w => bytes_b S0 S0_ok w
  go_enter Try.func6, Try.ntmps6
  have S := SH.start w
  go_upto_region 4 with (first
    | (go_at_call 14; refine (CN.out _).mono ?_; rintro e wf ⟨rfl, hbf⟩; replace S := S.below hbf; clear hbf)
    | ((with_reducible refine wpl_isDst 1 ?_); refine SH.alloc (L := []) S rfl 25 rfl (Cel.any zeroSV.cs) zeroState ?_; clear S; intro b1 w1 S)
    | ((with_reducible refine wpl_isStoreAt 1 ?_); refine S.storeAll rfl 25 _ _ rfl b1 (Cel.any (newSV 32768 256).cs) rfl rfl 0 _ rfl rfl (SV.one _) (szS rfl) ?_; clear S; intro w2 S; (try simp only [List.set_cons_zero, List.set_cons_succ] at S))
    | ((with_reducible refine wpl_isStoreAt 4 ?_); refine S.store1 rfl 3 _ _ rfl b1 16 (.int .i64 5) rfl rfl 0 _ rfl rfl (by decide) (Cel.any S0.cs) rfl szI ?_; clear S; intro w2 S; (try simp only [List.set_cons_zero, List.set_cons_succ] at S))
    | ((with_reducible refine wpl_isDst 5 ?_); refine S.ldAll 25 _ rfl b1 rfl 0 _ rfl _ Try.underlying25 rfl (szS (s := S0) rfl) rfl ?_)
    | (go_at_call 9; refine (CP.out _).mono ?_; rintro e wf ⟨rfl, hbf⟩; replace S := S.below hbf; clear hbf)
    | ((with_reducible refine wpl_isDst 2 ?_); refine S.alloc rfl 26 rfl (Cel.any (rc (List.replicate 32 0))) zeroRegs ?_; clear S; intro b2 w2 S)
    | ((with_reducible refine wpl_isStoreAt 2 ?_); refine S.storeAll rfl 26 _ _ rfl b2 (Cel.any (rc R0)) rfl rfl 0 _ rfl rfl (rc_one _) (szR rfl) ?_; clear S; intro w2 S; (try simp only [List.set_cons_zero, List.set_cons_succ] at S)))
  refine Upto.start (S := fun w' => SH noZ w w' [(b2, Cel.any (rc R0)), (b1, Cel.any S0.cs)]) 40 (by kernel_rfl) ?_
  replace S := S.drew
  refine Upto.take (i := 0) (oi := { dst := some 7, op := Op.fieldAddr 25 (Operand.tmp 1) 0, type := 0, pos := "law.go:15", after := #[], guard := none }) (v := ?_) rfl (by kernel_rfl) (by kernel_rfl) (by kernel_rfl) (by kernel_rfl) (fun _ _ _ h => h) (Or.inl ⟨by rfl, ?_⟩) (by exact S) ?_
  rotate_left 1
  · intro w hSw
    clear hSw
    go_simp
    try with_reducible rfl
  simp only [Act.put, List.setIfInBounds_toArray, List.set_cons_zero, List.set_cons_succ]
  refine Upto.take (i := 1) (oi := { dst := some 8, op := Op.indexAddr 23 (Operand.tmp 7) (Operand.const (Value.int IntKind.i64 15)), type := 0, pos := "law.go:15", after := #[{ on := 0, ground := Ground.data }], guard := none }) (v := ?_) rfl (by kernel_rfl) (by kernel_rfl) (by kernel_rfl) (by kernel_rfl) (fun _ _ _ h => h) (Or.inl ⟨by rfl, ?_⟩) (by exact S) ?_
  rotate_left 1
  · intro w hSw
    clear hSw
    go_simp
    try with_reducible rfl
  simp only [Act.put, List.setIfInBounds_toArray, List.set_cons_zero, List.set_cons_succ]
  refine Upto.take (i := 2) (oi := { dst := some 9, op := Op.load 22 (Operand.tmp 8), type := 22, pos := "law.go:15", after := #[{ on := 1, ground := Ground.data }], guard := none }) (v := _) rfl (by kernel_rfl) (by kernel_rfl) (by kernel_rfl) (by kernel_rfl) (fun _ _ _ h => h) (y_load1 (by rfl) 22 _ rfl b1 15 rfl 1 _ rfl (.int .u32 32768) rfl _ Try.underlying22 rfl) (by exact S) ?_
  simp only [Act.put, List.setIfInBounds_toArray, List.set_cons_zero, List.set_cons_succ]
  refine Upto.take (i := 3) (oi := { dst := some 10, op := Op.binOp BinOp.eql 22 (Operand.tmp 9) (Operand.const (Value.int IntKind.u32 32768)) 22, type := 4, pos := "law.go:15", after := #[{ on := 2, ground := Ground.data }], guard := none }) (v := ?_) rfl (by kernel_rfl) (by kernel_rfl) (by kernel_rfl) (by kernel_rfl) (fun _ _ _ h => h) (Or.inl ⟨by rfl, ?_⟩) (by exact S) ?_
  rotate_left 1
  · intro w hSw
    clear hSw
    go_simp
    try with_reducible rfl
  simp only [Act.put, List.setIfInBounds_toArray, List.set_cons_zero, List.set_cons_succ]
  refine Upto.take (i := 4) (oi := { dst := some 11, op := Op.move (Operand.tmp 10), type := 4, pos := "law.go:15", after := #[{ on := 3, ground := Ground.data }], guard := none }) (v := ?_) rfl (by kernel_rfl) (by kernel_rfl) (by kernel_rfl) (by kernel_rfl) (fun _ _ _ h => h) (Or.inl ⟨by rfl, ?_⟩) (by exact S) ?_
  rotate_left 1
  · intro w hSw
    clear hSw
    go_simp
    try with_reducible rfl
  simp only [Act.put, List.setIfInBounds_toArray, List.set_cons_zero, List.set_cons_succ]
  refine Upto.take (i := 5) (oi := { dst := some 12, op := Op.fieldAddr 25 (Operand.tmp 1) 0, type := 0, pos := "law.go:15", after := #[{ on := 4, ground := Ground.guard }], guard := some (4, true) }) (v := ?_) rfl (by kernel_rfl) (by kernel_rfl) (by kernel_rfl) (by kernel_rfl) (fun _ _ _ h => h) (Or.inl ⟨by rfl, ?_⟩) (by exact S) ?_
  rotate_left 1
  · intro w hSw
    clear hSw
    go_simp
    try with_reducible rfl
  simp only [Act.put, List.setIfInBounds_toArray, List.set_cons_zero, List.set_cons_succ]
  refine Upto.take (i := 6) (oi := { dst := some 13, op := Op.indexAddr 23 (Operand.tmp 12) (Operand.const (Value.int IntKind.i64 13)), type := 0, pos := "law.go:15", after := #[{ on := 5, ground := Ground.data }, { on := 4, ground := Ground.guard }], guard := some (4, true) }) (v := ?_) rfl (by kernel_rfl) (by kernel_rfl) (by kernel_rfl) (by kernel_rfl) (fun _ _ _ h => h) (Or.inl ⟨by rfl, ?_⟩) (by exact S) ?_
  rotate_left 1
  · intro w hSw
    clear hSw
    go_simp
    try with_reducible rfl
  simp only [Act.put, List.setIfInBounds_toArray, List.set_cons_zero, List.set_cons_succ]
  refine Upto.take (i := 7) (oi := { dst := some 14, op := Op.load 22 (Operand.tmp 13), type := 22, pos := "law.go:15", after := #[{ on := 6, ground := Ground.data }, { on := 4, ground := Ground.guard }], guard := some (4, true) }) (v := _) rfl (by kernel_rfl) (by kernel_rfl) (by kernel_rfl) (by kernel_rfl) (fun _ _ _ h => h) (y_load1 (by rfl) 22 _ rfl b1 13 rfl 1 _ rfl (.int .u32 256) rfl _ Try.underlying22 rfl) (by exact S) ?_
  simp only [Act.put, List.setIfInBounds_toArray, List.set_cons_zero, List.set_cons_succ]
  refine Upto.take (i := 8) (oi := { dst := some 15, op := Op.binOp BinOp.eql 22 (Operand.tmp 14) (Operand.const (Value.int IntKind.u32 256)) 22, type := 4, pos := "law.go:15", after := #[{ on := 7, ground := Ground.data }, { on := 4, ground := Ground.guard }], guard := some (4, true) }) (v := ?_) rfl (by kernel_rfl) (by kernel_rfl) (by kernel_rfl) (by kernel_rfl) (fun _ _ _ h => h) (Or.inl ⟨by rfl, ?_⟩) (by exact S) ?_
  rotate_left 1
  · intro w hSw
    clear hSw
    go_simp
    try with_reducible rfl
  simp only [Act.put, List.setIfInBounds_toArray, List.set_cons_zero, List.set_cons_succ]
  refine Upto.take (i := 9) (oi := { dst := some 16, op := Op.pick (Operand.tmp 11) (Operand.tmp 15) (Operand.const (Value.bool false)), type := 4, pos := "law.go:15", after := #[{ on := 4, ground := Ground.data }, { on := 8, ground := Ground.data }], guard := none }) (v := ?_) rfl (by kernel_rfl) (by kernel_rfl) (by kernel_rfl) (by kernel_rfl) (fun _ _ _ h => h) (Or.inl ⟨by rfl, ?_⟩) (by exact S) ?_
  rotate_left 1
  · intro w hSw
    clear hSw
    go_simp
    try with_reducible rfl
  simp only [Act.put, List.setIfInBounds_toArray, List.set_cons_zero, List.set_cons_succ]
  refine Upto.take (i := 10) (oi := { dst := some 17, op := Op.move (Operand.tmp 16), type := 4, pos := "law.go:15", after := #[{ on := 9, ground := Ground.data }, { on := 4, ground := Ground.chain }], guard := none }) (v := ?_) rfl (by kernel_rfl) (by kernel_rfl) (by kernel_rfl) (by kernel_rfl) (fun _ _ _ h => h) (Or.inl ⟨by rfl, ?_⟩) (by exact S) ?_
  rotate_left 1
  · intro w hSw
    clear hSw
    go_simp
    try with_reducible rfl
  simp only [Act.put, List.setIfInBounds_toArray, List.set_cons_zero, List.set_cons_succ]
  refine Upto.take (i := 11) (oi := { dst := some 18, op := Op.fieldAddr 25 (Operand.tmp 1) 0, type := 0, pos := "law.go:15", after := #[{ on := 10, ground := Ground.guard }], guard := some (10, true) }) (v := ?_) rfl (by kernel_rfl) (by kernel_rfl) (by kernel_rfl) (by kernel_rfl) (fun _ _ _ h => h) (Or.inl ⟨by rfl, ?_⟩) (by exact S) ?_
  rotate_left 1
  · intro w hSw
    clear hSw
    go_simp
    try with_reducible rfl
  simp only [Act.put, List.setIfInBounds_toArray, List.set_cons_zero, List.set_cons_succ]
  refine Upto.take (i := 12) (oi := { dst := some 19, op := Op.indexAddr 23 (Operand.tmp 18) (Operand.const (Value.int IntKind.i64 14)), type := 0, pos := "law.go:15", after := #[{ on := 11, ground := Ground.data }, { on := 10, ground := Ground.guard }], guard := some (10, true) }) (v := ?_) rfl (by kernel_rfl) (by kernel_rfl) (by kernel_rfl) (by kernel_rfl) (fun _ _ _ h => h) (Or.inl ⟨by rfl, ?_⟩) (by exact S) ?_
  rotate_left 1
  · intro w hSw
    clear hSw
    go_simp
    try with_reducible rfl
  simp only [Act.put, List.setIfInBounds_toArray, List.set_cons_zero, List.set_cons_succ]
  refine Upto.take (i := 13) (oi := { dst := some 20, op := Op.load 22 (Operand.tmp 19), type := 22, pos := "law.go:15", after := #[{ on := 12, ground := Ground.data }, { on := 10, ground := Ground.guard }], guard := some (10, true) }) (v := _) rfl (by kernel_rfl) (by kernel_rfl) (by kernel_rfl) (by kernel_rfl) (fun _ _ _ h => h) (y_load1 (by rfl) 22 _ rfl b1 14 rfl 1 _ rfl (.int .u32 4294967295) rfl _ Try.underlying22 rfl) (by exact S) ?_
  simp only [Act.put, List.setIfInBounds_toArray, List.set_cons_zero, List.set_cons_succ]
  refine Upto.take (i := 14) (oi := { dst := some 21, op := Op.binOp BinOp.eql 22 (Operand.tmp 20) (Operand.const (Value.int IntKind.u32 4294967295)) 22, type := 4, pos := "law.go:15", after := #[{ on := 13, ground := Ground.data }, { on := 10, ground := Ground.guard }], guard := some (10, true) }) (v := ?_) rfl (by kernel_rfl) (by kernel_rfl) (by kernel_rfl) (by kernel_rfl) (fun _ _ _ h => h) (Or.inl ⟨by rfl, ?_⟩) (by exact S) ?_
  rotate_left 1
  · intro w hSw
    clear hSw
    go_simp
    try with_reducible rfl
  simp only [Act.put, List.setIfInBounds_toArray, List.set_cons_zero, List.set_cons_succ]
  refine Upto.take (i := 15) (oi := { dst := some 22, op := Op.pick (Operand.tmp 17) (Operand.tmp 21) (Operand.const (Value.bool false)), type := 4, pos := "law.go:15", after := #[{ on := 10, ground := Ground.data }, { on := 14, ground := Ground.data }], guard := none }) (v := ?_) rfl (by kernel_rfl) (by kernel_rfl) (by kernel_rfl) (by kernel_rfl) (fun _ _ _ h => h) (Or.inl ⟨by rfl, ?_⟩) (by exact S) ?_
  rotate_left 1
  · intro w hSw
    clear hSw
    go_simp
    try with_reducible rfl
  simp only [Act.put, List.setIfInBounds_toArray, List.set_cons_zero, List.set_cons_succ]
  refine Upto.take (i := 16) (oi := { dst := some 23, op := Op.move (Operand.tmp 22), type := 4, pos := "law.go:15", after := #[{ on := 15, ground := Ground.data }, { on := 10, ground := Ground.chain }], guard := none }) (v := ?_) rfl (by kernel_rfl) (by kernel_rfl) (by kernel_rfl) (by kernel_rfl) (fun _ _ _ h => h) (Or.inl ⟨by rfl, ?_⟩) (by exact S) ?_
  rotate_left 1
  · intro w hSw
    clear hSw
    go_simp
    try with_reducible rfl
  simp only [Act.put, List.setIfInBounds_toArray, List.set_cons_zero, List.set_cons_succ]
  refine Upto.take (i := 17) (oi := { dst := some 24, op := Op.indexAddr 26 (Operand.tmp 2) (Operand.const (Value.int IntKind.i64 16)), type := 0, pos := "law.go:15", after := #[{ on := 16, ground := Ground.guard }], guard := some (16, true) }) (v := ?_) rfl (by kernel_rfl) (by kernel_rfl) (by kernel_rfl) (by kernel_rfl) (fun _ _ _ h => h) (Or.inl ⟨by rfl, ?_⟩) (by exact S) ?_
  rotate_left 1
  · intro w hSw
    clear hSw
    go_simp
    try with_reducible rfl
  simp only [Act.put, List.setIfInBounds_toArray, List.set_cons_zero, List.set_cons_succ]
  refine Upto.take (i := 18) (oi := { dst := some 25, op := Op.load 22 (Operand.tmp 24), type := 22, pos := "law.go:15", after := #[{ on := 17, ground := Ground.data }, { on := 16, ground := Ground.guard }], guard := some (16, true) }) (v := _) rfl (by kernel_rfl) (by kernel_rfl) (by kernel_rfl) (by kernel_rfl) (fun _ _ _ h => h) (y_load1 (by rfl) 22 _ rfl b2 16 rfl 0 _ rfl (.int .u32 5) rfl _ Try.underlying22 rfl) (by exact S) ?_
  simp only [Act.put, List.setIfInBounds_toArray, List.set_cons_zero, List.set_cons_succ]
  refine Upto.take (i := 19) (oi := { dst := some 26, op := Op.binOp BinOp.eql 22 (Operand.tmp 25) (Operand.const (Value.int IntKind.u32 5)) 22, type := 4, pos := "law.go:15", after := #[{ on := 18, ground := Ground.data }, { on := 16, ground := Ground.guard }], guard := some (16, true) }) (v := ?_) rfl (by kernel_rfl) (by kernel_rfl) (by kernel_rfl) (by kernel_rfl) (fun _ _ _ h => h) (Or.inl ⟨by rfl, ?_⟩) (by exact S) ?_
  rotate_left 1
  · intro w hSw
    clear hSw
    go_simp
    try with_reducible rfl
  simp only [Act.put, List.setIfInBounds_toArray, List.set_cons_zero, List.set_cons_succ]
  refine Upto.take (i := 20) (oi := { dst := some 27, op := Op.pick (Operand.tmp 23) (Operand.tmp 26) (Operand.const (Value.bool false)), type := 4, pos := "law.go:15", after := #[{ on := 16, ground := Ground.data }, { on := 19, ground := Ground.data }], guard := none }) (v := ?_) rfl (by kernel_rfl) (by kernel_rfl) (by kernel_rfl) (by kernel_rfl) (fun _ _ _ h => h) (Or.inl ⟨by rfl, ?_⟩) (by exact S) ?_
  rotate_left 1
  · intro w hSw
    clear hSw
    go_simp
    try with_reducible rfl
  simp only [Act.put, List.setIfInBounds_toArray, List.set_cons_zero, List.set_cons_succ]
  refine Upto.take (i := 21) (oi := { dst := some 28, op := Op.move (Operand.tmp 27), type := 4, pos := "law.go:15", after := #[{ on := 20, ground := Ground.data }, { on := 16, ground := Ground.chain }], guard := none }) (v := ?_) rfl (by kernel_rfl) (by kernel_rfl) (by kernel_rfl) (by kernel_rfl) (fun _ _ _ h => h) (Or.inl ⟨by rfl, ?_⟩) (by exact S) ?_
  rotate_left 1
  · intro w hSw
    clear hSw
    go_simp
    try with_reducible rfl
  simp only [Act.put, List.setIfInBounds_toArray, List.set_cons_zero, List.set_cons_succ]
  refine Upto.take (i := 22) (oi := { dst := some 29, op := Op.load 26 (Operand.tmp 2), type := 26, pos := "law.go:15", after := #[{ on := 21, ground := Ground.guard }], guard := some (21, true) }) (v := _) rfl (by kernel_rfl) (by kernel_rfl) (by kernel_rfl) (by kernel_rfl) (fun _ _ _ h => h) (y_loadAll (by rfl) _ _ rfl _ rfl 0 _ rfl _ Try.underlying26 rfl (szR (R := R0) rfl)) (by exact S) ?_
  simp only [Act.put, List.setIfInBounds_toArray, List.set_cons_zero, List.set_cons_succ]
  refine Upto.take (i := 24) (oi := { dst := some 31, op := Op.load 25 (Operand.tmp 1), type := 25, pos := "law.go:15", after := #[{ on := 21, ground := Ground.guard }], guard := some (21, true) }) (v := _) rfl (by kernel_rfl) (by kernel_rfl) (by kernel_rfl) (by kernel_rfl) (fun _ _ _ h => h) (y_loadAll (by rfl) _ _ rfl _ rfl 1 _ rfl _ Try.underlying25 rfl (szS (s := S0) rfl)) (by exact S) ?_
  simp only [Act.put, List.setIfInBounds_toArray, List.set_cons_zero, List.set_cons_succ]
  refine Upto.ready (rs := [23]) (by kernel_rfl) (by simp) ?_
  refine Nexts.cons rfl (by decide) (fun K hK => ?_) Nexts.nil
  go_simp
  go_wp2_with (go_at_call 13; refine (CU0.out _).mono ?_; rintro e wf ⟨rfl, hbf⟩; replace S := S.below hbf; clear hbf)
  refine hK.out _ _ (by exact S) ?_
  clear hK K
  refine Upto.ready (rs := [25]) (by kernel_rfl) (by simp) ?_
  refine Nexts.cons rfl (by decide) (fun K hK => ?_) Nexts.nil
  go_simp
  go_wp2_with (go_at_call 7; refine (CS0.out _).mono ?_; rintro e wf ⟨rfl, hbf⟩; replace S := S.below hbf; clear hbf)
  refine hK.out _ _ (by exact S) ?_
  clear hK K
  refine Upto.take (i := 26) (oi := { dst := some 33, op := Op.pick (Operand.tmp 28) (Operand.tmp 32) (Operand.const (Value.bool false)), type := 4, pos := "law.go:15", after := #[{ on := 21, ground := Ground.data }, { on := 25, ground := Ground.data }], guard := none }) (v := ?_) rfl (by kernel_rfl) (by kernel_rfl) (by kernel_rfl) (by kernel_rfl) (fun _ _ _ h => h) (Or.inl ⟨by rfl, ?_⟩) (by exact S) ?_
  rotate_left 1
  · intro w hSw
    clear hSw
    go_simp
    try with_reducible rfl
  simp only [Act.put, List.setIfInBounds_toArray, List.set_cons_zero, List.set_cons_succ]
  refine Upto.take (i := 27) (oi := { dst := some 34, op := Op.move (Operand.tmp 33), type := 4, pos := "law.go:15", after := #[{ on := 26, ground := Ground.data }, { on := 25, ground := Ground.chain }], guard := none }) (v := ?_) rfl (by kernel_rfl) (by kernel_rfl) (by kernel_rfl) (by kernel_rfl) (fun _ _ _ h => h) (Or.inl ⟨by rfl, ?_⟩) (by exact S) ?_
  rotate_left 1
  · intro w hSw
    clear hSw
    go_simp
    try with_reducible rfl
  simp only [Act.put, List.setIfInBounds_toArray, List.set_cons_zero, List.set_cons_succ]
  refine Upto.take (i := 28) (oi := { dst := some 35, op := Op.load 26 (Operand.tmp 2), type := 26, pos := "law.go:15", after := #[{ on := 27, ground := Ground.guard }], guard := some (27, true) }) (v := _) rfl (by kernel_rfl) (by kernel_rfl) (by kernel_rfl) (by kernel_rfl) (fun _ _ _ h => h) (y_loadAll (by rfl) _ _ rfl _ rfl 0 _ rfl _ Try.underlying26 rfl (szR (R := R0) rfl)) (by exact S) ?_
  simp only [Act.put, List.setIfInBounds_toArray, List.set_cons_zero, List.set_cons_succ]
  refine Upto.take (i := 30) (oi := { dst := some 37, op := Op.load 25 (Operand.tmp 1), type := 25, pos := "law.go:15", after := #[{ on := 27, ground := Ground.guard }], guard := some (27, true) }) (v := _) rfl (by kernel_rfl) (by kernel_rfl) (by kernel_rfl) (by kernel_rfl) (fun _ _ _ h => h) (y_loadAll (by rfl) _ _ rfl _ rfl 1 _ rfl _ Try.underlying25 rfl (szS (s := S0) rfl)) (by exact S) ?_
  simp only [Act.put, List.setIfInBounds_toArray, List.set_cons_zero, List.set_cons_succ]
  refine Upto.ready (rs := [29]) (by kernel_rfl) (by simp) ?_
  refine Nexts.cons rfl (by decide) (fun K hK => ?_) Nexts.nil
  go_simp
  go_wp2_with (go_at_call 13; refine (CU1.out _).mono ?_; rintro e wf ⟨rfl, hbf⟩; replace S := S.below hbf; clear hbf)
  refine hK.out _ _ (by exact S) ?_
  clear hK K
  refine Upto.ready (rs := [31]) (by kernel_rfl) (by simp) ?_
  refine Nexts.cons rfl (by decide) (fun K hK => ?_) Nexts.nil
  go_simp
  go_wp2_with (go_at_call 7; refine (CS1.out _).mono ?_; rintro e wf ⟨rfl, hbf⟩; replace S := S.below hbf; clear hbf)
  refine hK.out _ _ (by exact S) ?_
  clear hK K
  refine Upto.take (i := 32) (oi := { dst := some 39, op := Op.unOp UnOp.not 4 (Operand.tmp 38), type := 4, pos := "law.go:15", after := #[{ on := 31, ground := Ground.data }, { on := 27, ground := Ground.guard }], guard := some (27, true) }) (v := ?_) rfl (by kernel_rfl) (by kernel_rfl) (by kernel_rfl) (by kernel_rfl) (fun _ _ _ h => h) (Or.inl ⟨by rfl, ?_⟩) (by exact S) ?_
  rotate_left 1
  · intro w hSw
    clear hSw
    go_simp
    try with_reducible rfl
  simp only [Act.put, List.setIfInBounds_toArray, List.set_cons_zero, List.set_cons_succ]
  refine Upto.take (i := 33) (oi := { dst := some 40, op := Op.pick (Operand.tmp 34) (Operand.tmp 39) (Operand.const (Value.bool false)), type := 4, pos := "law.go:15", after := #[{ on := 27, ground := Ground.data }, { on := 32, ground := Ground.data }], guard := none }) (v := ?_) rfl (by kernel_rfl) (by kernel_rfl) (by kernel_rfl) (by kernel_rfl) (fun _ _ _ h => h) (Or.inl ⟨by rfl, ?_⟩) (by exact S) ?_
  rotate_left 1
  · intro w hSw
    clear hSw
    go_simp
    try with_reducible rfl
  simp only [Act.put, List.setIfInBounds_toArray, List.set_cons_zero, List.set_cons_succ]
  refine Upto.take (i := 34) (oi := { dst := some 41, op := Op.move (Operand.tmp 40), type := 4, pos := "law.go:15", after := #[{ on := 33, ground := Ground.data }, { on := 31, ground := Ground.chain }], guard := none }) (v := ?_) rfl (by kernel_rfl) (by kernel_rfl) (by kernel_rfl) (by kernel_rfl) (fun _ _ _ h => h) (Or.inl ⟨by rfl, ?_⟩) (by exact S) ?_
  rotate_left 1
  · intro w hSw
    clear hSw
    go_simp
    try with_reducible rfl
  simp only [Act.put, List.setIfInBounds_toArray, List.set_cons_zero, List.set_cons_succ]
  refine Upto.take (i := 35) (oi := { dst := some 42, op := Op.load 25 (Operand.tmp 1), type := 25, pos := "law.go:15", after := #[{ on := 34, ground := Ground.guard }], guard := some (34, true) }) (v := _) rfl (by kernel_rfl) (by kernel_rfl) (by kernel_rfl) (by kernel_rfl) (fun _ _ _ h => h) (y_loadAll (by rfl) _ _ rfl _ rfl 1 _ rfl _ Try.underlying25 rfl (szS (s := S0) rfl)) (by exact S) ?_
  simp only [Act.put, List.setIfInBounds_toArray, List.set_cons_zero, List.set_cons_succ]
  refine Upto.ready (rs := [36]) (by kernel_rfl) (by simp) ?_
  refine Nexts.cons rfl (by decide) (fun K hK => ?_) Nexts.nil
  go_simp
  go_wp2_with (go_at_call 11; refine (CB.out _).mono ?_; rintro e wf ⟨A, c, rfl, hbl, hbf⟩; replace S := S.below hbf; clear hbf)
  refine hK.out _ _ (by exact S) ?_
  clear hK K
  refine Upto.take (i := 37) (oi := { dst := some 44, op := Op.call { callee := Callee.builtin Builtin.len, args := #[Operand.tmp 43], argTypes := #[31] }, type := 3, pos := "law.go:15", after := #[{ on := 36, ground := Ground.data }, { on := 34, ground := Ground.guard }], guard := some (34, true) }) (v := ?_) rfl (by kernel_rfl) (by kernel_rfl) (by kernel_rfl) (by kernel_rfl) (fun _ _ _ h => h) (Or.inl ⟨by rfl, ?_⟩) (by exact S) ?_
  rotate_left 1
  · intro w hSw
    clear hSw
    go_simp
    try with_reducible rfl
  simp only [Act.put, List.setIfInBounds_toArray, List.set_cons_zero, List.set_cons_succ]
  refine Upto.take (i := 38) (oi := { dst := some 45, op := Op.binOp BinOp.eql 3 (Operand.tmp 44) (Operand.const (Value.int IntKind.i64 66)) 3, type := 4, pos := "law.go:15", after := #[{ on := 37, ground := Ground.data }, { on := 34, ground := Ground.guard }], guard := some (34, true) }) (v := ?_) rfl (by kernel_rfl) (by kernel_rfl) (by kernel_rfl) (by kernel_rfl) (fun _ _ _ h => h) (Or.inl ⟨by rfl, ?_⟩) (by exact S) ?_
  rotate_left 1
  · intro w hSw
    clear hSw
    go_simp
    try with_reducible rfl
  simp only [Act.put, List.setIfInBounds_toArray, List.set_cons_zero, List.set_cons_succ]
  refine Upto.take (i := 39) (oi := { dst := some 46, op := Op.pick (Operand.tmp 41) (Operand.tmp 45) (Operand.const (Value.bool false)), type := 4, pos := "law.go:15", after := #[{ on := 34, ground := Ground.data }, { on := 38, ground := Ground.data }], guard := none }) (v := ?_) rfl (by kernel_rfl) (by kernel_rfl) (by kernel_rfl) (by kernel_rfl) (fun _ _ _ h => h) (Or.inl ⟨by rfl, ?_⟩) (by exact S) ?_
  rotate_left 1
  · intro w hSw
    clear hSw
    go_simp
    try with_reducible rfl
  simp only [Act.put, List.setIfInBounds_toArray, List.set_cons_zero, List.set_cons_succ]
  refine Upto.ready (rs := [40]) (by kernel_rfl) (by simp) ?_
  refine Nexts.last rfl (fun K hK => ?_)
  go_simp
  refine hK.out _ _ ?_
  clear hK K
  refine Upto.done (by kernel_rfl) ?_ _
  go_wp2
  go_ret
  exact ⟨rfl, S.low⟩
end Go.Proofs.Ytabipgncbbjcgaa
