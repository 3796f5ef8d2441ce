/- Stage 9: Decode and Encode, over whatever word there is. -/
import Derived.Test.YtigmekboikgoaaaWd7
namespace Go.Proofs.Ytigmekboikgoaaa
open Go.ChangeShapes Go.WideShapes Go.ChangeAt Go.RowKit
set_option linter.unusedVariables false
set_option linter.unusedSimpArgs false

def decI (b : Bool) (J : IV) (x : Nat) : IV := bif b && ((J.op == 54) && (J.cond != 14)) then noneI 65 x else J
set_option maxHeartbeats 4000000 in
set_option maxRecDepth 100000 in
theorem decF_c (h k : Nat) (hh : h < 65536) (hk : k < 65536) (J : IV) (x : Nat) (hx0 : x = h * 65536 + k) (C : ∀ w, Calls Try.prog 12 #[.int .u32 x] w fun e w' => Says w J e w') (w : World) : Calls Try.prog 8 #[.int .u16 h, .int .u16 k, .bool false] w fun e w' => e = .returned J.val ∧ Below w.heap.size w w' := by
  have hx : x < 4294967296 := by omega
  have hj : bits .or .u32 ((h : Int) * 65536) (k : Int) = (x : Int) := by
    rw [hx0]
    exact u32_join (h * 65536) k 16 (by omega) (by omega) (by omega) (by omega)
  have hs : ((h : Int) * 65536) % 4294967296 = (h : Int) * 65536 := by omega
  have CA : Hid (∀ w, Calls Try.prog 12 #[.int .u32 x] w fun e w' => e = .returned J.val ∧ Below w.heap.size w w') := C
  clear C hx0
  go_enter Try.func8, Try.ntmps8
  have S := SH.start w
  go_wp2_with (first
      | ((with_reducible refine wpl_isDst 20 ?_); first | (refine wpl_skip rfl ?_) | (refine S.ld 3 _ rfl b8 0 rfl 0 (Cel.iv J) rfl _ rfl _ Try.underlying3 rfl rfl ?_))
      | ((with_reducible refine wpl_isDst 25 ?_); first | (refine wpl_skip rfl ?_) | (refine S.ld 3 _ rfl b8 3 rfl 0 (Cel.iv J) rfl _ rfl _ Try.underlying3 rfl rfl ?_))
      | (go_at_call 12; refine (CA.out _).mono ?_; rintro e wf ⟨rfl, hbf⟩; replace S := S.below hbf; clear hbf)
      | (go_at_call 13; refine (none_c 65 x hx _).mono ?_; rintro e wf ⟨rfl, hbf⟩; replace S := S.below hbf; clear hbf)
      | ((with_reducible refine wpl_isDst 6 ?_); (refine SH.alloc (L := []) S rfl 30 rfl (Cel.iv IV.zero) zeroIV ?_; clear S; intro b6 w1 S))
      | ((with_reducible refine wpl_isDst 8 ?_); (refine S.alloc rfl 30 rfl (Cel.iv IV.zero) zeroIV ?_; clear S; intro b8 w1 S))
      | ((with_reducible refine wpl_isDst 30 ?_); (refine S.ldAll 30 _ rfl b8 rfl 0 (Cel.iv J) rfl _ Try.underlying30 rfl (szIV _) rfl ?_))
      | ((with_reducible refine wpl_isStore ?_); first
        | (refine S.storeAll rfl 30 _ _ rfl b8 (Cel.iv J) rfl rfl 0 _ rfl rfl (one_iv _) (szIV _) ?_; clear S; intro w2 S; simp only [List.set_cons_zero, List.set_cons_succ] at S)
        | (refine S.storeAll rfl 30 _ _ rfl b6 (Cel.iv J) rfl rfl 1 _ rfl rfl (one_iv _) (szIV _) ?_; clear S; intro w2 S; simp only [List.set_cons_zero, List.set_cons_succ] at S)))
  (try simp only [Exit.inBlock, Exit.then])
  refine bodyPost_ret (S.results rfl _ _ rfl 1 _ rfl _ Try.underlying30 rfl (szIV _)) rfl ⟨rfl, S.low⟩
set_option maxHeartbeats 4000000 in
set_option maxRecDepth 100000 in
theorem decT0_c (h k : Nat) (hh : h < 65536) (hk : k < 65536) (J : IV) (x : Nat) (hx0 : x = h * 65536 + k) (C : ∀ w, Calls Try.prog 12 #[.int .u32 x] w fun e w' => Says w J e w') (h1 : (J.op == 54) = false) (w : World) : Calls Try.prog 8 #[.int .u16 h, .int .u16 k, .bool true] w fun e w' => e = .returned J.val ∧ Below w.heap.size w w' := by
  have hx : x < 4294967296 := by omega
  have hj : bits .or .u32 ((h : Int) * 65536) (k : Int) = (x : Int) := by
    rw [hx0]
    exact u32_join (h * 65536) k 16 (by omega) (by omega) (by omega) (by omega)
  have hs : ((h : Int) * 65536) % 4294967296 = (h : Int) * 65536 := by omega
  have CA : Hid (∀ w, Calls Try.prog 12 #[.int .u32 x] w fun e w' => e = .returned J.val ∧ Below w.heap.size w w') := C
  clear C hx0
  go_enter Try.func8, Try.ntmps8
  have S := SH.start w
  go_wp2_with (first
      | ((with_reducible refine wpl_isDst 20 ?_); first | (refine wpl_skip rfl ?_) | (refine S.ld 3 _ rfl b8 0 rfl 0 (Cel.iv J) rfl _ rfl _ Try.underlying3 rfl rfl ?_))
      | ((with_reducible refine wpl_isDst 25 ?_); first | (refine wpl_skip rfl ?_) | (refine S.ld 3 _ rfl b8 3 rfl 0 (Cel.iv J) rfl _ rfl _ Try.underlying3 rfl rfl ?_))
      | (go_at_call 12; refine (CA.out _).mono ?_; rintro e wf ⟨rfl, hbf⟩; replace S := S.below hbf; clear hbf)
      | (go_at_call 13; refine (none_c 65 x hx _).mono ?_; rintro e wf ⟨rfl, hbf⟩; replace S := S.below hbf; clear hbf)
      | ((with_reducible refine wpl_isDst 6 ?_); (refine SH.alloc (L := []) S rfl 30 rfl (Cel.iv IV.zero) zeroIV ?_; clear S; intro b6 w1 S))
      | ((with_reducible refine wpl_isDst 8 ?_); (refine S.alloc rfl 30 rfl (Cel.iv IV.zero) zeroIV ?_; clear S; intro b8 w1 S))
      | ((with_reducible refine wpl_isDst 30 ?_); (refine S.ldAll 30 _ rfl b8 rfl 0 (Cel.iv J) rfl _ Try.underlying30 rfl (szIV _) rfl ?_))
      | ((with_reducible refine wpl_isStore ?_); first
        | (refine S.storeAll rfl 30 _ _ rfl b8 (Cel.iv J) rfl rfl 0 _ rfl rfl (one_iv _) (szIV _) ?_; clear S; intro w2 S; simp only [List.set_cons_zero, List.set_cons_succ] at S)
        | (refine S.storeAll rfl 30 _ _ rfl b6 (Cel.iv J) rfl rfl 1 _ rfl rfl (one_iv _) (szIV _) ?_; clear S; intro w2 S; simp only [List.set_cons_zero, List.set_cons_succ] at S)))
  (try simp only [Exit.inBlock, Exit.then])
  refine bodyPost_ret (S.results rfl _ _ rfl 1 _ rfl _ Try.underlying30 rfl (szIV _)) rfl ⟨rfl, S.low⟩
set_option maxHeartbeats 4000000 in
set_option maxRecDepth 100000 in
theorem decT1_c (h k : Nat) (hh : h < 65536) (hk : k < 65536) (J : IV) (x : Nat) (hx0 : x = h * 65536 + k) (C : ∀ w, Calls Try.prog 12 #[.int .u32 x] w fun e w' => Says w J e w') (h1 : (J.op == 54) = true) (h2 : (J.cond != 14) = false) (w : World) : Calls Try.prog 8 #[.int .u16 h, .int .u16 k, .bool true] w fun e w' => e = .returned J.val ∧ Below w.heap.size w w' := by
  have hx : x < 4294967296 := by omega
  have hj : bits .or .u32 ((h : Int) * 65536) (k : Int) = (x : Int) := by
    rw [hx0]
    exact u32_join (h * 65536) k 16 (by omega) (by omega) (by omega) (by omega)
  have hs : ((h : Int) * 65536) % 4294967296 = (h : Int) * 65536 := by omega
  have CA : Hid (∀ w, Calls Try.prog 12 #[.int .u32 x] w fun e w' => e = .returned J.val ∧ Below w.heap.size w w') := C
  clear C hx0
  go_enter Try.func8, Try.ntmps8
  have S := SH.start w
  go_wp2_with (first
      | ((with_reducible refine wpl_isDst 20 ?_); first | (refine wpl_skip rfl ?_) | (refine S.ld 3 _ rfl b8 0 rfl 0 (Cel.iv J) rfl _ rfl _ Try.underlying3 rfl rfl ?_))
      | ((with_reducible refine wpl_isDst 25 ?_); first | (refine wpl_skip rfl ?_) | (refine S.ld 3 _ rfl b8 3 rfl 0 (Cel.iv J) rfl _ rfl _ Try.underlying3 rfl rfl ?_))
      | (go_at_call 12; refine (CA.out _).mono ?_; rintro e wf ⟨rfl, hbf⟩; replace S := S.below hbf; clear hbf)
      | (go_at_call 13; refine (none_c 65 x hx _).mono ?_; rintro e wf ⟨rfl, hbf⟩; replace S := S.below hbf; clear hbf)
      | ((with_reducible refine wpl_isDst 6 ?_); (refine SH.alloc (L := []) S rfl 30 rfl (Cel.iv IV.zero) zeroIV ?_; clear S; intro b6 w1 S))
      | ((with_reducible refine wpl_isDst 8 ?_); (refine S.alloc rfl 30 rfl (Cel.iv IV.zero) zeroIV ?_; clear S; intro b8 w1 S))
      | ((with_reducible refine wpl_isDst 30 ?_); (refine S.ldAll 30 _ rfl b8 rfl 0 (Cel.iv J) rfl _ Try.underlying30 rfl (szIV _) rfl ?_))
      | ((with_reducible refine wpl_isStore ?_); first
        | (refine S.storeAll rfl 30 _ _ rfl b8 (Cel.iv J) rfl rfl 0 _ rfl rfl (one_iv _) (szIV _) ?_; clear S; intro w2 S; simp only [List.set_cons_zero, List.set_cons_succ] at S)
        | (refine S.storeAll rfl 30 _ _ rfl b6 (Cel.iv J) rfl rfl 1 _ rfl rfl (one_iv _) (szIV _) ?_; clear S; intro w2 S; simp only [List.set_cons_zero, List.set_cons_succ] at S)))
  (try simp only [Exit.inBlock, Exit.then])
  refine bodyPost_ret (S.results rfl _ _ rfl 1 _ rfl _ Try.underlying30 rfl (szIV _)) rfl ⟨rfl, S.low⟩
set_option maxHeartbeats 4000000 in
set_option maxRecDepth 100000 in
theorem decT2_c (h k : Nat) (hh : h < 65536) (hk : k < 65536) (J : IV) (x : Nat) (hx0 : x = h * 65536 + k) (C : ∀ w, Calls Try.prog 12 #[.int .u32 x] w fun e w' => Says w J e w') (h1 : (J.op == 54) = true) (h2 : (J.cond != 14) = true) (w : World) : Calls Try.prog 8 #[.int .u16 h, .int .u16 k, .bool true] w fun e w' => e = .returned (noneI 65 x).val ∧ Below w.heap.size w w' := by
  have hx : x < 4294967296 := by omega
  have hj : bits .or .u32 ((h : Int) * 65536) (k : Int) = (x : Int) := by
    rw [hx0]
    exact u32_join (h * 65536) k 16 (by omega) (by omega) (by omega) (by omega)
  have hs : ((h : Int) * 65536) % 4294967296 = (h : Int) * 65536 := by omega
  have CA : Hid (∀ w, Calls Try.prog 12 #[.int .u32 x] w fun e w' => e = .returned J.val ∧ Below w.heap.size w w') := C
  clear C hx0
  go_enter Try.func8, Try.ntmps8
  have S := SH.start w
  go_wp2_with (first
      | ((with_reducible refine wpl_isDst 20 ?_); first | (refine wpl_skip rfl ?_) | (refine S.ld 3 _ rfl b8 0 rfl 0 (Cel.iv J) rfl _ rfl _ Try.underlying3 rfl rfl ?_))
      | ((with_reducible refine wpl_isDst 25 ?_); first | (refine wpl_skip rfl ?_) | (refine S.ld 3 _ rfl b8 3 rfl 0 (Cel.iv J) rfl _ rfl _ Try.underlying3 rfl rfl ?_))
      | (go_at_call 12; refine (CA.out _).mono ?_; rintro e wf ⟨rfl, hbf⟩; replace S := S.below hbf; clear hbf)
      | (go_at_call 13; refine (none_c 65 x hx _).mono ?_; rintro e wf ⟨rfl, hbf⟩; replace S := S.below hbf; clear hbf)
      | ((with_reducible refine wpl_isDst 6 ?_); (refine SH.alloc (L := []) S rfl 30 rfl (Cel.iv IV.zero) zeroIV ?_; clear S; intro b6 w1 S))
      | ((with_reducible refine wpl_isDst 8 ?_); (refine S.alloc rfl 30 rfl (Cel.iv IV.zero) zeroIV ?_; clear S; intro b8 w1 S))
      | ((with_reducible refine wpl_isDst 30 ?_); (refine S.ldAll 30 _ rfl b8 rfl 0 (Cel.iv J) rfl _ Try.underlying30 rfl (szIV _) rfl ?_))
      | ((with_reducible refine wpl_isStore ?_); first
        | (refine S.storeAll rfl 30 _ _ rfl b8 (Cel.iv J) rfl rfl 0 _ rfl rfl (one_iv _) (szIV _) ?_; clear S; intro w2 S; simp only [List.set_cons_zero, List.set_cons_succ] at S)
        | (refine S.storeAll rfl 30 _ _ rfl b6 (Cel.iv (noneI 65 x)) rfl rfl 1 _ rfl rfl (one_iv _) (szIV _) ?_; clear S; intro w2 S; simp only [List.set_cons_zero, List.set_cons_succ] at S)))
  (try simp only [Exit.inBlock, Exit.then])
  refine bodyPost_ret (S.results rfl _ _ rfl 1 _ rfl _ Try.underlying30 rfl (szIV _)) rfl ⟨rfl, S.low⟩
set_option maxHeartbeats 4000000 in
set_option maxRecDepth 100000 in
theorem encY_c (i : IV) (x : Nat) (hx : x < 4294967296) (J : IV) (C0 : ∀ w, Calls Try.prog 17 #[i.val] w fun e w' => e = .returned (.int .u32 (x : Nat)) ∧ Below w.heap.size w w') (C1 : ∀ w, Calls Try.prog 12 #[.int .u32 x] w fun e w' => Says w J e w') (h64 : (i.op == 64) = false) (hq : (!ivEq J i) = false) (w : World) : Calls Try.prog 10 #[i.val] w fun e w' => e = .returned (.tuple #[.int .u16 ((x / 65536 : Nat) : Int), .int .u16 ((x % 65536 : Nat) : Int), .bool true]) ∧ Below w.heap.size w w' := by
  have CW : Hid (∀ w, Calls Try.prog 17 #[i.val] w fun e w' => e = .returned (.int .u32 (x : Nat)) ∧ Below w.heap.size w w') := C0
  have CA : Hid (∀ w, Calls Try.prog 12 #[.int .u32 x] w fun e w' => e = .returned J.val ∧ Below w.heap.size w w') := C1
  have d1 : ((x : Int) / 65536) % 65536 = ((x / 65536 : Nat) : Int) := by omega
  have d2 : (x : Int) % 65536 = ((x % 65536 : Nat) : Int) := by omega
  clear C0 C1
  go_enter Try.func10, Try.ntmps10
  have S := SH.start w
  go_wp2_with (first
    | (go_at_call 17; refine (CW.out _).mono ?_; rintro e wf ⟨rfl, hbf⟩; replace S := S.below hbf; clear hbf)
    | ((with_reducible refine wpl_is ?_); first
      | (refine SH.box (L := []) S rfl 30 _ rfl (Cel.iv i) rfl ?_; clear S; intro b1 w0 S)
      | (refine S.ldAll 30 _ rfl b1 rfl 0 (Cel.iv i) rfl _ Try.underlying30 rfl (szIV _) rfl ?_)))
  refine wp_region_held_drew (S := fun w' => SH noZ w w' [(b1, Cel.iv i)]) (by kernel_rfl) (by exact S.drew) (fun _ => ?_)
  replace S := S.drew
  refine wpAnyH_take (i := 0) (oi := { dst := some 8, op := Op.fieldAddr 30 (Operand.tmp 1) 0, type := 0, pos := "encode.go:13", after := #[], guard := none }) (v := ?_) rfl (by kernel_rfl) (by kernel_rfl) (by kernel_rfl) (fun _ _ _ h => h) (Or.inl ⟨by rfl, ?_⟩) (by exact S) ?_
  rotate_left 1
  · intro w hSw
    clear hSw
    go_simp
    try with_reducible rfl
  simp only [Act.put, List.setIfInBounds_toArray, List.set_cons_zero, List.set_cons_succ]
  refine wpAnyH_take (i := 1) (oi := { dst := some 9, op := Op.load 3 (Operand.tmp 8), type := 3, pos := "encode.go:13", after := #[{ on := 0, ground := Ground.data }], guard := none }) (v := _) rfl (by kernel_rfl) (by kernel_rfl) (by kernel_rfl) (fun _ _ _ h => h) (y_load1 (by rfl) _ _ rfl _ _ rfl 0 _ rfl _ rfl _ Try.underlying3 rfl) (by exact S) ?_
  simp only [Act.put, List.setIfInBounds_toArray, List.set_cons_zero, List.set_cons_succ]
  refine wpAnyH_take (i := 2) (oi := { dst := some 10, op := Op.binOp BinOp.eql 3 (Operand.tmp 9) (Operand.const (Value.int IntKind.i64 64)) 3, type := 4, pos := "encode.go:13", after := #[{ on := 1, ground := Ground.data }], guard := none }) (v := ?_) rfl (by kernel_rfl) (by kernel_rfl) (by kernel_rfl) (fun _ _ _ h => h) (Or.inl ⟨by rfl, ?_⟩) (by exact S) ?_
  rotate_left 1
  · intro w hSw
    clear hSw
    go_simp
    try with_reducible rfl
  simp only [Act.put, List.setIfInBounds_toArray, List.set_cons_zero, List.set_cons_succ]
  refine wpAnyH_take (i := 3) (oi := { dst := some 11, op := Op.move (Operand.tmp 10), type := 4, pos := "encode.go:13", after := #[{ on := 2, ground := Ground.data }], guard := none }) (v := ?_) rfl (by kernel_rfl) (by kernel_rfl) (by kernel_rfl) (fun _ _ _ h => h) (Or.inl ⟨by rfl, ?_⟩) (by exact S) ?_
  rotate_left 1
  · intro w hSw
    clear hSw
    go_simp
    try with_reducible rfl
  simp only [Act.put, List.setIfInBounds_toArray, List.set_cons_zero, List.set_cons_succ]
  refine wpAnyH_take (i := 4) (oi := { dst := some 12, op := Op.move (Operand.tmp 5), type := 28, pos := "encode.go:13", after := #[{ on := 3, ground := Ground.guard }], guard := some (3, false) }) (v := ?_) rfl (by kernel_rfl) (by kernel_rfl) (by kernel_rfl) (fun _ _ _ h => h) (Or.inl ⟨by rfl, ?_⟩) (by exact S) ?_
  rotate_left 1
  · intro w hSw
    clear hSw
    go_simp
    try with_reducible rfl
  simp only [Act.put, List.setIfInBounds_toArray, List.set_cons_zero, List.set_cons_succ]
  refine wpAnyH_take (i := 6) (oi := { dst := some 14, op := Op.load 30 (Operand.tmp 1), type := 30, pos := "encode.go:13", after := #[{ on := 3, ground := Ground.guard }], guard := some (3, false) }) (v := _) rfl (by kernel_rfl) (by kernel_rfl) (by kernel_rfl) (fun _ _ _ h => h) (y_loadAll (by rfl) _ _ rfl _ rfl 0 _ rfl _ Try.underlying30 rfl (szIV _)) (by exact S) ?_
  simp only [Act.put, List.setIfInBounds_toArray, List.set_cons_zero, List.set_cons_succ]
  refine wpAnyH_ready (rs := [5]) (by kernel_rfl) (by simp) ?_
  refine AllReadyH.cons rfl (fun K hK => ?_) AllReadyH.nil
  go_simp
  go_wp2_with (go_at_call 12; refine (CA.out _).mono ?_; rintro e wf ⟨rfl, hbf⟩)
  replace S := S.below hbf
  clear hbf
  refine hK.out _ _ (by exact S) (fun _ => ?_)
  clear hK K
  refine wpAnyH_take (i := 7) (oi := { dst := some 15, op := Op.binOp BinOp.neq 30 (Operand.tmp 13) (Operand.tmp 14) 30, type := 4, pos := "encode.go:13", after := #[{ on := 5, ground := Ground.data }, { on := 6, ground := Ground.data }, { on := 3, ground := Ground.guard }], guard := some (3, false) }) (v := _) rfl (by kernel_rfl) (by kernel_rfl) (by kernel_rfl) (fun _ _ _ h => h) (y_neqB (by rfl) _ _ _ rfl J i rfl rfl false hq) (by exact S) ?_
  simp only [Act.put, List.setIfInBounds_toArray, List.set_cons_zero, List.set_cons_succ]
  refine wpAnyH_take (i := 8) (oi := { dst := some 16, op := Op.pick (Operand.tmp 11) (Operand.const (Value.bool true)) (Operand.tmp 15), type := 4, pos := "encode.go:13", after := #[{ on := 3, ground := Ground.data }, { on := 7, ground := Ground.data }], guard := none }) (v := ?_) rfl (by kernel_rfl) (by kernel_rfl) (by kernel_rfl) (fun _ _ _ h => h) (Or.inl ⟨by rfl, ?_⟩) (by exact S) ?_
  rotate_left 1
  · intro w hSw
    clear hSw
    go_simp
    try with_reducible rfl
  simp only [Act.put, List.setIfInBounds_toArray, List.set_cons_zero, List.set_cons_succ]
  refine wpAnyH_done (by kernel_rfl) ?_ _
  go_wp2
  go_ret3
  exact ⟨rfl, S.low⟩
set_option maxHeartbeats 4000000 in
set_option maxRecDepth 100000 in
theorem encN_c (i : IV) (x : Nat) (hx : x < 4294967296) (J : IV) (C0 : ∀ w, Calls Try.prog 17 #[i.val] w fun e w' => e = .returned (.int .u32 (x : Nat)) ∧ Below w.heap.size w w') (C1 : ∀ w, Calls Try.prog 12 #[.int .u32 x] w fun e w' => Says w J e w') (h64 : (i.op == 64) = false) (hq : (!ivEq J i) = true) (w : World) : Calls Try.prog 10 #[i.val] w fun e w' => e = .returned (.tuple #[.int .u16 0, .int .u16 0, .bool false]) ∧ Below w.heap.size w w' := by
  have CW : Hid (∀ w, Calls Try.prog 17 #[i.val] w fun e w' => e = .returned (.int .u32 (x : Nat)) ∧ Below w.heap.size w w') := C0
  have CA : Hid (∀ w, Calls Try.prog 12 #[.int .u32 x] w fun e w' => e = .returned J.val ∧ Below w.heap.size w w') := C1
  have d1 : ((x : Int) / 65536) % 65536 = ((x / 65536 : Nat) : Int) := by omega
  have d2 : (x : Int) % 65536 = ((x % 65536 : Nat) : Int) := by omega
  clear C0 C1
  go_enter Try.func10, Try.ntmps10
  have S := SH.start w
  go_wp2_with (first
    | (go_at_call 17; refine (CW.out _).mono ?_; rintro e wf ⟨rfl, hbf⟩; replace S := S.below hbf; clear hbf)
    | ((with_reducible refine wpl_is ?_); first
      | (refine SH.box (L := []) S rfl 30 _ rfl (Cel.iv i) rfl ?_; clear S; intro b1 w0 S)
      | (refine S.ldAll 30 _ rfl b1 rfl 0 (Cel.iv i) rfl _ Try.underlying30 rfl (szIV _) rfl ?_)))
  refine wp_region_held_drew (S := fun w' => SH noZ w w' [(b1, Cel.iv i)]) (by kernel_rfl) (by exact S.drew) (fun _ => ?_)
  replace S := S.drew
  refine wpAnyH_take (i := 0) (oi := { dst := some 8, op := Op.fieldAddr 30 (Operand.tmp 1) 0, type := 0, pos := "encode.go:13", after := #[], guard := none }) (v := ?_) rfl (by kernel_rfl) (by kernel_rfl) (by kernel_rfl) (fun _ _ _ h => h) (Or.inl ⟨by rfl, ?_⟩) (by exact S) ?_
  rotate_left 1
  · intro w hSw
    clear hSw
    go_simp
    try with_reducible rfl
  simp only [Act.put, List.setIfInBounds_toArray, List.set_cons_zero, List.set_cons_succ]
  refine wpAnyH_take (i := 1) (oi := { dst := some 9, op := Op.load 3 (Operand.tmp 8), type := 3, pos := "encode.go:13", after := #[{ on := 0, ground := Ground.data }], guard := none }) (v := _) rfl (by kernel_rfl) (by kernel_rfl) (by kernel_rfl) (fun _ _ _ h => h) (y_load1 (by rfl) _ _ rfl _ _ rfl 0 _ rfl _ rfl _ Try.underlying3 rfl) (by exact S) ?_
  simp only [Act.put, List.setIfInBounds_toArray, List.set_cons_zero, List.set_cons_succ]
  refine wpAnyH_take (i := 2) (oi := { dst := some 10, op := Op.binOp BinOp.eql 3 (Operand.tmp 9) (Operand.const (Value.int IntKind.i64 64)) 3, type := 4, pos := "encode.go:13", after := #[{ on := 1, ground := Ground.data }], guard := none }) (v := ?_) rfl (by kernel_rfl) (by kernel_rfl) (by kernel_rfl) (fun _ _ _ h => h) (Or.inl ⟨by rfl, ?_⟩) (by exact S) ?_
  rotate_left 1
  · intro w hSw
    clear hSw
    go_simp
    try with_reducible rfl
  simp only [Act.put, List.setIfInBounds_toArray, List.set_cons_zero, List.set_cons_succ]
  refine wpAnyH_take (i := 3) (oi := { dst := some 11, op := Op.move (Operand.tmp 10), type := 4, pos := "encode.go:13", after := #[{ on := 2, ground := Ground.data }], guard := none }) (v := ?_) rfl (by kernel_rfl) (by kernel_rfl) (by kernel_rfl) (fun _ _ _ h => h) (Or.inl ⟨by rfl, ?_⟩) (by exact S) ?_
  rotate_left 1
  · intro w hSw
    clear hSw
    go_simp
    try with_reducible rfl
  simp only [Act.put, List.setIfInBounds_toArray, List.set_cons_zero, List.set_cons_succ]
  refine wpAnyH_take (i := 4) (oi := { dst := some 12, op := Op.move (Operand.tmp 5), type := 28, pos := "encode.go:13", after := #[{ on := 3, ground := Ground.guard }], guard := some (3, false) }) (v := ?_) rfl (by kernel_rfl) (by kernel_rfl) (by kernel_rfl) (fun _ _ _ h => h) (Or.inl ⟨by rfl, ?_⟩) (by exact S) ?_
  rotate_left 1
  · intro w hSw
    clear hSw
    go_simp
    try with_reducible rfl
  simp only [Act.put, List.setIfInBounds_toArray, List.set_cons_zero, List.set_cons_succ]
  refine wpAnyH_take (i := 6) (oi := { dst := some 14, op := Op.load 30 (Operand.tmp 1), type := 30, pos := "encode.go:13", after := #[{ on := 3, ground := Ground.guard }], guard := some (3, false) }) (v := _) rfl (by kernel_rfl) (by kernel_rfl) (by kernel_rfl) (fun _ _ _ h => h) (y_loadAll (by rfl) _ _ rfl _ rfl 0 _ rfl _ Try.underlying30 rfl (szIV _)) (by exact S) ?_
  simp only [Act.put, List.setIfInBounds_toArray, List.set_cons_zero, List.set_cons_succ]
  refine wpAnyH_ready (rs := [5]) (by kernel_rfl) (by simp) ?_
  refine AllReadyH.cons rfl (fun K hK => ?_) AllReadyH.nil
  go_simp
  go_wp2_with (go_at_call 12; refine (CA.out _).mono ?_; rintro e wf ⟨rfl, hbf⟩)
  replace S := S.below hbf
  clear hbf
  refine hK.out _ _ (by exact S) (fun _ => ?_)
  clear hK K
  refine wpAnyH_take (i := 7) (oi := { dst := some 15, op := Op.binOp BinOp.neq 30 (Operand.tmp 13) (Operand.tmp 14) 30, type := 4, pos := "encode.go:13", after := #[{ on := 5, ground := Ground.data }, { on := 6, ground := Ground.data }, { on := 3, ground := Ground.guard }], guard := some (3, false) }) (v := _) rfl (by kernel_rfl) (by kernel_rfl) (by kernel_rfl) (fun _ _ _ h => h) (y_neqB (by rfl) _ _ _ rfl J i rfl rfl true hq) (by exact S) ?_
  simp only [Act.put, List.setIfInBounds_toArray, List.set_cons_zero, List.set_cons_succ]
  refine wpAnyH_take (i := 8) (oi := { dst := some 16, op := Op.pick (Operand.tmp 11) (Operand.const (Value.bool true)) (Operand.tmp 15), type := 4, pos := "encode.go:13", after := #[{ on := 3, ground := Ground.data }, { on := 7, ground := Ground.data }], guard := none }) (v := ?_) rfl (by kernel_rfl) (by kernel_rfl) (by kernel_rfl) (fun _ _ _ h => h) (Or.inl ⟨by rfl, ?_⟩) (by exact S) ?_
  rotate_left 1
  · intro w hSw
    clear hSw
    go_simp
    try with_reducible rfl
  simp only [Act.put, List.setIfInBounds_toArray, List.set_cons_zero, List.set_cons_succ]
  refine wpAnyH_done (by kernel_rfl) ?_ _
  go_wp2
  go_ret3
  exact ⟨rfl, S.low⟩
end Go.Proofs.Ytigmekboikgoaaa
