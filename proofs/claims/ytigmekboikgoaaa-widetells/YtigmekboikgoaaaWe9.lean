/- Stage 9: loads and stores of many. -/
import Derived.Test.YtigmekboikgoaaaWe8
namespace Go.Proofs.Ytigmekboikgoaaa
open Go.ChangeShapes Go.WideShapes Go.ChangeAt Go.RowKit
set_option linter.unusedVariables false
set_option linter.unusedSimpArgs false

set_option maxHeartbeats 20000000 in
set_option maxRecDepth 100000 in
theorem many_c (x : Nat) (hx : x < 4294967296) (w : World) : Calls Try.prog 20 #[.int .u32 x] w fun e w' => Says w (manX x) e w' := by
  unfold Says
  have hJ : manX x = bif Nat.beq (fd x 22 3) 2 then checkedI (manyI (fd x 20 1 != 0) (fd x 16 4 : Nat) (fd x 0 16 : Nat) (fd x 21 1 != 0) false) (mayL (fd x 20 1 != 0) (fd x 0 16) (fd x 16 4) (fd x 21 1 != 0)) x
    else bif Nat.beq (fd x 22 3) 4 then checkedI (manyI (fd x 20 1 != 0) (fd x 16 4 : Nat) (fd x 0 16 : Nat) (fd x 21 1 != 0) true) (mayL (fd x 20 1 != 0) (fd x 0 16) (fd x 16 4) (fd x 21 1 != 0)) x
    else noneI 64 x := rfl
  generalize manX x = R at *
  have CL : ∀ (b c d : Bool), Hid (∀ w, Calls Try.prog 48 #[(manyI b (fd x 16 4 : Nat) (fd x 0 16 : Nat) c d).val] w fun e w' => e = .returned (.bool (mayL b (fd x 0 16) (fd x 16 4) c)) ∧ Below w.heap.size w w') := fun b c d => mayL_c b _ _ c d (fd_lt x 16 4) (fd_lt x 0 16)
  have k22 : bits .and .u32 (x : Int) 29360128 = ((fd x 22 3 * 4194304 : Nat) : Int) := u32_mid x 22 3 29360128 hx rfl (by decide)
  have f22 : fd x 22 3 < 8 := fd_lt x 22 3
  generalize fd x 22 3 = g22 at *
  have k20_1 : bits .and .u32 (x : Int) 1048576 = ((fd x 20 1 * 1048576 : Nat) : Int) := u32_mid x 20 1 1048576 hx rfl (by decide)
  have f20_1 : fd x 20 1 < 2 := fd_lt x 20 1
  generalize fd x 20 1 = g20_1 at *
  have k21_1 : bits .and .u32 (x : Int) 2097152 = ((fd x 21 1 * 2097152 : Nat) : Int) := u32_mid x 21 1 2097152 hx rfl (by decide)
  have f21_1 : fd x 21 1 < 2 := fd_lt x 21 1
  generalize fd x 21 1 = g21_1 at *
  have F16_4 : Hid (∀ w, Calls Try.prog 46 #[.int .u32 x, .int .i64 16, .int .i64 4] w fun e w' => e = .returned (.int .i64 (fd x 16 4 : Nat)) ∧ Below w.heap.size w w') := field_16_4 x hx
  have f16_4 : fd x 16 4 < 16 := fd_lt x 16 4
  generalize fd x 16 4 = g16_4 at *
  have F0_16 : Hid (∀ w, Calls Try.prog 46 #[.int .u32 x, .int .i64 0, .int .i64 16] w fun e w' => e = .returned (.int .i64 (fd x 0 16 : Nat)) ∧ Below w.heap.size w w') := field_0_16 x hx
  have f0_16 : fd x 0 16 < 65536 := fd_lt x 0 16
  generalize fd x 0 16 = g0_16 at *
  rcases (show g22 = 2 ∨ g22 = 4 ∨ (g22 ≠ 2 ∧ g22 ≠ 4) by omega) with rfl | rfl | ⟨h2, h4⟩
  · rw [show ((2 * 4194304 : Nat) : Int) = 8388608 from rfl] at k22
    rcases (show g20_1 = 0 ∨ g20_1 = 1 by omega) with rfl | rfl
    · rw [show ((0 * 1048576 : Nat) : Int) = 0 from rfl] at k20_1
      rcases (show g21_1 = 0 ∨ g21_1 = 1 by omega) with rfl | rfl
      · rw [show ((0 * 2097152 : Nat) : Int) = 0 from rfl] at k21_1
        replace hJ : R = checkedI (manyI false g16_4 g0_16 false false) (mayL false g0_16 g16_4 false) x := hJ
        have CM := CL false false false
        clear CL
        obtain ⟨ok, hok⟩ : ∃ ok, mayL false g0_16 g16_4 false = ok := ⟨_, rfl⟩
        rw [hok] at hJ CM
        clear hok
        rw [hJ]
        clear hJ
        go_enter Try.func20, Try.ntmps20
        have S := SH.start w
        go_wp2_with (first
          | ((with_reducible refine wpl_isDst 2 ?_); (first | refine S.alloc rfl 30 rfl (Cel.any zeroL) zeroA ?_ | refine SH.alloc (L := []) S rfl 30 rfl (Cel.any zeroL) zeroA ?_); clear S; intro b2 w2 S)
          | (go_at_call 46; first | (with_reducible refine (F16_4.out _).mono ?_; rintro e wf ⟨rfl, hbf⟩; replace S := S.below hbf; clear hbf) | (with_reducible refine (F0_16.out _).mono ?_; rintro e wf ⟨rfl, hbf⟩; replace S := S.below hbf; clear hbf))
          | (go_at_call 45; refine (start_c _ _ _ _).mono ?_; rintro e wf ⟨rfl, hbf⟩; replace S := S.below hbf; clear hbf)
          | ((with_reducible refine wpl_isDst 3 ?_); (first | refine S.alloc rfl 30 rfl (Cel.any zeroL) zeroA ?_ | refine SH.alloc (L := []) S rfl 30 rfl (Cel.any zeroL) zeroA ?_); clear S; intro b3 w3 S)
          | ((with_reducible refine wpl_isStoreAt 3 ?_); (first | refine S.storeA rfl 30 _ _ rfl b3 _ rfl rfl 0 _ rfl rfl rfl (szA _ rfl) ?_ | refine S.storeA rfl 30 _ _ rfl b3 _ rfl rfl 1 _ rfl rfl rfl (szA _ rfl) ?_); clear S; intro w2 S; (simp only [Cel.cells, IV.cellsL, zeroL, List.set_cons_zero, List.set_cons_succ, startI, secondI, noneI, manyI] at S))
          | ((with_reducible refine wpl_isStoreAt 12 ?_); (first | refine S.store1 rfl 3 _ _ rfl b3 12 (.int _ _) rfl rfl 0 _ rfl rfl (of_decide_eq_true rfl) (Cel.any _) rfl (by kernel_rfl) ?_ | refine S.store1 rfl 3 _ _ rfl b3 12 (.int _ _) rfl rfl 1 _ rfl rfl (of_decide_eq_true rfl) (Cel.any _) rfl (by kernel_rfl) ?_); clear S; intro w2 S; (simp only [Cel.cells, IV.cellsL, zeroL, List.set_cons_zero, List.set_cons_succ, startI, secondI, noneI, manyI] at S))
          | ((with_reducible refine wpl_isStoreAt 13 ?_); (first | refine S.store1 rfl 4 _ _ rfl b3 13 (.bool _) rfl rfl 0 _ rfl rfl (of_decide_eq_true rfl) (Cel.any _) rfl (by kernel_rfl) ?_ | refine S.store1 rfl 4 _ _ rfl b3 13 (.bool _) rfl rfl 1 _ rfl rfl (of_decide_eq_true rfl) (Cel.any _) rfl (by kernel_rfl) ?_); clear S; intro w2 S; (simp only [Cel.cells, IV.cellsL, zeroL, List.set_cons_zero, List.set_cons_succ, startI, secondI, noneI, manyI] at S)))
        refine Upto.start (S := fun w' => SH noZ w w' [(b3, Cel.any [.int .i64 53, .bool true, .bool false, .int .i64 14, .int .i64 0, .int .i64 g16_4, .int .i64 0, .int .i64 0, .int .u32 0, .bool false, .int .i64 0, .int .i64 0, .int .i64 g0_16, .bool false, .bool false]), (b2, Cel.any [.int .i64 0, .bool false, .bool false, .int .i64 0, .int .i64 0, .int .i64 0, .int .i64 0, .int .i64 0, .int .u32 0, .bool false, .int .i64 0, .int .i64 0, .int .i64 0, .bool false, .bool false])]) 5 (by kernel_rfl) ?_
        replace S := S.drew
        refine Upto.take (i := 0) (oi := { dst := some 22, op := Op.load 30 (Operand.tmp 3), type := 30, pos := "wide.go:463", after := #[], guard := none }) (v := _) rfl (by kernel_rfl) (by kernel_rfl) (by kernel_rfl) (by kernel_rfl) (fun _ _ _ h => h) (y_loadAll (by rfl) _ _ rfl _ rfl 0 _ rfl _ Try.underlying30 rfl (szA _ rfl)) (by exact S) ?_
        simp only [Act.put, List.setIfInBounds_toArray, List.set_cons_zero, List.set_cons_succ]
        refine Upto.take (i := 1) (oi := { dst := some 23, op := Op.load 30 (Operand.tmp 3), type := 30, pos := "wide.go:463", after := #[], guard := none }) (v := _) rfl (by kernel_rfl) (by kernel_rfl) (by kernel_rfl) (by kernel_rfl) (fun _ _ _ h => h) (y_loadAll (by rfl) _ _ rfl _ rfl 0 _ rfl _ Try.underlying30 rfl (szA _ rfl)) (by exact S) ?_
        simp only [Act.put, List.setIfInBounds_toArray, List.set_cons_zero, List.set_cons_succ]
        refine Upto.take (i := 3) (oi := { dst := some 25, op := Op.move (Operand.tmp 0), type := 28, pos := "wide.go:463", after := #[], guard := none }) (v := ?_) rfl (by kernel_rfl) (by kernel_rfl) (by kernel_rfl) (by kernel_rfl) (fun _ _ _ h => h) (Or.inl ⟨by rfl, ?_⟩) (by exact S) ?_
        rotate_left 1
        · intro w hSw
          clear hSw
          go_simp
          try with_reducible rfl
        simp only [Act.put, List.setIfInBounds_toArray, List.set_cons_zero, List.set_cons_succ]
        refine Upto.ready (rs := [2]) (by kernel_rfl) (by simp) ?_
        refine Nexts.cons rfl (by decide) (fun K hK => ?_) Nexts.nil
        go_simp
        go_wp2_with (go_at_call 48; refine (CM.out _).mono ?_; rintro e wf ⟨rfl, hbf⟩; replace S := S.below hbf; clear hbf)
        refine hK.out _ _ (by exact S) ?_
        clear hK K
        refine Upto.ready (rs := [4]) (by kernel_rfl) (by simp) ?_
        refine Nexts.cons rfl (by decide) (fun K hK => ?_) Nexts.nil
        go_simp
        go_wp2_with (go_at_call 47; refine (checked_c (manyI false g16_4 g0_16 false false) ok x hx _).mono ?_; rintro e wf ⟨rfl, hbf⟩; replace S := S.below hbf; clear hbf)
        refine hK.out _ _ (by exact S) ?_
        clear hK K
        refine Upto.ready (rs := [5]) (by kernel_rfl) (by simp) ?_
        refine Nexts.last rfl (fun K hK => ?_)
        refine S.wpStoreAll 30 _ _ rfl b2 (Cel.iv (checkedI (manyI false g16_4 g0_16 false false) ok x)) rfl rfl 1 _ rfl rfl (one_iv _) (szIV _) ?_
        clear S
        intro w9 S
        simp only [List.set_cons_zero, List.set_cons_succ] at S
        refine hK.out _ _ ?_
        simp only [Act.put, List.setIfInBounds_toArray, List.set_cons_zero, List.set_cons_succ]
        clear hK K
        refine Upto.done (by kernel_rfl) ?_ _
        go_wp2
        (try simp only [Exit.inBlock, Exit.then])
        (first | refine bodyPost_ret (S.results rfl _ _ rfl 0 _ rfl _ Try.underlying30 rfl (by first | exact szIV _ | exact szA _ rfl)) rfl ?_ | refine bodyPost_ret (S.results rfl _ _ rfl 1 _ rfl _ Try.underlying30 rfl (by first | exact szIV _ | exact szA _ rfl)) rfl ?_)
        exact ⟨rfl, S.low⟩
      · rw [show ((1 * 2097152 : Nat) : Int) = 2097152 from rfl] at k21_1
        replace hJ : R = checkedI (manyI false g16_4 g0_16 true false) (mayL false g0_16 g16_4 true) x := hJ
        have CM := CL false true false
        clear CL
        obtain ⟨ok, hok⟩ : ∃ ok, mayL false g0_16 g16_4 true = ok := ⟨_, rfl⟩
        rw [hok] at hJ CM
        clear hok
        rw [hJ]
        clear hJ
        go_enter Try.func20, Try.ntmps20
        have S := SH.start w
        go_wp2_with (first
          | ((with_reducible refine wpl_isDst 2 ?_); (first | refine S.alloc rfl 30 rfl (Cel.any zeroL) zeroA ?_ | refine SH.alloc (L := []) S rfl 30 rfl (Cel.any zeroL) zeroA ?_); clear S; intro b2 w2 S)
          | (go_at_call 46; first | (with_reducible refine (F16_4.out _).mono ?_; rintro e wf ⟨rfl, hbf⟩; replace S := S.below hbf; clear hbf) | (with_reducible refine (F0_16.out _).mono ?_; rintro e wf ⟨rfl, hbf⟩; replace S := S.below hbf; clear hbf))
          | (go_at_call 45; refine (start_c _ _ _ _).mono ?_; rintro e wf ⟨rfl, hbf⟩; replace S := S.below hbf; clear hbf)
          | ((with_reducible refine wpl_isDst 3 ?_); (first | refine S.alloc rfl 30 rfl (Cel.any zeroL) zeroA ?_ | refine SH.alloc (L := []) S rfl 30 rfl (Cel.any zeroL) zeroA ?_); clear S; intro b3 w3 S)
          | ((with_reducible refine wpl_isStoreAt 3 ?_); (first | refine S.storeA rfl 30 _ _ rfl b3 _ rfl rfl 0 _ rfl rfl rfl (szA _ rfl) ?_ | refine S.storeA rfl 30 _ _ rfl b3 _ rfl rfl 1 _ rfl rfl rfl (szA _ rfl) ?_); clear S; intro w2 S; (simp only [Cel.cells, IV.cellsL, zeroL, List.set_cons_zero, List.set_cons_succ, startI, secondI, noneI, manyI] at S))
          | ((with_reducible refine wpl_isStoreAt 12 ?_); (first | refine S.store1 rfl 3 _ _ rfl b3 12 (.int _ _) rfl rfl 0 _ rfl rfl (of_decide_eq_true rfl) (Cel.any _) rfl (by kernel_rfl) ?_ | refine S.store1 rfl 3 _ _ rfl b3 12 (.int _ _) rfl rfl 1 _ rfl rfl (of_decide_eq_true rfl) (Cel.any _) rfl (by kernel_rfl) ?_); clear S; intro w2 S; (simp only [Cel.cells, IV.cellsL, zeroL, List.set_cons_zero, List.set_cons_succ, startI, secondI, noneI, manyI] at S))
          | ((with_reducible refine wpl_isStoreAt 13 ?_); (first | refine S.store1 rfl 4 _ _ rfl b3 13 (.bool _) rfl rfl 0 _ rfl rfl (of_decide_eq_true rfl) (Cel.any _) rfl (by kernel_rfl) ?_ | refine S.store1 rfl 4 _ _ rfl b3 13 (.bool _) rfl rfl 1 _ rfl rfl (of_decide_eq_true rfl) (Cel.any _) rfl (by kernel_rfl) ?_); clear S; intro w2 S; (simp only [Cel.cells, IV.cellsL, zeroL, List.set_cons_zero, List.set_cons_succ, startI, secondI, noneI, manyI] at S)))
        refine Upto.start (S := fun w' => SH noZ w w' [(b3, Cel.any [.int .i64 53, .bool true, .bool false, .int .i64 14, .int .i64 0, .int .i64 g16_4, .int .i64 0, .int .i64 0, .int .u32 0, .bool false, .int .i64 0, .int .i64 0, .int .i64 g0_16, .bool true, .bool false]), (b2, Cel.any [.int .i64 0, .bool false, .bool false, .int .i64 0, .int .i64 0, .int .i64 0, .int .i64 0, .int .i64 0, .int .u32 0, .bool false, .int .i64 0, .int .i64 0, .int .i64 0, .bool false, .bool false])]) 5 (by kernel_rfl) ?_
        replace S := S.drew
        refine Upto.take (i := 0) (oi := { dst := some 22, op := Op.load 30 (Operand.tmp 3), type := 30, pos := "wide.go:463", after := #[], guard := none }) (v := _) rfl (by kernel_rfl) (by kernel_rfl) (by kernel_rfl) (by kernel_rfl) (fun _ _ _ h => h) (y_loadAll (by rfl) _ _ rfl _ rfl 0 _ rfl _ Try.underlying30 rfl (szA _ rfl)) (by exact S) ?_
        simp only [Act.put, List.setIfInBounds_toArray, List.set_cons_zero, List.set_cons_succ]
        refine Upto.take (i := 1) (oi := { dst := some 23, op := Op.load 30 (Operand.tmp 3), type := 30, pos := "wide.go:463", after := #[], guard := none }) (v := _) rfl (by kernel_rfl) (by kernel_rfl) (by kernel_rfl) (by kernel_rfl) (fun _ _ _ h => h) (y_loadAll (by rfl) _ _ rfl _ rfl 0 _ rfl _ Try.underlying30 rfl (szA _ rfl)) (by exact S) ?_
        simp only [Act.put, List.setIfInBounds_toArray, List.set_cons_zero, List.set_cons_succ]
        refine Upto.take (i := 3) (oi := { dst := some 25, op := Op.move (Operand.tmp 0), type := 28, pos := "wide.go:463", after := #[], guard := none }) (v := ?_) rfl (by kernel_rfl) (by kernel_rfl) (by kernel_rfl) (by kernel_rfl) (fun _ _ _ h => h) (Or.inl ⟨by rfl, ?_⟩) (by exact S) ?_
        rotate_left 1
        · intro w hSw
          clear hSw
          go_simp
          try with_reducible rfl
        simp only [Act.put, List.setIfInBounds_toArray, List.set_cons_zero, List.set_cons_succ]
        refine Upto.ready (rs := [2]) (by kernel_rfl) (by simp) ?_
        refine Nexts.cons rfl (by decide) (fun K hK => ?_) Nexts.nil
        go_simp
        go_wp2_with (go_at_call 48; refine (CM.out _).mono ?_; rintro e wf ⟨rfl, hbf⟩; replace S := S.below hbf; clear hbf)
        refine hK.out _ _ (by exact S) ?_
        clear hK K
        refine Upto.ready (rs := [4]) (by kernel_rfl) (by simp) ?_
        refine Nexts.cons rfl (by decide) (fun K hK => ?_) Nexts.nil
        go_simp
        go_wp2_with (go_at_call 47; refine (checked_c (manyI false g16_4 g0_16 true false) ok x hx _).mono ?_; rintro e wf ⟨rfl, hbf⟩; replace S := S.below hbf; clear hbf)
        refine hK.out _ _ (by exact S) ?_
        clear hK K
        refine Upto.ready (rs := [5]) (by kernel_rfl) (by simp) ?_
        refine Nexts.last rfl (fun K hK => ?_)
        refine S.wpStoreAll 30 _ _ rfl b2 (Cel.iv (checkedI (manyI false g16_4 g0_16 true false) ok x)) rfl rfl 1 _ rfl rfl (one_iv _) (szIV _) ?_
        clear S
        intro w9 S
        simp only [List.set_cons_zero, List.set_cons_succ] at S
        refine hK.out _ _ ?_
        simp only [Act.put, List.setIfInBounds_toArray, List.set_cons_zero, List.set_cons_succ]
        clear hK K
        refine Upto.done (by kernel_rfl) ?_ _
        go_wp2
        (try simp only [Exit.inBlock, Exit.then])
        (first | refine bodyPost_ret (S.results rfl _ _ rfl 0 _ rfl _ Try.underlying30 rfl (by first | exact szIV _ | exact szA _ rfl)) rfl ?_ | refine bodyPost_ret (S.results rfl _ _ rfl 1 _ rfl _ Try.underlying30 rfl (by first | exact szIV _ | exact szA _ rfl)) rfl ?_)
        exact ⟨rfl, S.low⟩
    · rw [show ((1 * 1048576 : Nat) : Int) = 1048576 from rfl] at k20_1
      rcases (show g21_1 = 0 ∨ g21_1 = 1 by omega) with rfl | rfl
      · rw [show ((0 * 2097152 : Nat) : Int) = 0 from rfl] at k21_1
        replace hJ : R = checkedI (manyI true g16_4 g0_16 false false) (mayL true g0_16 g16_4 false) x := hJ
        have CM := CL true false false
        clear CL
        obtain ⟨ok, hok⟩ : ∃ ok, mayL true g0_16 g16_4 false = ok := ⟨_, rfl⟩
        rw [hok] at hJ CM
        clear hok
        rw [hJ]
        clear hJ
        go_enter Try.func20, Try.ntmps20
        have S := SH.start w
        go_wp2_with (first
          | ((with_reducible refine wpl_isDst 2 ?_); (first | refine S.alloc rfl 30 rfl (Cel.any zeroL) zeroA ?_ | refine SH.alloc (L := []) S rfl 30 rfl (Cel.any zeroL) zeroA ?_); clear S; intro b2 w2 S)
          | (go_at_call 46; first | (with_reducible refine (F16_4.out _).mono ?_; rintro e wf ⟨rfl, hbf⟩; replace S := S.below hbf; clear hbf) | (with_reducible refine (F0_16.out _).mono ?_; rintro e wf ⟨rfl, hbf⟩; replace S := S.below hbf; clear hbf))
          | (go_at_call 45; refine (start_c _ _ _ _).mono ?_; rintro e wf ⟨rfl, hbf⟩; replace S := S.below hbf; clear hbf)
          | ((with_reducible refine wpl_isDst 3 ?_); (first | refine S.alloc rfl 30 rfl (Cel.any zeroL) zeroA ?_ | refine SH.alloc (L := []) S rfl 30 rfl (Cel.any zeroL) zeroA ?_); clear S; intro b3 w3 S)
          | ((with_reducible refine wpl_isStoreAt 3 ?_); (first | refine S.storeA rfl 30 _ _ rfl b3 _ rfl rfl 0 _ rfl rfl rfl (szA _ rfl) ?_ | refine S.storeA rfl 30 _ _ rfl b3 _ rfl rfl 1 _ rfl rfl rfl (szA _ rfl) ?_); clear S; intro w2 S; (simp only [Cel.cells, IV.cellsL, zeroL, List.set_cons_zero, List.set_cons_succ, startI, secondI, noneI, manyI] at S))
          | ((with_reducible refine wpl_isStoreAt 12 ?_); (first | refine S.store1 rfl 3 _ _ rfl b3 12 (.int _ _) rfl rfl 0 _ rfl rfl (of_decide_eq_true rfl) (Cel.any _) rfl (by kernel_rfl) ?_ | refine S.store1 rfl 3 _ _ rfl b3 12 (.int _ _) rfl rfl 1 _ rfl rfl (of_decide_eq_true rfl) (Cel.any _) rfl (by kernel_rfl) ?_); clear S; intro w2 S; (simp only [Cel.cells, IV.cellsL, zeroL, List.set_cons_zero, List.set_cons_succ, startI, secondI, noneI, manyI] at S))
          | ((with_reducible refine wpl_isStoreAt 13 ?_); (first | refine S.store1 rfl 4 _ _ rfl b3 13 (.bool _) rfl rfl 0 _ rfl rfl (of_decide_eq_true rfl) (Cel.any _) rfl (by kernel_rfl) ?_ | refine S.store1 rfl 4 _ _ rfl b3 13 (.bool _) rfl rfl 1 _ rfl rfl (of_decide_eq_true rfl) (Cel.any _) rfl (by kernel_rfl) ?_); clear S; intro w2 S; (simp only [Cel.cells, IV.cellsL, zeroL, List.set_cons_zero, List.set_cons_succ, startI, secondI, noneI, manyI] at S))
          | ((with_reducible refine wpl_isStoreAt 17 ?_); (first | refine S.store1 rfl 3 _ _ rfl b3 0 (.int _ _) rfl rfl 0 _ rfl rfl (of_decide_eq_true rfl) (Cel.any _) rfl (by kernel_rfl) ?_ | refine S.store1 rfl 3 _ _ rfl b3 0 (.int _ _) rfl rfl 1 _ rfl rfl (of_decide_eq_true rfl) (Cel.any _) rfl (by kernel_rfl) ?_); clear S; intro w2 S; (simp only [Cel.cells, IV.cellsL, zeroL, List.set_cons_zero, List.set_cons_succ, startI, secondI, noneI, manyI] at S)))
        refine Upto.start (S := fun w' => SH noZ w w' [(b3, Cel.any [.int .i64 52, .bool true, .bool false, .int .i64 14, .int .i64 0, .int .i64 g16_4, .int .i64 0, .int .i64 0, .int .u32 0, .bool false, .int .i64 0, .int .i64 0, .int .i64 g0_16, .bool false, .bool false]), (b2, Cel.any [.int .i64 0, .bool false, .bool false, .int .i64 0, .int .i64 0, .int .i64 0, .int .i64 0, .int .i64 0, .int .u32 0, .bool false, .int .i64 0, .int .i64 0, .int .i64 0, .bool false, .bool false])]) 5 (by kernel_rfl) ?_
        replace S := S.drew
        refine Upto.take (i := 0) (oi := { dst := some 22, op := Op.load 30 (Operand.tmp 3), type := 30, pos := "wide.go:463", after := #[], guard := none }) (v := _) rfl (by kernel_rfl) (by kernel_rfl) (by kernel_rfl) (by kernel_rfl) (fun _ _ _ h => h) (y_loadAll (by rfl) _ _ rfl _ rfl 0 _ rfl _ Try.underlying30 rfl (szA _ rfl)) (by exact S) ?_
        simp only [Act.put, List.setIfInBounds_toArray, List.set_cons_zero, List.set_cons_succ]
        refine Upto.take (i := 1) (oi := { dst := some 23, op := Op.load 30 (Operand.tmp 3), type := 30, pos := "wide.go:463", after := #[], guard := none }) (v := _) rfl (by kernel_rfl) (by kernel_rfl) (by kernel_rfl) (by kernel_rfl) (fun _ _ _ h => h) (y_loadAll (by rfl) _ _ rfl _ rfl 0 _ rfl _ Try.underlying30 rfl (szA _ rfl)) (by exact S) ?_
        simp only [Act.put, List.setIfInBounds_toArray, List.set_cons_zero, List.set_cons_succ]
        refine Upto.take (i := 3) (oi := { dst := some 25, op := Op.move (Operand.tmp 0), type := 28, pos := "wide.go:463", after := #[], guard := none }) (v := ?_) rfl (by kernel_rfl) (by kernel_rfl) (by kernel_rfl) (by kernel_rfl) (fun _ _ _ h => h) (Or.inl ⟨by rfl, ?_⟩) (by exact S) ?_
        rotate_left 1
        · intro w hSw
          clear hSw
          go_simp
          try with_reducible rfl
        simp only [Act.put, List.setIfInBounds_toArray, List.set_cons_zero, List.set_cons_succ]
        refine Upto.ready (rs := [2]) (by kernel_rfl) (by simp) ?_
        refine Nexts.cons rfl (by decide) (fun K hK => ?_) Nexts.nil
        go_simp
        go_wp2_with (go_at_call 48; refine (CM.out _).mono ?_; rintro e wf ⟨rfl, hbf⟩; replace S := S.below hbf; clear hbf)
        refine hK.out _ _ (by exact S) ?_
        clear hK K
        refine Upto.ready (rs := [4]) (by kernel_rfl) (by simp) ?_
        refine Nexts.cons rfl (by decide) (fun K hK => ?_) Nexts.nil
        go_simp
        go_wp2_with (go_at_call 47; refine (checked_c (manyI true g16_4 g0_16 false false) ok x hx _).mono ?_; rintro e wf ⟨rfl, hbf⟩; replace S := S.below hbf; clear hbf)
        refine hK.out _ _ (by exact S) ?_
        clear hK K
        refine Upto.ready (rs := [5]) (by kernel_rfl) (by simp) ?_
        refine Nexts.last rfl (fun K hK => ?_)
        refine S.wpStoreAll 30 _ _ rfl b2 (Cel.iv (checkedI (manyI true g16_4 g0_16 false false) ok x)) rfl rfl 1 _ rfl rfl (one_iv _) (szIV _) ?_
        clear S
        intro w9 S
        simp only [List.set_cons_zero, List.set_cons_succ] at S
        refine hK.out _ _ ?_
        simp only [Act.put, List.setIfInBounds_toArray, List.set_cons_zero, List.set_cons_succ]
        clear hK K
        refine Upto.done (by kernel_rfl) ?_ _
        go_wp2
        (try simp only [Exit.inBlock, Exit.then])
        (first | refine bodyPost_ret (S.results rfl _ _ rfl 0 _ rfl _ Try.underlying30 rfl (by first | exact szIV _ | exact szA _ rfl)) rfl ?_ | refine bodyPost_ret (S.results rfl _ _ rfl 1 _ rfl _ Try.underlying30 rfl (by first | exact szIV _ | exact szA _ rfl)) rfl ?_)
        exact ⟨rfl, S.low⟩
      · rw [show ((1 * 2097152 : Nat) : Int) = 2097152 from rfl] at k21_1
        replace hJ : R = checkedI (manyI true g16_4 g0_16 true false) (mayL true g0_16 g16_4 true) x := hJ
        have CM := CL true true false
        clear CL
        obtain ⟨ok, hok⟩ : ∃ ok, mayL true g0_16 g16_4 true = ok := ⟨_, rfl⟩
        rw [hok] at hJ CM
        clear hok
        rw [hJ]
        clear hJ
        go_enter Try.func20, Try.ntmps20
        have S := SH.start w
        go_wp2_with (first
          | ((with_reducible refine wpl_isDst 2 ?_); (first | refine S.alloc rfl 30 rfl (Cel.any zeroL) zeroA ?_ | refine SH.alloc (L := []) S rfl 30 rfl (Cel.any zeroL) zeroA ?_); clear S; intro b2 w2 S)
          | (go_at_call 46; first | (with_reducible refine (F16_4.out _).mono ?_; rintro e wf ⟨rfl, hbf⟩; replace S := S.below hbf; clear hbf) | (with_reducible refine (F0_16.out _).mono ?_; rintro e wf ⟨rfl, hbf⟩; replace S := S.below hbf; clear hbf))
          | (go_at_call 45; refine (start_c _ _ _ _).mono ?_; rintro e wf ⟨rfl, hbf⟩; replace S := S.below hbf; clear hbf)
          | ((with_reducible refine wpl_isDst 3 ?_); (first | refine S.alloc rfl 30 rfl (Cel.any zeroL) zeroA ?_ | refine SH.alloc (L := []) S rfl 30 rfl (Cel.any zeroL) zeroA ?_); clear S; intro b3 w3 S)
          | ((with_reducible refine wpl_isStoreAt 3 ?_); (first | refine S.storeA rfl 30 _ _ rfl b3 _ rfl rfl 0 _ rfl rfl rfl (szA _ rfl) ?_ | refine S.storeA rfl 30 _ _ rfl b3 _ rfl rfl 1 _ rfl rfl rfl (szA _ rfl) ?_); clear S; intro w2 S; (simp only [Cel.cells, IV.cellsL, zeroL, List.set_cons_zero, List.set_cons_succ, startI, secondI, noneI, manyI] at S))
          | ((with_reducible refine wpl_isStoreAt 12 ?_); (first | refine S.store1 rfl 3 _ _ rfl b3 12 (.int _ _) rfl rfl 0 _ rfl rfl (of_decide_eq_true rfl) (Cel.any _) rfl (by kernel_rfl) ?_ | refine S.store1 rfl 3 _ _ rfl b3 12 (.int _ _) rfl rfl 1 _ rfl rfl (of_decide_eq_true rfl) (Cel.any _) rfl (by kernel_rfl) ?_); clear S; intro w2 S; (simp only [Cel.cells, IV.cellsL, zeroL, List.set_cons_zero, List.set_cons_succ, startI, secondI, noneI, manyI] at S))
          | ((with_reducible refine wpl_isStoreAt 13 ?_); (first | refine S.store1 rfl 4 _ _ rfl b3 13 (.bool _) rfl rfl 0 _ rfl rfl (of_decide_eq_true rfl) (Cel.any _) rfl (by kernel_rfl) ?_ | refine S.store1 rfl 4 _ _ rfl b3 13 (.bool _) rfl rfl 1 _ rfl rfl (of_decide_eq_true rfl) (Cel.any _) rfl (by kernel_rfl) ?_); clear S; intro w2 S; (simp only [Cel.cells, IV.cellsL, zeroL, List.set_cons_zero, List.set_cons_succ, startI, secondI, noneI, manyI] at S))
          | ((with_reducible refine wpl_isStoreAt 17 ?_); (first | refine S.store1 rfl 3 _ _ rfl b3 0 (.int _ _) rfl rfl 0 _ rfl rfl (of_decide_eq_true rfl) (Cel.any _) rfl (by kernel_rfl) ?_ | refine S.store1 rfl 3 _ _ rfl b3 0 (.int _ _) rfl rfl 1 _ rfl rfl (of_decide_eq_true rfl) (Cel.any _) rfl (by kernel_rfl) ?_); clear S; intro w2 S; (simp only [Cel.cells, IV.cellsL, zeroL, List.set_cons_zero, List.set_cons_succ, startI, secondI, noneI, manyI] at S)))
        refine Upto.start (S := fun w' => SH noZ w w' [(b3, Cel.any [.int .i64 52, .bool true, .bool false, .int .i64 14, .int .i64 0, .int .i64 g16_4, .int .i64 0, .int .i64 0, .int .u32 0, .bool false, .int .i64 0, .int .i64 0, .int .i64 g0_16, .bool true, .bool false]), (b2, Cel.any [.int .i64 0, .bool false, .bool false, .int .i64 0, .int .i64 0, .int .i64 0, .int .i64 0, .int .i64 0, .int .u32 0, .bool false, .int .i64 0, .int .i64 0, .int .i64 0, .bool false, .bool false])]) 5 (by kernel_rfl) ?_
        replace S := S.drew
        refine Upto.take (i := 0) (oi := { dst := some 22, op := Op.load 30 (Operand.tmp 3), type := 30, pos := "wide.go:463", after := #[], guard := none }) (v := _) rfl (by kernel_rfl) (by kernel_rfl) (by kernel_rfl) (by kernel_rfl) (fun _ _ _ h => h) (y_loadAll (by rfl) _ _ rfl _ rfl 0 _ rfl _ Try.underlying30 rfl (szA _ rfl)) (by exact S) ?_
        simp only [Act.put, List.setIfInBounds_toArray, List.set_cons_zero, List.set_cons_succ]
        refine Upto.take (i := 1) (oi := { dst := some 23, op := Op.load 30 (Operand.tmp 3), type := 30, pos := "wide.go:463", after := #[], guard := none }) (v := _) rfl (by kernel_rfl) (by kernel_rfl) (by kernel_rfl) (by kernel_rfl) (fun _ _ _ h => h) (y_loadAll (by rfl) _ _ rfl _ rfl 0 _ rfl _ Try.underlying30 rfl (szA _ rfl)) (by exact S) ?_
        simp only [Act.put, List.setIfInBounds_toArray, List.set_cons_zero, List.set_cons_succ]
        refine Upto.take (i := 3) (oi := { dst := some 25, op := Op.move (Operand.tmp 0), type := 28, pos := "wide.go:463", after := #[], guard := none }) (v := ?_) rfl (by kernel_rfl) (by kernel_rfl) (by kernel_rfl) (by kernel_rfl) (fun _ _ _ h => h) (Or.inl ⟨by rfl, ?_⟩) (by exact S) ?_
        rotate_left 1
        · intro w hSw
          clear hSw
          go_simp
          try with_reducible rfl
        simp only [Act.put, List.setIfInBounds_toArray, List.set_cons_zero, List.set_cons_succ]
        refine Upto.ready (rs := [2]) (by kernel_rfl) (by simp) ?_
        refine Nexts.cons rfl (by decide) (fun K hK => ?_) Nexts.nil
        go_simp
        go_wp2_with (go_at_call 48; refine (CM.out _).mono ?_; rintro e wf ⟨rfl, hbf⟩; replace S := S.below hbf; clear hbf)
        refine hK.out _ _ (by exact S) ?_
        clear hK K
        refine Upto.ready (rs := [4]) (by kernel_rfl) (by simp) ?_
        refine Nexts.cons rfl (by decide) (fun K hK => ?_) Nexts.nil
        go_simp
        go_wp2_with (go_at_call 47; refine (checked_c (manyI true g16_4 g0_16 true false) ok x hx _).mono ?_; rintro e wf ⟨rfl, hbf⟩; replace S := S.below hbf; clear hbf)
        refine hK.out _ _ (by exact S) ?_
        clear hK K
        refine Upto.ready (rs := [5]) (by kernel_rfl) (by simp) ?_
        refine Nexts.last rfl (fun K hK => ?_)
        refine S.wpStoreAll 30 _ _ rfl b2 (Cel.iv (checkedI (manyI true g16_4 g0_16 true false) ok x)) rfl rfl 1 _ rfl rfl (one_iv _) (szIV _) ?_
        clear S
        intro w9 S
        simp only [List.set_cons_zero, List.set_cons_succ] at S
        refine hK.out _ _ ?_
        simp only [Act.put, List.setIfInBounds_toArray, List.set_cons_zero, List.set_cons_succ]
        clear hK K
        refine Upto.done (by kernel_rfl) ?_ _
        go_wp2
        (try simp only [Exit.inBlock, Exit.then])
        (first | refine bodyPost_ret (S.results rfl _ _ rfl 0 _ rfl _ Try.underlying30 rfl (by first | exact szIV _ | exact szA _ rfl)) rfl ?_ | refine bodyPost_ret (S.results rfl _ _ rfl 1 _ rfl _ Try.underlying30 rfl (by first | exact szIV _ | exact szA _ rfl)) rfl ?_)
        exact ⟨rfl, S.low⟩
  · rw [show ((4 * 4194304 : Nat) : Int) = 16777216 from rfl] at k22
    rcases (show g20_1 = 0 ∨ g20_1 = 1 by omega) with rfl | rfl
    · rw [show ((0 * 1048576 : Nat) : Int) = 0 from rfl] at k20_1
      rcases (show g21_1 = 0 ∨ g21_1 = 1 by omega) with rfl | rfl
      · rw [show ((0 * 2097152 : Nat) : Int) = 0 from rfl] at k21_1
        replace hJ : R = checkedI (manyI false g16_4 g0_16 false true) (mayL false g0_16 g16_4 false) x := hJ
        have CM := CL false false true
        clear CL
        obtain ⟨ok, hok⟩ : ∃ ok, mayL false g0_16 g16_4 false = ok := ⟨_, rfl⟩
        rw [hok] at hJ CM
        clear hok
        rw [hJ]
        clear hJ
        go_enter Try.func20, Try.ntmps20
        have S := SH.start w
        go_wp2_with (first
          | ((with_reducible refine wpl_isDst 2 ?_); (first | refine S.alloc rfl 30 rfl (Cel.any zeroL) zeroA ?_ | refine SH.alloc (L := []) S rfl 30 rfl (Cel.any zeroL) zeroA ?_); clear S; intro b2 w2 S)
          | (go_at_call 46; first | (with_reducible refine (F16_4.out _).mono ?_; rintro e wf ⟨rfl, hbf⟩; replace S := S.below hbf; clear hbf) | (with_reducible refine (F0_16.out _).mono ?_; rintro e wf ⟨rfl, hbf⟩; replace S := S.below hbf; clear hbf))
          | (go_at_call 45; refine (start_c _ _ _ _).mono ?_; rintro e wf ⟨rfl, hbf⟩; replace S := S.below hbf; clear hbf)
          | ((with_reducible refine wpl_isDst 3 ?_); (first | refine S.alloc rfl 30 rfl (Cel.any zeroL) zeroA ?_ | refine SH.alloc (L := []) S rfl 30 rfl (Cel.any zeroL) zeroA ?_); clear S; intro b3 w3 S)
          | ((with_reducible refine wpl_isStoreAt 3 ?_); (first | refine S.storeA rfl 30 _ _ rfl b3 _ rfl rfl 0 _ rfl rfl rfl (szA _ rfl) ?_ | refine S.storeA rfl 30 _ _ rfl b3 _ rfl rfl 1 _ rfl rfl rfl (szA _ rfl) ?_); clear S; intro w2 S; (simp only [Cel.cells, IV.cellsL, zeroL, List.set_cons_zero, List.set_cons_succ, startI, secondI, noneI, manyI] at S))
          | ((with_reducible refine wpl_isStoreAt 12 ?_); (first | refine S.store1 rfl 3 _ _ rfl b3 12 (.int _ _) rfl rfl 0 _ rfl rfl (of_decide_eq_true rfl) (Cel.any _) rfl (by kernel_rfl) ?_ | refine S.store1 rfl 3 _ _ rfl b3 12 (.int _ _) rfl rfl 1 _ rfl rfl (of_decide_eq_true rfl) (Cel.any _) rfl (by kernel_rfl) ?_); clear S; intro w2 S; (simp only [Cel.cells, IV.cellsL, zeroL, List.set_cons_zero, List.set_cons_succ, startI, secondI, noneI, manyI] at S))
          | ((with_reducible refine wpl_isStoreAt 13 ?_); (first | refine S.store1 rfl 4 _ _ rfl b3 13 (.bool _) rfl rfl 0 _ rfl rfl (of_decide_eq_true rfl) (Cel.any _) rfl (by kernel_rfl) ?_ | refine S.store1 rfl 4 _ _ rfl b3 13 (.bool _) rfl rfl 1 _ rfl rfl (of_decide_eq_true rfl) (Cel.any _) rfl (by kernel_rfl) ?_); clear S; intro w2 S; (simp only [Cel.cells, IV.cellsL, zeroL, List.set_cons_zero, List.set_cons_succ, startI, secondI, noneI, manyI] at S))
          | ((with_reducible refine wpl_isStoreAt 29 ?_); (first | refine S.store1 rfl 4 _ _ rfl b3 14 (.bool _) rfl rfl 0 _ rfl rfl (of_decide_eq_true rfl) (Cel.any _) rfl (by kernel_rfl) ?_ | refine S.store1 rfl 4 _ _ rfl b3 14 (.bool _) rfl rfl 1 _ rfl rfl (of_decide_eq_true rfl) (Cel.any _) rfl (by kernel_rfl) ?_); clear S; intro w2 S; (simp only [Cel.cells, IV.cellsL, zeroL, List.set_cons_zero, List.set_cons_succ, startI, secondI, noneI, manyI] at S)))
        refine Upto.start (S := fun w' => SH noZ w w' [(b3, Cel.any [.int .i64 53, .bool true, .bool false, .int .i64 14, .int .i64 0, .int .i64 g16_4, .int .i64 0, .int .i64 0, .int .u32 0, .bool false, .int .i64 0, .int .i64 0, .int .i64 g0_16, .bool false, .bool true]), (b2, Cel.any [.int .i64 0, .bool false, .bool false, .int .i64 0, .int .i64 0, .int .i64 0, .int .i64 0, .int .i64 0, .int .u32 0, .bool false, .int .i64 0, .int .i64 0, .int .i64 0, .bool false, .bool false])]) 5 (by kernel_rfl) ?_
        replace S := S.drew
        refine Upto.take (i := 0) (oi := { dst := some 30, op := Op.load 30 (Operand.tmp 3), type := 30, pos := "wide.go:466", after := #[], guard := none }) (v := _) rfl (by kernel_rfl) (by kernel_rfl) (by kernel_rfl) (by kernel_rfl) (fun _ _ _ h => h) (y_loadAll (by rfl) _ _ rfl _ rfl 0 _ rfl _ Try.underlying30 rfl (szA _ rfl)) (by exact S) ?_
        simp only [Act.put, List.setIfInBounds_toArray, List.set_cons_zero, List.set_cons_succ]
        refine Upto.take (i := 1) (oi := { dst := some 31, op := Op.load 30 (Operand.tmp 3), type := 30, pos := "wide.go:466", after := #[], guard := none }) (v := _) rfl (by kernel_rfl) (by kernel_rfl) (by kernel_rfl) (by kernel_rfl) (fun _ _ _ h => h) (y_loadAll (by rfl) _ _ rfl _ rfl 0 _ rfl _ Try.underlying30 rfl (szA _ rfl)) (by exact S) ?_
        simp only [Act.put, List.setIfInBounds_toArray, List.set_cons_zero, List.set_cons_succ]
        refine Upto.take (i := 3) (oi := { dst := some 33, op := Op.move (Operand.tmp 0), type := 28, pos := "wide.go:466", after := #[], guard := none }) (v := ?_) rfl (by kernel_rfl) (by kernel_rfl) (by kernel_rfl) (by kernel_rfl) (fun _ _ _ h => h) (Or.inl ⟨by rfl, ?_⟩) (by exact S) ?_
        rotate_left 1
        · intro w hSw
          clear hSw
          go_simp
          try with_reducible rfl
        simp only [Act.put, List.setIfInBounds_toArray, List.set_cons_zero, List.set_cons_succ]
        refine Upto.ready (rs := [2]) (by kernel_rfl) (by simp) ?_
        refine Nexts.cons rfl (by decide) (fun K hK => ?_) Nexts.nil
        go_simp
        go_wp2_with (go_at_call 48; refine (CM.out _).mono ?_; rintro e wf ⟨rfl, hbf⟩; replace S := S.below hbf; clear hbf)
        refine hK.out _ _ (by exact S) ?_
        clear hK K
        refine Upto.ready (rs := [4]) (by kernel_rfl) (by simp) ?_
        refine Nexts.cons rfl (by decide) (fun K hK => ?_) Nexts.nil
        go_simp
        go_wp2_with (go_at_call 47; refine (checked_c (manyI false g16_4 g0_16 false true) ok x hx _).mono ?_; rintro e wf ⟨rfl, hbf⟩; replace S := S.below hbf; clear hbf)
        refine hK.out _ _ (by exact S) ?_
        clear hK K
        refine Upto.ready (rs := [5]) (by kernel_rfl) (by simp) ?_
        refine Nexts.last rfl (fun K hK => ?_)
        refine S.wpStoreAll 30 _ _ rfl b2 (Cel.iv (checkedI (manyI false g16_4 g0_16 false true) ok x)) rfl rfl 1 _ rfl rfl (one_iv _) (szIV _) ?_
        clear S
        intro w9 S
        simp only [List.set_cons_zero, List.set_cons_succ] at S
        refine hK.out _ _ ?_
        simp only [Act.put, List.setIfInBounds_toArray, List.set_cons_zero, List.set_cons_succ]
        clear hK K
        refine Upto.done (by kernel_rfl) ?_ _
        go_wp2
        (try simp only [Exit.inBlock, Exit.then])
        (first | refine bodyPost_ret (S.results rfl _ _ rfl 0 _ rfl _ Try.underlying30 rfl (by first | exact szIV _ | exact szA _ rfl)) rfl ?_ | refine bodyPost_ret (S.results rfl _ _ rfl 1 _ rfl _ Try.underlying30 rfl (by first | exact szIV _ | exact szA _ rfl)) rfl ?_)
        exact ⟨rfl, S.low⟩
      · rw [show ((1 * 2097152 : Nat) : Int) = 2097152 from rfl] at k21_1
        replace hJ : R = checkedI (manyI false g16_4 g0_16 true true) (mayL false g0_16 g16_4 true) x := hJ
        have CM := CL false true true
        clear CL
        obtain ⟨ok, hok⟩ : ∃ ok, mayL false g0_16 g16_4 true = ok := ⟨_, rfl⟩
        rw [hok] at hJ CM
        clear hok
        rw [hJ]
        clear hJ
        go_enter Try.func20, Try.ntmps20
        have S := SH.start w
        go_wp2_with (first
          | ((with_reducible refine wpl_isDst 2 ?_); (first | refine S.alloc rfl 30 rfl (Cel.any zeroL) zeroA ?_ | refine SH.alloc (L := []) S rfl 30 rfl (Cel.any zeroL) zeroA ?_); clear S; intro b2 w2 S)
          | (go_at_call 46; first | (with_reducible refine (F16_4.out _).mono ?_; rintro e wf ⟨rfl, hbf⟩; replace S := S.below hbf; clear hbf) | (with_reducible refine (F0_16.out _).mono ?_; rintro e wf ⟨rfl, hbf⟩; replace S := S.below hbf; clear hbf))
          | (go_at_call 45; refine (start_c _ _ _ _).mono ?_; rintro e wf ⟨rfl, hbf⟩; replace S := S.below hbf; clear hbf)
          | ((with_reducible refine wpl_isDst 3 ?_); (first | refine S.alloc rfl 30 rfl (Cel.any zeroL) zeroA ?_ | refine SH.alloc (L := []) S rfl 30 rfl (Cel.any zeroL) zeroA ?_); clear S; intro b3 w3 S)
          | ((with_reducible refine wpl_isStoreAt 3 ?_); (first | refine S.storeA rfl 30 _ _ rfl b3 _ rfl rfl 0 _ rfl rfl rfl (szA _ rfl) ?_ | refine S.storeA rfl 30 _ _ rfl b3 _ rfl rfl 1 _ rfl rfl rfl (szA _ rfl) ?_); clear S; intro w2 S; (simp only [Cel.cells, IV.cellsL, zeroL, List.set_cons_zero, List.set_cons_succ, startI, secondI, noneI, manyI] at S))
          | ((with_reducible refine wpl_isStoreAt 12 ?_); (first | refine S.store1 rfl 3 _ _ rfl b3 12 (.int _ _) rfl rfl 0 _ rfl rfl (of_decide_eq_true rfl) (Cel.any _) rfl (by kernel_rfl) ?_ | refine S.store1 rfl 3 _ _ rfl b3 12 (.int _ _) rfl rfl 1 _ rfl rfl (of_decide_eq_true rfl) (Cel.any _) rfl (by kernel_rfl) ?_); clear S; intro w2 S; (simp only [Cel.cells, IV.cellsL, zeroL, List.set_cons_zero, List.set_cons_succ, startI, secondI, noneI, manyI] at S))
          | ((with_reducible refine wpl_isStoreAt 13 ?_); (first | refine S.store1 rfl 4 _ _ rfl b3 13 (.bool _) rfl rfl 0 _ rfl rfl (of_decide_eq_true rfl) (Cel.any _) rfl (by kernel_rfl) ?_ | refine S.store1 rfl 4 _ _ rfl b3 13 (.bool _) rfl rfl 1 _ rfl rfl (of_decide_eq_true rfl) (Cel.any _) rfl (by kernel_rfl) ?_); clear S; intro w2 S; (simp only [Cel.cells, IV.cellsL, zeroL, List.set_cons_zero, List.set_cons_succ, startI, secondI, noneI, manyI] at S))
          | ((with_reducible refine wpl_isStoreAt 29 ?_); (first | refine S.store1 rfl 4 _ _ rfl b3 14 (.bool _) rfl rfl 0 _ rfl rfl (of_decide_eq_true rfl) (Cel.any _) rfl (by kernel_rfl) ?_ | refine S.store1 rfl 4 _ _ rfl b3 14 (.bool _) rfl rfl 1 _ rfl rfl (of_decide_eq_true rfl) (Cel.any _) rfl (by kernel_rfl) ?_); clear S; intro w2 S; (simp only [Cel.cells, IV.cellsL, zeroL, List.set_cons_zero, List.set_cons_succ, startI, secondI, noneI, manyI] at S)))
        refine Upto.start (S := fun w' => SH noZ w w' [(b3, Cel.any [.int .i64 53, .bool true, .bool false, .int .i64 14, .int .i64 0, .int .i64 g16_4, .int .i64 0, .int .i64 0, .int .u32 0, .bool false, .int .i64 0, .int .i64 0, .int .i64 g0_16, .bool true, .bool true]), (b2, Cel.any [.int .i64 0, .bool false, .bool false, .int .i64 0, .int .i64 0, .int .i64 0, .int .i64 0, .int .i64 0, .int .u32 0, .bool false, .int .i64 0, .int .i64 0, .int .i64 0, .bool false, .bool false])]) 5 (by kernel_rfl) ?_
        replace S := S.drew
        refine Upto.take (i := 0) (oi := { dst := some 30, op := Op.load 30 (Operand.tmp 3), type := 30, pos := "wide.go:466", after := #[], guard := none }) (v := _) rfl (by kernel_rfl) (by kernel_rfl) (by kernel_rfl) (by kernel_rfl) (fun _ _ _ h => h) (y_loadAll (by rfl) _ _ rfl _ rfl 0 _ rfl _ Try.underlying30 rfl (szA _ rfl)) (by exact S) ?_
        simp only [Act.put, List.setIfInBounds_toArray, List.set_cons_zero, List.set_cons_succ]
        refine Upto.take (i := 1) (oi := { dst := some 31, op := Op.load 30 (Operand.tmp 3), type := 30, pos := "wide.go:466", after := #[], guard := none }) (v := _) rfl (by kernel_rfl) (by kernel_rfl) (by kernel_rfl) (by kernel_rfl) (fun _ _ _ h => h) (y_loadAll (by rfl) _ _ rfl _ rfl 0 _ rfl _ Try.underlying30 rfl (szA _ rfl)) (by exact S) ?_
        simp only [Act.put, List.setIfInBounds_toArray, List.set_cons_zero, List.set_cons_succ]
        refine Upto.take (i := 3) (oi := { dst := some 33, op := Op.move (Operand.tmp 0), type := 28, pos := "wide.go:466", after := #[], guard := none }) (v := ?_) rfl (by kernel_rfl) (by kernel_rfl) (by kernel_rfl) (by kernel_rfl) (fun _ _ _ h => h) (Or.inl ⟨by rfl, ?_⟩) (by exact S) ?_
        rotate_left 1
        · intro w hSw
          clear hSw
          go_simp
          try with_reducible rfl
        simp only [Act.put, List.setIfInBounds_toArray, List.set_cons_zero, List.set_cons_succ]
        refine Upto.ready (rs := [2]) (by kernel_rfl) (by simp) ?_
        refine Nexts.cons rfl (by decide) (fun K hK => ?_) Nexts.nil
        go_simp
        go_wp2_with (go_at_call 48; refine (CM.out _).mono ?_; rintro e wf ⟨rfl, hbf⟩; replace S := S.below hbf; clear hbf)
        refine hK.out _ _ (by exact S) ?_
        clear hK K
        refine Upto.ready (rs := [4]) (by kernel_rfl) (by simp) ?_
        refine Nexts.cons rfl (by decide) (fun K hK => ?_) Nexts.nil
        go_simp
        go_wp2_with (go_at_call 47; refine (checked_c (manyI false g16_4 g0_16 true true) ok x hx _).mono ?_; rintro e wf ⟨rfl, hbf⟩; replace S := S.below hbf; clear hbf)
        refine hK.out _ _ (by exact S) ?_
        clear hK K
        refine Upto.ready (rs := [5]) (by kernel_rfl) (by simp) ?_
        refine Nexts.last rfl (fun K hK => ?_)
        refine S.wpStoreAll 30 _ _ rfl b2 (Cel.iv (checkedI (manyI false g16_4 g0_16 true true) ok x)) rfl rfl 1 _ rfl rfl (one_iv _) (szIV _) ?_
        clear S
        intro w9 S
        simp only [List.set_cons_zero, List.set_cons_succ] at S
        refine hK.out _ _ ?_
        simp only [Act.put, List.setIfInBounds_toArray, List.set_cons_zero, List.set_cons_succ]
        clear hK K
        refine Upto.done (by kernel_rfl) ?_ _
        go_wp2
        (try simp only [Exit.inBlock, Exit.then])
        (first | refine bodyPost_ret (S.results rfl _ _ rfl 0 _ rfl _ Try.underlying30 rfl (by first | exact szIV _ | exact szA _ rfl)) rfl ?_ | refine bodyPost_ret (S.results rfl _ _ rfl 1 _ rfl _ Try.underlying30 rfl (by first | exact szIV _ | exact szA _ rfl)) rfl ?_)
        exact ⟨rfl, S.low⟩
    · rw [show ((1 * 1048576 : Nat) : Int) = 1048576 from rfl] at k20_1
      rcases (show g21_1 = 0 ∨ g21_1 = 1 by omega) with rfl | rfl
      · rw [show ((0 * 2097152 : Nat) : Int) = 0 from rfl] at k21_1
        replace hJ : R = checkedI (manyI true g16_4 g0_16 false true) (mayL true g0_16 g16_4 false) x := hJ
        have CM := CL true false true
        clear CL
        obtain ⟨ok, hok⟩ : ∃ ok, mayL true g0_16 g16_4 false = ok := ⟨_, rfl⟩
        rw [hok] at hJ CM
        clear hok
        rw [hJ]
        clear hJ
        go_enter Try.func20, Try.ntmps20
        have S := SH.start w
        go_wp2_with (first
          | ((with_reducible refine wpl_isDst 2 ?_); (first | refine S.alloc rfl 30 rfl (Cel.any zeroL) zeroA ?_ | refine SH.alloc (L := []) S rfl 30 rfl (Cel.any zeroL) zeroA ?_); clear S; intro b2 w2 S)
          | (go_at_call 46; first | (with_reducible refine (F16_4.out _).mono ?_; rintro e wf ⟨rfl, hbf⟩; replace S := S.below hbf; clear hbf) | (with_reducible refine (F0_16.out _).mono ?_; rintro e wf ⟨rfl, hbf⟩; replace S := S.below hbf; clear hbf))
          | (go_at_call 45; refine (start_c _ _ _ _).mono ?_; rintro e wf ⟨rfl, hbf⟩; replace S := S.below hbf; clear hbf)
          | ((with_reducible refine wpl_isDst 3 ?_); (first | refine S.alloc rfl 30 rfl (Cel.any zeroL) zeroA ?_ | refine SH.alloc (L := []) S rfl 30 rfl (Cel.any zeroL) zeroA ?_); clear S; intro b3 w3 S)
          | ((with_reducible refine wpl_isStoreAt 3 ?_); (first | refine S.storeA rfl 30 _ _ rfl b3 _ rfl rfl 0 _ rfl rfl rfl (szA _ rfl) ?_ | refine S.storeA rfl 30 _ _ rfl b3 _ rfl rfl 1 _ rfl rfl rfl (szA _ rfl) ?_); clear S; intro w2 S; (simp only [Cel.cells, IV.cellsL, zeroL, List.set_cons_zero, List.set_cons_succ, startI, secondI, noneI, manyI] at S))
          | ((with_reducible refine wpl_isStoreAt 12 ?_); (first | refine S.store1 rfl 3 _ _ rfl b3 12 (.int _ _) rfl rfl 0 _ rfl rfl (of_decide_eq_true rfl) (Cel.any _) rfl (by kernel_rfl) ?_ | refine S.store1 rfl 3 _ _ rfl b3 12 (.int _ _) rfl rfl 1 _ rfl rfl (of_decide_eq_true rfl) (Cel.any _) rfl (by kernel_rfl) ?_); clear S; intro w2 S; (simp only [Cel.cells, IV.cellsL, zeroL, List.set_cons_zero, List.set_cons_succ, startI, secondI, noneI, manyI] at S))
          | ((with_reducible refine wpl_isStoreAt 13 ?_); (first | refine S.store1 rfl 4 _ _ rfl b3 13 (.bool _) rfl rfl 0 _ rfl rfl (of_decide_eq_true rfl) (Cel.any _) rfl (by kernel_rfl) ?_ | refine S.store1 rfl 4 _ _ rfl b3 13 (.bool _) rfl rfl 1 _ rfl rfl (of_decide_eq_true rfl) (Cel.any _) rfl (by kernel_rfl) ?_); clear S; intro w2 S; (simp only [Cel.cells, IV.cellsL, zeroL, List.set_cons_zero, List.set_cons_succ, startI, secondI, noneI, manyI] at S))
          | ((with_reducible refine wpl_isStoreAt 17 ?_); (first | refine S.store1 rfl 3 _ _ rfl b3 0 (.int _ _) rfl rfl 0 _ rfl rfl (of_decide_eq_true rfl) (Cel.any _) rfl (by kernel_rfl) ?_ | refine S.store1 rfl 3 _ _ rfl b3 0 (.int _ _) rfl rfl 1 _ rfl rfl (of_decide_eq_true rfl) (Cel.any _) rfl (by kernel_rfl) ?_); clear S; intro w2 S; (simp only [Cel.cells, IV.cellsL, zeroL, List.set_cons_zero, List.set_cons_succ, startI, secondI, noneI, manyI] at S))
          | ((with_reducible refine wpl_isStoreAt 29 ?_); (first | refine S.store1 rfl 4 _ _ rfl b3 14 (.bool _) rfl rfl 0 _ rfl rfl (of_decide_eq_true rfl) (Cel.any _) rfl (by kernel_rfl) ?_ | refine S.store1 rfl 4 _ _ rfl b3 14 (.bool _) rfl rfl 1 _ rfl rfl (of_decide_eq_true rfl) (Cel.any _) rfl (by kernel_rfl) ?_); clear S; intro w2 S; (simp only [Cel.cells, IV.cellsL, zeroL, List.set_cons_zero, List.set_cons_succ, startI, secondI, noneI, manyI] at S)))
        refine Upto.start (S := fun w' => SH noZ w w' [(b3, Cel.any [.int .i64 52, .bool true, .bool false, .int .i64 14, .int .i64 0, .int .i64 g16_4, .int .i64 0, .int .i64 0, .int .u32 0, .bool false, .int .i64 0, .int .i64 0, .int .i64 g0_16, .bool false, .bool true]), (b2, Cel.any [.int .i64 0, .bool false, .bool false, .int .i64 0, .int .i64 0, .int .i64 0, .int .i64 0, .int .i64 0, .int .u32 0, .bool false, .int .i64 0, .int .i64 0, .int .i64 0, .bool false, .bool false])]) 5 (by kernel_rfl) ?_
        replace S := S.drew
        refine Upto.take (i := 0) (oi := { dst := some 30, op := Op.load 30 (Operand.tmp 3), type := 30, pos := "wide.go:466", after := #[], guard := none }) (v := _) rfl (by kernel_rfl) (by kernel_rfl) (by kernel_rfl) (by kernel_rfl) (fun _ _ _ h => h) (y_loadAll (by rfl) _ _ rfl _ rfl 0 _ rfl _ Try.underlying30 rfl (szA _ rfl)) (by exact S) ?_
        simp only [Act.put, List.setIfInBounds_toArray, List.set_cons_zero, List.set_cons_succ]
        refine Upto.take (i := 1) (oi := { dst := some 31, op := Op.load 30 (Operand.tmp 3), type := 30, pos := "wide.go:466", after := #[], guard := none }) (v := _) rfl (by kernel_rfl) (by kernel_rfl) (by kernel_rfl) (by kernel_rfl) (fun _ _ _ h => h) (y_loadAll (by rfl) _ _ rfl _ rfl 0 _ rfl _ Try.underlying30 rfl (szA _ rfl)) (by exact S) ?_
        simp only [Act.put, List.setIfInBounds_toArray, List.set_cons_zero, List.set_cons_succ]
        refine Upto.take (i := 3) (oi := { dst := some 33, op := Op.move (Operand.tmp 0), type := 28, pos := "wide.go:466", after := #[], guard := none }) (v := ?_) rfl (by kernel_rfl) (by kernel_rfl) (by kernel_rfl) (by kernel_rfl) (fun _ _ _ h => h) (Or.inl ⟨by rfl, ?_⟩) (by exact S) ?_
        rotate_left 1
        · intro w hSw
          clear hSw
          go_simp
          try with_reducible rfl
        simp only [Act.put, List.setIfInBounds_toArray, List.set_cons_zero, List.set_cons_succ]
        refine Upto.ready (rs := [2]) (by kernel_rfl) (by simp) ?_
        refine Nexts.cons rfl (by decide) (fun K hK => ?_) Nexts.nil
        go_simp
        go_wp2_with (go_at_call 48; refine (CM.out _).mono ?_; rintro e wf ⟨rfl, hbf⟩; replace S := S.below hbf; clear hbf)
        refine hK.out _ _ (by exact S) ?_
        clear hK K
        refine Upto.ready (rs := [4]) (by kernel_rfl) (by simp) ?_
        refine Nexts.cons rfl (by decide) (fun K hK => ?_) Nexts.nil
        go_simp
        go_wp2_with (go_at_call 47; refine (checked_c (manyI true g16_4 g0_16 false true) ok x hx _).mono ?_; rintro e wf ⟨rfl, hbf⟩; replace S := S.below hbf; clear hbf)
        refine hK.out _ _ (by exact S) ?_
        clear hK K
        refine Upto.ready (rs := [5]) (by kernel_rfl) (by simp) ?_
        refine Nexts.last rfl (fun K hK => ?_)
        refine S.wpStoreAll 30 _ _ rfl b2 (Cel.iv (checkedI (manyI true g16_4 g0_16 false true) ok x)) rfl rfl 1 _ rfl rfl (one_iv _) (szIV _) ?_
        clear S
        intro w9 S
        simp only [List.set_cons_zero, List.set_cons_succ] at S
        refine hK.out _ _ ?_
        simp only [Act.put, List.setIfInBounds_toArray, List.set_cons_zero, List.set_cons_succ]
        clear hK K
        refine Upto.done (by kernel_rfl) ?_ _
        go_wp2
        (try simp only [Exit.inBlock, Exit.then])
        (first | refine bodyPost_ret (S.results rfl _ _ rfl 0 _ rfl _ Try.underlying30 rfl (by first | exact szIV _ | exact szA _ rfl)) rfl ?_ | refine bodyPost_ret (S.results rfl _ _ rfl 1 _ rfl _ Try.underlying30 rfl (by first | exact szIV _ | exact szA _ rfl)) rfl ?_)
        exact ⟨rfl, S.low⟩
      · rw [show ((1 * 2097152 : Nat) : Int) = 2097152 from rfl] at k21_1
        replace hJ : R = checkedI (manyI true g16_4 g0_16 true true) (mayL true g0_16 g16_4 true) x := hJ
        have CM := CL true true true
        clear CL
        obtain ⟨ok, hok⟩ : ∃ ok, mayL true g0_16 g16_4 true = ok := ⟨_, rfl⟩
        rw [hok] at hJ CM
        clear hok
        rw [hJ]
        clear hJ
        go_enter Try.func20, Try.ntmps20
        have S := SH.start w
        go_wp2_with (first
          | ((with_reducible refine wpl_isDst 2 ?_); (first | refine S.alloc rfl 30 rfl (Cel.any zeroL) zeroA ?_ | refine SH.alloc (L := []) S rfl 30 rfl (Cel.any zeroL) zeroA ?_); clear S; intro b2 w2 S)
          | (go_at_call 46; first | (with_reducible refine (F16_4.out _).mono ?_; rintro e wf ⟨rfl, hbf⟩; replace S := S.below hbf; clear hbf) | (with_reducible refine (F0_16.out _).mono ?_; rintro e wf ⟨rfl, hbf⟩; replace S := S.below hbf; clear hbf))
          | (go_at_call 45; refine (start_c _ _ _ _).mono ?_; rintro e wf ⟨rfl, hbf⟩; replace S := S.below hbf; clear hbf)
          | ((with_reducible refine wpl_isDst 3 ?_); (first | refine S.alloc rfl 30 rfl (Cel.any zeroL) zeroA ?_ | refine SH.alloc (L := []) S rfl 30 rfl (Cel.any zeroL) zeroA ?_); clear S; intro b3 w3 S)
          | ((with_reducible refine wpl_isStoreAt 3 ?_); (first | refine S.storeA rfl 30 _ _ rfl b3 _ rfl rfl 0 _ rfl rfl rfl (szA _ rfl) ?_ | refine S.storeA rfl 30 _ _ rfl b3 _ rfl rfl 1 _ rfl rfl rfl (szA _ rfl) ?_); clear S; intro w2 S; (simp only [Cel.cells, IV.cellsL, zeroL, List.set_cons_zero, List.set_cons_succ, startI, secondI, noneI, manyI] at S))
          | ((with_reducible refine wpl_isStoreAt 12 ?_); (first | refine S.store1 rfl 3 _ _ rfl b3 12 (.int _ _) rfl rfl 0 _ rfl rfl (of_decide_eq_true rfl) (Cel.any _) rfl (by kernel_rfl) ?_ | refine S.store1 rfl 3 _ _ rfl b3 12 (.int _ _) rfl rfl 1 _ rfl rfl (of_decide_eq_true rfl) (Cel.any _) rfl (by kernel_rfl) ?_); clear S; intro w2 S; (simp only [Cel.cells, IV.cellsL, zeroL, List.set_cons_zero, List.set_cons_succ, startI, secondI, noneI, manyI] at S))
          | ((with_reducible refine wpl_isStoreAt 13 ?_); (first | refine S.store1 rfl 4 _ _ rfl b3 13 (.bool _) rfl rfl 0 _ rfl rfl (of_decide_eq_true rfl) (Cel.any _) rfl (by kernel_rfl) ?_ | refine S.store1 rfl 4 _ _ rfl b3 13 (.bool _) rfl rfl 1 _ rfl rfl (of_decide_eq_true rfl) (Cel.any _) rfl (by kernel_rfl) ?_); clear S; intro w2 S; (simp only [Cel.cells, IV.cellsL, zeroL, List.set_cons_zero, List.set_cons_succ, startI, secondI, noneI, manyI] at S))
          | ((with_reducible refine wpl_isStoreAt 17 ?_); (first | refine S.store1 rfl 3 _ _ rfl b3 0 (.int _ _) rfl rfl 0 _ rfl rfl (of_decide_eq_true rfl) (Cel.any _) rfl (by kernel_rfl) ?_ | refine S.store1 rfl 3 _ _ rfl b3 0 (.int _ _) rfl rfl 1 _ rfl rfl (of_decide_eq_true rfl) (Cel.any _) rfl (by kernel_rfl) ?_); clear S; intro w2 S; (simp only [Cel.cells, IV.cellsL, zeroL, List.set_cons_zero, List.set_cons_succ, startI, secondI, noneI, manyI] at S))
          | ((with_reducible refine wpl_isStoreAt 29 ?_); (first | refine S.store1 rfl 4 _ _ rfl b3 14 (.bool _) rfl rfl 0 _ rfl rfl (of_decide_eq_true rfl) (Cel.any _) rfl (by kernel_rfl) ?_ | refine S.store1 rfl 4 _ _ rfl b3 14 (.bool _) rfl rfl 1 _ rfl rfl (of_decide_eq_true rfl) (Cel.any _) rfl (by kernel_rfl) ?_); clear S; intro w2 S; (simp only [Cel.cells, IV.cellsL, zeroL, List.set_cons_zero, List.set_cons_succ, startI, secondI, noneI, manyI] at S)))
        refine Upto.start (S := fun w' => SH noZ w w' [(b3, Cel.any [.int .i64 52, .bool true, .bool false, .int .i64 14, .int .i64 0, .int .i64 g16_4, .int .i64 0, .int .i64 0, .int .u32 0, .bool false, .int .i64 0, .int .i64 0, .int .i64 g0_16, .bool true, .bool true]), (b2, Cel.any [.int .i64 0, .bool false, .bool false, .int .i64 0, .int .i64 0, .int .i64 0, .int .i64 0, .int .i64 0, .int .u32 0, .bool false, .int .i64 0, .int .i64 0, .int .i64 0, .bool false, .bool false])]) 5 (by kernel_rfl) ?_
        replace S := S.drew
        refine Upto.take (i := 0) (oi := { dst := some 30, op := Op.load 30 (Operand.tmp 3), type := 30, pos := "wide.go:466", after := #[], guard := none }) (v := _) rfl (by kernel_rfl) (by kernel_rfl) (by kernel_rfl) (by kernel_rfl) (fun _ _ _ h => h) (y_loadAll (by rfl) _ _ rfl _ rfl 0 _ rfl _ Try.underlying30 rfl (szA _ rfl)) (by exact S) ?_
        simp only [Act.put, List.setIfInBounds_toArray, List.set_cons_zero, List.set_cons_succ]
        refine Upto.take (i := 1) (oi := { dst := some 31, op := Op.load 30 (Operand.tmp 3), type := 30, pos := "wide.go:466", after := #[], guard := none }) (v := _) rfl (by kernel_rfl) (by kernel_rfl) (by kernel_rfl) (by kernel_rfl) (fun _ _ _ h => h) (y_loadAll (by rfl) _ _ rfl _ rfl 0 _ rfl _ Try.underlying30 rfl (szA _ rfl)) (by exact S) ?_
        simp only [Act.put, List.setIfInBounds_toArray, List.set_cons_zero, List.set_cons_succ]
        refine Upto.take (i := 3) (oi := { dst := some 33, op := Op.move (Operand.tmp 0), type := 28, pos := "wide.go:466", after := #[], guard := none }) (v := ?_) rfl (by kernel_rfl) (by kernel_rfl) (by kernel_rfl) (by kernel_rfl) (fun _ _ _ h => h) (Or.inl ⟨by rfl, ?_⟩) (by exact S) ?_
        rotate_left 1
        · intro w hSw
          clear hSw
          go_simp
          try with_reducible rfl
        simp only [Act.put, List.setIfInBounds_toArray, List.set_cons_zero, List.set_cons_succ]
        refine Upto.ready (rs := [2]) (by kernel_rfl) (by simp) ?_
        refine Nexts.cons rfl (by decide) (fun K hK => ?_) Nexts.nil
        go_simp
        go_wp2_with (go_at_call 48; refine (CM.out _).mono ?_; rintro e wf ⟨rfl, hbf⟩; replace S := S.below hbf; clear hbf)
        refine hK.out _ _ (by exact S) ?_
        clear hK K
        refine Upto.ready (rs := [4]) (by kernel_rfl) (by simp) ?_
        refine Nexts.cons rfl (by decide) (fun K hK => ?_) Nexts.nil
        go_simp
        go_wp2_with (go_at_call 47; refine (checked_c (manyI true g16_4 g0_16 true true) ok x hx _).mono ?_; rintro e wf ⟨rfl, hbf⟩; replace S := S.below hbf; clear hbf)
        refine hK.out _ _ (by exact S) ?_
        clear hK K
        refine Upto.ready (rs := [5]) (by kernel_rfl) (by simp) ?_
        refine Nexts.last rfl (fun K hK => ?_)
        refine S.wpStoreAll 30 _ _ rfl b2 (Cel.iv (checkedI (manyI true g16_4 g0_16 true true) ok x)) rfl rfl 1 _ rfl rfl (one_iv _) (szIV _) ?_
        clear S
        intro w9 S
        simp only [List.set_cons_zero, List.set_cons_succ] at S
        refine hK.out _ _ ?_
        simp only [Act.put, List.setIfInBounds_toArray, List.set_cons_zero, List.set_cons_succ]
        clear hK K
        refine Upto.done (by kernel_rfl) ?_ _
        go_wp2
        (try simp only [Exit.inBlock, Exit.then])
        (first | refine bodyPost_ret (S.results rfl _ _ rfl 0 _ rfl _ Try.underlying30 rfl (by first | exact szIV _ | exact szA _ rfl)) rfl ?_ | refine bodyPost_ret (S.results rfl _ _ rfl 1 _ rfl _ Try.underlying30 rfl (by first | exact szIV _ | exact szA _ rfl)) rfl ?_)
        exact ⟨rfl, S.low⟩
  · have y2 : Nat.beq g22 2 = false := by rw [nbeq]; simp; omega
    have y4 : Nat.beq g22 4 = false := by rw [nbeq]; simp; omega
    have z2 : ((((g22 * 4194304 : Nat) : Int)) == 8388608) = false := by simp; omega
    have z4 : ((((g22 * 4194304 : Nat) : Int)) == 16777216) = false := by simp; omega
    rw [y2, y4] at hJ
    clear y2 y4 h2 h4 f22 CL
    obtain ⟨y, hy⟩ : ∃ y : Int, ((g22 * 4194304 : Nat) : Int) = y := ⟨_, rfl⟩
    rw [hy] at k22 z2 z4
    clear hy
    rcases (show g20_1 = 0 ∨ g20_1 = 1 by omega) with rfl | rfl
    · rw [show ((0 * 1048576 : Nat) : Int) = 0 from rfl] at k20_1
      rcases (show g21_1 = 0 ∨ g21_1 = 1 by omega) with rfl | rfl
      · rw [show ((0 * 2097152 : Nat) : Int) = 0 from rfl] at k21_1
        replace hJ : R = noneI 64 x := hJ
        rw [hJ]
        clear hJ
        go_enter Try.func20, Try.ntmps20
        have S := SH.start w
        go_wp2_with (first
          | ((with_reducible refine wpl_isDst 2 ?_); (first | refine S.alloc rfl 30 rfl (Cel.any zeroL) zeroA ?_ | refine SH.alloc (L := []) S rfl 30 rfl (Cel.any zeroL) zeroA ?_); clear S; intro b2 w2 S)
          | (go_at_call 46; first | (with_reducible refine (F16_4.out _).mono ?_; rintro e wf ⟨rfl, hbf⟩; replace S := S.below hbf; clear hbf) | (with_reducible refine (F0_16.out _).mono ?_; rintro e wf ⟨rfl, hbf⟩; replace S := S.below hbf; clear hbf))
          | (go_at_call 45; refine (start_c _ _ _ _).mono ?_; rintro e wf ⟨rfl, hbf⟩; replace S := S.below hbf; clear hbf)
          | ((with_reducible refine wpl_isDst 3 ?_); (first | refine S.alloc rfl 30 rfl (Cel.any zeroL) zeroA ?_ | refine SH.alloc (L := []) S rfl 30 rfl (Cel.any zeroL) zeroA ?_); clear S; intro b3 w3 S)
          | ((with_reducible refine wpl_isStoreAt 3 ?_); (first | refine S.storeA rfl 30 _ _ rfl b3 _ rfl rfl 0 _ rfl rfl rfl (szA _ rfl) ?_ | refine S.storeA rfl 30 _ _ rfl b3 _ rfl rfl 1 _ rfl rfl rfl (szA _ rfl) ?_); clear S; intro w2 S; (simp only [Cel.cells, IV.cellsL, zeroL, List.set_cons_zero, List.set_cons_succ, startI, secondI, noneI, manyI] at S))
          | ((with_reducible refine wpl_isStoreAt 12 ?_); (first | refine S.store1 rfl 3 _ _ rfl b3 12 (.int _ _) rfl rfl 0 _ rfl rfl (of_decide_eq_true rfl) (Cel.any _) rfl (by kernel_rfl) ?_ | refine S.store1 rfl 3 _ _ rfl b3 12 (.int _ _) rfl rfl 1 _ rfl rfl (of_decide_eq_true rfl) (Cel.any _) rfl (by kernel_rfl) ?_); clear S; intro w2 S; (simp only [Cel.cells, IV.cellsL, zeroL, List.set_cons_zero, List.set_cons_succ, startI, secondI, noneI, manyI] at S))
          | ((with_reducible refine wpl_isStoreAt 13 ?_); (first | refine S.store1 rfl 4 _ _ rfl b3 13 (.bool _) rfl rfl 0 _ rfl rfl (of_decide_eq_true rfl) (Cel.any _) rfl (by kernel_rfl) ?_ | refine S.store1 rfl 4 _ _ rfl b3 13 (.bool _) rfl rfl 1 _ rfl rfl (of_decide_eq_true rfl) (Cel.any _) rfl (by kernel_rfl) ?_); clear S; intro w2 S; (simp only [Cel.cells, IV.cellsL, zeroL, List.set_cons_zero, List.set_cons_succ, startI, secondI, noneI, manyI] at S))
          | (go_at_call 13; refine (none_c 64 x hx _).mono ?_; rintro e wf ⟨rfl, hbf⟩; replace S := S.below hbf; clear hbf)
          | ((with_reducible refine wpl_isStoreAt 2 ?_); (first | refine S.storeA rfl 30 _ _ rfl b2 _ rfl rfl 0 _ rfl rfl rfl (szA _ rfl) ?_ | refine S.storeA rfl 30 _ _ rfl b2 _ rfl rfl 1 _ rfl rfl rfl (szA _ rfl) ?_); clear S; intro w2 S; (simp only [Cel.cells, IV.cellsL, zeroL, List.set_cons_zero, List.set_cons_succ, startI, secondI, noneI, manyI] at S)))
        (try simp only [Exit.inBlock, Exit.then])
        (first | refine bodyPost_ret (S.results rfl _ _ rfl 0 _ rfl _ Try.underlying30 rfl (szA _ rfl)) rfl ?_ | refine bodyPost_ret (S.results rfl _ _ rfl 1 _ rfl _ Try.underlying30 rfl (szA _ rfl)) rfl ?_)
        exact ⟨rfl, S.low⟩
      · rw [show ((1 * 2097152 : Nat) : Int) = 2097152 from rfl] at k21_1
        replace hJ : R = noneI 64 x := hJ
        rw [hJ]
        clear hJ
        go_enter Try.func20, Try.ntmps20
        have S := SH.start w
        go_wp2_with (first
          | ((with_reducible refine wpl_isDst 2 ?_); (first | refine S.alloc rfl 30 rfl (Cel.any zeroL) zeroA ?_ | refine SH.alloc (L := []) S rfl 30 rfl (Cel.any zeroL) zeroA ?_); clear S; intro b2 w2 S)
          | (go_at_call 46; first | (with_reducible refine (F16_4.out _).mono ?_; rintro e wf ⟨rfl, hbf⟩; replace S := S.below hbf; clear hbf) | (with_reducible refine (F0_16.out _).mono ?_; rintro e wf ⟨rfl, hbf⟩; replace S := S.below hbf; clear hbf))
          | (go_at_call 45; refine (start_c _ _ _ _).mono ?_; rintro e wf ⟨rfl, hbf⟩; replace S := S.below hbf; clear hbf)
          | ((with_reducible refine wpl_isDst 3 ?_); (first | refine S.alloc rfl 30 rfl (Cel.any zeroL) zeroA ?_ | refine SH.alloc (L := []) S rfl 30 rfl (Cel.any zeroL) zeroA ?_); clear S; intro b3 w3 S)
          | ((with_reducible refine wpl_isStoreAt 3 ?_); (first | refine S.storeA rfl 30 _ _ rfl b3 _ rfl rfl 0 _ rfl rfl rfl (szA _ rfl) ?_ | refine S.storeA rfl 30 _ _ rfl b3 _ rfl rfl 1 _ rfl rfl rfl (szA _ rfl) ?_); clear S; intro w2 S; (simp only [Cel.cells, IV.cellsL, zeroL, List.set_cons_zero, List.set_cons_succ, startI, secondI, noneI, manyI] at S))
          | ((with_reducible refine wpl_isStoreAt 12 ?_); (first | refine S.store1 rfl 3 _ _ rfl b3 12 (.int _ _) rfl rfl 0 _ rfl rfl (of_decide_eq_true rfl) (Cel.any _) rfl (by kernel_rfl) ?_ | refine S.store1 rfl 3 _ _ rfl b3 12 (.int _ _) rfl rfl 1 _ rfl rfl (of_decide_eq_true rfl) (Cel.any _) rfl (by kernel_rfl) ?_); clear S; intro w2 S; (simp only [Cel.cells, IV.cellsL, zeroL, List.set_cons_zero, List.set_cons_succ, startI, secondI, noneI, manyI] at S))
          | ((with_reducible refine wpl_isStoreAt 13 ?_); (first | refine S.store1 rfl 4 _ _ rfl b3 13 (.bool _) rfl rfl 0 _ rfl rfl (of_decide_eq_true rfl) (Cel.any _) rfl (by kernel_rfl) ?_ | refine S.store1 rfl 4 _ _ rfl b3 13 (.bool _) rfl rfl 1 _ rfl rfl (of_decide_eq_true rfl) (Cel.any _) rfl (by kernel_rfl) ?_); clear S; intro w2 S; (simp only [Cel.cells, IV.cellsL, zeroL, List.set_cons_zero, List.set_cons_succ, startI, secondI, noneI, manyI] at S))
          | (go_at_call 13; refine (none_c 64 x hx _).mono ?_; rintro e wf ⟨rfl, hbf⟩; replace S := S.below hbf; clear hbf)
          | ((with_reducible refine wpl_isStoreAt 2 ?_); (first | refine S.storeA rfl 30 _ _ rfl b2 _ rfl rfl 0 _ rfl rfl rfl (szA _ rfl) ?_ | refine S.storeA rfl 30 _ _ rfl b2 _ rfl rfl 1 _ rfl rfl rfl (szA _ rfl) ?_); clear S; intro w2 S; (simp only [Cel.cells, IV.cellsL, zeroL, List.set_cons_zero, List.set_cons_succ, startI, secondI, noneI, manyI] at S)))
        (try simp only [Exit.inBlock, Exit.then])
        (first | refine bodyPost_ret (S.results rfl _ _ rfl 0 _ rfl _ Try.underlying30 rfl (szA _ rfl)) rfl ?_ | refine bodyPost_ret (S.results rfl _ _ rfl 1 _ rfl _ Try.underlying30 rfl (szA _ rfl)) rfl ?_)
        exact ⟨rfl, S.low⟩
    · rw [show ((1 * 1048576 : Nat) : Int) = 1048576 from rfl] at k20_1
      rcases (show g21_1 = 0 ∨ g21_1 = 1 by omega) with rfl | rfl
      · rw [show ((0 * 2097152 : Nat) : Int) = 0 from rfl] at k21_1
        replace hJ : R = noneI 64 x := hJ
        rw [hJ]
        clear hJ
        go_enter Try.func20, Try.ntmps20
        have S := SH.start w
        go_wp2_with (first
          | ((with_reducible refine wpl_isDst 2 ?_); (first | refine S.alloc rfl 30 rfl (Cel.any zeroL) zeroA ?_ | refine SH.alloc (L := []) S rfl 30 rfl (Cel.any zeroL) zeroA ?_); clear S; intro b2 w2 S)
          | (go_at_call 46; first | (with_reducible refine (F16_4.out _).mono ?_; rintro e wf ⟨rfl, hbf⟩; replace S := S.below hbf; clear hbf) | (with_reducible refine (F0_16.out _).mono ?_; rintro e wf ⟨rfl, hbf⟩; replace S := S.below hbf; clear hbf))
          | (go_at_call 45; refine (start_c _ _ _ _).mono ?_; rintro e wf ⟨rfl, hbf⟩; replace S := S.below hbf; clear hbf)
          | ((with_reducible refine wpl_isDst 3 ?_); (first | refine S.alloc rfl 30 rfl (Cel.any zeroL) zeroA ?_ | refine SH.alloc (L := []) S rfl 30 rfl (Cel.any zeroL) zeroA ?_); clear S; intro b3 w3 S)
          | ((with_reducible refine wpl_isStoreAt 3 ?_); (first | refine S.storeA rfl 30 _ _ rfl b3 _ rfl rfl 0 _ rfl rfl rfl (szA _ rfl) ?_ | refine S.storeA rfl 30 _ _ rfl b3 _ rfl rfl 1 _ rfl rfl rfl (szA _ rfl) ?_); clear S; intro w2 S; (simp only [Cel.cells, IV.cellsL, zeroL, List.set_cons_zero, List.set_cons_succ, startI, secondI, noneI, manyI] at S))
          | ((with_reducible refine wpl_isStoreAt 12 ?_); (first | refine S.store1 rfl 3 _ _ rfl b3 12 (.int _ _) rfl rfl 0 _ rfl rfl (of_decide_eq_true rfl) (Cel.any _) rfl (by kernel_rfl) ?_ | refine S.store1 rfl 3 _ _ rfl b3 12 (.int _ _) rfl rfl 1 _ rfl rfl (of_decide_eq_true rfl) (Cel.any _) rfl (by kernel_rfl) ?_); clear S; intro w2 S; (simp only [Cel.cells, IV.cellsL, zeroL, List.set_cons_zero, List.set_cons_succ, startI, secondI, noneI, manyI] at S))
          | ((with_reducible refine wpl_isStoreAt 13 ?_); (first | refine S.store1 rfl 4 _ _ rfl b3 13 (.bool _) rfl rfl 0 _ rfl rfl (of_decide_eq_true rfl) (Cel.any _) rfl (by kernel_rfl) ?_ | refine S.store1 rfl 4 _ _ rfl b3 13 (.bool _) rfl rfl 1 _ rfl rfl (of_decide_eq_true rfl) (Cel.any _) rfl (by kernel_rfl) ?_); clear S; intro w2 S; (simp only [Cel.cells, IV.cellsL, zeroL, List.set_cons_zero, List.set_cons_succ, startI, secondI, noneI, manyI] at S))
          | ((with_reducible refine wpl_isStoreAt 17 ?_); (first | refine S.store1 rfl 3 _ _ rfl b3 0 (.int _ _) rfl rfl 0 _ rfl rfl (of_decide_eq_true rfl) (Cel.any _) rfl (by kernel_rfl) ?_ | refine S.store1 rfl 3 _ _ rfl b3 0 (.int _ _) rfl rfl 1 _ rfl rfl (of_decide_eq_true rfl) (Cel.any _) rfl (by kernel_rfl) ?_); clear S; intro w2 S; (simp only [Cel.cells, IV.cellsL, zeroL, List.set_cons_zero, List.set_cons_succ, startI, secondI, noneI, manyI] at S))
          | (go_at_call 13; refine (none_c 64 x hx _).mono ?_; rintro e wf ⟨rfl, hbf⟩; replace S := S.below hbf; clear hbf)
          | ((with_reducible refine wpl_isStoreAt 2 ?_); (first | refine S.storeA rfl 30 _ _ rfl b2 _ rfl rfl 0 _ rfl rfl rfl (szA _ rfl) ?_ | refine S.storeA rfl 30 _ _ rfl b2 _ rfl rfl 1 _ rfl rfl rfl (szA _ rfl) ?_); clear S; intro w2 S; (simp only [Cel.cells, IV.cellsL, zeroL, List.set_cons_zero, List.set_cons_succ, startI, secondI, noneI, manyI] at S)))
        (try simp only [Exit.inBlock, Exit.then])
        (first | refine bodyPost_ret (S.results rfl _ _ rfl 0 _ rfl _ Try.underlying30 rfl (szA _ rfl)) rfl ?_ | refine bodyPost_ret (S.results rfl _ _ rfl 1 _ rfl _ Try.underlying30 rfl (szA _ rfl)) rfl ?_)
        exact ⟨rfl, S.low⟩
      · rw [show ((1 * 2097152 : Nat) : Int) = 2097152 from rfl] at k21_1
        replace hJ : R = noneI 64 x := hJ
        rw [hJ]
        clear hJ
        go_enter Try.func20, Try.ntmps20
        have S := SH.start w
        go_wp2_with (first
          | ((with_reducible refine wpl_isDst 2 ?_); (first | refine S.alloc rfl 30 rfl (Cel.any zeroL) zeroA ?_ | refine SH.alloc (L := []) S rfl 30 rfl (Cel.any zeroL) zeroA ?_); clear S; intro b2 w2 S)
          | (go_at_call 46; first | (with_reducible refine (F16_4.out _).mono ?_; rintro e wf ⟨rfl, hbf⟩; replace S := S.below hbf; clear hbf) | (with_reducible refine (F0_16.out _).mono ?_; rintro e wf ⟨rfl, hbf⟩; replace S := S.below hbf; clear hbf))
          | (go_at_call 45; refine (start_c _ _ _ _).mono ?_; rintro e wf ⟨rfl, hbf⟩; replace S := S.below hbf; clear hbf)
          | ((with_reducible refine wpl_isDst 3 ?_); (first | refine S.alloc rfl 30 rfl (Cel.any zeroL) zeroA ?_ | refine SH.alloc (L := []) S rfl 30 rfl (Cel.any zeroL) zeroA ?_); clear S; intro b3 w3 S)
          | ((with_reducible refine wpl_isStoreAt 3 ?_); (first | refine S.storeA rfl 30 _ _ rfl b3 _ rfl rfl 0 _ rfl rfl rfl (szA _ rfl) ?_ | refine S.storeA rfl 30 _ _ rfl b3 _ rfl rfl 1 _ rfl rfl rfl (szA _ rfl) ?_); clear S; intro w2 S; (simp only [Cel.cells, IV.cellsL, zeroL, List.set_cons_zero, List.set_cons_succ, startI, secondI, noneI, manyI] at S))
          | ((with_reducible refine wpl_isStoreAt 12 ?_); (first | refine S.store1 rfl 3 _ _ rfl b3 12 (.int _ _) rfl rfl 0 _ rfl rfl (of_decide_eq_true rfl) (Cel.any _) rfl (by kernel_rfl) ?_ | refine S.store1 rfl 3 _ _ rfl b3 12 (.int _ _) rfl rfl 1 _ rfl rfl (of_decide_eq_true rfl) (Cel.any _) rfl (by kernel_rfl) ?_); clear S; intro w2 S; (simp only [Cel.cells, IV.cellsL, zeroL, List.set_cons_zero, List.set_cons_succ, startI, secondI, noneI, manyI] at S))
          | ((with_reducible refine wpl_isStoreAt 13 ?_); (first | refine S.store1 rfl 4 _ _ rfl b3 13 (.bool _) rfl rfl 0 _ rfl rfl (of_decide_eq_true rfl) (Cel.any _) rfl (by kernel_rfl) ?_ | refine S.store1 rfl 4 _ _ rfl b3 13 (.bool _) rfl rfl 1 _ rfl rfl (of_decide_eq_true rfl) (Cel.any _) rfl (by kernel_rfl) ?_); clear S; intro w2 S; (simp only [Cel.cells, IV.cellsL, zeroL, List.set_cons_zero, List.set_cons_succ, startI, secondI, noneI, manyI] at S))
          | ((with_reducible refine wpl_isStoreAt 17 ?_); (first | refine S.store1 rfl 3 _ _ rfl b3 0 (.int _ _) rfl rfl 0 _ rfl rfl (of_decide_eq_true rfl) (Cel.any _) rfl (by kernel_rfl) ?_ | refine S.store1 rfl 3 _ _ rfl b3 0 (.int _ _) rfl rfl 1 _ rfl rfl (of_decide_eq_true rfl) (Cel.any _) rfl (by kernel_rfl) ?_); clear S; intro w2 S; (simp only [Cel.cells, IV.cellsL, zeroL, List.set_cons_zero, List.set_cons_succ, startI, secondI, noneI, manyI] at S))
          | (go_at_call 13; refine (none_c 64 x hx _).mono ?_; rintro e wf ⟨rfl, hbf⟩; replace S := S.below hbf; clear hbf)
          | ((with_reducible refine wpl_isStoreAt 2 ?_); (first | refine S.storeA rfl 30 _ _ rfl b2 _ rfl rfl 0 _ rfl rfl rfl (szA _ rfl) ?_ | refine S.storeA rfl 30 _ _ rfl b2 _ rfl rfl 1 _ rfl rfl rfl (szA _ rfl) ?_); clear S; intro w2 S; (simp only [Cel.cells, IV.cellsL, zeroL, List.set_cons_zero, List.set_cons_succ, startI, secondI, noneI, manyI] at S)))
        (try simp only [Exit.inBlock, Exit.then])
        (first | refine bodyPost_ret (S.results rfl _ _ rfl 0 _ rfl _ Try.underlying30 rfl (szA _ rfl)) rfl ?_ | refine bodyPost_ret (S.results rfl _ _ rfl 1 _ rfl _ Try.underlying30 rfl (szA _ rfl)) rfl ?_)
        exact ⟨rfl, S.low⟩
end Go.Proofs.Ytigmekboikgoaaa
