/- Stage 9: plain numbers. -/
import Derived.Test.YtigmekboikgoaaaWe3
namespace Go.Proofs.Ytigmekboikgoaaa
open Go.ChangeShapes Go.WideShapes Go.ChangeAt Go.RowKit
set_option linter.unusedVariables false
set_option linter.unusedSimpArgs false

set_option maxHeartbeats 4000000 in
set_option maxRecDepth 100000 in
theorem plain9_c (x : Nat) (hx : x < 4294967296) (w : World) : Calls Try.prog 23 #[.int .u32 x] w fun e w' => Says w (plaX x) e w' := by
  unfold Says
  have k20 : bits .and .u32 (x : Int) 32505856 = ((fd x 20 5 * 1048576 : Nat) : Int) := u32_mid x 20 5 32505856 hx rfl (by decide)
  have f20 : fd x 20 5 < 32 := fd_lt x 20 5
  have hN := numX_lt x
  have CN : Hid (∀ w, Calls Try.prog 51 #[.int .u32 x] w fun e w' => e = .returned (.int .u32 (numX x : Nat)) ∧ Below w.heap.size w w') := number_c x hx
  have F8_4 : Hid (∀ w, Calls Try.prog 46 #[.int .u32 x, .int .i64 8, .int .i64 4] w fun e w' => e = .returned (.int .i64 (fd x 8 4 : Nat)) ∧ Below w.heap.size w w') := field_8_4 x hx
  have f8_4 : fd x 8 4 < 16 := fd_lt x 8 4
  have F16_4 : Hid (∀ w, Calls Try.prog 46 #[.int .u32 x, .int .i64 16, .int .i64 4] w fun e w' => e = .returned (.int .i64 (fd x 16 4 : Nat)) ∧ Below w.heap.size w w') := field_16_4 x hx
  have f16_4 : fd x 16 4 < 16 := fd_lt x 16 4
  rcases (show fd x 20 5 = 0 ∨ fd x 20 5 = 10 ∨ fd x 20 5 = 4 ∨ fd x 20 5 = 12 ∨ fd x 20 5 = 20 ∨ fd x 20 5 = 28 ∨ fd x 20 5 = 22 ∨ (fd x 20 5 ≠ 0 ∧ fd x 20 5 ≠ 10 ∧ fd x 20 5 ≠ 4 ∧ fd x 20 5 ≠ 12 ∧ fd x 20 5 ≠ 20 ∧ fd x 20 5 ≠ 28 ∧ fd x 20 5 ≠ 22) by omega) with h | h | h | h | h | h | h | h
  · have hR : plaX x = checkedI (secondI (startI 5 (fd x 8 4 : Nat) (fd x 16 4 : Nat)) (numX x : Nat) 2) true x := by unfold plaX; rw [h]; rfl
    rw [hR]
    clear hR
    rw [h, show ((0 * 1048576 : Nat) : Int) = 0 from rfl] at k20
    clear h f20
    have j1 : bits .or .u32 (((fd x 16 4) : Int) * 4096) ((numX x) : Int) = (((fd x 16 4) * 4096 + (numX x) : Nat) : Int) := u32_join ((fd x 16 4) * 4096) (numX x) 12 (by omega) (by omega) (by omega) (by omega)
    have jw : (((fd x 16 4) : Int) * 4096) % 4294967296 = ((fd x 16 4) : Int) * 4096 := by omega
    generalize fd x 8 4 = g8_4 at *
    generalize fd x 16 4 = g16_4 at *
    generalize numX x = N at *
    have n0 : (0 : Int) ≤ (g16_4 : Int) := by omega
    go_enter Try.func23, Try.ntmps23
    have S := SH.start w
    go_wp2_with (first
      | ((with_reducible refine wpl_isDst 2 ?_); (first | refine S.alloc rfl 30 rfl (Cel.any zeroL) zeroA ?_ | refine SH.alloc (L := []) S rfl 30 rfl (Cel.any zeroL) zeroA ?_); clear S; intro b2 w2 S)
      | (go_at_call 46; first | (with_reducible refine (F8_4.out _).mono ?_; rintro e wf ⟨rfl, hbf⟩; replace S := S.below hbf; clear hbf) | (with_reducible refine (F16_4.out _).mono ?_; rintro e wf ⟨rfl, hbf⟩; replace S := S.below hbf; clear hbf))
      | (go_at_call 51; refine (CN.out _).mono ?_; rintro e wf ⟨rfl, hbf⟩; replace S := S.below hbf; clear hbf)
      | (go_at_call 45; refine (start_c _ _ _ _).mono ?_; rintro e wf ⟨rfl, hbf⟩; replace S := S.below hbf; clear hbf)
      | (go_at_call 53; refine (sec_c _ _ _ _).mono ?_; rintro e wf ⟨rfl, hbf⟩; replace S := S.below hbf; clear hbf)
      | (go_at_call 47; refine (checked_c _ true x hx _).mono ?_; rintro e wf ⟨rfl, hbf⟩; replace S := S.below hbf; clear hbf)
      | ((with_reducible refine wpl_isStoreAt 2 ?_); (first | refine S.storeA rfl 30 _ _ rfl b2 _ rfl rfl 0 _ rfl rfl rfl (szA _ rfl) ?_ | refine S.storeA rfl 30 _ _ rfl b2 _ rfl rfl 1 _ rfl rfl rfl (szA _ rfl) ?_); clear S; intro w2 S; (simp only [Cel.cells, IV.cellsL, zeroL, List.set_cons_zero, List.set_cons_succ, startI, secondI, noneI] at S))
      | ((with_reducible refine wpl_isDst 7 ?_); (first | refine S.alloc rfl 30 rfl (Cel.any zeroL) zeroA ?_ | refine SH.alloc (L := []) S rfl 30 rfl (Cel.any zeroL) zeroA ?_); clear S; intro b7 w7 S)
      | ((with_reducible refine wpl_isStoreAt 7 ?_); (first | refine S.storeA rfl 30 _ _ rfl b7 _ rfl rfl 0 _ rfl rfl rfl (szA _ rfl) ?_ | refine S.storeA rfl 30 _ _ rfl b7 _ rfl rfl 1 _ rfl rfl rfl (szA _ rfl) ?_); clear S; intro w2 S; (simp only [Cel.cells, IV.cellsL, zeroL, List.set_cons_zero, List.set_cons_succ, startI, secondI, noneI] at S))
      | ((with_reducible refine wpl_isStoreAt 52 ?_); (first | refine S.store1 rfl 28 _ _ rfl b7 8 _ rfl rfl 0 _ rfl rfl (of_decide_eq_true rfl) (Cel.any _) rfl (by kernel_rfl) ?_ | refine S.store1 rfl 28 _ _ rfl b7 8 _ rfl rfl 1 _ rfl rfl (of_decide_eq_true rfl) (Cel.any _) rfl (by kernel_rfl) ?_); clear S; intro w2 S; (simp only [Cel.cells, IV.cellsL, zeroL, List.set_cons_zero, List.set_cons_succ, startI, secondI, noneI] at S))
      | ((with_reducible refine wpl_isDst 53 ?_); (first | refine S.ldAll 30 _ rfl b7 rfl 0 _ rfl _ Try.underlying30 rfl (szA _ rfl) rfl ?_ | refine S.ldAll 30 _ rfl b7 rfl 1 _ rfl _ Try.underlying30 rfl (szA _ rfl) rfl ?_)))
    (try simp only [Exit.inBlock, Exit.then])
    (first | refine bodyPost_ret (S.results rfl _ _ rfl 0 _ rfl _ Try.underlying30 rfl (szA _ rfl)) rfl ?_ | refine bodyPost_ret (S.results rfl _ _ rfl 1 _ rfl _ Try.underlying30 rfl (szA _ rfl)) rfl ?_)
    exact ⟨rfl, S.low⟩
  · have hR : plaX x = checkedI (secondI (startI 3 (fd x 8 4 : Nat) (fd x 16 4 : Nat)) (numX x : Nat) 2) true x := by unfold plaX; rw [h]; rfl
    rw [hR]
    clear hR
    rw [h, show ((10 * 1048576 : Nat) : Int) = 10485760 from rfl] at k20
    clear h f20
    have j1 : bits .or .u32 (((fd x 16 4) : Int) * 4096) ((numX x) : Int) = (((fd x 16 4) * 4096 + (numX x) : Nat) : Int) := u32_join ((fd x 16 4) * 4096) (numX x) 12 (by omega) (by omega) (by omega) (by omega)
    have jw : (((fd x 16 4) : Int) * 4096) % 4294967296 = ((fd x 16 4) : Int) * 4096 := by omega
    generalize fd x 8 4 = g8_4 at *
    generalize fd x 16 4 = g16_4 at *
    generalize numX x = N at *
    have n0 : (0 : Int) ≤ (g16_4 : Int) := by omega
    go_enter Try.func23, Try.ntmps23
    have S := SH.start w
    go_wp2_with (first
      | ((with_reducible refine wpl_isDst 2 ?_); (first | refine S.alloc rfl 30 rfl (Cel.any zeroL) zeroA ?_ | refine SH.alloc (L := []) S rfl 30 rfl (Cel.any zeroL) zeroA ?_); clear S; intro b2 w2 S)
      | (go_at_call 46; first | (with_reducible refine (F8_4.out _).mono ?_; rintro e wf ⟨rfl, hbf⟩; replace S := S.below hbf; clear hbf) | (with_reducible refine (F16_4.out _).mono ?_; rintro e wf ⟨rfl, hbf⟩; replace S := S.below hbf; clear hbf))
      | (go_at_call 51; refine (CN.out _).mono ?_; rintro e wf ⟨rfl, hbf⟩; replace S := S.below hbf; clear hbf)
      | (go_at_call 45; refine (start_c _ _ _ _).mono ?_; rintro e wf ⟨rfl, hbf⟩; replace S := S.below hbf; clear hbf)
      | (go_at_call 53; refine (sec_c _ _ _ _).mono ?_; rintro e wf ⟨rfl, hbf⟩; replace S := S.below hbf; clear hbf)
      | (go_at_call 47; refine (checked_c _ true x hx _).mono ?_; rintro e wf ⟨rfl, hbf⟩; replace S := S.below hbf; clear hbf)
      | ((with_reducible refine wpl_isStoreAt 2 ?_); (first | refine S.storeA rfl 30 _ _ rfl b2 _ rfl rfl 0 _ rfl rfl rfl (szA _ rfl) ?_ | refine S.storeA rfl 30 _ _ rfl b2 _ rfl rfl 1 _ rfl rfl rfl (szA _ rfl) ?_); clear S; intro w2 S; (simp only [Cel.cells, IV.cellsL, zeroL, List.set_cons_zero, List.set_cons_succ, startI, secondI, noneI] at S))
      | ((with_reducible refine wpl_isDst 7 ?_); (first | refine S.alloc rfl 30 rfl (Cel.any zeroL) zeroA ?_ | refine SH.alloc (L := []) S rfl 30 rfl (Cel.any zeroL) zeroA ?_); clear S; intro b7 w7 S)
      | ((with_reducible refine wpl_isStoreAt 7 ?_); (first | refine S.storeA rfl 30 _ _ rfl b7 _ rfl rfl 0 _ rfl rfl rfl (szA _ rfl) ?_ | refine S.storeA rfl 30 _ _ rfl b7 _ rfl rfl 1 _ rfl rfl rfl (szA _ rfl) ?_); clear S; intro w2 S; (simp only [Cel.cells, IV.cellsL, zeroL, List.set_cons_zero, List.set_cons_succ, startI, secondI, noneI] at S))
      | ((with_reducible refine wpl_isStoreAt 52 ?_); (first | refine S.store1 rfl 28 _ _ rfl b7 8 _ rfl rfl 0 _ rfl rfl (of_decide_eq_true rfl) (Cel.any _) rfl (by kernel_rfl) ?_ | refine S.store1 rfl 28 _ _ rfl b7 8 _ rfl rfl 1 _ rfl rfl (of_decide_eq_true rfl) (Cel.any _) rfl (by kernel_rfl) ?_); clear S; intro w2 S; (simp only [Cel.cells, IV.cellsL, zeroL, List.set_cons_zero, List.set_cons_succ, startI, secondI, noneI] at S))
      | ((with_reducible refine wpl_isDst 53 ?_); (first | refine S.ldAll 30 _ rfl b7 rfl 0 _ rfl _ Try.underlying30 rfl (szA _ rfl) rfl ?_ | refine S.ldAll 30 _ rfl b7 rfl 1 _ rfl _ Try.underlying30 rfl (szA _ rfl) rfl ?_)))
    (try simp only [Exit.inBlock, Exit.then])
    (first | refine bodyPost_ret (S.results rfl _ _ rfl 0 _ rfl _ Try.underlying30 rfl (szA _ rfl)) rfl ?_ | refine bodyPost_ret (S.results rfl _ _ rfl 1 _ rfl _ Try.underlying30 rfl (szA _ rfl)) rfl ?_)
    exact ⟨rfl, S.low⟩
  · have hR : plaX x = checkedI (secondI (startI 13 (fd x 8 4 : Nat) 0) (fd x 16 4 * 4096 + numX x : Nat) 2) true x := by unfold plaX; rw [h]; rfl
    rw [hR]
    clear hR
    rw [h, show ((4 * 1048576 : Nat) : Int) = 4194304 from rfl] at k20
    clear h f20
    have j1 : bits .or .u32 (((fd x 16 4) : Int) * 4096) ((numX x) : Int) = (((fd x 16 4) * 4096 + (numX x) : Nat) : Int) := u32_join ((fd x 16 4) * 4096) (numX x) 12 (by omega) (by omega) (by omega) (by omega)
    have jw : (((fd x 16 4) : Int) * 4096) % 4294967296 = ((fd x 16 4) : Int) * 4096 := by omega
    rw [show ((fd x 16 4 * 4096 + numX x : Nat) : Int) = (fd x 16 4 : Int) * 4096 + (numX x : Int) by omega]
    generalize fd x 8 4 = g8_4 at *
    generalize fd x 16 4 = g16_4 at *
    generalize numX x = N at *
    have n0 : (0 : Int) ≤ (g16_4 : Int) := by omega
    go_enter Try.func23, Try.ntmps23
    have S := SH.start w
    go_wp2_with (first
      | ((with_reducible refine wpl_isDst 2 ?_); (first | refine S.alloc rfl 30 rfl (Cel.any zeroL) zeroA ?_ | refine SH.alloc (L := []) S rfl 30 rfl (Cel.any zeroL) zeroA ?_); clear S; intro b2 w2 S)
      | (go_at_call 46; first | (with_reducible refine (F8_4.out _).mono ?_; rintro e wf ⟨rfl, hbf⟩; replace S := S.below hbf; clear hbf) | (with_reducible refine (F16_4.out _).mono ?_; rintro e wf ⟨rfl, hbf⟩; replace S := S.below hbf; clear hbf))
      | (go_at_call 51; refine (CN.out _).mono ?_; rintro e wf ⟨rfl, hbf⟩; replace S := S.below hbf; clear hbf)
      | (go_at_call 45; refine (start_c _ _ _ _).mono ?_; rintro e wf ⟨rfl, hbf⟩; replace S := S.below hbf; clear hbf)
      | (go_at_call 53; refine (sec_c _ _ _ _).mono ?_; rintro e wf ⟨rfl, hbf⟩; replace S := S.below hbf; clear hbf)
      | (go_at_call 47; refine (checked_c _ true x hx _).mono ?_; rintro e wf ⟨rfl, hbf⟩; replace S := S.below hbf; clear hbf)
      | ((with_reducible refine wpl_isStoreAt 2 ?_); (first | refine S.storeA rfl 30 _ _ rfl b2 _ rfl rfl 0 _ rfl rfl rfl (szA _ rfl) ?_ | refine S.storeA rfl 30 _ _ rfl b2 _ rfl rfl 1 _ rfl rfl rfl (szA _ rfl) ?_); clear S; intro w2 S; (simp only [Cel.cells, IV.cellsL, zeroL, List.set_cons_zero, List.set_cons_succ, startI, secondI, noneI] at S))
      | ((with_reducible refine wpl_isDst 7 ?_); (first | refine S.alloc rfl 30 rfl (Cel.any zeroL) zeroA ?_ | refine SH.alloc (L := []) S rfl 30 rfl (Cel.any zeroL) zeroA ?_); clear S; intro b7 w7 S)
      | ((with_reducible refine wpl_isStoreAt 7 ?_); (first | refine S.storeA rfl 30 _ _ rfl b7 _ rfl rfl 0 _ rfl rfl rfl (szA _ rfl) ?_ | refine S.storeA rfl 30 _ _ rfl b7 _ rfl rfl 1 _ rfl rfl rfl (szA _ rfl) ?_); clear S; intro w2 S; (simp only [Cel.cells, IV.cellsL, zeroL, List.set_cons_zero, List.set_cons_succ, startI, secondI, noneI] at S))
      | ((with_reducible refine wpl_isStoreAt 52 ?_); (first | refine S.store1 rfl 28 _ _ rfl b7 8 _ rfl rfl 0 _ rfl rfl (of_decide_eq_true rfl) (Cel.any _) rfl (by kernel_rfl) ?_ | refine S.store1 rfl 28 _ _ rfl b7 8 _ rfl rfl 1 _ rfl rfl (of_decide_eq_true rfl) (Cel.any _) rfl (by kernel_rfl) ?_); clear S; intro w2 S; (simp only [Cel.cells, IV.cellsL, zeroL, List.set_cons_zero, List.set_cons_succ, startI, secondI, noneI] at S))
      | ((with_reducible refine wpl_isDst 53 ?_); (first | refine S.ldAll 30 _ rfl b7 rfl 0 _ rfl _ Try.underlying30 rfl (szA _ rfl) rfl ?_ | refine S.ldAll 30 _ rfl b7 rfl 1 _ rfl _ Try.underlying30 rfl (szA _ rfl) rfl ?_)))
    (try simp only [Exit.inBlock, Exit.then])
    (first | refine bodyPost_ret (S.results rfl _ _ rfl 0 _ rfl _ Try.underlying30 rfl (szA _ rfl)) rfl ?_ | refine bodyPost_ret (S.results rfl _ _ rfl 1 _ rfl _ Try.underlying30 rfl (szA _ rfl)) rfl ?_)
    exact ⟨rfl, S.low⟩
  · have hR : plaX x = checkedI (immI (startI 30 (fd x 8 4 : Nat) 0) (fd x 16 4 * 4096 + numX x : Nat)) true x := by unfold plaX; rw [h]; rfl
    rw [hR]
    clear hR
    rw [h, show ((12 * 1048576 : Nat) : Int) = 12582912 from rfl] at k20
    clear h f20
    have j1 : bits .or .u32 (((fd x 16 4) : Int) * 4096) ((numX x) : Int) = (((fd x 16 4) * 4096 + (numX x) : Nat) : Int) := u32_join ((fd x 16 4) * 4096) (numX x) 12 (by omega) (by omega) (by omega) (by omega)
    have jw : (((fd x 16 4) : Int) * 4096) % 4294967296 = ((fd x 16 4) : Int) * 4096 := by omega
    rw [show ((fd x 16 4 * 4096 + numX x : Nat) : Int) = (fd x 16 4 : Int) * 4096 + (numX x : Int) by omega]
    generalize fd x 8 4 = g8_4 at *
    generalize fd x 16 4 = g16_4 at *
    generalize numX x = N at *
    have n0 : (0 : Int) ≤ (g16_4 : Int) := by omega
    go_enter Try.func23, Try.ntmps23
    have S := SH.start w
    go_wp2_with (first
      | ((with_reducible refine wpl_isDst 2 ?_); (first | refine S.alloc rfl 30 rfl (Cel.any zeroL) zeroA ?_ | refine SH.alloc (L := []) S rfl 30 rfl (Cel.any zeroL) zeroA ?_); clear S; intro b2 w2 S)
      | (go_at_call 46; first | (with_reducible refine (F8_4.out _).mono ?_; rintro e wf ⟨rfl, hbf⟩; replace S := S.below hbf; clear hbf) | (with_reducible refine (F16_4.out _).mono ?_; rintro e wf ⟨rfl, hbf⟩; replace S := S.below hbf; clear hbf))
      | (go_at_call 51; refine (CN.out _).mono ?_; rintro e wf ⟨rfl, hbf⟩; replace S := S.below hbf; clear hbf)
      | (go_at_call 45; refine (start_c _ _ _ _).mono ?_; rintro e wf ⟨rfl, hbf⟩; replace S := S.below hbf; clear hbf)
      | (go_at_call 47; refine (checked_c (immI (startI 30 g8_4 0) ((g16_4 : Int) * 4096 + (N : Int))) true x hx _).mono ?_; rintro e wf ⟨rfl, hbf⟩; replace S := S.below hbf; clear hbf)
      | ((with_reducible refine wpl_isStoreAt 2 ?_); (first | refine S.storeA rfl 30 _ _ rfl b2 _ rfl rfl 0 _ rfl rfl rfl (szA _ rfl) ?_ | refine S.storeA rfl 30 _ _ rfl b2 _ rfl rfl 1 _ rfl rfl rfl (szA _ rfl) ?_); clear S; intro w2 S; (simp only [Cel.cells, IV.cellsL, zeroL, List.set_cons_zero, List.set_cons_succ, startI, secondI, noneI] at S))
      | ((with_reducible refine wpl_isDst 7 ?_); (first | refine S.alloc rfl 30 rfl (Cel.any zeroL) zeroA ?_ | refine SH.alloc (L := []) S rfl 30 rfl (Cel.any zeroL) zeroA ?_); clear S; intro b7 w7 S)
      | ((with_reducible refine wpl_isStoreAt 7 ?_); (first | refine S.storeA rfl 30 _ _ rfl b7 _ rfl rfl 0 _ rfl rfl rfl (szA _ rfl) ?_ | refine S.storeA rfl 30 _ _ rfl b7 _ rfl rfl 1 _ rfl rfl rfl (szA _ rfl) ?_); clear S; intro w2 S; (simp only [Cel.cells, IV.cellsL, zeroL, List.set_cons_zero, List.set_cons_succ, startI, secondI, noneI] at S))
      | ((with_reducible refine wpl_isStoreAt 52 ?_); (first | refine S.store1 rfl 28 _ _ rfl b7 8 _ rfl rfl 0 _ rfl rfl (of_decide_eq_true rfl) (Cel.any _) rfl (by kernel_rfl) ?_ | refine S.store1 rfl 28 _ _ rfl b7 8 _ rfl rfl 1 _ rfl rfl (of_decide_eq_true rfl) (Cel.any _) rfl (by kernel_rfl) ?_); clear S; intro w2 S; (simp only [Cel.cells, IV.cellsL, zeroL, List.set_cons_zero, List.set_cons_succ, startI, secondI, noneI] at S))
      | ((with_reducible refine wpl_isDst 53 ?_); (first | refine S.ldAll 30 _ rfl b7 rfl 0 _ rfl _ Try.underlying30 rfl (szA _ rfl) rfl ?_ | refine S.ldAll 30 _ rfl b7 rfl 1 _ rfl _ Try.underlying30 rfl (szA _ rfl) rfl ?_)))
    (try simp only [Exit.inBlock, Exit.then])
    (first | refine bodyPost_ret (S.results rfl _ _ rfl 0 _ rfl _ Try.underlying30 rfl (szA _ rfl)) rfl ?_ | refine bodyPost_ret (S.results rfl _ _ rfl 1 _ rfl _ Try.underlying30 rfl (szA _ rfl)) rfl ?_)
    exact ⟨rfl, S.low⟩
  · have hR : plaX x = bitX 32 x := by unfold plaX; rw [h]; rfl
    rw [hR]
    clear hR
    rw [h, show ((20 * 1048576 : Nat) : Int) = 20971520 from rfl] at k20
    clear h f20
    have CB : Hid (∀ w, Calls Try.prog 54 #[(startI 32 (fd x 8 4 : Nat) (fd x 16 4 : Nat)).val, .int .u32 x] w fun e w' => e = .returned ((bitX 32 x).val) ∧ Below w.heap.size w w') := bitField_c 32 x hx
    generalize bitX 32 x = RB at *
    have j1 : bits .or .u32 (((fd x 16 4) : Int) * 4096) ((numX x) : Int) = (((fd x 16 4) * 4096 + (numX x) : Nat) : Int) := u32_join ((fd x 16 4) * 4096) (numX x) 12 (by omega) (by omega) (by omega) (by omega)
    have jw : (((fd x 16 4) : Int) * 4096) % 4294967296 = ((fd x 16 4) : Int) * 4096 := by omega
    generalize fd x 8 4 = g8_4 at *
    generalize fd x 16 4 = g16_4 at *
    generalize numX x = N at *
    have n0 : (0 : Int) ≤ (g16_4 : Int) := by omega
    go_enter Try.func23, Try.ntmps23
    have S := SH.start w
    go_wp2_with (first
      | ((with_reducible refine wpl_isDst 2 ?_); (first | refine S.alloc rfl 30 rfl (Cel.any zeroL) zeroA ?_ | refine SH.alloc (L := []) S rfl 30 rfl (Cel.any zeroL) zeroA ?_); clear S; intro b2 w2 S)
      | (go_at_call 46; first | (with_reducible refine (F8_4.out _).mono ?_; rintro e wf ⟨rfl, hbf⟩; replace S := S.below hbf; clear hbf) | (with_reducible refine (F16_4.out _).mono ?_; rintro e wf ⟨rfl, hbf⟩; replace S := S.below hbf; clear hbf))
      | (go_at_call 51; refine (CN.out _).mono ?_; rintro e wf ⟨rfl, hbf⟩; replace S := S.below hbf; clear hbf)
      | (go_at_call 45; refine (start_c _ _ _ _).mono ?_; rintro e wf ⟨rfl, hbf⟩; replace S := S.below hbf; clear hbf)
      | ((with_reducible refine wpl_isStoreAt 2 ?_); (first | refine S.storeA rfl 30 _ _ rfl b2 _ rfl rfl 0 _ rfl rfl rfl (szA _ rfl) ?_ | refine S.storeA rfl 30 _ _ rfl b2 _ rfl rfl 1 _ rfl rfl rfl (szA _ rfl) ?_); clear S; intro w2 S; (simp only [Cel.cells, IV.cellsL, zeroL, List.set_cons_zero, List.set_cons_succ, startI, secondI, noneI] at S))
      | ((with_reducible refine wpl_isDst 7 ?_); (first | refine S.alloc rfl 30 rfl (Cel.any zeroL) zeroA ?_ | refine SH.alloc (L := []) S rfl 30 rfl (Cel.any zeroL) zeroA ?_); clear S; intro b7 w7 S)
      | ((with_reducible refine wpl_isStoreAt 7 ?_); (first | refine S.storeA rfl 30 _ _ rfl b7 _ rfl rfl 0 _ rfl rfl rfl (szA _ rfl) ?_ | refine S.storeA rfl 30 _ _ rfl b7 _ rfl rfl 1 _ rfl rfl rfl (szA _ rfl) ?_); clear S; intro w2 S; (simp only [Cel.cells, IV.cellsL, zeroL, List.set_cons_zero, List.set_cons_succ, startI, secondI, noneI] at S))
      | ((with_reducible refine wpl_isStoreAt 52 ?_); (first | refine S.store1 rfl 28 _ _ rfl b7 8 _ rfl rfl 0 _ rfl rfl (of_decide_eq_true rfl) (Cel.any _) rfl (by kernel_rfl) ?_ | refine S.store1 rfl 28 _ _ rfl b7 8 _ rfl rfl 1 _ rfl rfl (of_decide_eq_true rfl) (Cel.any _) rfl (by kernel_rfl) ?_); clear S; intro w2 S; (simp only [Cel.cells, IV.cellsL, zeroL, List.set_cons_zero, List.set_cons_succ, startI, secondI, noneI] at S))
      | ((with_reducible refine wpl_isDst 53 ?_); (first | refine S.ldAll 30 _ rfl b7 rfl 0 _ rfl _ Try.underlying30 rfl (szA _ rfl) rfl ?_ | refine S.ldAll 30 _ rfl b7 rfl 1 _ rfl _ Try.underlying30 rfl (szA _ rfl) rfl ?_))
      | (go_at_call 54; refine (CB.out _).mono ?_; rintro e wf ⟨rfl, hbf⟩; replace S := S.below hbf; clear hbf))
    (try simp only [Exit.inBlock, Exit.then])
    (first | refine bodyPost_ret (S.results rfl _ _ rfl 0 _ rfl _ Try.underlying30 rfl (szA _ rfl)) rfl ?_ | refine bodyPost_ret (S.results rfl _ _ rfl 1 _ rfl _ Try.underlying30 rfl (szA _ rfl)) rfl ?_)
    exact ⟨rfl, S.low⟩
  · have hR : plaX x = bitX 31 x := by unfold plaX; rw [h]; rfl
    rw [hR]
    clear hR
    rw [h, show ((28 * 1048576 : Nat) : Int) = 29360128 from rfl] at k20
    clear h f20
    have CB : Hid (∀ w, Calls Try.prog 54 #[(startI 31 (fd x 8 4 : Nat) (fd x 16 4 : Nat)).val, .int .u32 x] w fun e w' => e = .returned ((bitX 31 x).val) ∧ Below w.heap.size w w') := bitField_c 31 x hx
    generalize bitX 31 x = RB at *
    have j1 : bits .or .u32 (((fd x 16 4) : Int) * 4096) ((numX x) : Int) = (((fd x 16 4) * 4096 + (numX x) : Nat) : Int) := u32_join ((fd x 16 4) * 4096) (numX x) 12 (by omega) (by omega) (by omega) (by omega)
    have jw : (((fd x 16 4) : Int) * 4096) % 4294967296 = ((fd x 16 4) : Int) * 4096 := by omega
    generalize fd x 8 4 = g8_4 at *
    generalize fd x 16 4 = g16_4 at *
    generalize numX x = N at *
    have n0 : (0 : Int) ≤ (g16_4 : Int) := by omega
    go_enter Try.func23, Try.ntmps23
    have S := SH.start w
    go_wp2_with (first
      | ((with_reducible refine wpl_isDst 2 ?_); (first | refine S.alloc rfl 30 rfl (Cel.any zeroL) zeroA ?_ | refine SH.alloc (L := []) S rfl 30 rfl (Cel.any zeroL) zeroA ?_); clear S; intro b2 w2 S)
      | (go_at_call 46; first | (with_reducible refine (F8_4.out _).mono ?_; rintro e wf ⟨rfl, hbf⟩; replace S := S.below hbf; clear hbf) | (with_reducible refine (F16_4.out _).mono ?_; rintro e wf ⟨rfl, hbf⟩; replace S := S.below hbf; clear hbf))
      | (go_at_call 51; refine (CN.out _).mono ?_; rintro e wf ⟨rfl, hbf⟩; replace S := S.below hbf; clear hbf)
      | (go_at_call 45; refine (start_c _ _ _ _).mono ?_; rintro e wf ⟨rfl, hbf⟩; replace S := S.below hbf; clear hbf)
      | ((with_reducible refine wpl_isStoreAt 2 ?_); (first | refine S.storeA rfl 30 _ _ rfl b2 _ rfl rfl 0 _ rfl rfl rfl (szA _ rfl) ?_ | refine S.storeA rfl 30 _ _ rfl b2 _ rfl rfl 1 _ rfl rfl rfl (szA _ rfl) ?_); clear S; intro w2 S; (simp only [Cel.cells, IV.cellsL, zeroL, List.set_cons_zero, List.set_cons_succ, startI, secondI, noneI] at S))
      | ((with_reducible refine wpl_isDst 7 ?_); (first | refine S.alloc rfl 30 rfl (Cel.any zeroL) zeroA ?_ | refine SH.alloc (L := []) S rfl 30 rfl (Cel.any zeroL) zeroA ?_); clear S; intro b7 w7 S)
      | ((with_reducible refine wpl_isStoreAt 7 ?_); (first | refine S.storeA rfl 30 _ _ rfl b7 _ rfl rfl 0 _ rfl rfl rfl (szA _ rfl) ?_ | refine S.storeA rfl 30 _ _ rfl b7 _ rfl rfl 1 _ rfl rfl rfl (szA _ rfl) ?_); clear S; intro w2 S; (simp only [Cel.cells, IV.cellsL, zeroL, List.set_cons_zero, List.set_cons_succ, startI, secondI, noneI] at S))
      | ((with_reducible refine wpl_isStoreAt 52 ?_); (first | refine S.store1 rfl 28 _ _ rfl b7 8 _ rfl rfl 0 _ rfl rfl (of_decide_eq_true rfl) (Cel.any _) rfl (by kernel_rfl) ?_ | refine S.store1 rfl 28 _ _ rfl b7 8 _ rfl rfl 1 _ rfl rfl (of_decide_eq_true rfl) (Cel.any _) rfl (by kernel_rfl) ?_); clear S; intro w2 S; (simp only [Cel.cells, IV.cellsL, zeroL, List.set_cons_zero, List.set_cons_succ, startI, secondI, noneI] at S))
      | ((with_reducible refine wpl_isDst 53 ?_); (first | refine S.ldAll 30 _ rfl b7 rfl 0 _ rfl _ Try.underlying30 rfl (szA _ rfl) rfl ?_ | refine S.ldAll 30 _ rfl b7 rfl 1 _ rfl _ Try.underlying30 rfl (szA _ rfl) rfl ?_))
      | (go_at_call 54; refine (CB.out _).mono ?_; rintro e wf ⟨rfl, hbf⟩; replace S := S.below hbf; clear hbf))
    (try simp only [Exit.inBlock, Exit.then])
    (first | refine bodyPost_ret (S.results rfl _ _ rfl 0 _ rfl _ Try.underlying30 rfl (szA _ rfl)) rfl ?_ | refine bodyPost_ret (S.results rfl _ _ rfl 1 _ rfl _ Try.underlying30 rfl (szA _ rfl)) rfl ?_)
    exact ⟨rfl, S.low⟩
  · have hR : plaX x = bitX 33 x := by unfold plaX; rw [h]; rfl
    rw [hR]
    clear hR
    rw [h, show ((22 * 1048576 : Nat) : Int) = 23068672 from rfl] at k20
    clear h f20
    have CB : Hid (∀ w, Calls Try.prog 54 #[(startI 33 (fd x 8 4 : Nat) (fd x 16 4 : Nat)).val, .int .u32 x] w fun e w' => e = .returned ((bitX 33 x).val) ∧ Below w.heap.size w w') := bitField_c 33 x hx
    generalize bitX 33 x = RB at *
    have j1 : bits .or .u32 (((fd x 16 4) : Int) * 4096) ((numX x) : Int) = (((fd x 16 4) * 4096 + (numX x) : Nat) : Int) := u32_join ((fd x 16 4) * 4096) (numX x) 12 (by omega) (by omega) (by omega) (by omega)
    have jw : (((fd x 16 4) : Int) * 4096) % 4294967296 = ((fd x 16 4) : Int) * 4096 := by omega
    generalize fd x 8 4 = g8_4 at *
    generalize fd x 16 4 = g16_4 at *
    generalize numX x = N at *
    have n0 : (0 : Int) ≤ (g16_4 : Int) := by omega
    go_enter Try.func23, Try.ntmps23
    have S := SH.start w
    go_wp2_with (first
      | ((with_reducible refine wpl_isDst 2 ?_); (first | refine S.alloc rfl 30 rfl (Cel.any zeroL) zeroA ?_ | refine SH.alloc (L := []) S rfl 30 rfl (Cel.any zeroL) zeroA ?_); clear S; intro b2 w2 S)
      | (go_at_call 46; first | (with_reducible refine (F8_4.out _).mono ?_; rintro e wf ⟨rfl, hbf⟩; replace S := S.below hbf; clear hbf) | (with_reducible refine (F16_4.out _).mono ?_; rintro e wf ⟨rfl, hbf⟩; replace S := S.below hbf; clear hbf))
      | (go_at_call 51; refine (CN.out _).mono ?_; rintro e wf ⟨rfl, hbf⟩; replace S := S.below hbf; clear hbf)
      | (go_at_call 45; refine (start_c _ _ _ _).mono ?_; rintro e wf ⟨rfl, hbf⟩; replace S := S.below hbf; clear hbf)
      | ((with_reducible refine wpl_isStoreAt 2 ?_); (first | refine S.storeA rfl 30 _ _ rfl b2 _ rfl rfl 0 _ rfl rfl rfl (szA _ rfl) ?_ | refine S.storeA rfl 30 _ _ rfl b2 _ rfl rfl 1 _ rfl rfl rfl (szA _ rfl) ?_); clear S; intro w2 S; (simp only [Cel.cells, IV.cellsL, zeroL, List.set_cons_zero, List.set_cons_succ, startI, secondI, noneI] at S))
      | ((with_reducible refine wpl_isDst 7 ?_); (first | refine S.alloc rfl 30 rfl (Cel.any zeroL) zeroA ?_ | refine SH.alloc (L := []) S rfl 30 rfl (Cel.any zeroL) zeroA ?_); clear S; intro b7 w7 S)
      | ((with_reducible refine wpl_isStoreAt 7 ?_); (first | refine S.storeA rfl 30 _ _ rfl b7 _ rfl rfl 0 _ rfl rfl rfl (szA _ rfl) ?_ | refine S.storeA rfl 30 _ _ rfl b7 _ rfl rfl 1 _ rfl rfl rfl (szA _ rfl) ?_); clear S; intro w2 S; (simp only [Cel.cells, IV.cellsL, zeroL, List.set_cons_zero, List.set_cons_succ, startI, secondI, noneI] at S))
      | ((with_reducible refine wpl_isStoreAt 52 ?_); (first | refine S.store1 rfl 28 _ _ rfl b7 8 _ rfl rfl 0 _ rfl rfl (of_decide_eq_true rfl) (Cel.any _) rfl (by kernel_rfl) ?_ | refine S.store1 rfl 28 _ _ rfl b7 8 _ rfl rfl 1 _ rfl rfl (of_decide_eq_true rfl) (Cel.any _) rfl (by kernel_rfl) ?_); clear S; intro w2 S; (simp only [Cel.cells, IV.cellsL, zeroL, List.set_cons_zero, List.set_cons_succ, startI, secondI, noneI] at S))
      | ((with_reducible refine wpl_isDst 53 ?_); (first | refine S.ldAll 30 _ rfl b7 rfl 0 _ rfl _ Try.underlying30 rfl (szA _ rfl) rfl ?_ | refine S.ldAll 30 _ rfl b7 rfl 1 _ rfl _ Try.underlying30 rfl (szA _ rfl) rfl ?_))
      | (go_at_call 54; refine (CB.out _).mono ?_; rintro e wf ⟨rfl, hbf⟩; replace S := S.below hbf; clear hbf))
    (try simp only [Exit.inBlock, Exit.then])
    (first | refine bodyPost_ret (S.results rfl _ _ rfl 0 _ rfl _ Try.underlying30 rfl (szA _ rfl)) rfl ?_ | refine bodyPost_ret (S.results rfl _ _ rfl 1 _ rfl _ Try.underlying30 rfl (szA _ rfl)) rfl ?_)
    exact ⟨rfl, S.low⟩
  · obtain ⟨h0, h10, h4, h12, h20, h28, h22⟩ := h
    have y0 : Nat.beq (fd x 20 5) 0 = false := by rw [nbeq]; simp; omega
    have y10 : Nat.beq (fd x 20 5) 10 = false := by rw [nbeq]; simp; omega
    have y4 : Nat.beq (fd x 20 5) 4 = false := by rw [nbeq]; simp; omega
    have y12 : Nat.beq (fd x 20 5) 12 = false := by rw [nbeq]; simp; omega
    have y20 : Nat.beq (fd x 20 5) 20 = false := by rw [nbeq]; simp; omega
    have y28 : Nat.beq (fd x 20 5) 28 = false := by rw [nbeq]; simp; omega
    have y22 : Nat.beq (fd x 20 5) 22 = false := by rw [nbeq]; simp; omega
    have hR : plaX x = noneI 64 x := by unfold plaX; rw [y0, y10, y4, y12, y20, y28, y22]; rfl
    rw [hR]
    clear hR
    clear y0
    clear y10
    clear y4
    clear y12
    clear y20
    clear y28
    clear y22
    have z0 : (((fd x 20 5 * 1048576 : Nat) : Int) == 0) = false := by simp; omega
    have z10 : (((fd x 20 5 * 1048576 : Nat) : Int) == 10485760) = false := by simp; omega
    have z4 : (((fd x 20 5 * 1048576 : Nat) : Int) == 4194304) = false := by simp; omega
    have z12 : (((fd x 20 5 * 1048576 : Nat) : Int) == 12582912) = false := by simp; omega
    have z20 : (((fd x 20 5 * 1048576 : Nat) : Int) == 20971520) = false := by simp; omega
    have z28 : (((fd x 20 5 * 1048576 : Nat) : Int) == 29360128) = false := by simp; omega
    have z22 : (((fd x 20 5 * 1048576 : Nat) : Int) == 23068672) = false := by simp; omega
    clear h0
    clear h10
    clear h4
    clear h12
    clear h20
    clear h28
    clear h22
    generalize ((fd x 20 5 * 1048576 : Nat) : Int) = y at *
    clear f20
    have j1 : bits .or .u32 (((fd x 16 4) : Int) * 4096) ((numX x) : Int) = (((fd x 16 4) * 4096 + (numX x) : Nat) : Int) := u32_join ((fd x 16 4) * 4096) (numX x) 12 (by omega) (by omega) (by omega) (by omega)
    have jw : (((fd x 16 4) : Int) * 4096) % 4294967296 = ((fd x 16 4) : Int) * 4096 := by omega
    generalize (fd x 16 4 * 4096 + numX x) = L at *
    generalize fd x 8 4 = g8_4 at *
    generalize fd x 16 4 = g16_4 at *
    generalize numX x = N at *
    go_enter Try.func23, Try.ntmps23
    have S := SH.start w
    go_wp2_with (first
      | ((with_reducible refine wpl_isDst 2 ?_); (first | refine S.alloc rfl 30 rfl (Cel.any zeroL) zeroA ?_ | refine SH.alloc (L := []) S rfl 30 rfl (Cel.any zeroL) zeroA ?_); clear S; intro b2 w2 S)
      | (go_at_call 46; first | (with_reducible refine (F8_4.out _).mono ?_; rintro e wf ⟨rfl, hbf⟩; replace S := S.below hbf; clear hbf) | (with_reducible refine (F16_4.out _).mono ?_; rintro e wf ⟨rfl, hbf⟩; replace S := S.below hbf; clear hbf))
      | (go_at_call 51; refine (CN.out _).mono ?_; rintro e wf ⟨rfl, hbf⟩; replace S := S.below hbf; clear hbf)
      | ((with_reducible refine wpl_isStoreAt 2 ?_); (first | refine S.storeA rfl 30 _ _ rfl b2 _ rfl rfl 0 _ rfl rfl rfl (szA _ rfl) ?_ | refine S.storeA rfl 30 _ _ rfl b2 _ rfl rfl 1 _ rfl rfl rfl (szA _ rfl) ?_); clear S; intro w2 S; (simp only [Cel.cells, IV.cellsL, zeroL, List.set_cons_zero, List.set_cons_succ, startI, secondI, noneI] at S))
      | ((with_reducible refine wpl_isDst 7 ?_); (first | refine S.alloc rfl 30 rfl (Cel.any zeroL) zeroA ?_ | refine SH.alloc (L := []) S rfl 30 rfl (Cel.any zeroL) zeroA ?_); clear S; intro b7 w7 S)
      | ((with_reducible refine wpl_isStoreAt 7 ?_); (first | refine S.storeA rfl 30 _ _ rfl b7 _ rfl rfl 0 _ rfl rfl rfl (szA _ rfl) ?_ | refine S.storeA rfl 30 _ _ rfl b7 _ rfl rfl 1 _ rfl rfl rfl (szA _ rfl) ?_); clear S; intro w2 S; (simp only [Cel.cells, IV.cellsL, zeroL, List.set_cons_zero, List.set_cons_succ, startI, secondI, noneI] at S))
      | ((with_reducible refine wpl_isStoreAt 52 ?_); (first | refine S.store1 rfl 28 _ _ rfl b7 8 _ rfl rfl 0 _ rfl rfl (of_decide_eq_true rfl) (Cel.any _) rfl (by kernel_rfl) ?_ | refine S.store1 rfl 28 _ _ rfl b7 8 _ rfl rfl 1 _ rfl rfl (of_decide_eq_true rfl) (Cel.any _) rfl (by kernel_rfl) ?_); clear S; intro w2 S; (simp only [Cel.cells, IV.cellsL, zeroL, List.set_cons_zero, List.set_cons_succ, startI, secondI, noneI] at S))
      | ((with_reducible refine wpl_isDst 53 ?_); (first | refine S.ldAll 30 _ rfl b7 rfl 0 _ rfl _ Try.underlying30 rfl (szA _ rfl) rfl ?_ | refine S.ldAll 30 _ rfl b7 rfl 1 _ rfl _ Try.underlying30 rfl (szA _ rfl) rfl ?_))
      | (go_at_call 13; refine (none_c 64 x hx _).mono ?_; rintro e wf ⟨rfl, hbf⟩; replace S := S.below hbf; clear hbf))
    (try simp only [Exit.inBlock, Exit.then])
    (first | refine bodyPost_ret (S.results rfl _ _ rfl 0 _ rfl _ Try.underlying30 rfl (szA _ rfl)) rfl ?_ | refine bodyPost_ret (S.results rfl _ _ rfl 1 _ rfl _ Try.underlying30 rfl (szA _ rfl)) rfl ?_)
    exact ⟨rfl, S.low⟩
end Go.Proofs.Ytigmekboikgoaaa
