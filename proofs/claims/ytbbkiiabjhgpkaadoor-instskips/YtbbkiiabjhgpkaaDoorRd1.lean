/- Stage 8: the document's ways to put an instruction together, walked. -/
import Derived.Test.YtbbkiiabjhgpkaaDoorTh2b
namespace Go.Proofs.YtbbkiiabjhgpkaaDoor
open Go.ChangeShapes Go.WideShapes Go.ChangeAt Go.RowKit
set_option linter.unusedVariables false
set_option linter.unusedSimpArgs false

theorem plain_c (o : Int) (w : World) : Calls Tryd.prog 30 #[.int .i64 o] w fun e w' => e = .returned (IV.val ⟨o, false, false, 14, 0, 0, 0, 0, 0, false, 0, 0, 0, false, false⟩) ∧ Below w.heap.size w w' := by
  go_enter Tryd.func30, Tryd.ntmps30
  go_wp2
  refine bodyPost_ret (results_cell_row rfl _ _ w.heap.size _ _ _ _ rfl (heap_alloc_new w _) Tryd.underlying31 rfl (by kernel_rfl)) rfl ⟨rfl, (Below.refl _ _).alloc (Nat.le_refl _) _⟩
set_option maxHeartbeats 4000000 in
set_option maxRecDepth 100000 in
theorem rdata_c (o d n m : Int) (s : Bool) (w : World) : Calls Tryd.prog 26 #[.int .i64 o, .int .i64 d, .int .i64 n, .int .i64 m, .bool s] w fun e w' => e = .returned (IV.val (⟨o, false, s, 14, d, n, m, 0, 0, false, 0, 0, 0, false, false⟩ : IV)) ∧ Below w.heap.size w w' := by
  go_enter Tryd.func26, Tryd.ntmps26
  have S := SH.start w
  go_wp2_with (first
  | ((with_reducible refine wpl_isDst 10 ?_); refine SH.alloc (L := []) S rfl 31 rfl (Cel.iv IV.zero) zeroIV ?_; clear S; intro b1 w1 S)
  | ((with_reducible refine wpl_isDst 11 ?_); refine S.alloc rfl 31 rfl (Cel.iv IV.zero) zeroIV ?_; clear S; intro b2 w1 S)
  | ((with_reducible refine wpl_isLoad ?_); refine S.ldAll 31 _ rfl b2 rfl 0 (Cel.iv (⟨o, false, s, 14, d, n, m, 0, 0, false, 0, 0, 0, false, false⟩ : IV)) rfl _ Tryd.underlying31 rfl (szIV _) rfl ?_)
  | ((with_reducible refine wpl_isStore ?_); first
    | (refine S.store1 rfl 3 _ _ rfl b2 4 _ rfl rfl 0 (Cel.iv (⟨o, false, false, 14, 0, 0, 0, 0, 0, false, 0, 0, 0, false, false⟩ : IV)) rfl rfl (by simp [Cel.cells, IV.cellsL]) (Cel.iv (⟨o, false, false, 14, d, 0, 0, 0, 0, false, 0, 0, 0, false, false⟩ : IV)) rfl (by kernel_rfl) ?_; clear S; intro w2 S; simp only [List.set_cons_zero, List.set_cons_succ] at S)
    | (refine S.store1 rfl 3 _ _ rfl b2 5 _ rfl rfl 0 (Cel.iv (⟨o, false, false, 14, d, 0, 0, 0, 0, false, 0, 0, 0, false, false⟩ : IV)) rfl rfl (by simp [Cel.cells, IV.cellsL]) (Cel.iv (⟨o, false, false, 14, d, n, 0, 0, 0, false, 0, 0, 0, false, false⟩ : IV)) rfl (by kernel_rfl) ?_; clear S; intro w2 S; simp only [List.set_cons_zero, List.set_cons_succ] at S)
    | (refine S.store1 rfl 3 _ _ rfl b2 6 _ rfl rfl 0 (Cel.iv (⟨o, false, false, 14, d, n, 0, 0, 0, false, 0, 0, 0, false, false⟩ : IV)) rfl rfl (by simp [Cel.cells, IV.cellsL]) (Cel.iv (⟨o, false, false, 14, d, n, m, 0, 0, false, 0, 0, 0, false, false⟩ : IV)) rfl (by kernel_rfl) ?_; clear S; intro w2 S; simp only [List.set_cons_zero, List.set_cons_succ] at S)
    | (refine S.store1 rfl 4 _ _ rfl b2 2 _ rfl rfl 0 (Cel.iv (⟨o, false, false, 14, d, n, m, 0, 0, false, 0, 0, 0, false, false⟩ : IV)) rfl rfl (by simp [Cel.cells, IV.cellsL]) (Cel.iv (⟨o, false, s, 14, d, n, m, 0, 0, false, 0, 0, 0, false, false⟩ : IV)) rfl (by kernel_rfl) ?_; clear S; intro w2 S; simp only [List.set_cons_zero, List.set_cons_succ] at S)
    | (refine S.storeAll rfl 31 _ _ rfl b2 (Cel.iv (⟨o, false, false, 14, 0, 0, 0, 0, 0, false, 0, 0, 0, false, false⟩ : IV)) rfl rfl 0 _ rfl rfl (one_iv _) (szIV _) ?_; clear S; intro w2 S; simp only [List.set_cons_zero, List.set_cons_succ] at S)
    | (refine S.storeAll rfl 31 _ _ rfl b1 (Cel.iv (⟨o, false, s, 14, d, n, m, 0, 0, false, 0, 0, 0, false, false⟩ : IV)) rfl rfl 1 _ rfl rfl (one_iv _) (szIV _) ?_; clear S; intro w2 S; simp only [List.set_cons_zero, List.set_cons_succ] at S))
  | (go_at_call 30; refine (plain_c _ _).mono ?_; rintro e wf ⟨rfl, hbf⟩; replace S := S.below hbf; clear hbf))
  (try simp only [Exit.inBlock, Exit.then])
  refine bodyPost_ret (S.results rfl _ _ rfl 1 _ rfl _ Tryd.underlying31 rfl (szIV _)) rfl ⟨rfl, S.low⟩
set_option maxHeartbeats 4000000 in
set_option maxRecDepth 100000 in
theorem rimm_c (o d n v : Int) (s : Bool) (w : World) : Calls Tryd.prog 27 #[.int .i64 o, .int .i64 d, .int .i64 n, .int .u32 v, .bool s] w fun e w' => e = .returned (IV.val (⟨o, false, s, 14, d, n, 0, 0, v, true, 0, 0, 0, false, false⟩ : IV)) ∧ Below w.heap.size w w' := by
  go_enter Tryd.func27, Tryd.ntmps27
  have S := SH.start w
  go_wp2_with (first
  | ((with_reducible refine wpl_isDst 10 ?_); refine SH.alloc (L := []) S rfl 31 rfl (Cel.iv IV.zero) zeroIV ?_; clear S; intro b1 w1 S)
  | ((with_reducible refine wpl_isDst 11 ?_); refine S.alloc rfl 31 rfl (Cel.iv IV.zero) zeroIV ?_; clear S; intro b2 w1 S)
  | ((with_reducible refine wpl_isLoad ?_); refine S.ldAll 31 _ rfl b2 rfl 0 (Cel.iv (⟨o, false, s, 14, d, n, 0, 0, v, true, 0, 0, 0, false, false⟩ : IV)) rfl _ Tryd.underlying31 rfl (szIV _) rfl ?_)
  | ((with_reducible refine wpl_isStore ?_); first
    | (refine S.store1 rfl 3 _ _ rfl b2 4 _ rfl rfl 0 (Cel.iv (⟨o, false, false, 14, 0, 0, 0, 0, 0, false, 0, 0, 0, false, false⟩ : IV)) rfl rfl (by simp [Cel.cells, IV.cellsL]) (Cel.iv (⟨o, false, false, 14, d, 0, 0, 0, 0, false, 0, 0, 0, false, false⟩ : IV)) rfl (by kernel_rfl) ?_; clear S; intro w2 S; simp only [List.set_cons_zero, List.set_cons_succ] at S)
    | (refine S.store1 rfl 3 _ _ rfl b2 5 _ rfl rfl 0 (Cel.iv (⟨o, false, false, 14, d, 0, 0, 0, 0, false, 0, 0, 0, false, false⟩ : IV)) rfl rfl (by simp [Cel.cells, IV.cellsL]) (Cel.iv (⟨o, false, false, 14, d, n, 0, 0, 0, false, 0, 0, 0, false, false⟩ : IV)) rfl (by kernel_rfl) ?_; clear S; intro w2 S; simp only [List.set_cons_zero, List.set_cons_succ] at S)
    | (refine S.store1 rfl 29 _ _ rfl b2 8 _ rfl rfl 0 (Cel.iv (⟨o, false, false, 14, d, n, 0, 0, 0, false, 0, 0, 0, false, false⟩ : IV)) rfl rfl (by simp [Cel.cells, IV.cellsL]) (Cel.iv (⟨o, false, false, 14, d, n, 0, 0, v, false, 0, 0, 0, false, false⟩ : IV)) rfl (by kernel_rfl) ?_; clear S; intro w2 S; simp only [List.set_cons_zero, List.set_cons_succ] at S)
    | (refine S.store1 rfl 4 _ _ rfl b2 9 _ rfl rfl 0 (Cel.iv (⟨o, false, false, 14, d, n, 0, 0, v, false, 0, 0, 0, false, false⟩ : IV)) rfl rfl (by simp [Cel.cells, IV.cellsL]) (Cel.iv (⟨o, false, false, 14, d, n, 0, 0, v, true, 0, 0, 0, false, false⟩ : IV)) rfl (by kernel_rfl) ?_; clear S; intro w2 S; simp only [List.set_cons_zero, List.set_cons_succ] at S)
    | (refine S.store1 rfl 4 _ _ rfl b2 2 _ rfl rfl 0 (Cel.iv (⟨o, false, false, 14, d, n, 0, 0, v, true, 0, 0, 0, false, false⟩ : IV)) rfl rfl (by simp [Cel.cells, IV.cellsL]) (Cel.iv (⟨o, false, s, 14, d, n, 0, 0, v, true, 0, 0, 0, false, false⟩ : IV)) rfl (by kernel_rfl) ?_; clear S; intro w2 S; simp only [List.set_cons_zero, List.set_cons_succ] at S)
    | (refine S.storeAll rfl 31 _ _ rfl b2 (Cel.iv (⟨o, false, false, 14, 0, 0, 0, 0, 0, false, 0, 0, 0, false, false⟩ : IV)) rfl rfl 0 _ rfl rfl (one_iv _) (szIV _) ?_; clear S; intro w2 S; simp only [List.set_cons_zero, List.set_cons_succ] at S)
    | (refine S.storeAll rfl 31 _ _ rfl b1 (Cel.iv (⟨o, false, s, 14, d, n, 0, 0, v, true, 0, 0, 0, false, false⟩ : IV)) rfl rfl 1 _ rfl rfl (one_iv _) (szIV _) ?_; clear S; intro w2 S; simp only [List.set_cons_zero, List.set_cons_succ] at S))
  | (go_at_call 30; refine (plain_c _ _).mono ?_; rintro e wf ⟨rfl, hbf⟩; replace S := S.below hbf; clear hbf))
  (try simp only [Exit.inBlock, Exit.then])
  refine bodyPost_ret (S.results rfl _ _ rfl 1 _ rfl _ Tryd.underlying31 rfl (szIV _)) rfl ⟨rfl, S.low⟩
set_option maxHeartbeats 4000000 in
set_option maxRecDepth 100000 in
theorem rundef_c (h : Int) (w : World) : Calls Tryd.prog 24 #[.int .u32 h] w fun e w' => e = .returned (IV.val (⟨64, false, false, 14, 0, 0, 0, 0, h, false, 0, 0, 0, false, false⟩ : IV)) ∧ Below w.heap.size w w' := by
  go_enter Tryd.func24, Tryd.ntmps24
  have S := SH.start w
  go_wp2_with (first
  | ((with_reducible refine wpl_isDst 2 ?_); refine SH.alloc (L := []) S rfl 31 rfl (Cel.iv IV.zero) zeroIV ?_; clear S; intro b1 w1 S)
  | ((with_reducible refine wpl_isDst 3 ?_); refine S.alloc rfl 31 rfl (Cel.iv IV.zero) zeroIV ?_; clear S; intro b2 w1 S)
  | ((with_reducible refine wpl_isLoad ?_); refine S.ldAll 31 _ rfl b2 rfl 0 (Cel.iv (⟨64, false, false, 14, 0, 0, 0, 0, h, false, 0, 0, 0, false, false⟩ : IV)) rfl _ Tryd.underlying31 rfl (szIV _) rfl ?_)
  | ((with_reducible refine wpl_isStore ?_); first
    | (refine S.store1 rfl 29 _ _ rfl b2 8 _ rfl rfl 0 (Cel.iv (⟨64, false, false, 14, 0, 0, 0, 0, 0, false, 0, 0, 0, false, false⟩ : IV)) rfl rfl (by simp [Cel.cells, IV.cellsL]) (Cel.iv (⟨64, false, false, 14, 0, 0, 0, 0, h, false, 0, 0, 0, false, false⟩ : IV)) rfl (by kernel_rfl) ?_; clear S; intro w2 S; simp only [List.set_cons_zero, List.set_cons_succ] at S)
    | (refine S.storeAll rfl 31 _ _ rfl b2 (Cel.iv (⟨64, false, false, 14, 0, 0, 0, 0, 0, false, 0, 0, 0, false, false⟩ : IV)) rfl rfl 0 _ rfl rfl (one_iv _) (szIV _) ?_; clear S; intro w2 S; simp only [List.set_cons_zero, List.set_cons_succ] at S)
    | (refine S.storeAll rfl 31 _ _ rfl b1 (Cel.iv (⟨64, false, false, 14, 0, 0, 0, 0, h, false, 0, 0, 0, false, false⟩ : IV)) rfl rfl 1 _ rfl rfl (one_iv _) (szIV _) ?_; clear S; intro w2 S; simp only [List.set_cons_zero, List.set_cons_succ] at S))
  | (go_at_call 30; refine (plain_c _ _).mono ?_; rintro e wf ⟨rfl, hbf⟩; replace S := S.below hbf; clear hbf))
  (try simp only [Exit.inBlock, Exit.then])
  refine bodyPost_ret (S.results rfl _ _ rfl 1 _ rfl _ Tryd.underlying31 rfl (szIV _)) rfl ⟨rfl, S.low⟩
set_option maxHeartbeats 4000000 in
set_option maxRecDepth 100000 in
theorem rbad_c (h : Int) (w : World) : Calls Tryd.prog 25 #[.int .u32 h] w fun e w' => e = .returned (IV.val (⟨65, false, false, 14, 0, 0, 0, 0, h, false, 0, 0, 0, false, false⟩ : IV)) ∧ Below w.heap.size w w' := by
  go_enter Tryd.func25, Tryd.ntmps25
  have S := SH.start w
  go_wp2_with (first
  | ((with_reducible refine wpl_isDst 2 ?_); refine SH.alloc (L := []) S rfl 31 rfl (Cel.iv IV.zero) zeroIV ?_; clear S; intro b1 w1 S)
  | ((with_reducible refine wpl_isDst 3 ?_); refine S.alloc rfl 31 rfl (Cel.iv IV.zero) zeroIV ?_; clear S; intro b2 w1 S)
  | ((with_reducible refine wpl_isLoad ?_); refine S.ldAll 31 _ rfl b2 rfl 0 (Cel.iv (⟨65, false, false, 14, 0, 0, 0, 0, h, false, 0, 0, 0, false, false⟩ : IV)) rfl _ Tryd.underlying31 rfl (szIV _) rfl ?_)
  | ((with_reducible refine wpl_isStore ?_); first
    | (refine S.store1 rfl 29 _ _ rfl b2 8 _ rfl rfl 0 (Cel.iv (⟨65, false, false, 14, 0, 0, 0, 0, 0, false, 0, 0, 0, false, false⟩ : IV)) rfl rfl (by simp [Cel.cells, IV.cellsL]) (Cel.iv (⟨65, false, false, 14, 0, 0, 0, 0, h, false, 0, 0, 0, false, false⟩ : IV)) rfl (by kernel_rfl) ?_; clear S; intro w2 S; simp only [List.set_cons_zero, List.set_cons_succ] at S)
    | (refine S.storeAll rfl 31 _ _ rfl b2 (Cel.iv (⟨65, false, false, 14, 0, 0, 0, 0, 0, false, 0, 0, 0, false, false⟩ : IV)) rfl rfl 0 _ rfl rfl (one_iv _) (szIV _) ?_; clear S; intro w2 S; simp only [List.set_cons_zero, List.set_cons_succ] at S)
    | (refine S.storeAll rfl 31 _ _ rfl b1 (Cel.iv (⟨65, false, false, 14, 0, 0, 0, 0, h, false, 0, 0, 0, false, false⟩ : IV)) rfl rfl 1 _ rfl rfl (one_iv _) (szIV _) ?_; clear S; intro w2 S; simp only [List.set_cons_zero, List.set_cons_succ] at S))
  | (go_at_call 30; refine (plain_c _ _).mono ?_; rintro e wf ⟨rfl, hbf⟩; replace S := S.below hbf; clear hbf))
  (try simp only [Exit.inBlock, Exit.then])
  refine bodyPost_ret (S.results rfl _ _ rfl 1 _ rfl _ Tryd.underlying31 rfl (szIV _)) rfl ⟨rfl, S.low⟩
theorem riswide_c (h : Nat) (hh : h < 65536) (w : World) : Calls Tryd.prog 12 #[.int .u16 h] w fun e w' => e = .returned (.bool (Nat.blt 28 (h / 2048))) ∧ w' = w := by
  have key : decide (29 ≤ (h : Int) / 2048) = Nat.blt 28 (h / 2048) := by
    rw [nblt]
    by_cases q : 28 < h / 2048
    · simp [q]; omega
    · simp [q]; omega
  go_enter Tryd.func12, Tryd.ntmps12
  go_wp2
  go_ret
  exact ⟨by rw [← key]; rfl, rfl⟩
end Go.Proofs.YtbbkiiabjhgpkaaDoor
