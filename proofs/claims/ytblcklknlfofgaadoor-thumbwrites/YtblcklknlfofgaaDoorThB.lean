/- Stage 8: branches and comparing branches, walked. -/
import Derived.Test.YtblcklknlfofgaaDoorTh2b
namespace Go.Proofs.YtblcklknlfofgaaDoor
open Go.ChangeShapes Go.WideShapes Go.ChangeAt Go.RowKit
set_option linter.unusedVariables false
set_option linter.unusedSimpArgs false

theorem far_8 (h : Nat) (hh : h < 65536) : wrap32 (wrap32 (IntKind.i16.wrap (IntKind.u16.wrap ((h : Int) * 256)) / 256) * 2) % 4294967296 = ((farN h 8 : Nat) : Int) := by
  have e1 : IntKind.u16.wrap ((h : Int) * 256) = ((h % 256 * 256 : Nat) : Int) := by rw [IntKind.wrap_u16]; omega
  have e2 : fd h 0 8 = h % 256 := by simp [fd]
  rw [e1]
  unfold farN
  rw [e2, nblt]
  have hx : h % 256 < 256 := Nat.mod_lt _ (by decide)
  generalize h % 256 = x at *
  have e3 : IntKind.i16.wrap (((x * 256 : Nat)) : Int) = if x < 128 then ((x * 256 : Nat) : Int) else ((x * 256 : Nat) : Int) - 65536 := by
    simp only [IntKind.wrap, IntKind.bits, IntKind.signed]
    simp only [Bool.true_and, decide_eq_true_eq, Nat.reduceSub, Int.reducePow, ge_iff_le]
    split <;> split <;> omega
  rw [e3]
  unfold wrap32
  by_cases hlt : x < 128
  · rw [if_pos hlt, show decide (x < 2 ^ (8 - 1)) = true by simpa using hlt]
    simp only [cond_true]
    omega
  · rw [if_neg hlt, show decide (x < 2 ^ (8 - 1)) = false by simpa using hlt]
    simp only [cond_false]
    omega
set_option maxHeartbeats 4000000 in
set_option maxRecDepth 100000 in
theorem branch_8 (h : Nat) (hh : h < 65536) (c : Int) (c' : Nat) (hc : c = c') (w : World) : Calls Tryd.prog 41 #[.int .i64 c, .int .u16 h, .int .i64 8] w fun e w' => Says w (branchN c' h 8) e w' := by
  have hf := far_8 h hh
  subst hc
  unfold Says
  go_enter Tryd.func41, Tryd.ntmps41
  go_wp2
  rw [hf]
  refine bodyPost_ret (results_cell_row rfl _ _ w.heap.size _ _ _ _ rfl (heap_alloc_new w _) Tryd.underlying29 rfl (by kernel_rfl)) rfl ⟨rfl, (Below.refl _ _).alloc (Nat.le_refl _) _⟩
theorem far_11 (h : Nat) (hh : h < 65536) : wrap32 (wrap32 (IntKind.i16.wrap (IntKind.u16.wrap ((h : Int) * 32)) / 32) * 2) % 4294967296 = ((farN h 11 : Nat) : Int) := by
  have e1 : IntKind.u16.wrap ((h : Int) * 32) = ((h % 2048 * 32 : Nat) : Int) := by rw [IntKind.wrap_u16]; omega
  have e2 : fd h 0 11 = h % 2048 := by simp [fd]
  rw [e1]
  unfold farN
  rw [e2, nblt]
  have hx : h % 2048 < 2048 := Nat.mod_lt _ (by decide)
  generalize h % 2048 = x at *
  have e3 : IntKind.i16.wrap (((x * 32 : Nat)) : Int) = if x < 1024 then ((x * 32 : Nat) : Int) else ((x * 32 : Nat) : Int) - 65536 := by
    simp only [IntKind.wrap, IntKind.bits, IntKind.signed]
    simp only [Bool.true_and, decide_eq_true_eq, Nat.reduceSub, Int.reducePow, ge_iff_le]
    split <;> split <;> omega
  rw [e3]
  unfold wrap32
  by_cases hlt : x < 1024
  · rw [if_pos hlt, show decide (x < 2 ^ (11 - 1)) = true by simpa using hlt]
    simp only [cond_true]
    omega
  · rw [if_neg hlt, show decide (x < 2 ^ (11 - 1)) = false by simpa using hlt]
    simp only [cond_false]
    omega
set_option maxHeartbeats 4000000 in
set_option maxRecDepth 100000 in
theorem branch_11 (h : Nat) (hh : h < 65536) (c : Int) (c' : Nat) (hc : c = c') (w : World) : Calls Tryd.prog 41 #[.int .i64 c, .int .u16 h, .int .i64 11] w fun e w' => Says w (branchN c' h 11) e w' := by
  have hf := far_11 h hh
  subst hc
  unfold Says
  go_enter Tryd.func41, Tryd.ntmps41
  go_wp2
  rw [hf]
  refine bodyPost_ret (results_cell_row rfl _ _ w.heap.size _ _ _ _ rfl (heap_alloc_new w _) Tryd.underlying29 rfl (by kernel_rfl)) rfl ⟨rfl, (Below.refl _ _).alloc (Nat.le_refl _) _⟩
set_option maxHeartbeats 4000000 in
set_option maxRecDepth 100000 in
theorem compared_c (h : Nat) (hh : h < 65536) (op : Nat) (w : World) : Calls Tryd.prog 59 #[.int .i64 op, .int .u16 h] w fun e w' => Says w (comparedN op h) e w' := by
  have f1 : fd h 9 1 < 2 := fd_lt h 9 1
  have f2 : fd h 3 5 < 32 := fd_lt h 3 5
  have f3 : fd h 0 3 < 8 := fd_lt h 0 3
  have hj : bits .or .i64 ((fd h 9 1 : Nat) * 64 : Int) ((fd h 3 5 : Nat) * 2 : Int) = ((fd h 9 1 * 64 + fd h 3 5 * 2 : Nat) : Int) := i64_join (fd h 9 1 * 64) (fd h 3 5 * 2) 6 (by omega) (by omega) (by omega) (by decide)
  unfold Says
  go_enter Tryd.func59, Tryd.ntmps59
  have S := SH.start w
  go_wp2_with (first
    | (go_at_call 36; (first | with_reducible refine (field_9_1 h hh _).mono ?_ | with_reducible refine (field_3_5 h hh _).mono ?_ | with_reducible refine (field_0_3 h hh _).mono ?_); rintro e wf ⟨rfl, hbf⟩; replace S := S.below hbf; clear hbf)
    | (go_at_call 62; refine (num_c _ _ (by omega) (by omega) _).mono ?_; rintro e wf ⟨rfl, hbf⟩; replace S := S.below hbf; clear hbf)
    | ((with_reducible refine wpl_is ?_); first
      | (refine S.alloc rfl 29 rfl (Cel.iv IV.zero) zeroIV ?_; clear S; intro b1 w1 S)
      | (refine S.storeAll rfl 29 _ _ rfl _ (Cel.iv (nNum op (fd h 9 1 * 64 + fd h 3 5 * 2)).iv) rfl rfl 0 _ rfl rfl (one_iv _) (szIV _) ?_; clear S; intro w2 S; simp only [List.set_cons_zero] at S)
      | (refine S.store1 rfl 3 _ _ rfl _ 5 _ rfl rfl 0 (Cel.iv _) rfl rfl (by simp [Cel.cells, IV.cellsL]) (Cel.iv (comparedN op h).iv) rfl (by kernel_rfl) ?_; clear S; intro w2 S; simp only [List.set_cons_zero] at S)
      | (refine S.ldAll 29 _ rfl _ rfl 0 (Cel.iv (comparedN op h).iv) rfl _ Tryd.underlying29 rfl (szIV _) rfl ?_)
      | (refine S.storeAll rfl 29 _ _ rfl _ (Cel.iv (comparedN op h).iv) rfl rfl 1 _ rfl rfl (one_iv _) (szIV _) ?_; clear S; intro w2 S; simp only [List.set_cons_zero, List.set_cons_succ] at S)))
  (try simp only [Exit.inBlock, Exit.then])
  refine bodyPost_ret (S.results rfl _ _ rfl 1 _ rfl _ Tryd.underlying29 rfl (szIV _)) rfl ⟨rfl, S.low⟩
end Go.Proofs.YtblcklknlfofgaaDoor
