/- Stage 8: the document's narrow words, walked. -/
import Derived.Test.YtbbkiiabjhgpkaaDoorRd1b
namespace Go.Proofs.YtbbkiiabjhgpkaaDoor
open Go.ChangeShapes Go.WideShapes Go.ChangeAt Go.RowKit
set_option linter.unusedVariables false
set_option linter.unusedSimpArgs false

set_option maxHeartbeats 4000000 in
set_option maxRecDepth 100000 in
theorem rlow_0 (h : Nat) (hh : h < 65536) (b : Bool) (q10_1 : fd h 10 1 = 0) (q6_4 : fd h 6 4 = 0) (w : World) : Calls Tryd.prog 28 #[.int .i64 h, .bool b] w fun e w' => Says w (rRegister h b) e w' := by
  have hN : rRegister h b = (nReg 1 (fd h 0 3) (fd h 0 3) (fd h 3 3) (!b)) := by
    unfold rRegister
    simp [nbeq, nblt, nble, pick2, lowOp, *]
  unfold Says
  rw [hN]
  clear hN
  have k10_1 : bits .and .i64 ((h : Int) / 1024) 1 = 0 := by have := i64_fd h 10 1 hh (by decide) ((h : Int) / 1024) 1 (by first | rfl | simp) rfl; rw [this, q10_1]; rfl
  have k6_4 : bits .and .i64 ((h : Int) / 64) 15 = 0 := by have := i64_fd h 6 4 hh (by decide) ((h : Int) / 64) 15 (by first | rfl | simp) rfl; rw [this, q6_4]; rfl
  have k0_3 : bits .and .i64 ((h : Int)) 7 = ((fd h 0 3 : Nat) : Int) := i64_fd h 0 3 hh (by decide) _ _ (by first | rfl | simp) rfl
  have f0_3 : fd h 0 3 < 8 := fd_lt h 0 3
  have k3_3 : bits .and .i64 ((h : Int) / 8) 7 = ((fd h 3 3 : Nat) : Int) := i64_fd h 3 3 hh (by decide) _ _ (by first | rfl | simp) rfl
  have f3_3 : fd h 3 3 < 8 := fd_lt h 3 3
  go_enter Tryd.func28, Tryd.ntmps28
  have S := SH.start w
  go_wp2_with (first
    | ((with_reducible refine wpl_isDst 4 ?_); refine SH.alloc (L := []) S rfl 31 rfl (Cel.iv IV.zero) zeroIV ?_; clear S; intro b1 w1 S)
    | ((with_reducible refine wpl_isLoad ?_); refine S.ld 3 _ rfl g 0 rfl 0 (Cel.any [.int .i64 1, .int .i64 2, .int .i64 17, .int .i64 18, .int .i64 19, .int .i64 6, .int .i64 7, .int .i64 20, .int .i64 8, .int .i64 4, .int .i64 10, .int .i64 11, .int .i64 12, .int .i64 21, .int .i64 14, .int .i64 15]) rfl _ rfl _ Tryd.underlying3 rfl rfl ?_)
    | ((with_reducible refine wpl_isStore ?_); refine S.storeAll rfl 31 _ _ rfl b1 (Cel.iv (nReg 1 (fd h 0 3) (fd h 0 3) (fd h 3 3) (!b)).iv) rfl rfl 1 _ rfl rfl (one_iv _) (szIV _) ?_; clear S; intro w2 S; simp only [List.set_cons_zero, List.set_cons_succ] at S)
    | (go_at_call 26; refine (rdata_c _ _ _ _ _ _).mono ?_; rintro e wf ⟨rfl, hbf⟩; replace S := S.below hbf; clear hbf)
    | ((with_reducible refine wpl_is ?_); refine S.sliceA rfl 23 16 _ rfl [.int .i64 1, .int .i64 2, .int .i64 17, .int .i64 18, .int .i64 19, .int .i64 6, .int .i64 7, .int .i64 20, .int .i64 8, .int .i64 4, .int .i64 10, .int .i64 11, .int .i64 12, .int .i64 21, .int .i64 14, .int .i64 15] 3 (by kernel_rfl) ?_; clear S; intro g w1 S))
  (try simp only [Exit.inBlock, Exit.then])
  refine bodyPost_ret (S.results rfl _ _ rfl 1 _ rfl _ Tryd.underlying31 rfl (szIV _)) rfl ⟨rfl, S.low⟩
set_option maxHeartbeats 4000000 in
set_option maxRecDepth 100000 in
theorem rlow_1 (h : Nat) (hh : h < 65536) (b : Bool) (q10_1 : fd h 10 1 = 0) (q6_4 : fd h 6 4 = 1) (w : World) : Calls Tryd.prog 28 #[.int .i64 h, .bool b] w fun e w' => Says w (rRegister h b) e w' := by
  have hN : rRegister h b = (nReg 2 (fd h 0 3) (fd h 0 3) (fd h 3 3) (!b)) := by
    unfold rRegister
    simp [nbeq, nblt, nble, pick2, lowOp, *]
  unfold Says
  rw [hN]
  clear hN
  have k10_1 : bits .and .i64 ((h : Int) / 1024) 1 = 0 := by have := i64_fd h 10 1 hh (by decide) ((h : Int) / 1024) 1 (by first | rfl | simp) rfl; rw [this, q10_1]; rfl
  have k6_4 : bits .and .i64 ((h : Int) / 64) 15 = 1 := by have := i64_fd h 6 4 hh (by decide) ((h : Int) / 64) 15 (by first | rfl | simp) rfl; rw [this, q6_4]; rfl
  have k0_3 : bits .and .i64 ((h : Int)) 7 = ((fd h 0 3 : Nat) : Int) := i64_fd h 0 3 hh (by decide) _ _ (by first | rfl | simp) rfl
  have f0_3 : fd h 0 3 < 8 := fd_lt h 0 3
  have k3_3 : bits .and .i64 ((h : Int) / 8) 7 = ((fd h 3 3 : Nat) : Int) := i64_fd h 3 3 hh (by decide) _ _ (by first | rfl | simp) rfl
  have f3_3 : fd h 3 3 < 8 := fd_lt h 3 3
  go_enter Tryd.func28, Tryd.ntmps28
  have S := SH.start w
  go_wp2_with (first
    | ((with_reducible refine wpl_isDst 4 ?_); refine SH.alloc (L := []) S rfl 31 rfl (Cel.iv IV.zero) zeroIV ?_; clear S; intro b1 w1 S)
    | ((with_reducible refine wpl_isLoad ?_); refine S.ld 3 _ rfl g 1 rfl 0 (Cel.any [.int .i64 1, .int .i64 2, .int .i64 17, .int .i64 18, .int .i64 19, .int .i64 6, .int .i64 7, .int .i64 20, .int .i64 8, .int .i64 4, .int .i64 10, .int .i64 11, .int .i64 12, .int .i64 21, .int .i64 14, .int .i64 15]) rfl _ rfl _ Tryd.underlying3 rfl rfl ?_)
    | ((with_reducible refine wpl_isStore ?_); refine S.storeAll rfl 31 _ _ rfl b1 (Cel.iv (nReg 2 (fd h 0 3) (fd h 0 3) (fd h 3 3) (!b)).iv) rfl rfl 1 _ rfl rfl (one_iv _) (szIV _) ?_; clear S; intro w2 S; simp only [List.set_cons_zero, List.set_cons_succ] at S)
    | (go_at_call 26; refine (rdata_c _ _ _ _ _ _).mono ?_; rintro e wf ⟨rfl, hbf⟩; replace S := S.below hbf; clear hbf)
    | ((with_reducible refine wpl_is ?_); refine S.sliceA rfl 23 16 _ rfl [.int .i64 1, .int .i64 2, .int .i64 17, .int .i64 18, .int .i64 19, .int .i64 6, .int .i64 7, .int .i64 20, .int .i64 8, .int .i64 4, .int .i64 10, .int .i64 11, .int .i64 12, .int .i64 21, .int .i64 14, .int .i64 15] 3 (by kernel_rfl) ?_; clear S; intro g w1 S))
  (try simp only [Exit.inBlock, Exit.then])
  refine bodyPost_ret (S.results rfl _ _ rfl 1 _ rfl _ Tryd.underlying31 rfl (szIV _)) rfl ⟨rfl, S.low⟩
set_option maxHeartbeats 4000000 in
set_option maxRecDepth 100000 in
theorem rlow_2 (h : Nat) (hh : h < 65536) (b : Bool) (q10_1 : fd h 10 1 = 0) (q6_4 : fd h 6 4 = 2) (w : World) : Calls Tryd.prog 28 #[.int .i64 h, .bool b] w fun e w' => Says w (rRegister h b) e w' := by
  have hN : rRegister h b = (nReg 17 (fd h 0 3) (fd h 0 3) (fd h 3 3) (!b)) := by
    unfold rRegister
    simp [nbeq, nblt, nble, pick2, lowOp, *]
  unfold Says
  rw [hN]
  clear hN
  have k10_1 : bits .and .i64 ((h : Int) / 1024) 1 = 0 := by have := i64_fd h 10 1 hh (by decide) ((h : Int) / 1024) 1 (by first | rfl | simp) rfl; rw [this, q10_1]; rfl
  have k6_4 : bits .and .i64 ((h : Int) / 64) 15 = 2 := by have := i64_fd h 6 4 hh (by decide) ((h : Int) / 64) 15 (by first | rfl | simp) rfl; rw [this, q6_4]; rfl
  have k0_3 : bits .and .i64 ((h : Int)) 7 = ((fd h 0 3 : Nat) : Int) := i64_fd h 0 3 hh (by decide) _ _ (by first | rfl | simp) rfl
  have f0_3 : fd h 0 3 < 8 := fd_lt h 0 3
  have k3_3 : bits .and .i64 ((h : Int) / 8) 7 = ((fd h 3 3 : Nat) : Int) := i64_fd h 3 3 hh (by decide) _ _ (by first | rfl | simp) rfl
  have f3_3 : fd h 3 3 < 8 := fd_lt h 3 3
  go_enter Tryd.func28, Tryd.ntmps28
  have S := SH.start w
  go_wp2_with (first
    | ((with_reducible refine wpl_isDst 4 ?_); refine SH.alloc (L := []) S rfl 31 rfl (Cel.iv IV.zero) zeroIV ?_; clear S; intro b1 w1 S)
    | ((with_reducible refine wpl_isLoad ?_); refine S.ld 3 _ rfl g 2 rfl 0 (Cel.any [.int .i64 1, .int .i64 2, .int .i64 17, .int .i64 18, .int .i64 19, .int .i64 6, .int .i64 7, .int .i64 20, .int .i64 8, .int .i64 4, .int .i64 10, .int .i64 11, .int .i64 12, .int .i64 21, .int .i64 14, .int .i64 15]) rfl _ rfl _ Tryd.underlying3 rfl rfl ?_)
    | ((with_reducible refine wpl_isStore ?_); refine S.storeAll rfl 31 _ _ rfl b1 (Cel.iv (nReg 17 (fd h 0 3) (fd h 0 3) (fd h 3 3) (!b)).iv) rfl rfl 1 _ rfl rfl (one_iv _) (szIV _) ?_; clear S; intro w2 S; simp only [List.set_cons_zero, List.set_cons_succ] at S)
    | (go_at_call 26; refine (rdata_c _ _ _ _ _ _).mono ?_; rintro e wf ⟨rfl, hbf⟩; replace S := S.below hbf; clear hbf)
    | ((with_reducible refine wpl_is ?_); refine S.sliceA rfl 23 16 _ rfl [.int .i64 1, .int .i64 2, .int .i64 17, .int .i64 18, .int .i64 19, .int .i64 6, .int .i64 7, .int .i64 20, .int .i64 8, .int .i64 4, .int .i64 10, .int .i64 11, .int .i64 12, .int .i64 21, .int .i64 14, .int .i64 15] 3 (by kernel_rfl) ?_; clear S; intro g w1 S))
  (try simp only [Exit.inBlock, Exit.then])
  refine bodyPost_ret (S.results rfl _ _ rfl 1 _ rfl _ Tryd.underlying31 rfl (szIV _)) rfl ⟨rfl, S.low⟩
set_option maxHeartbeats 4000000 in
set_option maxRecDepth 100000 in
theorem rlow_3 (h : Nat) (hh : h < 65536) (b : Bool) (q10_1 : fd h 10 1 = 0) (q6_4 : fd h 6 4 = 3) (w : World) : Calls Tryd.prog 28 #[.int .i64 h, .bool b] w fun e w' => Says w (rRegister h b) e w' := by
  have hN : rRegister h b = (nReg 18 (fd h 0 3) (fd h 0 3) (fd h 3 3) (!b)) := by
    unfold rRegister
    simp [nbeq, nblt, nble, pick2, lowOp, *]
  unfold Says
  rw [hN]
  clear hN
  have k10_1 : bits .and .i64 ((h : Int) / 1024) 1 = 0 := by have := i64_fd h 10 1 hh (by decide) ((h : Int) / 1024) 1 (by first | rfl | simp) rfl; rw [this, q10_1]; rfl
  have k6_4 : bits .and .i64 ((h : Int) / 64) 15 = 3 := by have := i64_fd h 6 4 hh (by decide) ((h : Int) / 64) 15 (by first | rfl | simp) rfl; rw [this, q6_4]; rfl
  have k0_3 : bits .and .i64 ((h : Int)) 7 = ((fd h 0 3 : Nat) : Int) := i64_fd h 0 3 hh (by decide) _ _ (by first | rfl | simp) rfl
  have f0_3 : fd h 0 3 < 8 := fd_lt h 0 3
  have k3_3 : bits .and .i64 ((h : Int) / 8) 7 = ((fd h 3 3 : Nat) : Int) := i64_fd h 3 3 hh (by decide) _ _ (by first | rfl | simp) rfl
  have f3_3 : fd h 3 3 < 8 := fd_lt h 3 3
  go_enter Tryd.func28, Tryd.ntmps28
  have S := SH.start w
  go_wp2_with (first
    | ((with_reducible refine wpl_isDst 4 ?_); refine SH.alloc (L := []) S rfl 31 rfl (Cel.iv IV.zero) zeroIV ?_; clear S; intro b1 w1 S)
    | ((with_reducible refine wpl_isLoad ?_); refine S.ld 3 _ rfl g 3 rfl 0 (Cel.any [.int .i64 1, .int .i64 2, .int .i64 17, .int .i64 18, .int .i64 19, .int .i64 6, .int .i64 7, .int .i64 20, .int .i64 8, .int .i64 4, .int .i64 10, .int .i64 11, .int .i64 12, .int .i64 21, .int .i64 14, .int .i64 15]) rfl _ rfl _ Tryd.underlying3 rfl rfl ?_)
    | ((with_reducible refine wpl_isStore ?_); refine S.storeAll rfl 31 _ _ rfl b1 (Cel.iv (nReg 18 (fd h 0 3) (fd h 0 3) (fd h 3 3) (!b)).iv) rfl rfl 1 _ rfl rfl (one_iv _) (szIV _) ?_; clear S; intro w2 S; simp only [List.set_cons_zero, List.set_cons_succ] at S)
    | (go_at_call 26; refine (rdata_c _ _ _ _ _ _).mono ?_; rintro e wf ⟨rfl, hbf⟩; replace S := S.below hbf; clear hbf)
    | ((with_reducible refine wpl_is ?_); refine S.sliceA rfl 23 16 _ rfl [.int .i64 1, .int .i64 2, .int .i64 17, .int .i64 18, .int .i64 19, .int .i64 6, .int .i64 7, .int .i64 20, .int .i64 8, .int .i64 4, .int .i64 10, .int .i64 11, .int .i64 12, .int .i64 21, .int .i64 14, .int .i64 15] 3 (by kernel_rfl) ?_; clear S; intro g w1 S))
  (try simp only [Exit.inBlock, Exit.then])
  refine bodyPost_ret (S.results rfl _ _ rfl 1 _ rfl _ Tryd.underlying31 rfl (szIV _)) rfl ⟨rfl, S.low⟩
set_option maxHeartbeats 4000000 in
set_option maxRecDepth 100000 in
theorem rlow_4 (h : Nat) (hh : h < 65536) (b : Bool) (q10_1 : fd h 10 1 = 0) (q6_4 : fd h 6 4 = 4) (w : World) : Calls Tryd.prog 28 #[.int .i64 h, .bool b] w fun e w' => Says w (rRegister h b) e w' := by
  have hN : rRegister h b = (nReg 19 (fd h 0 3) (fd h 0 3) (fd h 3 3) (!b)) := by
    unfold rRegister
    simp [nbeq, nblt, nble, pick2, lowOp, *]
  unfold Says
  rw [hN]
  clear hN
  have k10_1 : bits .and .i64 ((h : Int) / 1024) 1 = 0 := by have := i64_fd h 10 1 hh (by decide) ((h : Int) / 1024) 1 (by first | rfl | simp) rfl; rw [this, q10_1]; rfl
  have k6_4 : bits .and .i64 ((h : Int) / 64) 15 = 4 := by have := i64_fd h 6 4 hh (by decide) ((h : Int) / 64) 15 (by first | rfl | simp) rfl; rw [this, q6_4]; rfl
  have k0_3 : bits .and .i64 ((h : Int)) 7 = ((fd h 0 3 : Nat) : Int) := i64_fd h 0 3 hh (by decide) _ _ (by first | rfl | simp) rfl
  have f0_3 : fd h 0 3 < 8 := fd_lt h 0 3
  have k3_3 : bits .and .i64 ((h : Int) / 8) 7 = ((fd h 3 3 : Nat) : Int) := i64_fd h 3 3 hh (by decide) _ _ (by first | rfl | simp) rfl
  have f3_3 : fd h 3 3 < 8 := fd_lt h 3 3
  go_enter Tryd.func28, Tryd.ntmps28
  have S := SH.start w
  go_wp2_with (first
    | ((with_reducible refine wpl_isDst 4 ?_); refine SH.alloc (L := []) S rfl 31 rfl (Cel.iv IV.zero) zeroIV ?_; clear S; intro b1 w1 S)
    | ((with_reducible refine wpl_isLoad ?_); refine S.ld 3 _ rfl g 4 rfl 0 (Cel.any [.int .i64 1, .int .i64 2, .int .i64 17, .int .i64 18, .int .i64 19, .int .i64 6, .int .i64 7, .int .i64 20, .int .i64 8, .int .i64 4, .int .i64 10, .int .i64 11, .int .i64 12, .int .i64 21, .int .i64 14, .int .i64 15]) rfl _ rfl _ Tryd.underlying3 rfl rfl ?_)
    | ((with_reducible refine wpl_isStore ?_); refine S.storeAll rfl 31 _ _ rfl b1 (Cel.iv (nReg 19 (fd h 0 3) (fd h 0 3) (fd h 3 3) (!b)).iv) rfl rfl 1 _ rfl rfl (one_iv _) (szIV _) ?_; clear S; intro w2 S; simp only [List.set_cons_zero, List.set_cons_succ] at S)
    | (go_at_call 26; refine (rdata_c _ _ _ _ _ _).mono ?_; rintro e wf ⟨rfl, hbf⟩; replace S := S.below hbf; clear hbf)
    | ((with_reducible refine wpl_is ?_); refine S.sliceA rfl 23 16 _ rfl [.int .i64 1, .int .i64 2, .int .i64 17, .int .i64 18, .int .i64 19, .int .i64 6, .int .i64 7, .int .i64 20, .int .i64 8, .int .i64 4, .int .i64 10, .int .i64 11, .int .i64 12, .int .i64 21, .int .i64 14, .int .i64 15] 3 (by kernel_rfl) ?_; clear S; intro g w1 S))
  (try simp only [Exit.inBlock, Exit.then])
  refine bodyPost_ret (S.results rfl _ _ rfl 1 _ rfl _ Tryd.underlying31 rfl (szIV _)) rfl ⟨rfl, S.low⟩
set_option maxHeartbeats 4000000 in
set_option maxRecDepth 100000 in
theorem rlow_5 (h : Nat) (hh : h < 65536) (b : Bool) (q10_1 : fd h 10 1 = 0) (q6_4 : fd h 6 4 = 5) (w : World) : Calls Tryd.prog 28 #[.int .i64 h, .bool b] w fun e w' => Says w (rRegister h b) e w' := by
  have hN : rRegister h b = (nReg 6 (fd h 0 3) (fd h 0 3) (fd h 3 3) (!b)) := by
    unfold rRegister
    simp [nbeq, nblt, nble, pick2, lowOp, *]
  unfold Says
  rw [hN]
  clear hN
  have k10_1 : bits .and .i64 ((h : Int) / 1024) 1 = 0 := by have := i64_fd h 10 1 hh (by decide) ((h : Int) / 1024) 1 (by first | rfl | simp) rfl; rw [this, q10_1]; rfl
  have k6_4 : bits .and .i64 ((h : Int) / 64) 15 = 5 := by have := i64_fd h 6 4 hh (by decide) ((h : Int) / 64) 15 (by first | rfl | simp) rfl; rw [this, q6_4]; rfl
  have k0_3 : bits .and .i64 ((h : Int)) 7 = ((fd h 0 3 : Nat) : Int) := i64_fd h 0 3 hh (by decide) _ _ (by first | rfl | simp) rfl
  have f0_3 : fd h 0 3 < 8 := fd_lt h 0 3
  have k3_3 : bits .and .i64 ((h : Int) / 8) 7 = ((fd h 3 3 : Nat) : Int) := i64_fd h 3 3 hh (by decide) _ _ (by first | rfl | simp) rfl
  have f3_3 : fd h 3 3 < 8 := fd_lt h 3 3
  go_enter Tryd.func28, Tryd.ntmps28
  have S := SH.start w
  go_wp2_with (first
    | ((with_reducible refine wpl_isDst 4 ?_); refine SH.alloc (L := []) S rfl 31 rfl (Cel.iv IV.zero) zeroIV ?_; clear S; intro b1 w1 S)
    | ((with_reducible refine wpl_isLoad ?_); refine S.ld 3 _ rfl g 5 rfl 0 (Cel.any [.int .i64 1, .int .i64 2, .int .i64 17, .int .i64 18, .int .i64 19, .int .i64 6, .int .i64 7, .int .i64 20, .int .i64 8, .int .i64 4, .int .i64 10, .int .i64 11, .int .i64 12, .int .i64 21, .int .i64 14, .int .i64 15]) rfl _ rfl _ Tryd.underlying3 rfl rfl ?_)
    | ((with_reducible refine wpl_isStore ?_); refine S.storeAll rfl 31 _ _ rfl b1 (Cel.iv (nReg 6 (fd h 0 3) (fd h 0 3) (fd h 3 3) (!b)).iv) rfl rfl 1 _ rfl rfl (one_iv _) (szIV _) ?_; clear S; intro w2 S; simp only [List.set_cons_zero, List.set_cons_succ] at S)
    | (go_at_call 26; refine (rdata_c _ _ _ _ _ _).mono ?_; rintro e wf ⟨rfl, hbf⟩; replace S := S.below hbf; clear hbf)
    | ((with_reducible refine wpl_is ?_); refine S.sliceA rfl 23 16 _ rfl [.int .i64 1, .int .i64 2, .int .i64 17, .int .i64 18, .int .i64 19, .int .i64 6, .int .i64 7, .int .i64 20, .int .i64 8, .int .i64 4, .int .i64 10, .int .i64 11, .int .i64 12, .int .i64 21, .int .i64 14, .int .i64 15] 3 (by kernel_rfl) ?_; clear S; intro g w1 S))
  (try simp only [Exit.inBlock, Exit.then])
  refine bodyPost_ret (S.results rfl _ _ rfl 1 _ rfl _ Tryd.underlying31 rfl (szIV _)) rfl ⟨rfl, S.low⟩
set_option maxHeartbeats 4000000 in
set_option maxRecDepth 100000 in
theorem rlow_6 (h : Nat) (hh : h < 65536) (b : Bool) (q10_1 : fd h 10 1 = 0) (q6_4 : fd h 6 4 = 6) (w : World) : Calls Tryd.prog 28 #[.int .i64 h, .bool b] w fun e w' => Says w (rRegister h b) e w' := by
  have hN : rRegister h b = (nReg 7 (fd h 0 3) (fd h 0 3) (fd h 3 3) (!b)) := by
    unfold rRegister
    simp [nbeq, nblt, nble, pick2, lowOp, *]
  unfold Says
  rw [hN]
  clear hN
  have k10_1 : bits .and .i64 ((h : Int) / 1024) 1 = 0 := by have := i64_fd h 10 1 hh (by decide) ((h : Int) / 1024) 1 (by first | rfl | simp) rfl; rw [this, q10_1]; rfl
  have k6_4 : bits .and .i64 ((h : Int) / 64) 15 = 6 := by have := i64_fd h 6 4 hh (by decide) ((h : Int) / 64) 15 (by first | rfl | simp) rfl; rw [this, q6_4]; rfl
  have k0_3 : bits .and .i64 ((h : Int)) 7 = ((fd h 0 3 : Nat) : Int) := i64_fd h 0 3 hh (by decide) _ _ (by first | rfl | simp) rfl
  have f0_3 : fd h 0 3 < 8 := fd_lt h 0 3
  have k3_3 : bits .and .i64 ((h : Int) / 8) 7 = ((fd h 3 3 : Nat) : Int) := i64_fd h 3 3 hh (by decide) _ _ (by first | rfl | simp) rfl
  have f3_3 : fd h 3 3 < 8 := fd_lt h 3 3
  go_enter Tryd.func28, Tryd.ntmps28
  have S := SH.start w
  go_wp2_with (first
    | ((with_reducible refine wpl_isDst 4 ?_); refine SH.alloc (L := []) S rfl 31 rfl (Cel.iv IV.zero) zeroIV ?_; clear S; intro b1 w1 S)
    | ((with_reducible refine wpl_isLoad ?_); refine S.ld 3 _ rfl g 6 rfl 0 (Cel.any [.int .i64 1, .int .i64 2, .int .i64 17, .int .i64 18, .int .i64 19, .int .i64 6, .int .i64 7, .int .i64 20, .int .i64 8, .int .i64 4, .int .i64 10, .int .i64 11, .int .i64 12, .int .i64 21, .int .i64 14, .int .i64 15]) rfl _ rfl _ Tryd.underlying3 rfl rfl ?_)
    | ((with_reducible refine wpl_isStore ?_); refine S.storeAll rfl 31 _ _ rfl b1 (Cel.iv (nReg 7 (fd h 0 3) (fd h 0 3) (fd h 3 3) (!b)).iv) rfl rfl 1 _ rfl rfl (one_iv _) (szIV _) ?_; clear S; intro w2 S; simp only [List.set_cons_zero, List.set_cons_succ] at S)
    | (go_at_call 26; refine (rdata_c _ _ _ _ _ _).mono ?_; rintro e wf ⟨rfl, hbf⟩; replace S := S.below hbf; clear hbf)
    | ((with_reducible refine wpl_is ?_); refine S.sliceA rfl 23 16 _ rfl [.int .i64 1, .int .i64 2, .int .i64 17, .int .i64 18, .int .i64 19, .int .i64 6, .int .i64 7, .int .i64 20, .int .i64 8, .int .i64 4, .int .i64 10, .int .i64 11, .int .i64 12, .int .i64 21, .int .i64 14, .int .i64 15] 3 (by kernel_rfl) ?_; clear S; intro g w1 S))
  (try simp only [Exit.inBlock, Exit.then])
  refine bodyPost_ret (S.results rfl _ _ rfl 1 _ rfl _ Tryd.underlying31 rfl (szIV _)) rfl ⟨rfl, S.low⟩
set_option maxHeartbeats 4000000 in
set_option maxRecDepth 100000 in
theorem rlow_7 (h : Nat) (hh : h < 65536) (b : Bool) (q10_1 : fd h 10 1 = 0) (q6_4 : fd h 6 4 = 7) (w : World) : Calls Tryd.prog 28 #[.int .i64 h, .bool b] w fun e w' => Says w (rRegister h b) e w' := by
  have hN : rRegister h b = (nReg 20 (fd h 0 3) (fd h 0 3) (fd h 3 3) (!b)) := by
    unfold rRegister
    simp [nbeq, nblt, nble, pick2, lowOp, *]
  unfold Says
  rw [hN]
  clear hN
  have k10_1 : bits .and .i64 ((h : Int) / 1024) 1 = 0 := by have := i64_fd h 10 1 hh (by decide) ((h : Int) / 1024) 1 (by first | rfl | simp) rfl; rw [this, q10_1]; rfl
  have k6_4 : bits .and .i64 ((h : Int) / 64) 15 = 7 := by have := i64_fd h 6 4 hh (by decide) ((h : Int) / 64) 15 (by first | rfl | simp) rfl; rw [this, q6_4]; rfl
  have k0_3 : bits .and .i64 ((h : Int)) 7 = ((fd h 0 3 : Nat) : Int) := i64_fd h 0 3 hh (by decide) _ _ (by first | rfl | simp) rfl
  have f0_3 : fd h 0 3 < 8 := fd_lt h 0 3
  have k3_3 : bits .and .i64 ((h : Int) / 8) 7 = ((fd h 3 3 : Nat) : Int) := i64_fd h 3 3 hh (by decide) _ _ (by first | rfl | simp) rfl
  have f3_3 : fd h 3 3 < 8 := fd_lt h 3 3
  go_enter Tryd.func28, Tryd.ntmps28
  have S := SH.start w
  go_wp2_with (first
    | ((with_reducible refine wpl_isDst 4 ?_); refine SH.alloc (L := []) S rfl 31 rfl (Cel.iv IV.zero) zeroIV ?_; clear S; intro b1 w1 S)
    | ((with_reducible refine wpl_isLoad ?_); refine S.ld 3 _ rfl g 7 rfl 0 (Cel.any [.int .i64 1, .int .i64 2, .int .i64 17, .int .i64 18, .int .i64 19, .int .i64 6, .int .i64 7, .int .i64 20, .int .i64 8, .int .i64 4, .int .i64 10, .int .i64 11, .int .i64 12, .int .i64 21, .int .i64 14, .int .i64 15]) rfl _ rfl _ Tryd.underlying3 rfl rfl ?_)
    | ((with_reducible refine wpl_isStore ?_); refine S.storeAll rfl 31 _ _ rfl b1 (Cel.iv (nReg 20 (fd h 0 3) (fd h 0 3) (fd h 3 3) (!b)).iv) rfl rfl 1 _ rfl rfl (one_iv _) (szIV _) ?_; clear S; intro w2 S; simp only [List.set_cons_zero, List.set_cons_succ] at S)
    | (go_at_call 26; refine (rdata_c _ _ _ _ _ _).mono ?_; rintro e wf ⟨rfl, hbf⟩; replace S := S.below hbf; clear hbf)
    | ((with_reducible refine wpl_is ?_); refine S.sliceA rfl 23 16 _ rfl [.int .i64 1, .int .i64 2, .int .i64 17, .int .i64 18, .int .i64 19, .int .i64 6, .int .i64 7, .int .i64 20, .int .i64 8, .int .i64 4, .int .i64 10, .int .i64 11, .int .i64 12, .int .i64 21, .int .i64 14, .int .i64 15] 3 (by kernel_rfl) ?_; clear S; intro g w1 S))
  (try simp only [Exit.inBlock, Exit.then])
  refine bodyPost_ret (S.results rfl _ _ rfl 1 _ rfl _ Tryd.underlying31 rfl (szIV _)) rfl ⟨rfl, S.low⟩
set_option maxHeartbeats 4000000 in
set_option maxRecDepth 100000 in
theorem rlow_8 (h : Nat) (hh : h < 65536) (b : Bool) (q10_1 : fd h 10 1 = 0) (q6_4 : fd h 6 4 = 8) (w : World) : Calls Tryd.prog 28 #[.int .i64 h, .bool b] w fun e w' => Says w (rRegister h b) e w' := by
  have hN : rRegister h b = (nReg 8 0 (fd h 0 3) (fd h 3 3) true) := by
    unfold rRegister
    simp [nbeq, nblt, nble, pick2, lowOp, *]
  unfold Says
  rw [hN]
  clear hN
  have k10_1 : bits .and .i64 ((h : Int) / 1024) 1 = 0 := by have := i64_fd h 10 1 hh (by decide) ((h : Int) / 1024) 1 (by first | rfl | simp) rfl; rw [this, q10_1]; rfl
  have k6_4 : bits .and .i64 ((h : Int) / 64) 15 = 8 := by have := i64_fd h 6 4 hh (by decide) ((h : Int) / 64) 15 (by first | rfl | simp) rfl; rw [this, q6_4]; rfl
  have k0_3 : bits .and .i64 ((h : Int)) 7 = ((fd h 0 3 : Nat) : Int) := i64_fd h 0 3 hh (by decide) _ _ (by first | rfl | simp) rfl
  have f0_3 : fd h 0 3 < 8 := fd_lt h 0 3
  have k3_3 : bits .and .i64 ((h : Int) / 8) 7 = ((fd h 3 3 : Nat) : Int) := i64_fd h 3 3 hh (by decide) _ _ (by first | rfl | simp) rfl
  have f3_3 : fd h 3 3 < 8 := fd_lt h 3 3
  go_enter Tryd.func28, Tryd.ntmps28
  have S := SH.start w
  go_wp2_with (first
    | ((with_reducible refine wpl_isDst 4 ?_); refine SH.alloc (L := []) S rfl 31 rfl (Cel.iv IV.zero) zeroIV ?_; clear S; intro b1 w1 S)
    | ((with_reducible refine wpl_isLoad ?_); refine S.ld 3 _ rfl g 8 rfl 0 (Cel.any [.int .i64 1, .int .i64 2, .int .i64 17, .int .i64 18, .int .i64 19, .int .i64 6, .int .i64 7, .int .i64 20, .int .i64 8, .int .i64 4, .int .i64 10, .int .i64 11, .int .i64 12, .int .i64 21, .int .i64 14, .int .i64 15]) rfl _ rfl _ Tryd.underlying3 rfl rfl ?_)
    | ((with_reducible refine wpl_isStore ?_); refine S.storeAll rfl 31 _ _ rfl b1 (Cel.iv (nReg 8 0 (fd h 0 3) (fd h 3 3) true).iv) rfl rfl 1 _ rfl rfl (one_iv _) (szIV _) ?_; clear S; intro w2 S; simp only [List.set_cons_zero, List.set_cons_succ] at S)
    | (go_at_call 26; refine (rdata_c _ _ _ _ _ _).mono ?_; rintro e wf ⟨rfl, hbf⟩; replace S := S.below hbf; clear hbf)
    | ((with_reducible refine wpl_is ?_); refine S.sliceA rfl 23 16 _ rfl [.int .i64 1, .int .i64 2, .int .i64 17, .int .i64 18, .int .i64 19, .int .i64 6, .int .i64 7, .int .i64 20, .int .i64 8, .int .i64 4, .int .i64 10, .int .i64 11, .int .i64 12, .int .i64 21, .int .i64 14, .int .i64 15] 3 (by kernel_rfl) ?_; clear S; intro g w1 S))
  (try simp only [Exit.inBlock, Exit.then])
  refine bodyPost_ret (S.results rfl _ _ rfl 1 _ rfl _ Tryd.underlying31 rfl (szIV _)) rfl ⟨rfl, S.low⟩
set_option maxHeartbeats 4000000 in
set_option maxRecDepth 100000 in
theorem rlow_9 (h : Nat) (hh : h < 65536) (b : Bool) (q10_1 : fd h 10 1 = 0) (q6_4 : fd h 6 4 = 9) (w : World) : Calls Tryd.prog 28 #[.int .i64 h, .bool b] w fun e w' => Says w (rRegister h b) e w' := by
  have hN : rRegister h b = (nImm 4 (fd h 0 3) (fd h 3 3) 0 (!b)) := by
    unfold rRegister
    simp [nbeq, nblt, nble, pick2, lowOp, *]
  unfold Says
  rw [hN]
  clear hN
  have k10_1 : bits .and .i64 ((h : Int) / 1024) 1 = 0 := by have := i64_fd h 10 1 hh (by decide) ((h : Int) / 1024) 1 (by first | rfl | simp) rfl; rw [this, q10_1]; rfl
  have k6_4 : bits .and .i64 ((h : Int) / 64) 15 = 9 := by have := i64_fd h 6 4 hh (by decide) ((h : Int) / 64) 15 (by first | rfl | simp) rfl; rw [this, q6_4]; rfl
  have k0_3 : bits .and .i64 ((h : Int)) 7 = ((fd h 0 3 : Nat) : Int) := i64_fd h 0 3 hh (by decide) _ _ (by first | rfl | simp) rfl
  have f0_3 : fd h 0 3 < 8 := fd_lt h 0 3
  have k3_3 : bits .and .i64 ((h : Int) / 8) 7 = ((fd h 3 3 : Nat) : Int) := i64_fd h 3 3 hh (by decide) _ _ (by first | rfl | simp) rfl
  have f3_3 : fd h 3 3 < 8 := fd_lt h 3 3
  go_enter Tryd.func28, Tryd.ntmps28
  have S := SH.start w
  go_wp2_with (first
    | ((with_reducible refine wpl_isDst 4 ?_); refine SH.alloc (L := []) S rfl 31 rfl (Cel.iv IV.zero) zeroIV ?_; clear S; intro b1 w1 S)
    | ((with_reducible refine wpl_isLoad ?_); refine S.ld 3 _ rfl g 9 rfl 0 (Cel.any [.int .i64 1, .int .i64 2, .int .i64 17, .int .i64 18, .int .i64 19, .int .i64 6, .int .i64 7, .int .i64 20, .int .i64 8, .int .i64 4, .int .i64 10, .int .i64 11, .int .i64 12, .int .i64 21, .int .i64 14, .int .i64 15]) rfl _ rfl _ Tryd.underlying3 rfl rfl ?_)
    | ((with_reducible refine wpl_isStore ?_); refine S.storeAll rfl 31 _ _ rfl b1 (Cel.iv (nImm 4 (fd h 0 3) (fd h 3 3) 0 (!b)).iv) rfl rfl 1 _ rfl rfl (one_iv _) (szIV _) ?_; clear S; intro w2 S; simp only [List.set_cons_zero, List.set_cons_succ] at S)
    | (go_at_call 27; refine (rimm_c _ _ _ _ _ _).mono ?_; rintro e wf ⟨rfl, hbf⟩; replace S := S.below hbf; clear hbf)
    | ((with_reducible refine wpl_is ?_); refine S.sliceA rfl 23 16 _ rfl [.int .i64 1, .int .i64 2, .int .i64 17, .int .i64 18, .int .i64 19, .int .i64 6, .int .i64 7, .int .i64 20, .int .i64 8, .int .i64 4, .int .i64 10, .int .i64 11, .int .i64 12, .int .i64 21, .int .i64 14, .int .i64 15] 3 (by kernel_rfl) ?_; clear S; intro g w1 S))
  (try simp only [Exit.inBlock, Exit.then])
  refine bodyPost_ret (S.results rfl _ _ rfl 1 _ rfl _ Tryd.underlying31 rfl (szIV _)) rfl ⟨rfl, S.low⟩
set_option maxHeartbeats 4000000 in
set_option maxRecDepth 100000 in
theorem rlow_10 (h : Nat) (hh : h < 65536) (b : Bool) (q10_1 : fd h 10 1 = 0) (q6_4 : fd h 6 4 = 10) (w : World) : Calls Tryd.prog 28 #[.int .i64 h, .bool b] w fun e w' => Says w (rRegister h b) e w' := by
  have hN : rRegister h b = (nReg 10 0 (fd h 0 3) (fd h 3 3) true) := by
    unfold rRegister
    simp [nbeq, nblt, nble, pick2, lowOp, *]
  unfold Says
  rw [hN]
  clear hN
  have k10_1 : bits .and .i64 ((h : Int) / 1024) 1 = 0 := by have := i64_fd h 10 1 hh (by decide) ((h : Int) / 1024) 1 (by first | rfl | simp) rfl; rw [this, q10_1]; rfl
  have k6_4 : bits .and .i64 ((h : Int) / 64) 15 = 10 := by have := i64_fd h 6 4 hh (by decide) ((h : Int) / 64) 15 (by first | rfl | simp) rfl; rw [this, q6_4]; rfl
  have k0_3 : bits .and .i64 ((h : Int)) 7 = ((fd h 0 3 : Nat) : Int) := i64_fd h 0 3 hh (by decide) _ _ (by first | rfl | simp) rfl
  have f0_3 : fd h 0 3 < 8 := fd_lt h 0 3
  have k3_3 : bits .and .i64 ((h : Int) / 8) 7 = ((fd h 3 3 : Nat) : Int) := i64_fd h 3 3 hh (by decide) _ _ (by first | rfl | simp) rfl
  have f3_3 : fd h 3 3 < 8 := fd_lt h 3 3
  go_enter Tryd.func28, Tryd.ntmps28
  have S := SH.start w
  go_wp2_with (first
    | ((with_reducible refine wpl_isDst 4 ?_); refine SH.alloc (L := []) S rfl 31 rfl (Cel.iv IV.zero) zeroIV ?_; clear S; intro b1 w1 S)
    | ((with_reducible refine wpl_isLoad ?_); refine S.ld 3 _ rfl g 10 rfl 0 (Cel.any [.int .i64 1, .int .i64 2, .int .i64 17, .int .i64 18, .int .i64 19, .int .i64 6, .int .i64 7, .int .i64 20, .int .i64 8, .int .i64 4, .int .i64 10, .int .i64 11, .int .i64 12, .int .i64 21, .int .i64 14, .int .i64 15]) rfl _ rfl _ Tryd.underlying3 rfl rfl ?_)
    | ((with_reducible refine wpl_isStore ?_); refine S.storeAll rfl 31 _ _ rfl b1 (Cel.iv (nReg 10 0 (fd h 0 3) (fd h 3 3) true).iv) rfl rfl 1 _ rfl rfl (one_iv _) (szIV _) ?_; clear S; intro w2 S; simp only [List.set_cons_zero, List.set_cons_succ] at S)
    | (go_at_call 26; refine (rdata_c _ _ _ _ _ _).mono ?_; rintro e wf ⟨rfl, hbf⟩; replace S := S.below hbf; clear hbf)
    | ((with_reducible refine wpl_is ?_); refine S.sliceA rfl 23 16 _ rfl [.int .i64 1, .int .i64 2, .int .i64 17, .int .i64 18, .int .i64 19, .int .i64 6, .int .i64 7, .int .i64 20, .int .i64 8, .int .i64 4, .int .i64 10, .int .i64 11, .int .i64 12, .int .i64 21, .int .i64 14, .int .i64 15] 3 (by kernel_rfl) ?_; clear S; intro g w1 S))
  (try simp only [Exit.inBlock, Exit.then])
  refine bodyPost_ret (S.results rfl _ _ rfl 1 _ rfl _ Tryd.underlying31 rfl (szIV _)) rfl ⟨rfl, S.low⟩
set_option maxHeartbeats 4000000 in
set_option maxRecDepth 100000 in
theorem rlow_11 (h : Nat) (hh : h < 65536) (b : Bool) (q10_1 : fd h 10 1 = 0) (q6_4 : fd h 6 4 = 11) (w : World) : Calls Tryd.prog 28 #[.int .i64 h, .bool b] w fun e w' => Says w (rRegister h b) e w' := by
  have hN : rRegister h b = (nReg 11 0 (fd h 0 3) (fd h 3 3) true) := by
    unfold rRegister
    simp [nbeq, nblt, nble, pick2, lowOp, *]
  unfold Says
  rw [hN]
  clear hN
  have k10_1 : bits .and .i64 ((h : Int) / 1024) 1 = 0 := by have := i64_fd h 10 1 hh (by decide) ((h : Int) / 1024) 1 (by first | rfl | simp) rfl; rw [this, q10_1]; rfl
  have k6_4 : bits .and .i64 ((h : Int) / 64) 15 = 11 := by have := i64_fd h 6 4 hh (by decide) ((h : Int) / 64) 15 (by first | rfl | simp) rfl; rw [this, q6_4]; rfl
  have k0_3 : bits .and .i64 ((h : Int)) 7 = ((fd h 0 3 : Nat) : Int) := i64_fd h 0 3 hh (by decide) _ _ (by first | rfl | simp) rfl
  have f0_3 : fd h 0 3 < 8 := fd_lt h 0 3
  have k3_3 : bits .and .i64 ((h : Int) / 8) 7 = ((fd h 3 3 : Nat) : Int) := i64_fd h 3 3 hh (by decide) _ _ (by first | rfl | simp) rfl
  have f3_3 : fd h 3 3 < 8 := fd_lt h 3 3
  go_enter Tryd.func28, Tryd.ntmps28
  have S := SH.start w
  go_wp2_with (first
    | ((with_reducible refine wpl_isDst 4 ?_); refine SH.alloc (L := []) S rfl 31 rfl (Cel.iv IV.zero) zeroIV ?_; clear S; intro b1 w1 S)
    | ((with_reducible refine wpl_isLoad ?_); refine S.ld 3 _ rfl g 11 rfl 0 (Cel.any [.int .i64 1, .int .i64 2, .int .i64 17, .int .i64 18, .int .i64 19, .int .i64 6, .int .i64 7, .int .i64 20, .int .i64 8, .int .i64 4, .int .i64 10, .int .i64 11, .int .i64 12, .int .i64 21, .int .i64 14, .int .i64 15]) rfl _ rfl _ Tryd.underlying3 rfl rfl ?_)
    | ((with_reducible refine wpl_isStore ?_); refine S.storeAll rfl 31 _ _ rfl b1 (Cel.iv (nReg 11 0 (fd h 0 3) (fd h 3 3) true).iv) rfl rfl 1 _ rfl rfl (one_iv _) (szIV _) ?_; clear S; intro w2 S; simp only [List.set_cons_zero, List.set_cons_succ] at S)
    | (go_at_call 26; refine (rdata_c _ _ _ _ _ _).mono ?_; rintro e wf ⟨rfl, hbf⟩; replace S := S.below hbf; clear hbf)
    | ((with_reducible refine wpl_is ?_); refine S.sliceA rfl 23 16 _ rfl [.int .i64 1, .int .i64 2, .int .i64 17, .int .i64 18, .int .i64 19, .int .i64 6, .int .i64 7, .int .i64 20, .int .i64 8, .int .i64 4, .int .i64 10, .int .i64 11, .int .i64 12, .int .i64 21, .int .i64 14, .int .i64 15] 3 (by kernel_rfl) ?_; clear S; intro g w1 S))
  (try simp only [Exit.inBlock, Exit.then])
  refine bodyPost_ret (S.results rfl _ _ rfl 1 _ rfl _ Tryd.underlying31 rfl (szIV _)) rfl ⟨rfl, S.low⟩
set_option maxHeartbeats 4000000 in
set_option maxRecDepth 100000 in
theorem rlow_12 (h : Nat) (hh : h < 65536) (b : Bool) (q10_1 : fd h 10 1 = 0) (q6_4 : fd h 6 4 = 12) (w : World) : Calls Tryd.prog 28 #[.int .i64 h, .bool b] w fun e w' => Says w (rRegister h b) e w' := by
  have hN : rRegister h b = (nReg 12 (fd h 0 3) (fd h 0 3) (fd h 3 3) (!b)) := by
    unfold rRegister
    simp [nbeq, nblt, nble, pick2, lowOp, *]
  unfold Says
  rw [hN]
  clear hN
  have k10_1 : bits .and .i64 ((h : Int) / 1024) 1 = 0 := by have := i64_fd h 10 1 hh (by decide) ((h : Int) / 1024) 1 (by first | rfl | simp) rfl; rw [this, q10_1]; rfl
  have k6_4 : bits .and .i64 ((h : Int) / 64) 15 = 12 := by have := i64_fd h 6 4 hh (by decide) ((h : Int) / 64) 15 (by first | rfl | simp) rfl; rw [this, q6_4]; rfl
  have k0_3 : bits .and .i64 ((h : Int)) 7 = ((fd h 0 3 : Nat) : Int) := i64_fd h 0 3 hh (by decide) _ _ (by first | rfl | simp) rfl
  have f0_3 : fd h 0 3 < 8 := fd_lt h 0 3
  have k3_3 : bits .and .i64 ((h : Int) / 8) 7 = ((fd h 3 3 : Nat) : Int) := i64_fd h 3 3 hh (by decide) _ _ (by first | rfl | simp) rfl
  have f3_3 : fd h 3 3 < 8 := fd_lt h 3 3
  go_enter Tryd.func28, Tryd.ntmps28
  have S := SH.start w
  go_wp2_with (first
    | ((with_reducible refine wpl_isDst 4 ?_); refine SH.alloc (L := []) S rfl 31 rfl (Cel.iv IV.zero) zeroIV ?_; clear S; intro b1 w1 S)
    | ((with_reducible refine wpl_isLoad ?_); refine S.ld 3 _ rfl g 12 rfl 0 (Cel.any [.int .i64 1, .int .i64 2, .int .i64 17, .int .i64 18, .int .i64 19, .int .i64 6, .int .i64 7, .int .i64 20, .int .i64 8, .int .i64 4, .int .i64 10, .int .i64 11, .int .i64 12, .int .i64 21, .int .i64 14, .int .i64 15]) rfl _ rfl _ Tryd.underlying3 rfl rfl ?_)
    | ((with_reducible refine wpl_isStore ?_); refine S.storeAll rfl 31 _ _ rfl b1 (Cel.iv (nReg 12 (fd h 0 3) (fd h 0 3) (fd h 3 3) (!b)).iv) rfl rfl 1 _ rfl rfl (one_iv _) (szIV _) ?_; clear S; intro w2 S; simp only [List.set_cons_zero, List.set_cons_succ] at S)
    | (go_at_call 26; refine (rdata_c _ _ _ _ _ _).mono ?_; rintro e wf ⟨rfl, hbf⟩; replace S := S.below hbf; clear hbf)
    | ((with_reducible refine wpl_is ?_); refine S.sliceA rfl 23 16 _ rfl [.int .i64 1, .int .i64 2, .int .i64 17, .int .i64 18, .int .i64 19, .int .i64 6, .int .i64 7, .int .i64 20, .int .i64 8, .int .i64 4, .int .i64 10, .int .i64 11, .int .i64 12, .int .i64 21, .int .i64 14, .int .i64 15] 3 (by kernel_rfl) ?_; clear S; intro g w1 S))
  (try simp only [Exit.inBlock, Exit.then])
  refine bodyPost_ret (S.results rfl _ _ rfl 1 _ rfl _ Tryd.underlying31 rfl (szIV _)) rfl ⟨rfl, S.low⟩
set_option maxHeartbeats 4000000 in
set_option maxRecDepth 100000 in
theorem rlow_13 (h : Nat) (hh : h < 65536) (b : Bool) (q10_1 : fd h 10 1 = 0) (q6_4 : fd h 6 4 = 13) (w : World) : Calls Tryd.prog 28 #[.int .i64 h, .bool b] w fun e w' => Says w (rRegister h b) e w' := by
  have hN : rRegister h b = (nReg 21 (fd h 0 3) (fd h 3 3) (fd h 0 3) (!b)) := by
    unfold rRegister
    simp [nbeq, nblt, nble, pick2, lowOp, *]
  unfold Says
  rw [hN]
  clear hN
  have k10_1 : bits .and .i64 ((h : Int) / 1024) 1 = 0 := by have := i64_fd h 10 1 hh (by decide) ((h : Int) / 1024) 1 (by first | rfl | simp) rfl; rw [this, q10_1]; rfl
  have k6_4 : bits .and .i64 ((h : Int) / 64) 15 = 13 := by have := i64_fd h 6 4 hh (by decide) ((h : Int) / 64) 15 (by first | rfl | simp) rfl; rw [this, q6_4]; rfl
  have k0_3 : bits .and .i64 ((h : Int)) 7 = ((fd h 0 3 : Nat) : Int) := i64_fd h 0 3 hh (by decide) _ _ (by first | rfl | simp) rfl
  have f0_3 : fd h 0 3 < 8 := fd_lt h 0 3
  have k3_3 : bits .and .i64 ((h : Int) / 8) 7 = ((fd h 3 3 : Nat) : Int) := i64_fd h 3 3 hh (by decide) _ _ (by first | rfl | simp) rfl
  have f3_3 : fd h 3 3 < 8 := fd_lt h 3 3
  go_enter Tryd.func28, Tryd.ntmps28
  have S := SH.start w
  go_wp2_with (first
    | ((with_reducible refine wpl_isDst 4 ?_); refine SH.alloc (L := []) S rfl 31 rfl (Cel.iv IV.zero) zeroIV ?_; clear S; intro b1 w1 S)
    | ((with_reducible refine wpl_isLoad ?_); refine S.ld 3 _ rfl g 13 rfl 0 (Cel.any [.int .i64 1, .int .i64 2, .int .i64 17, .int .i64 18, .int .i64 19, .int .i64 6, .int .i64 7, .int .i64 20, .int .i64 8, .int .i64 4, .int .i64 10, .int .i64 11, .int .i64 12, .int .i64 21, .int .i64 14, .int .i64 15]) rfl _ rfl _ Tryd.underlying3 rfl rfl ?_)
    | ((with_reducible refine wpl_isStore ?_); refine S.storeAll rfl 31 _ _ rfl b1 (Cel.iv (nReg 21 (fd h 0 3) (fd h 3 3) (fd h 0 3) (!b)).iv) rfl rfl 1 _ rfl rfl (one_iv _) (szIV _) ?_; clear S; intro w2 S; simp only [List.set_cons_zero, List.set_cons_succ] at S)
    | (go_at_call 26; refine (rdata_c _ _ _ _ _ _).mono ?_; rintro e wf ⟨rfl, hbf⟩; replace S := S.below hbf; clear hbf)
    | ((with_reducible refine wpl_is ?_); refine S.sliceA rfl 23 16 _ rfl [.int .i64 1, .int .i64 2, .int .i64 17, .int .i64 18, .int .i64 19, .int .i64 6, .int .i64 7, .int .i64 20, .int .i64 8, .int .i64 4, .int .i64 10, .int .i64 11, .int .i64 12, .int .i64 21, .int .i64 14, .int .i64 15] 3 (by kernel_rfl) ?_; clear S; intro g w1 S))
  (try simp only [Exit.inBlock, Exit.then])
  refine bodyPost_ret (S.results rfl _ _ rfl 1 _ rfl _ Tryd.underlying31 rfl (szIV _)) rfl ⟨rfl, S.low⟩
set_option maxHeartbeats 4000000 in
set_option maxRecDepth 100000 in
theorem rlow_14 (h : Nat) (hh : h < 65536) (b : Bool) (q10_1 : fd h 10 1 = 0) (q6_4 : fd h 6 4 = 14) (w : World) : Calls Tryd.prog 28 #[.int .i64 h, .bool b] w fun e w' => Says w (rRegister h b) e w' := by
  have hN : rRegister h b = (nReg 14 (fd h 0 3) (fd h 0 3) (fd h 3 3) (!b)) := by
    unfold rRegister
    simp [nbeq, nblt, nble, pick2, lowOp, *]
  unfold Says
  rw [hN]
  clear hN
  have k10_1 : bits .and .i64 ((h : Int) / 1024) 1 = 0 := by have := i64_fd h 10 1 hh (by decide) ((h : Int) / 1024) 1 (by first | rfl | simp) rfl; rw [this, q10_1]; rfl
  have k6_4 : bits .and .i64 ((h : Int) / 64) 15 = 14 := by have := i64_fd h 6 4 hh (by decide) ((h : Int) / 64) 15 (by first | rfl | simp) rfl; rw [this, q6_4]; rfl
  have k0_3 : bits .and .i64 ((h : Int)) 7 = ((fd h 0 3 : Nat) : Int) := i64_fd h 0 3 hh (by decide) _ _ (by first | rfl | simp) rfl
  have f0_3 : fd h 0 3 < 8 := fd_lt h 0 3
  have k3_3 : bits .and .i64 ((h : Int) / 8) 7 = ((fd h 3 3 : Nat) : Int) := i64_fd h 3 3 hh (by decide) _ _ (by first | rfl | simp) rfl
  have f3_3 : fd h 3 3 < 8 := fd_lt h 3 3
  go_enter Tryd.func28, Tryd.ntmps28
  have S := SH.start w
  go_wp2_with (first
    | ((with_reducible refine wpl_isDst 4 ?_); refine SH.alloc (L := []) S rfl 31 rfl (Cel.iv IV.zero) zeroIV ?_; clear S; intro b1 w1 S)
    | ((with_reducible refine wpl_isLoad ?_); refine S.ld 3 _ rfl g 14 rfl 0 (Cel.any [.int .i64 1, .int .i64 2, .int .i64 17, .int .i64 18, .int .i64 19, .int .i64 6, .int .i64 7, .int .i64 20, .int .i64 8, .int .i64 4, .int .i64 10, .int .i64 11, .int .i64 12, .int .i64 21, .int .i64 14, .int .i64 15]) rfl _ rfl _ Tryd.underlying3 rfl rfl ?_)
    | ((with_reducible refine wpl_isStore ?_); refine S.storeAll rfl 31 _ _ rfl b1 (Cel.iv (nReg 14 (fd h 0 3) (fd h 0 3) (fd h 3 3) (!b)).iv) rfl rfl 1 _ rfl rfl (one_iv _) (szIV _) ?_; clear S; intro w2 S; simp only [List.set_cons_zero, List.set_cons_succ] at S)
    | (go_at_call 26; refine (rdata_c _ _ _ _ _ _).mono ?_; rintro e wf ⟨rfl, hbf⟩; replace S := S.below hbf; clear hbf)
    | ((with_reducible refine wpl_is ?_); refine S.sliceA rfl 23 16 _ rfl [.int .i64 1, .int .i64 2, .int .i64 17, .int .i64 18, .int .i64 19, .int .i64 6, .int .i64 7, .int .i64 20, .int .i64 8, .int .i64 4, .int .i64 10, .int .i64 11, .int .i64 12, .int .i64 21, .int .i64 14, .int .i64 15] 3 (by kernel_rfl) ?_; clear S; intro g w1 S))
  (try simp only [Exit.inBlock, Exit.then])
  refine bodyPost_ret (S.results rfl _ _ rfl 1 _ rfl _ Tryd.underlying31 rfl (szIV _)) rfl ⟨rfl, S.low⟩
set_option maxHeartbeats 4000000 in
set_option maxRecDepth 100000 in
theorem rlow_15 (h : Nat) (hh : h < 65536) (b : Bool) (q10_1 : fd h 10 1 = 0) (q6_4 : fd h 6 4 = 15) (w : World) : Calls Tryd.prog 28 #[.int .i64 h, .bool b] w fun e w' => Says w (rRegister h b) e w' := by
  have hN : rRegister h b = (nReg 15 (fd h 0 3) 0 (fd h 3 3) (!b)) := by
    unfold rRegister
    simp [nbeq, nblt, nble, pick2, lowOp, *]
  unfold Says
  rw [hN]
  clear hN
  have k10_1 : bits .and .i64 ((h : Int) / 1024) 1 = 0 := by have := i64_fd h 10 1 hh (by decide) ((h : Int) / 1024) 1 (by first | rfl | simp) rfl; rw [this, q10_1]; rfl
  have k6_4 : bits .and .i64 ((h : Int) / 64) 15 = 15 := by have := i64_fd h 6 4 hh (by decide) ((h : Int) / 64) 15 (by first | rfl | simp) rfl; rw [this, q6_4]; rfl
  have k0_3 : bits .and .i64 ((h : Int)) 7 = ((fd h 0 3 : Nat) : Int) := i64_fd h 0 3 hh (by decide) _ _ (by first | rfl | simp) rfl
  have f0_3 : fd h 0 3 < 8 := fd_lt h 0 3
  have k3_3 : bits .and .i64 ((h : Int) / 8) 7 = ((fd h 3 3 : Nat) : Int) := i64_fd h 3 3 hh (by decide) _ _ (by first | rfl | simp) rfl
  have f3_3 : fd h 3 3 < 8 := fd_lt h 3 3
  go_enter Tryd.func28, Tryd.ntmps28
  have S := SH.start w
  go_wp2_with (first
    | ((with_reducible refine wpl_isDst 4 ?_); refine SH.alloc (L := []) S rfl 31 rfl (Cel.iv IV.zero) zeroIV ?_; clear S; intro b1 w1 S)
    | ((with_reducible refine wpl_isLoad ?_); refine S.ld 3 _ rfl g 15 rfl 0 (Cel.any [.int .i64 1, .int .i64 2, .int .i64 17, .int .i64 18, .int .i64 19, .int .i64 6, .int .i64 7, .int .i64 20, .int .i64 8, .int .i64 4, .int .i64 10, .int .i64 11, .int .i64 12, .int .i64 21, .int .i64 14, .int .i64 15]) rfl _ rfl _ Tryd.underlying3 rfl rfl ?_)
    | ((with_reducible refine wpl_isStore ?_); refine S.storeAll rfl 31 _ _ rfl b1 (Cel.iv (nReg 15 (fd h 0 3) 0 (fd h 3 3) (!b)).iv) rfl rfl 1 _ rfl rfl (one_iv _) (szIV _) ?_; clear S; intro w2 S; simp only [List.set_cons_zero, List.set_cons_succ] at S)
    | (go_at_call 26; refine (rdata_c _ _ _ _ _ _).mono ?_; rintro e wf ⟨rfl, hbf⟩; replace S := S.below hbf; clear hbf)
    | ((with_reducible refine wpl_is ?_); refine S.sliceA rfl 23 16 _ rfl [.int .i64 1, .int .i64 2, .int .i64 17, .int .i64 18, .int .i64 19, .int .i64 6, .int .i64 7, .int .i64 20, .int .i64 8, .int .i64 4, .int .i64 10, .int .i64 11, .int .i64 12, .int .i64 21, .int .i64 14, .int .i64 15] 3 (by kernel_rfl) ?_; clear S; intro g w1 S))
  (try simp only [Exit.inBlock, Exit.then])
  refine bodyPost_ret (S.results rfl _ _ rfl 1 _ rfl _ Tryd.underlying31 rfl (szIV _)) rfl ⟨rfl, S.low⟩
end Go.Proofs.YtbbkiiabjhgpkaaDoor
namespace Go.Proofs.YtbbkiiabjhgpkaaDoor
open Go.ChangeShapes Go.WideShapes Go.ChangeAt Go.RowKit
set_option linter.unusedVariables false
set_option linter.unusedSimpArgs false

set_option maxRecDepth 100000 in
theorem eight_all : all16 (fun h => Nat.beq (Nat.land (h / 16) 8) (fd h 7 1 * 8)) = true := by kernel_rfl
theorem eight_bits (h : Nat) (hh : h < 65536) : bits .and .i64 ((h : Int) / 16) 8 = ((fd h 7 1 * 8 : Nat) : Int) := by
  have h1 : ((h : Int) / 16) = ((h / 16 : Nat) : Int) := by omega
  rw [h1, show (8 : Int) = ((8 : Nat) : Int) from rfl, (bits_nat .i64 33 (by decide) (fun n h1 h2 => by rw [IntKind.wrap_i64]; omega) _ 8 (by omega) (by decide)).1]
  exact congrArg _ (Nat.eq_of_beq_eq_true (all16_at eight_all h hh))
theorem highR_bits (h : Nat) : bits .or .i64 ((fd h 0 3 : Nat) : Int) ((fd h 7 1 * 8 : Nat) : Int) = ((highD h : Nat) : Int) := by
  have f1 : fd h 7 1 < 2 := fd_lt h 7 1
  have f2 : fd h 0 3 < 8 := fd_lt h 0 3
  rw [(bits_nat .i64 33 (by decide) (fun n h1 h2 => by rw [IntKind.wrap_i64]; omega) _ _ (by omega) (by omega)).2, Nat.or_comm]
  refine congrArg _ ?_
  have := Nat.two_pow_add_eq_or_of_lt (i := 3) f2 (fd h 7 1)
  unfold highD
  rw [show fd h 7 1 * 8 = 2 ^ 3 * fd h 7 1 by omega, ← this]
set_option maxHeartbeats 4000000 in
set_option maxRecDepth 100000 in
theorem rhi0_a (h : Nat) (hh : h < 65536) (b : Bool) (q10_1 : fd h 10 1 = 1) (q8_2 : fd h 8 2 = 0) (g : highD h = 15) (w : World) : Calls Tryd.prog 28 #[.int .i64 h, .bool b] w fun e w' => Says w (rRegister h b) e w' := by
  have hN : rRegister h b = (nNone 65 h) := by
    unfold rRegister
    simp [nbeq, nblt, nble, pick2, *]
  unfold Says
  rw [hN]
  clear hN
  have k10_1 : bits .and .i64 ((h : Int) / 1024) 1 = 1 := by have := i64_fd h 10 1 hh (by decide) ((h : Int) / 1024) 1 (by first | rfl | simp) rfl; rw [this, q10_1]; rfl
  have k8_2 : bits .and .i64 ((h : Int) / 256) 3 = 0 := by have := i64_fd h 8 2 hh (by decide) ((h : Int) / 256) 3 (by first | rfl | simp) rfl; rw [this, q8_2]; rfl
  have k0_3 : bits .and .i64 ((h : Int)) 7 = ((fd h 0 3 : Nat) : Int) := i64_fd h 0 3 hh (by decide) _ _ (by first | rfl | simp) rfl
  have f0_3 : fd h 0 3 < 8 := fd_lt h 0 3
  have k3_3 : bits .and .i64 ((h : Int) / 8) 7 = ((fd h 3 3 : Nat) : Int) := i64_fd h 3 3 hh (by decide) _ _ (by first | rfl | simp) rfl
  have f3_3 : fd h 3 3 < 8 := fd_lt h 3 3
  have k3_4 : bits .and .i64 ((h : Int) / 8) 15 = ((fd h 3 4 : Nat) : Int) := i64_fd h 3 4 hh (by decide) _ _ (by first | rfl | simp) rfl
  have f3_4 : fd h 3 4 < 16 := fd_lt h 3 4
  have hd16 : highD h < 16 := by unfold highD; have := fd_lt h 7 1; have := fd_lt h 0 3; omega
  have e8 := eight_bits h hh
  have eR := highR_bits h
  generalize hgE : fd h 7 1 * 8 = E8 at *
  have t1 : (((highD h : Nat) : Int) == 15) = true := by simp; omega
  go_enter Tryd.func28, Tryd.ntmps28
  have S := SH.start w
  go_wp2_with (first
    | ((with_reducible refine wpl_isDst 4 ?_); refine SH.alloc (L := []) S rfl 31 rfl (Cel.iv IV.zero) zeroIV ?_; clear S; intro b1 w1 S)
    | ((with_reducible refine wpl_isStore ?_); refine S.storeAll rfl 31 _ _ rfl b1 (Cel.iv (nNone 65 h).iv) rfl rfl 0 _ rfl rfl (one_iv _) (szIV _) ?_; clear S; intro w2 S; simp only [List.set_cons_zero, List.set_cons_succ] at S)
    | (go_at_call 25; refine (rbad_c _ _).mono ?_; rintro e wf ⟨rfl, hbf⟩; replace S := S.below hbf; clear hbf))
  (try simp only [Exit.inBlock, Exit.then])
  refine bodyPost_ret (S.results rfl _ _ rfl 0 _ rfl _ Tryd.underlying31 rfl (szIV _)) rfl ⟨rfl, S.low⟩
set_option maxHeartbeats 4000000 in
set_option maxRecDepth 100000 in
theorem rhi0_b (h : Nat) (hh : h < 65536) (b : Bool) (q10_1 : fd h 10 1 = 1) (q8_2 : fd h 8 2 = 0) (g : highD h ≠ 15 ∧ fd h 3 4 = 15) (w : World) : Calls Tryd.prog 28 #[.int .i64 h, .bool b] w fun e w' => Says w (rRegister h b) e w' := by
  have hN : rRegister h b = (nNone 65 h) := by
    unfold rRegister
    simp [nbeq, nblt, nble, pick2, *]
  unfold Says
  rw [hN]
  clear hN
  have k10_1 : bits .and .i64 ((h : Int) / 1024) 1 = 1 := by have := i64_fd h 10 1 hh (by decide) ((h : Int) / 1024) 1 (by first | rfl | simp) rfl; rw [this, q10_1]; rfl
  have k8_2 : bits .and .i64 ((h : Int) / 256) 3 = 0 := by have := i64_fd h 8 2 hh (by decide) ((h : Int) / 256) 3 (by first | rfl | simp) rfl; rw [this, q8_2]; rfl
  have k0_3 : bits .and .i64 ((h : Int)) 7 = ((fd h 0 3 : Nat) : Int) := i64_fd h 0 3 hh (by decide) _ _ (by first | rfl | simp) rfl
  have f0_3 : fd h 0 3 < 8 := fd_lt h 0 3
  have k3_3 : bits .and .i64 ((h : Int) / 8) 7 = ((fd h 3 3 : Nat) : Int) := i64_fd h 3 3 hh (by decide) _ _ (by first | rfl | simp) rfl
  have f3_3 : fd h 3 3 < 8 := fd_lt h 3 3
  have k3_4 : bits .and .i64 ((h : Int) / 8) 15 = ((fd h 3 4 : Nat) : Int) := i64_fd h 3 4 hh (by decide) _ _ (by first | rfl | simp) rfl
  have f3_4 : fd h 3 4 < 16 := fd_lt h 3 4
  have hd16 : highD h < 16 := by unfold highD; have := fd_lt h 7 1; have := fd_lt h 0 3; omega
  have e8 := eight_bits h hh
  have eR := highR_bits h
  generalize hgE : fd h 7 1 * 8 = E8 at *
  have t2 : (((highD h : Nat) : Int) == 15) = false := by simp; omega
  have t3 : (((fd h 3 4 : Nat) : Int) == 15) = true := by simp; omega
  go_enter Tryd.func28, Tryd.ntmps28
  have S := SH.start w
  go_wp2_with (first
    | ((with_reducible refine wpl_isDst 4 ?_); refine SH.alloc (L := []) S rfl 31 rfl (Cel.iv IV.zero) zeroIV ?_; clear S; intro b1 w1 S)
    | ((with_reducible refine wpl_isStore ?_); refine S.storeAll rfl 31 _ _ rfl b1 (Cel.iv (nNone 65 h).iv) rfl rfl 0 _ rfl rfl (one_iv _) (szIV _) ?_; clear S; intro w2 S; simp only [List.set_cons_zero, List.set_cons_succ] at S)
    | (go_at_call 25; refine (rbad_c _ _).mono ?_; rintro e wf ⟨rfl, hbf⟩; replace S := S.below hbf; clear hbf))
  (try simp only [Exit.inBlock, Exit.then])
  refine bodyPost_ret (S.results rfl _ _ rfl 0 _ rfl _ Tryd.underlying31 rfl (szIV _)) rfl ⟨rfl, S.low⟩
set_option maxHeartbeats 4000000 in
set_option maxRecDepth 100000 in
theorem rhi0_c (h : Nat) (hh : h < 65536) (b : Bool) (q10_1 : fd h 10 1 = 1) (q8_2 : fd h 8 2 = 0) (g : highD h ≠ 15 ∧ fd h 3 4 ≠ 15) (w : World) : Calls Tryd.prog 28 #[.int .i64 h, .bool b] w fun e w' => Says w (rRegister h b) e w' := by
  have hN : rRegister h b = (nReg 5 (highD h) (highD h) (fd h 3 4) false) := by
    unfold rRegister
    simp [nbeq, nblt, nble, pick2, *]
  unfold Says
  rw [hN]
  clear hN
  have k10_1 : bits .and .i64 ((h : Int) / 1024) 1 = 1 := by have := i64_fd h 10 1 hh (by decide) ((h : Int) / 1024) 1 (by first | rfl | simp) rfl; rw [this, q10_1]; rfl
  have k8_2 : bits .and .i64 ((h : Int) / 256) 3 = 0 := by have := i64_fd h 8 2 hh (by decide) ((h : Int) / 256) 3 (by first | rfl | simp) rfl; rw [this, q8_2]; rfl
  have k0_3 : bits .and .i64 ((h : Int)) 7 = ((fd h 0 3 : Nat) : Int) := i64_fd h 0 3 hh (by decide) _ _ (by first | rfl | simp) rfl
  have f0_3 : fd h 0 3 < 8 := fd_lt h 0 3
  have k3_3 : bits .and .i64 ((h : Int) / 8) 7 = ((fd h 3 3 : Nat) : Int) := i64_fd h 3 3 hh (by decide) _ _ (by first | rfl | simp) rfl
  have f3_3 : fd h 3 3 < 8 := fd_lt h 3 3
  have k3_4 : bits .and .i64 ((h : Int) / 8) 15 = ((fd h 3 4 : Nat) : Int) := i64_fd h 3 4 hh (by decide) _ _ (by first | rfl | simp) rfl
  have f3_4 : fd h 3 4 < 16 := fd_lt h 3 4
  have hd16 : highD h < 16 := by unfold highD; have := fd_lt h 7 1; have := fd_lt h 0 3; omega
  have e8 := eight_bits h hh
  have eR := highR_bits h
  generalize hgE : fd h 7 1 * 8 = E8 at *
  have t4 : (((highD h : Nat) : Int) == 15) = false := by simp; omega
  have t5 : (((fd h 3 4 : Nat) : Int) == 15) = false := by simp; omega
  go_enter Tryd.func28, Tryd.ntmps28
  have S := SH.start w
  go_wp2_with (first
    | ((with_reducible refine wpl_isDst 4 ?_); refine SH.alloc (L := []) S rfl 31 rfl (Cel.iv IV.zero) zeroIV ?_; clear S; intro b1 w1 S)
    | ((with_reducible refine wpl_isStore ?_); refine S.storeAll rfl 31 _ _ rfl b1 (Cel.iv (nReg 5 (highD h) (highD h) (fd h 3 4) false).iv) rfl rfl 0 _ rfl rfl (one_iv _) (szIV _) ?_; clear S; intro w2 S; simp only [List.set_cons_zero, List.set_cons_succ] at S)
    | (go_at_call 26; refine (rdata_c _ _ _ _ _ _).mono ?_; rintro e wf ⟨rfl, hbf⟩; replace S := S.below hbf; clear hbf))
  (try simp only [Exit.inBlock, Exit.then])
  refine bodyPost_ret (S.results rfl _ _ rfl 0 _ rfl _ Tryd.underlying31 rfl (szIV _)) rfl ⟨rfl, S.low⟩
set_option maxHeartbeats 4000000 in
set_option maxRecDepth 100000 in
theorem rhi2_a (h : Nat) (hh : h < 65536) (b : Bool) (q10_1 : fd h 10 1 = 1) (q8_2 : fd h 8 2 = 2) (g : highD h = 15) (w : World) : Calls Tryd.prog 28 #[.int .i64 h, .bool b] w fun e w' => Says w (rRegister h b) e w' := by
  have hN : rRegister h b = (nNone 65 h) := by
    unfold rRegister
    simp [nbeq, nblt, nble, pick2, *]
  unfold Says
  rw [hN]
  clear hN
  have k10_1 : bits .and .i64 ((h : Int) / 1024) 1 = 1 := by have := i64_fd h 10 1 hh (by decide) ((h : Int) / 1024) 1 (by first | rfl | simp) rfl; rw [this, q10_1]; rfl
  have k8_2 : bits .and .i64 ((h : Int) / 256) 3 = 2 := by have := i64_fd h 8 2 hh (by decide) ((h : Int) / 256) 3 (by first | rfl | simp) rfl; rw [this, q8_2]; rfl
  have k0_3 : bits .and .i64 ((h : Int)) 7 = ((fd h 0 3 : Nat) : Int) := i64_fd h 0 3 hh (by decide) _ _ (by first | rfl | simp) rfl
  have f0_3 : fd h 0 3 < 8 := fd_lt h 0 3
  have k3_3 : bits .and .i64 ((h : Int) / 8) 7 = ((fd h 3 3 : Nat) : Int) := i64_fd h 3 3 hh (by decide) _ _ (by first | rfl | simp) rfl
  have f3_3 : fd h 3 3 < 8 := fd_lt h 3 3
  have k3_4 : bits .and .i64 ((h : Int) / 8) 15 = ((fd h 3 4 : Nat) : Int) := i64_fd h 3 4 hh (by decide) _ _ (by first | rfl | simp) rfl
  have f3_4 : fd h 3 4 < 16 := fd_lt h 3 4
  have hd16 : highD h < 16 := by unfold highD; have := fd_lt h 7 1; have := fd_lt h 0 3; omega
  have e8 := eight_bits h hh
  have eR := highR_bits h
  generalize hgE : fd h 7 1 * 8 = E8 at *
  have t6 : (((highD h : Nat) : Int) == 15) = true := by simp; omega
  go_enter Tryd.func28, Tryd.ntmps28
  have S := SH.start w
  go_wp2_with (first
    | ((with_reducible refine wpl_isDst 4 ?_); refine SH.alloc (L := []) S rfl 31 rfl (Cel.iv IV.zero) zeroIV ?_; clear S; intro b1 w1 S)
    | ((with_reducible refine wpl_isStore ?_); refine S.storeAll rfl 31 _ _ rfl b1 (Cel.iv (nNone 65 h).iv) rfl rfl 0 _ rfl rfl (one_iv _) (szIV _) ?_; clear S; intro w2 S; simp only [List.set_cons_zero, List.set_cons_succ] at S)
    | (go_at_call 25; refine (rbad_c _ _).mono ?_; rintro e wf ⟨rfl, hbf⟩; replace S := S.below hbf; clear hbf))
  (try simp only [Exit.inBlock, Exit.then])
  refine bodyPost_ret (S.results rfl _ _ rfl 0 _ rfl _ Tryd.underlying31 rfl (szIV _)) rfl ⟨rfl, S.low⟩
set_option maxHeartbeats 4000000 in
set_option maxRecDepth 100000 in
theorem rhi2_b (h : Nat) (hh : h < 65536) (b : Bool) (q10_1 : fd h 10 1 = 1) (q8_2 : fd h 8 2 = 2) (g : highD h ≠ 15 ∧ fd h 3 4 = 15) (w : World) : Calls Tryd.prog 28 #[.int .i64 h, .bool b] w fun e w' => Says w (rRegister h b) e w' := by
  have hN : rRegister h b = (nNone 65 h) := by
    unfold rRegister
    simp [nbeq, nblt, nble, pick2, *]
  unfold Says
  rw [hN]
  clear hN
  have k10_1 : bits .and .i64 ((h : Int) / 1024) 1 = 1 := by have := i64_fd h 10 1 hh (by decide) ((h : Int) / 1024) 1 (by first | rfl | simp) rfl; rw [this, q10_1]; rfl
  have k8_2 : bits .and .i64 ((h : Int) / 256) 3 = 2 := by have := i64_fd h 8 2 hh (by decide) ((h : Int) / 256) 3 (by first | rfl | simp) rfl; rw [this, q8_2]; rfl
  have k0_3 : bits .and .i64 ((h : Int)) 7 = ((fd h 0 3 : Nat) : Int) := i64_fd h 0 3 hh (by decide) _ _ (by first | rfl | simp) rfl
  have f0_3 : fd h 0 3 < 8 := fd_lt h 0 3
  have k3_3 : bits .and .i64 ((h : Int) / 8) 7 = ((fd h 3 3 : Nat) : Int) := i64_fd h 3 3 hh (by decide) _ _ (by first | rfl | simp) rfl
  have f3_3 : fd h 3 3 < 8 := fd_lt h 3 3
  have k3_4 : bits .and .i64 ((h : Int) / 8) 15 = ((fd h 3 4 : Nat) : Int) := i64_fd h 3 4 hh (by decide) _ _ (by first | rfl | simp) rfl
  have f3_4 : fd h 3 4 < 16 := fd_lt h 3 4
  have hd16 : highD h < 16 := by unfold highD; have := fd_lt h 7 1; have := fd_lt h 0 3; omega
  have e8 := eight_bits h hh
  have eR := highR_bits h
  generalize hgE : fd h 7 1 * 8 = E8 at *
  have t7 : (((highD h : Nat) : Int) == 15) = false := by simp; omega
  have t8 : (((fd h 3 4 : Nat) : Int) == 15) = true := by simp; omega
  go_enter Tryd.func28, Tryd.ntmps28
  have S := SH.start w
  go_wp2_with (first
    | ((with_reducible refine wpl_isDst 4 ?_); refine SH.alloc (L := []) S rfl 31 rfl (Cel.iv IV.zero) zeroIV ?_; clear S; intro b1 w1 S)
    | ((with_reducible refine wpl_isStore ?_); refine S.storeAll rfl 31 _ _ rfl b1 (Cel.iv (nNone 65 h).iv) rfl rfl 0 _ rfl rfl (one_iv _) (szIV _) ?_; clear S; intro w2 S; simp only [List.set_cons_zero, List.set_cons_succ] at S)
    | (go_at_call 25; refine (rbad_c _ _).mono ?_; rintro e wf ⟨rfl, hbf⟩; replace S := S.below hbf; clear hbf))
  (try simp only [Exit.inBlock, Exit.then])
  refine bodyPost_ret (S.results rfl _ _ rfl 0 _ rfl _ Tryd.underlying31 rfl (szIV _)) rfl ⟨rfl, S.low⟩
set_option maxHeartbeats 4000000 in
set_option maxRecDepth 100000 in
theorem rhi2_c (h : Nat) (hh : h < 65536) (b : Bool) (q10_1 : fd h 10 1 = 1) (q8_2 : fd h 8 2 = 2) (g : highD h ≠ 15 ∧ fd h 3 4 ≠ 15) (w : World) : Calls Tryd.prog 28 #[.int .i64 h, .bool b] w fun e w' => Says w (rRegister h b) e w' := by
  have hN : rRegister h b = (nReg 13 (highD h) 0 (fd h 3 4) false) := by
    unfold rRegister
    simp [nbeq, nblt, nble, pick2, *]
  unfold Says
  rw [hN]
  clear hN
  have k10_1 : bits .and .i64 ((h : Int) / 1024) 1 = 1 := by have := i64_fd h 10 1 hh (by decide) ((h : Int) / 1024) 1 (by first | rfl | simp) rfl; rw [this, q10_1]; rfl
  have k8_2 : bits .and .i64 ((h : Int) / 256) 3 = 2 := by have := i64_fd h 8 2 hh (by decide) ((h : Int) / 256) 3 (by first | rfl | simp) rfl; rw [this, q8_2]; rfl
  have k0_3 : bits .and .i64 ((h : Int)) 7 = ((fd h 0 3 : Nat) : Int) := i64_fd h 0 3 hh (by decide) _ _ (by first | rfl | simp) rfl
  have f0_3 : fd h 0 3 < 8 := fd_lt h 0 3
  have k3_3 : bits .and .i64 ((h : Int) / 8) 7 = ((fd h 3 3 : Nat) : Int) := i64_fd h 3 3 hh (by decide) _ _ (by first | rfl | simp) rfl
  have f3_3 : fd h 3 3 < 8 := fd_lt h 3 3
  have k3_4 : bits .and .i64 ((h : Int) / 8) 15 = ((fd h 3 4 : Nat) : Int) := i64_fd h 3 4 hh (by decide) _ _ (by first | rfl | simp) rfl
  have f3_4 : fd h 3 4 < 16 := fd_lt h 3 4
  have hd16 : highD h < 16 := by unfold highD; have := fd_lt h 7 1; have := fd_lt h 0 3; omega
  have e8 := eight_bits h hh
  have eR := highR_bits h
  generalize hgE : fd h 7 1 * 8 = E8 at *
  have t9 : (((highD h : Nat) : Int) == 15) = false := by simp; omega
  have t10 : (((fd h 3 4 : Nat) : Int) == 15) = false := by simp; omega
  go_enter Tryd.func28, Tryd.ntmps28
  have S := SH.start w
  go_wp2_with (first
    | ((with_reducible refine wpl_isDst 4 ?_); refine SH.alloc (L := []) S rfl 31 rfl (Cel.iv IV.zero) zeroIV ?_; clear S; intro b1 w1 S)
    | ((with_reducible refine wpl_isStore ?_); refine S.storeAll rfl 31 _ _ rfl b1 (Cel.iv (nReg 13 (highD h) 0 (fd h 3 4) false).iv) rfl rfl 0 _ rfl rfl (one_iv _) (szIV _) ?_; clear S; intro w2 S; simp only [List.set_cons_zero, List.set_cons_succ] at S)
    | (go_at_call 26; refine (rdata_c _ _ _ _ _ _).mono ?_; rintro e wf ⟨rfl, hbf⟩; replace S := S.below hbf; clear hbf))
  (try simp only [Exit.inBlock, Exit.then])
  refine bodyPost_ret (S.results rfl _ _ rfl 0 _ rfl _ Tryd.underlying31 rfl (szIV _)) rfl ⟨rfl, S.low⟩
set_option maxHeartbeats 4000000 in
set_option maxRecDepth 100000 in
theorem rhi1_a (h : Nat) (hh : h < 65536) (b : Bool) (q10_1 : fd h 10 1 = 1) (q8_2 : fd h 8 2 = 1) (g : highD h = 15) (w : World) : Calls Tryd.prog 28 #[.int .i64 h, .bool b] w fun e w' => Says w (rRegister h b) e w' := by
  have hN : rRegister h b = (nNone 65 h) := by
    unfold rRegister
    simp [nbeq, nblt, nble, pick2, *]
  unfold Says
  rw [hN]
  clear hN
  have k10_1 : bits .and .i64 ((h : Int) / 1024) 1 = 1 := by have := i64_fd h 10 1 hh (by decide) ((h : Int) / 1024) 1 (by first | rfl | simp) rfl; rw [this, q10_1]; rfl
  have k8_2 : bits .and .i64 ((h : Int) / 256) 3 = 1 := by have := i64_fd h 8 2 hh (by decide) ((h : Int) / 256) 3 (by first | rfl | simp) rfl; rw [this, q8_2]; rfl
  have k0_3 : bits .and .i64 ((h : Int)) 7 = ((fd h 0 3 : Nat) : Int) := i64_fd h 0 3 hh (by decide) _ _ (by first | rfl | simp) rfl
  have f0_3 : fd h 0 3 < 8 := fd_lt h 0 3
  have k3_3 : bits .and .i64 ((h : Int) / 8) 7 = ((fd h 3 3 : Nat) : Int) := i64_fd h 3 3 hh (by decide) _ _ (by first | rfl | simp) rfl
  have f3_3 : fd h 3 3 < 8 := fd_lt h 3 3
  have k3_4 : bits .and .i64 ((h : Int) / 8) 15 = ((fd h 3 4 : Nat) : Int) := i64_fd h 3 4 hh (by decide) _ _ (by first | rfl | simp) rfl
  have f3_4 : fd h 3 4 < 16 := fd_lt h 3 4
  have hd16 : highD h < 16 := by unfold highD; have := fd_lt h 7 1; have := fd_lt h 0 3; omega
  have e8 := eight_bits h hh
  have eR := highR_bits h
  generalize hgE : fd h 7 1 * 8 = E8 at *
  have t11 : (((highD h : Nat) : Int) == 15) = true := by simp; omega
  go_enter Tryd.func28, Tryd.ntmps28
  have S := SH.start w
  go_wp2_with (first
    | ((with_reducible refine wpl_isDst 4 ?_); refine SH.alloc (L := []) S rfl 31 rfl (Cel.iv IV.zero) zeroIV ?_; clear S; intro b1 w1 S)
    | ((with_reducible refine wpl_isStore ?_); refine S.storeAll rfl 31 _ _ rfl b1 (Cel.iv (nNone 65 h).iv) rfl rfl 0 _ rfl rfl (one_iv _) (szIV _) ?_; clear S; intro w2 S; simp only [List.set_cons_zero, List.set_cons_succ] at S)
    | (go_at_call 25; refine (rbad_c _ _).mono ?_; rintro e wf ⟨rfl, hbf⟩; replace S := S.below hbf; clear hbf))
  (try simp only [Exit.inBlock, Exit.then])
  refine bodyPost_ret (S.results rfl _ _ rfl 0 _ rfl _ Tryd.underlying31 rfl (szIV _)) rfl ⟨rfl, S.low⟩
set_option maxHeartbeats 4000000 in
set_option maxRecDepth 100000 in
theorem rhi1_b (h : Nat) (hh : h < 65536) (b : Bool) (q10_1 : fd h 10 1 = 1) (q8_2 : fd h 8 2 = 1) (g : highD h ≠ 15 ∧ fd h 3 4 = 15) (w : World) : Calls Tryd.prog 28 #[.int .i64 h, .bool b] w fun e w' => Says w (rRegister h b) e w' := by
  have hN : rRegister h b = (nNone 65 h) := by
    unfold rRegister
    simp [nbeq, nblt, nble, pick2, *]
  unfold Says
  rw [hN]
  clear hN
  have k10_1 : bits .and .i64 ((h : Int) / 1024) 1 = 1 := by have := i64_fd h 10 1 hh (by decide) ((h : Int) / 1024) 1 (by first | rfl | simp) rfl; rw [this, q10_1]; rfl
  have k8_2 : bits .and .i64 ((h : Int) / 256) 3 = 1 := by have := i64_fd h 8 2 hh (by decide) ((h : Int) / 256) 3 (by first | rfl | simp) rfl; rw [this, q8_2]; rfl
  have k0_3 : bits .and .i64 ((h : Int)) 7 = ((fd h 0 3 : Nat) : Int) := i64_fd h 0 3 hh (by decide) _ _ (by first | rfl | simp) rfl
  have f0_3 : fd h 0 3 < 8 := fd_lt h 0 3
  have k3_3 : bits .and .i64 ((h : Int) / 8) 7 = ((fd h 3 3 : Nat) : Int) := i64_fd h 3 3 hh (by decide) _ _ (by first | rfl | simp) rfl
  have f3_3 : fd h 3 3 < 8 := fd_lt h 3 3
  have k3_4 : bits .and .i64 ((h : Int) / 8) 15 = ((fd h 3 4 : Nat) : Int) := i64_fd h 3 4 hh (by decide) _ _ (by first | rfl | simp) rfl
  have f3_4 : fd h 3 4 < 16 := fd_lt h 3 4
  have hd16 : highD h < 16 := by unfold highD; have := fd_lt h 7 1; have := fd_lt h 0 3; omega
  have e8 := eight_bits h hh
  have eR := highR_bits h
  generalize hgE : fd h 7 1 * 8 = E8 at *
  have t12 : (((highD h : Nat) : Int) == 15) = false := by simp; omega
  have t13 : (((fd h 3 4 : Nat) : Int) == 15) = true := by simp; omega
  go_enter Tryd.func28, Tryd.ntmps28
  have S := SH.start w
  go_wp2_with (first
    | ((with_reducible refine wpl_isDst 4 ?_); refine SH.alloc (L := []) S rfl 31 rfl (Cel.iv IV.zero) zeroIV ?_; clear S; intro b1 w1 S)
    | ((with_reducible refine wpl_isStore ?_); refine S.storeAll rfl 31 _ _ rfl b1 (Cel.iv (nNone 65 h).iv) rfl rfl 0 _ rfl rfl (one_iv _) (szIV _) ?_; clear S; intro w2 S; simp only [List.set_cons_zero, List.set_cons_succ] at S)
    | (go_at_call 25; refine (rbad_c _ _).mono ?_; rintro e wf ⟨rfl, hbf⟩; replace S := S.below hbf; clear hbf))
  (try simp only [Exit.inBlock, Exit.then])
  refine bodyPost_ret (S.results rfl _ _ rfl 0 _ rfl _ Tryd.underlying31 rfl (szIV _)) rfl ⟨rfl, S.low⟩
set_option maxHeartbeats 4000000 in
set_option maxRecDepth 100000 in
theorem rhi1_c (h : Nat) (hh : h < 65536) (b : Bool) (q10_1 : fd h 10 1 = 1) (q8_2 : fd h 8 2 = 1) (g : highD h ≠ 15 ∧ fd h 3 4 ≠ 15 ∧ highD h < 8 ∧ fd h 3 4 < 8) (w : World) : Calls Tryd.prog 28 #[.int .i64 h, .bool b] w fun e w' => Says w (rRegister h b) e w' := by
  have hN : rRegister h b = (nNone 65 h) := by
    unfold rRegister
    simp [nbeq, nblt, nble, pick2, *]
  unfold Says
  rw [hN]
  clear hN
  have k10_1 : bits .and .i64 ((h : Int) / 1024) 1 = 1 := by have := i64_fd h 10 1 hh (by decide) ((h : Int) / 1024) 1 (by first | rfl | simp) rfl; rw [this, q10_1]; rfl
  have k8_2 : bits .and .i64 ((h : Int) / 256) 3 = 1 := by have := i64_fd h 8 2 hh (by decide) ((h : Int) / 256) 3 (by first | rfl | simp) rfl; rw [this, q8_2]; rfl
  have k0_3 : bits .and .i64 ((h : Int)) 7 = ((fd h 0 3 : Nat) : Int) := i64_fd h 0 3 hh (by decide) _ _ (by first | rfl | simp) rfl
  have f0_3 : fd h 0 3 < 8 := fd_lt h 0 3
  have k3_3 : bits .and .i64 ((h : Int) / 8) 7 = ((fd h 3 3 : Nat) : Int) := i64_fd h 3 3 hh (by decide) _ _ (by first | rfl | simp) rfl
  have f3_3 : fd h 3 3 < 8 := fd_lt h 3 3
  have k3_4 : bits .and .i64 ((h : Int) / 8) 15 = ((fd h 3 4 : Nat) : Int) := i64_fd h 3 4 hh (by decide) _ _ (by first | rfl | simp) rfl
  have f3_4 : fd h 3 4 < 16 := fd_lt h 3 4
  have hd16 : highD h < 16 := by unfold highD; have := fd_lt h 7 1; have := fd_lt h 0 3; omega
  have e8 := eight_bits h hh
  have eR := highR_bits h
  generalize hgE : fd h 7 1 * 8 = E8 at *
  have t14 : (((highD h : Nat) : Int) == 15) = false := by simp; omega
  have t15 : (((fd h 3 4 : Nat) : Int) == 15) = false := by simp; omega
  have t16 : decide (((highD h : Nat) : Int) < 8) = true := by simp; omega
  have t17 : decide (((fd h 3 4 : Nat) : Int) < 8) = true := by simp; omega
  go_enter Tryd.func28, Tryd.ntmps28
  have S := SH.start w
  go_wp2_with (first
    | ((with_reducible refine wpl_isDst 4 ?_); refine SH.alloc (L := []) S rfl 31 rfl (Cel.iv IV.zero) zeroIV ?_; clear S; intro b1 w1 S)
    | ((with_reducible refine wpl_isStore ?_); refine S.storeAll rfl 31 _ _ rfl b1 (Cel.iv (nNone 65 h).iv) rfl rfl 0 _ rfl rfl (one_iv _) (szIV _) ?_; clear S; intro w2 S; simp only [List.set_cons_zero, List.set_cons_succ] at S)
    | (go_at_call 25; refine (rbad_c _ _).mono ?_; rintro e wf ⟨rfl, hbf⟩; replace S := S.below hbf; clear hbf))
  (try simp only [Exit.inBlock, Exit.then])
  refine bodyPost_ret (S.results rfl _ _ rfl 0 _ rfl _ Tryd.underlying31 rfl (szIV _)) rfl ⟨rfl, S.low⟩
set_option maxHeartbeats 4000000 in
set_option maxRecDepth 100000 in
theorem rhi1_d (h : Nat) (hh : h < 65536) (b : Bool) (q10_1 : fd h 10 1 = 1) (q8_2 : fd h 8 2 = 1) (g : highD h ≠ 15 ∧ fd h 3 4 ≠ 15 ∧ ¬ highD h < 8) (w : World) : Calls Tryd.prog 28 #[.int .i64 h, .bool b] w fun e w' => Says w (rRegister h b) e w' := by
  have hN : rRegister h b = (nReg 10 0 (highD h) (fd h 3 4) true) := by
    unfold rRegister
    simp [nbeq, nblt, nble, pick2, *]
  unfold Says
  rw [hN]
  clear hN
  have k10_1 : bits .and .i64 ((h : Int) / 1024) 1 = 1 := by have := i64_fd h 10 1 hh (by decide) ((h : Int) / 1024) 1 (by first | rfl | simp) rfl; rw [this, q10_1]; rfl
  have k8_2 : bits .and .i64 ((h : Int) / 256) 3 = 1 := by have := i64_fd h 8 2 hh (by decide) ((h : Int) / 256) 3 (by first | rfl | simp) rfl; rw [this, q8_2]; rfl
  have k0_3 : bits .and .i64 ((h : Int)) 7 = ((fd h 0 3 : Nat) : Int) := i64_fd h 0 3 hh (by decide) _ _ (by first | rfl | simp) rfl
  have f0_3 : fd h 0 3 < 8 := fd_lt h 0 3
  have k3_3 : bits .and .i64 ((h : Int) / 8) 7 = ((fd h 3 3 : Nat) : Int) := i64_fd h 3 3 hh (by decide) _ _ (by first | rfl | simp) rfl
  have f3_3 : fd h 3 3 < 8 := fd_lt h 3 3
  have k3_4 : bits .and .i64 ((h : Int) / 8) 15 = ((fd h 3 4 : Nat) : Int) := i64_fd h 3 4 hh (by decide) _ _ (by first | rfl | simp) rfl
  have f3_4 : fd h 3 4 < 16 := fd_lt h 3 4
  have hd16 : highD h < 16 := by unfold highD; have := fd_lt h 7 1; have := fd_lt h 0 3; omega
  have e8 := eight_bits h hh
  have eR := highR_bits h
  generalize hgE : fd h 7 1 * 8 = E8 at *
  have t18 : (((highD h : Nat) : Int) == 15) = false := by simp; omega
  have t19 : (((fd h 3 4 : Nat) : Int) == 15) = false := by simp; omega
  have t20 : decide (((highD h : Nat) : Int) < 8) = false := by simp; omega
  go_enter Tryd.func28, Tryd.ntmps28
  have S := SH.start w
  go_wp2_with (first
    | ((with_reducible refine wpl_isDst 4 ?_); refine SH.alloc (L := []) S rfl 31 rfl (Cel.iv IV.zero) zeroIV ?_; clear S; intro b1 w1 S)
    | ((with_reducible refine wpl_isStore ?_); refine S.storeAll rfl 31 _ _ rfl b1 (Cel.iv (nReg 10 0 (highD h) (fd h 3 4) true).iv) rfl rfl 0 _ rfl rfl (one_iv _) (szIV _) ?_; clear S; intro w2 S; simp only [List.set_cons_zero, List.set_cons_succ] at S)
    | (go_at_call 26; refine (rdata_c _ _ _ _ _ _).mono ?_; rintro e wf ⟨rfl, hbf⟩; replace S := S.below hbf; clear hbf))
  (try simp only [Exit.inBlock, Exit.then])
  refine bodyPost_ret (S.results rfl _ _ rfl 0 _ rfl _ Tryd.underlying31 rfl (szIV _)) rfl ⟨rfl, S.low⟩
set_option maxHeartbeats 4000000 in
set_option maxRecDepth 100000 in
theorem rhi1_e (h : Nat) (hh : h < 65536) (b : Bool) (q10_1 : fd h 10 1 = 1) (q8_2 : fd h 8 2 = 1) (g : highD h ≠ 15 ∧ fd h 3 4 ≠ 15 ∧ highD h < 8 ∧ ¬ fd h 3 4 < 8) (w : World) : Calls Tryd.prog 28 #[.int .i64 h, .bool b] w fun e w' => Says w (rRegister h b) e w' := by
  have hN : rRegister h b = (nReg 10 0 (highD h) (fd h 3 4) true) := by
    unfold rRegister
    simp [nbeq, nblt, nble, pick2, *]
  unfold Says
  rw [hN]
  clear hN
  have k10_1 : bits .and .i64 ((h : Int) / 1024) 1 = 1 := by have := i64_fd h 10 1 hh (by decide) ((h : Int) / 1024) 1 (by first | rfl | simp) rfl; rw [this, q10_1]; rfl
  have k8_2 : bits .and .i64 ((h : Int) / 256) 3 = 1 := by have := i64_fd h 8 2 hh (by decide) ((h : Int) / 256) 3 (by first | rfl | simp) rfl; rw [this, q8_2]; rfl
  have k0_3 : bits .and .i64 ((h : Int)) 7 = ((fd h 0 3 : Nat) : Int) := i64_fd h 0 3 hh (by decide) _ _ (by first | rfl | simp) rfl
  have f0_3 : fd h 0 3 < 8 := fd_lt h 0 3
  have k3_3 : bits .and .i64 ((h : Int) / 8) 7 = ((fd h 3 3 : Nat) : Int) := i64_fd h 3 3 hh (by decide) _ _ (by first | rfl | simp) rfl
  have f3_3 : fd h 3 3 < 8 := fd_lt h 3 3
  have k3_4 : bits .and .i64 ((h : Int) / 8) 15 = ((fd h 3 4 : Nat) : Int) := i64_fd h 3 4 hh (by decide) _ _ (by first | rfl | simp) rfl
  have f3_4 : fd h 3 4 < 16 := fd_lt h 3 4
  have hd16 : highD h < 16 := by unfold highD; have := fd_lt h 7 1; have := fd_lt h 0 3; omega
  have e8 := eight_bits h hh
  have eR := highR_bits h
  generalize hgE : fd h 7 1 * 8 = E8 at *
  have t21 : (((highD h : Nat) : Int) == 15) = false := by simp; omega
  have t22 : (((fd h 3 4 : Nat) : Int) == 15) = false := by simp; omega
  have t23 : decide (((highD h : Nat) : Int) < 8) = true := by simp; omega
  have t24 : decide (((fd h 3 4 : Nat) : Int) < 8) = false := by simp; omega
  go_enter Tryd.func28, Tryd.ntmps28
  have S := SH.start w
  go_wp2_with (first
    | ((with_reducible refine wpl_isDst 4 ?_); refine SH.alloc (L := []) S rfl 31 rfl (Cel.iv IV.zero) zeroIV ?_; clear S; intro b1 w1 S)
    | ((with_reducible refine wpl_isStore ?_); refine S.storeAll rfl 31 _ _ rfl b1 (Cel.iv (nReg 10 0 (highD h) (fd h 3 4) true).iv) rfl rfl 0 _ rfl rfl (one_iv _) (szIV _) ?_; clear S; intro w2 S; simp only [List.set_cons_zero, List.set_cons_succ] at S)
    | (go_at_call 26; refine (rdata_c _ _ _ _ _ _).mono ?_; rintro e wf ⟨rfl, hbf⟩; replace S := S.below hbf; clear hbf))
  (try simp only [Exit.inBlock, Exit.then])
  refine bodyPost_ret (S.results rfl _ _ rfl 0 _ rfl _ Tryd.underlying31 rfl (szIV _)) rfl ⟨rfl, S.low⟩
set_option maxHeartbeats 4000000 in
set_option maxRecDepth 100000 in
theorem rhi3_a (h : Nat) (hh : h < 65536) (b : Bool) (q10_1 : fd h 10 1 = 1) (q8_2 : fd h 8 2 = 3) (g : fd h 0 3 ≠ 0) (w : World) : Calls Tryd.prog 28 #[.int .i64 h, .bool b] w fun e w' => Says w (rRegister h b) e w' := by
  have hN : rRegister h b = (nNone 65 h) := by
    unfold rRegister
    simp [nbeq, nblt, nble, pick2, *]
  unfold Says
  rw [hN]
  clear hN
  have k10_1 : bits .and .i64 ((h : Int) / 1024) 1 = 1 := by have := i64_fd h 10 1 hh (by decide) ((h : Int) / 1024) 1 (by first | rfl | simp) rfl; rw [this, q10_1]; rfl
  have k8_2 : bits .and .i64 ((h : Int) / 256) 3 = 3 := by have := i64_fd h 8 2 hh (by decide) ((h : Int) / 256) 3 (by first | rfl | simp) rfl; rw [this, q8_2]; rfl
  have k0_3 : bits .and .i64 ((h : Int)) 7 = ((fd h 0 3 : Nat) : Int) := i64_fd h 0 3 hh (by decide) _ _ (by first | rfl | simp) rfl
  have f0_3 : fd h 0 3 < 8 := fd_lt h 0 3
  have k3_3 : bits .and .i64 ((h : Int) / 8) 7 = ((fd h 3 3 : Nat) : Int) := i64_fd h 3 3 hh (by decide) _ _ (by first | rfl | simp) rfl
  have f3_3 : fd h 3 3 < 8 := fd_lt h 3 3
  have k3_4 : bits .and .i64 ((h : Int) / 8) 15 = ((fd h 3 4 : Nat) : Int) := i64_fd h 3 4 hh (by decide) _ _ (by first | rfl | simp) rfl
  have f3_4 : fd h 3 4 < 16 := fd_lt h 3 4
  have hd16 : highD h < 16 := by unfold highD; have := fd_lt h 7 1; have := fd_lt h 0 3; omega
  have e8 := eight_bits h hh
  have eR := highR_bits h
  generalize hgE : fd h 7 1 * 8 = E8 at *
  have t25 : (((fd h 0 3 : Nat) : Int) != 0) = true := by simp; omega
  go_enter Tryd.func28, Tryd.ntmps28
  have S := SH.start w
  go_wp2_with (first
    | ((with_reducible refine wpl_isDst 4 ?_); refine SH.alloc (L := []) S rfl 31 rfl (Cel.iv IV.zero) zeroIV ?_; clear S; intro b1 w1 S)
    | ((with_reducible refine wpl_isStore ?_); refine S.storeAll rfl 31 _ _ rfl b1 (Cel.iv (nNone 65 h).iv) rfl rfl 0 _ rfl rfl (one_iv _) (szIV _) ?_; clear S; intro w2 S; simp only [List.set_cons_zero, List.set_cons_succ] at S)
    | (go_at_call 25; refine (rbad_c _ _).mono ?_; rintro e wf ⟨rfl, hbf⟩; replace S := S.below hbf; clear hbf))
  (try simp only [Exit.inBlock, Exit.then])
  refine bodyPost_ret (S.results rfl _ _ rfl 0 _ rfl _ Tryd.underlying31 rfl (szIV _)) rfl ⟨rfl, S.low⟩
set_option maxHeartbeats 4000000 in
set_option maxRecDepth 100000 in
theorem rhi3_b (h : Nat) (hh : h < 65536) (b : Bool) (q10_1 : fd h 10 1 = 1) (q8_2 : fd h 8 2 = 3) (g : fd h 0 3 = 0 ∧ fd h 3 4 = 15) (w : World) : Calls Tryd.prog 28 #[.int .i64 h, .bool b] w fun e w' => Says w (rRegister h b) e w' := by
  have hN : rRegister h b = (nNone 65 h) := by
    unfold rRegister
    simp [nbeq, nblt, nble, pick2, *]
  unfold Says
  rw [hN]
  clear hN
  have k10_1 : bits .and .i64 ((h : Int) / 1024) 1 = 1 := by have := i64_fd h 10 1 hh (by decide) ((h : Int) / 1024) 1 (by first | rfl | simp) rfl; rw [this, q10_1]; rfl
  have k8_2 : bits .and .i64 ((h : Int) / 256) 3 = 3 := by have := i64_fd h 8 2 hh (by decide) ((h : Int) / 256) 3 (by first | rfl | simp) rfl; rw [this, q8_2]; rfl
  have k0_3 : bits .and .i64 ((h : Int)) 7 = ((fd h 0 3 : Nat) : Int) := i64_fd h 0 3 hh (by decide) _ _ (by first | rfl | simp) rfl
  have f0_3 : fd h 0 3 < 8 := fd_lt h 0 3
  have k3_3 : bits .and .i64 ((h : Int) / 8) 7 = ((fd h 3 3 : Nat) : Int) := i64_fd h 3 3 hh (by decide) _ _ (by first | rfl | simp) rfl
  have f3_3 : fd h 3 3 < 8 := fd_lt h 3 3
  have k3_4 : bits .and .i64 ((h : Int) / 8) 15 = ((fd h 3 4 : Nat) : Int) := i64_fd h 3 4 hh (by decide) _ _ (by first | rfl | simp) rfl
  have f3_4 : fd h 3 4 < 16 := fd_lt h 3 4
  have hd16 : highD h < 16 := by unfold highD; have := fd_lt h 7 1; have := fd_lt h 0 3; omega
  have e8 := eight_bits h hh
  have eR := highR_bits h
  generalize hgE : fd h 7 1 * 8 = E8 at *
  have t26 : (((fd h 0 3 : Nat) : Int) != 0) = false := by simp; omega
  have t27 : (((fd h 3 4 : Nat) : Int) == 15) = true := by simp; omega
  replace g := g.2
  go_enter Tryd.func28, Tryd.ntmps28
  have S := SH.start w
  go_wp2_with (first
    | ((with_reducible refine wpl_isDst 4 ?_); refine SH.alloc (L := []) S rfl 31 rfl (Cel.iv IV.zero) zeroIV ?_; clear S; intro b1 w1 S)
    | ((with_reducible refine wpl_isStore ?_); refine S.storeAll rfl 31 _ _ rfl b1 (Cel.iv (nNone 65 h).iv) rfl rfl 0 _ rfl rfl (one_iv _) (szIV _) ?_; clear S; intro w2 S; simp only [List.set_cons_zero, List.set_cons_succ] at S)
    | (go_at_call 25; refine (rbad_c _ _).mono ?_; rintro e wf ⟨rfl, hbf⟩; replace S := S.below hbf; clear hbf))
  (try simp only [Exit.inBlock, Exit.then])
  refine bodyPost_ret (S.results rfl _ _ rfl 0 _ rfl _ Tryd.underlying31 rfl (szIV _)) rfl ⟨rfl, S.low⟩
set_option maxHeartbeats 4000000 in
set_option maxRecDepth 100000 in
theorem rhi3_c0 (h : Nat) (hh : h < 65536) (b : Bool) (q10_1 : fd h 10 1 = 1) (q8_2 : fd h 8 2 = 3) (q7_1 : fd h 7 1 = 0) (g : fd h 0 3 = 0 ∧ fd h 3 4 ≠ 15) (w : World) : Calls Tryd.prog 28 #[.int .i64 h, .bool b] w fun e w' => Says w (rRegister h b) e w' := by
  have hN : rRegister h b = (nReg 56 0 0 (fd h 3 4) false) := by
    unfold rRegister
    simp [nbeq, nblt, nble, pick2, *]
  unfold Says
  rw [hN]
  clear hN
  have k10_1 : bits .and .i64 ((h : Int) / 1024) 1 = 1 := by have := i64_fd h 10 1 hh (by decide) ((h : Int) / 1024) 1 (by first | rfl | simp) rfl; rw [this, q10_1]; rfl
  have k8_2 : bits .and .i64 ((h : Int) / 256) 3 = 3 := by have := i64_fd h 8 2 hh (by decide) ((h : Int) / 256) 3 (by first | rfl | simp) rfl; rw [this, q8_2]; rfl
  have k7_1 : bits .and .i64 ((h : Int) / 128) 1 = 0 := by have := i64_fd h 7 1 hh (by decide) ((h : Int) / 128) 1 (by first | rfl | simp) rfl; rw [this, q7_1]; rfl
  have k0_3 : bits .and .i64 ((h : Int)) 7 = ((fd h 0 3 : Nat) : Int) := i64_fd h 0 3 hh (by decide) _ _ (by first | rfl | simp) rfl
  have f0_3 : fd h 0 3 < 8 := fd_lt h 0 3
  have k3_3 : bits .and .i64 ((h : Int) / 8) 7 = ((fd h 3 3 : Nat) : Int) := i64_fd h 3 3 hh (by decide) _ _ (by first | rfl | simp) rfl
  have f3_3 : fd h 3 3 < 8 := fd_lt h 3 3
  have k3_4 : bits .and .i64 ((h : Int) / 8) 15 = ((fd h 3 4 : Nat) : Int) := i64_fd h 3 4 hh (by decide) _ _ (by first | rfl | simp) rfl
  have f3_4 : fd h 3 4 < 16 := fd_lt h 3 4
  have hd16 : highD h < 16 := by unfold highD; have := fd_lt h 7 1; have := fd_lt h 0 3; omega
  have e8 := eight_bits h hh
  have eR := highR_bits h
  generalize hgE : fd h 7 1 * 8 = E8 at *
  have t28 : (((fd h 0 3 : Nat) : Int) != 0) = false := by simp; omega
  have t29 : (((fd h 3 4 : Nat) : Int) == 15) = false := by simp; omega
  replace g := g.2
  go_enter Tryd.func28, Tryd.ntmps28
  have S := SH.start w
  go_wp2_with (first
    | ((with_reducible refine wpl_isDst 4 ?_); refine SH.alloc (L := []) S rfl 31 rfl (Cel.iv IV.zero) zeroIV ?_; clear S; intro b1 w1 S)
    | ((with_reducible refine wpl_isLoad ?_); refine S.ld 3 _ rfl g 0 rfl 0 (Cel.any [.int .i64 56, .int .i64 57]) rfl _ rfl _ Tryd.underlying3 rfl rfl ?_)
    | ((with_reducible refine wpl_isStore ?_); refine S.storeAll rfl 31 _ _ rfl b1 (Cel.iv (nReg 56 0 0 (fd h 3 4) false).iv) rfl rfl 1 _ rfl rfl (one_iv _) (szIV _) ?_; clear S; intro w2 S; simp only [List.set_cons_zero, List.set_cons_succ] at S)
    | (go_at_call 26; refine (rdata_c _ _ _ _ _ _).mono ?_; rintro e wf ⟨rfl, hbf⟩; replace S := S.below hbf; clear hbf)
    | ((with_reducible refine wpl_is ?_); refine S.sliceA rfl 23 2 _ rfl [.int .i64 56, .int .i64 57] 3 (by kernel_rfl) ?_; clear S; intro g w1 S))
  (try simp only [Exit.inBlock, Exit.then])
  refine bodyPost_ret (S.results rfl _ _ rfl 1 _ rfl _ Tryd.underlying31 rfl (szIV _)) rfl ⟨rfl, S.low⟩
set_option maxHeartbeats 4000000 in
set_option maxRecDepth 100000 in
theorem rhi3_c1 (h : Nat) (hh : h < 65536) (b : Bool) (q10_1 : fd h 10 1 = 1) (q8_2 : fd h 8 2 = 3) (q7_1 : fd h 7 1 = 1) (g : fd h 0 3 = 0 ∧ fd h 3 4 ≠ 15) (w : World) : Calls Tryd.prog 28 #[.int .i64 h, .bool b] w fun e w' => Says w (rRegister h b) e w' := by
  have hN : rRegister h b = (nReg 57 0 0 (fd h 3 4) false) := by
    unfold rRegister
    simp [nbeq, nblt, nble, pick2, *]
  unfold Says
  rw [hN]
  clear hN
  have k10_1 : bits .and .i64 ((h : Int) / 1024) 1 = 1 := by have := i64_fd h 10 1 hh (by decide) ((h : Int) / 1024) 1 (by first | rfl | simp) rfl; rw [this, q10_1]; rfl
  have k8_2 : bits .and .i64 ((h : Int) / 256) 3 = 3 := by have := i64_fd h 8 2 hh (by decide) ((h : Int) / 256) 3 (by first | rfl | simp) rfl; rw [this, q8_2]; rfl
  have k7_1 : bits .and .i64 ((h : Int) / 128) 1 = 1 := by have := i64_fd h 7 1 hh (by decide) ((h : Int) / 128) 1 (by first | rfl | simp) rfl; rw [this, q7_1]; rfl
  have k0_3 : bits .and .i64 ((h : Int)) 7 = ((fd h 0 3 : Nat) : Int) := i64_fd h 0 3 hh (by decide) _ _ (by first | rfl | simp) rfl
  have f0_3 : fd h 0 3 < 8 := fd_lt h 0 3
  have k3_3 : bits .and .i64 ((h : Int) / 8) 7 = ((fd h 3 3 : Nat) : Int) := i64_fd h 3 3 hh (by decide) _ _ (by first | rfl | simp) rfl
  have f3_3 : fd h 3 3 < 8 := fd_lt h 3 3
  have k3_4 : bits .and .i64 ((h : Int) / 8) 15 = ((fd h 3 4 : Nat) : Int) := i64_fd h 3 4 hh (by decide) _ _ (by first | rfl | simp) rfl
  have f3_4 : fd h 3 4 < 16 := fd_lt h 3 4
  have hd16 : highD h < 16 := by unfold highD; have := fd_lt h 7 1; have := fd_lt h 0 3; omega
  have e8 := eight_bits h hh
  have eR := highR_bits h
  generalize hgE : fd h 7 1 * 8 = E8 at *
  have t30 : (((fd h 0 3 : Nat) : Int) != 0) = false := by simp; omega
  have t31 : (((fd h 3 4 : Nat) : Int) == 15) = false := by simp; omega
  replace g := g.2
  go_enter Tryd.func28, Tryd.ntmps28
  have S := SH.start w
  go_wp2_with (first
    | ((with_reducible refine wpl_isDst 4 ?_); refine SH.alloc (L := []) S rfl 31 rfl (Cel.iv IV.zero) zeroIV ?_; clear S; intro b1 w1 S)
    | ((with_reducible refine wpl_isLoad ?_); refine S.ld 3 _ rfl g 1 rfl 0 (Cel.any [.int .i64 56, .int .i64 57]) rfl _ rfl _ Tryd.underlying3 rfl rfl ?_)
    | ((with_reducible refine wpl_isStore ?_); refine S.storeAll rfl 31 _ _ rfl b1 (Cel.iv (nReg 57 0 0 (fd h 3 4) false).iv) rfl rfl 1 _ rfl rfl (one_iv _) (szIV _) ?_; clear S; intro w2 S; simp only [List.set_cons_zero, List.set_cons_succ] at S)
    | (go_at_call 26; refine (rdata_c _ _ _ _ _ _).mono ?_; rintro e wf ⟨rfl, hbf⟩; replace S := S.below hbf; clear hbf)
    | ((with_reducible refine wpl_is ?_); refine S.sliceA rfl 23 2 _ rfl [.int .i64 56, .int .i64 57] 3 (by kernel_rfl) ?_; clear S; intro g w1 S))
  (try simp only [Exit.inBlock, Exit.then])
  refine bodyPost_ret (S.results rfl _ _ rfl 1 _ rfl _ Tryd.underlying31 rfl (szIV _)) rfl ⟨rfl, S.low⟩
end Go.Proofs.YtbbkiiabjhgpkaaDoor
namespace Go.Proofs.YtbbkiiabjhgpkaaDoor
open Go.ChangeShapes Go.WideShapes Go.ChangeAt Go.RowKit
set_option linter.unusedVariables false
set_option linter.unusedSimpArgs false

theorem rregister_c (h : Nat) (hh : h < 65536) (b : Bool) (w : World) : Calls Tryd.prog 28 #[.int .i64 h, .bool b] w fun e w' => Says w (rRegister h b) e w' := by
  have f1 : fd h 10 1 < 2 := fd_lt h 10 1
  have f2 : fd h 6 4 < 16 := fd_lt h 6 4
  have f3 : fd h 8 2 < 4 := fd_lt h 8 2
  have f4 : fd h 7 1 < 2 := fd_lt h 7 1
  rcases (show fd h 10 1 = 0 ∨ fd h 10 1 = 1 by omega) with q | q
  · rcases (show fd h 6 4 = 0 ∨ fd h 6 4 = 1 ∨ fd h 6 4 = 2 ∨ fd h 6 4 = 3 ∨ fd h 6 4 = 4 ∨ fd h 6 4 = 5 ∨ fd h 6 4 = 6 ∨ fd h 6 4 = 7 ∨ fd h 6 4 = 8 ∨ fd h 6 4 = 9 ∨ fd h 6 4 = 10 ∨ fd h 6 4 = 11 ∨ fd h 6 4 = 12 ∨ fd h 6 4 = 13 ∨ fd h 6 4 = 14 ∨ fd h 6 4 = 15 by omega) with p | p | p | p | p | p | p | p | p | p | p | p | p | p | p | p
    · exact rlow_0 h hh b q p w
    · exact rlow_1 h hh b q p w
    · exact rlow_2 h hh b q p w
    · exact rlow_3 h hh b q p w
    · exact rlow_4 h hh b q p w
    · exact rlow_5 h hh b q p w
    · exact rlow_6 h hh b q p w
    · exact rlow_7 h hh b q p w
    · exact rlow_8 h hh b q p w
    · exact rlow_9 h hh b q p w
    · exact rlow_10 h hh b q p w
    · exact rlow_11 h hh b q p w
    · exact rlow_12 h hh b q p w
    · exact rlow_13 h hh b q p w
    · exact rlow_14 h hh b q p w
    · exact rlow_15 h hh b q p w
  · rcases (show fd h 8 2 = 0 ∨ fd h 8 2 = 1 ∨ fd h 8 2 = 2 ∨ fd h 8 2 = 3 by omega) with p | p | p | p
    · rcases (show highD h = 15 ∨ (highD h ≠ 15 ∧ fd h 3 4 = 15) ∨ (highD h ≠ 15 ∧ fd h 3 4 ≠ 15) by omega) with g | g | g
      · exact rhi0_a h hh b q p g w
      · exact rhi0_b h hh b q p g w
      · exact rhi0_c h hh b q p g w
    · rcases (show highD h = 15 ∨ (highD h ≠ 15 ∧ fd h 3 4 = 15) ∨ (highD h ≠ 15 ∧ fd h 3 4 ≠ 15 ∧ highD h < 8 ∧ fd h 3 4 < 8) ∨ (highD h ≠ 15 ∧ fd h 3 4 ≠ 15 ∧ ¬ highD h < 8) ∨ (highD h ≠ 15 ∧ fd h 3 4 ≠ 15 ∧ highD h < 8 ∧ ¬ fd h 3 4 < 8) by omega) with g | g | g | g | g
      · exact rhi1_a h hh b q p g w
      · exact rhi1_b h hh b q p g w
      · exact rhi1_c h hh b q p g w
      · exact rhi1_d h hh b q p g w
      · exact rhi1_e h hh b q p g w
    · rcases (show highD h = 15 ∨ (highD h ≠ 15 ∧ fd h 3 4 = 15) ∨ (highD h ≠ 15 ∧ fd h 3 4 ≠ 15) by omega) with g | g | g
      · exact rhi2_a h hh b q p g w
      · exact rhi2_b h hh b q p g w
      · exact rhi2_c h hh b q p g w
    · rcases (show fd h 0 3 ≠ 0 ∨ (fd h 0 3 = 0 ∧ fd h 3 4 = 15) ∨ (fd h 0 3 = 0 ∧ fd h 3 4 ≠ 15) by omega) with g | g | g
      · exact rhi3_a h hh b q p g w
      · exact rhi3_b h hh b q p g w
      · rcases (show fd h 7 1 = 0 ∨ fd h 7 1 = 1 by omega) with t | t
        · exact rhi3_c0 h hh b q p t g w
        · exact rhi3_c1 h hh b q p t g w
end Go.Proofs.YtbbkiiabjhgpkaaDoor
