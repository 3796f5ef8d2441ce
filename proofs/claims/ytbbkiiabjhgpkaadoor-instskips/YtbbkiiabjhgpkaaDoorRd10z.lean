/- Stage 8: the document's narrow words, walked. -/
import Derived.Test.YtbbkiiabjhgpkaaDoorRd1b
namespace Go.Proofs.YtbbkiiabjhgpkaaDoor
open Go.ChangeShapes Go.WideShapes Go.ChangeAt Go.RowKit
set_option linter.unusedVariables false
set_option linter.unusedSimpArgs false

theorem u32_fd (h a s : Nat) (hh : h < 65536) (hs : s ≤ 15) (x y : Int) (hx : x = ((h / 2 ^ a : Nat) : Int)) (hy : y = ((2 ^ s - 1 : Nat) : Int)) : bits .and .u32 x y = (fd h a s : Nat) := by
  have h2 : 2 ^ s ≤ 2 ^ 15 := Nat.pow_le_pow_right (by decide) hs
  have h3 := Nat.two_pow_pos s
  have : h / 2 ^ a ≤ h := Nat.div_le_self _ _
  rw [hx, hy, u32_and_nat _ _ (by omega) (by omega), fd_land]
set_option maxHeartbeats 4000000 in
set_option maxRecDepth 100000 in
theorem rm0_0 (h : Nat) (hh : h < 65536) (b : Bool) (q8_4 : fd h 8 4 = 0) (q7_1 : fd h 7 1 = 0) (w : World) : Calls Tryd.prog 29 #[.int .i64 h, .bool b] w fun e w' => Says w (rMisc h b) e w' := by
  have hN : rMisc h b = (nImm 5 13 13 (4 * fd h 0 7) false) := by
    unfold rMisc
    simp [nbeq, nblt, nble, pick2, extOp, revOp, *]
  unfold Says
  rw [hN]
  clear hN
  have k8_4 : bits .and .i64 ((h : Int) / 256) 15 = 0 := by have := i64_fd h 8 4 hh (by decide) ((h : Int) / 256) 15 (by first | rfl | simp) rfl; rw [this, q8_4]; rfl
  have k7_1 : bits .and .i64 ((h : Int) / 128) 1 = 0 := by have := i64_fd h 7 1 hh (by decide) ((h : Int) / 128) 1 (by first | rfl | simp) rfl; rw [this, q7_1]; rfl
  have k0_3 : bits .and .i64 ((h : Int)) 7 = ((fd h 0 3 : Nat) : Int) := i64_fd h 0 3 hh (by decide) _ _ (by first | rfl | simp) rfl
  have f0_3 : fd h 0 3 < 8 := fd_lt h 0 3
  have k3_3 : bits .and .i64 ((h : Int) / 8) 7 = ((fd h 3 3 : Nat) : Int) := i64_fd h 3 3 hh (by decide) _ _ (by first | rfl | simp) rfl
  have f3_3 : fd h 3 3 < 8 := fd_lt h 3 3
  have u0_7 : bits .and .u32 ((h : Int)) 127 = ((fd h 0 7 : Nat) : Int) := u32_fd h 0 7 hh (by decide) _ _ (by first | rfl | simp) rfl
  have g0_7 : fd h 0 7 < 128 := fd_lt h 0 7
  go_enter Tryd.func29, Tryd.ntmps29
  have S := SH.start w
  go_wp2_with (first
    | ((with_reducible refine wpl_isDst 4 ?_); refine SH.alloc (L := []) S rfl 31 rfl (Cel.iv IV.zero) zeroIV ?_; clear S; intro b1 w1 S)
    | ((with_reducible refine wpl_isLoad ?_); refine S.ld 3 _ rfl g 0 rfl 0 (Cel.any [.int .i64 5, .int .i64 3]) rfl _ rfl _ Tryd.underlying3 rfl rfl ?_)
    | ((with_reducible refine wpl_isStore ?_); refine S.storeAll rfl 31 _ _ rfl b1 (Cel.iv (nImm 5 13 13 (4 * fd h 0 7) false).iv) rfl rfl 1 _ rfl rfl (one_iv _) (szIV _) ?_; clear S; intro w2 S; simp only [List.set_cons_zero, List.set_cons_succ] at S)
    | (go_at_call 27; refine (rimm_c _ _ _ _ _ _).mono ?_; rintro e wf ⟨rfl, hbf⟩; replace S := S.below hbf; clear hbf)
    | ((with_reducible refine wpl_is ?_); refine S.sliceA rfl 23 2 _ rfl [.int .i64 5, .int .i64 3] 3 (by kernel_rfl) ?_; clear S; intro g w1 S))
  (try simp only [Exit.inBlock, Exit.then])
  refine bodyPost_ret (S.results rfl _ _ rfl 1 _ rfl _ Tryd.underlying31 rfl (szIV _)) rfl ⟨rfl, S.low⟩
set_option maxHeartbeats 4000000 in
set_option maxRecDepth 100000 in
theorem rm0_1 (h : Nat) (hh : h < 65536) (b : Bool) (q8_4 : fd h 8 4 = 0) (q7_1 : fd h 7 1 = 1) (w : World) : Calls Tryd.prog 29 #[.int .i64 h, .bool b] w fun e w' => Says w (rMisc h b) e w' := by
  have hN : rMisc h b = (nImm 3 13 13 (4 * fd h 0 7) false) := by
    unfold rMisc
    simp [nbeq, nblt, nble, pick2, extOp, revOp, *]
  unfold Says
  rw [hN]
  clear hN
  have k8_4 : bits .and .i64 ((h : Int) / 256) 15 = 0 := by have := i64_fd h 8 4 hh (by decide) ((h : Int) / 256) 15 (by first | rfl | simp) rfl; rw [this, q8_4]; rfl
  have k7_1 : bits .and .i64 ((h : Int) / 128) 1 = 1 := by have := i64_fd h 7 1 hh (by decide) ((h : Int) / 128) 1 (by first | rfl | simp) rfl; rw [this, q7_1]; rfl
  have k0_3 : bits .and .i64 ((h : Int)) 7 = ((fd h 0 3 : Nat) : Int) := i64_fd h 0 3 hh (by decide) _ _ (by first | rfl | simp) rfl
  have f0_3 : fd h 0 3 < 8 := fd_lt h 0 3
  have k3_3 : bits .and .i64 ((h : Int) / 8) 7 = ((fd h 3 3 : Nat) : Int) := i64_fd h 3 3 hh (by decide) _ _ (by first | rfl | simp) rfl
  have f3_3 : fd h 3 3 < 8 := fd_lt h 3 3
  have u0_7 : bits .and .u32 ((h : Int)) 127 = ((fd h 0 7 : Nat) : Int) := u32_fd h 0 7 hh (by decide) _ _ (by first | rfl | simp) rfl
  have g0_7 : fd h 0 7 < 128 := fd_lt h 0 7
  go_enter Tryd.func29, Tryd.ntmps29
  have S := SH.start w
  go_wp2_with (first
    | ((with_reducible refine wpl_isDst 4 ?_); refine SH.alloc (L := []) S rfl 31 rfl (Cel.iv IV.zero) zeroIV ?_; clear S; intro b1 w1 S)
    | ((with_reducible refine wpl_isLoad ?_); refine S.ld 3 _ rfl g 1 rfl 0 (Cel.any [.int .i64 5, .int .i64 3]) rfl _ rfl _ Tryd.underlying3 rfl rfl ?_)
    | ((with_reducible refine wpl_isStore ?_); refine S.storeAll rfl 31 _ _ rfl b1 (Cel.iv (nImm 3 13 13 (4 * fd h 0 7) false).iv) rfl rfl 1 _ rfl rfl (one_iv _) (szIV _) ?_; clear S; intro w2 S; simp only [List.set_cons_zero, List.set_cons_succ] at S)
    | (go_at_call 27; refine (rimm_c _ _ _ _ _ _).mono ?_; rintro e wf ⟨rfl, hbf⟩; replace S := S.below hbf; clear hbf)
    | ((with_reducible refine wpl_is ?_); refine S.sliceA rfl 23 2 _ rfl [.int .i64 5, .int .i64 3] 3 (by kernel_rfl) ?_; clear S; intro g w1 S))
  (try simp only [Exit.inBlock, Exit.then])
  refine bodyPost_ret (S.results rfl _ _ rfl 1 _ rfl _ Tryd.underlying31 rfl (szIV _)) rfl ⟨rfl, S.low⟩
set_option maxHeartbeats 4000000 in
set_option maxRecDepth 100000 in
theorem rm2_0 (h : Nat) (hh : h < 65536) (b : Bool) (q8_4 : fd h 8 4 = 2) (q6_2 : fd h 6 2 = 0) (w : World) : Calls Tryd.prog 29 #[.int .i64 h, .bool b] w fun e w' => Says w (rMisc h b) e w' := by
  have hN : rMisc h b = (nReg 40 (fd h 0 3) 0 (fd h 3 3) false) := by
    unfold rMisc
    simp [nbeq, nblt, nble, pick2, extOp, revOp, *]
  unfold Says
  rw [hN]
  clear hN
  have k8_4 : bits .and .i64 ((h : Int) / 256) 15 = 2 := by have := i64_fd h 8 4 hh (by decide) ((h : Int) / 256) 15 (by first | rfl | simp) rfl; rw [this, q8_4]; rfl
  have k6_2 : bits .and .i64 ((h : Int) / 64) 3 = 0 := by have := i64_fd h 6 2 hh (by decide) ((h : Int) / 64) 3 (by first | rfl | simp) rfl; rw [this, q6_2]; rfl
  have k0_3 : bits .and .i64 ((h : Int)) 7 = ((fd h 0 3 : Nat) : Int) := i64_fd h 0 3 hh (by decide) _ _ (by first | rfl | simp) rfl
  have f0_3 : fd h 0 3 < 8 := fd_lt h 0 3
  have k3_3 : bits .and .i64 ((h : Int) / 8) 7 = ((fd h 3 3 : Nat) : Int) := i64_fd h 3 3 hh (by decide) _ _ (by first | rfl | simp) rfl
  have f3_3 : fd h 3 3 < 8 := fd_lt h 3 3
  go_enter Tryd.func29, Tryd.ntmps29
  have S := SH.start w
  go_wp2_with (first
    | ((with_reducible refine wpl_isDst 4 ?_); refine SH.alloc (L := []) S rfl 31 rfl (Cel.iv IV.zero) zeroIV ?_; clear S; intro b1 w1 S)
    | ((with_reducible refine wpl_isLoad ?_); refine S.ld 3 _ rfl g 0 rfl 0 (Cel.any [.int .i64 40, .int .i64 39, .int .i64 42, .int .i64 41]) rfl _ rfl _ Tryd.underlying3 rfl rfl ?_)
    | ((with_reducible refine wpl_isStore ?_); refine S.storeAll rfl 31 _ _ rfl b1 (Cel.iv (nReg 40 (fd h 0 3) 0 (fd h 3 3) false).iv) rfl rfl 1 _ rfl rfl (one_iv _) (szIV _) ?_; clear S; intro w2 S; simp only [List.set_cons_zero, List.set_cons_succ] at S)
    | (go_at_call 26; refine (rdata_c _ _ _ _ _ _).mono ?_; rintro e wf ⟨rfl, hbf⟩; replace S := S.below hbf; clear hbf)
    | ((with_reducible refine wpl_is ?_); refine S.sliceA rfl 23 4 _ rfl [.int .i64 40, .int .i64 39, .int .i64 42, .int .i64 41] 3 (by kernel_rfl) ?_; clear S; intro g w1 S))
  (try simp only [Exit.inBlock, Exit.then])
  refine bodyPost_ret (S.results rfl _ _ rfl 1 _ rfl _ Tryd.underlying31 rfl (szIV _)) rfl ⟨rfl, S.low⟩
set_option maxHeartbeats 4000000 in
set_option maxRecDepth 100000 in
theorem rm2_1 (h : Nat) (hh : h < 65536) (b : Bool) (q8_4 : fd h 8 4 = 2) (q6_2 : fd h 6 2 = 1) (w : World) : Calls Tryd.prog 29 #[.int .i64 h, .bool b] w fun e w' => Says w (rMisc h b) e w' := by
  have hN : rMisc h b = (nReg 39 (fd h 0 3) 0 (fd h 3 3) false) := by
    unfold rMisc
    simp [nbeq, nblt, nble, pick2, extOp, revOp, *]
  unfold Says
  rw [hN]
  clear hN
  have k8_4 : bits .and .i64 ((h : Int) / 256) 15 = 2 := by have := i64_fd h 8 4 hh (by decide) ((h : Int) / 256) 15 (by first | rfl | simp) rfl; rw [this, q8_4]; rfl
  have k6_2 : bits .and .i64 ((h : Int) / 64) 3 = 1 := by have := i64_fd h 6 2 hh (by decide) ((h : Int) / 64) 3 (by first | rfl | simp) rfl; rw [this, q6_2]; rfl
  have k0_3 : bits .and .i64 ((h : Int)) 7 = ((fd h 0 3 : Nat) : Int) := i64_fd h 0 3 hh (by decide) _ _ (by first | rfl | simp) rfl
  have f0_3 : fd h 0 3 < 8 := fd_lt h 0 3
  have k3_3 : bits .and .i64 ((h : Int) / 8) 7 = ((fd h 3 3 : Nat) : Int) := i64_fd h 3 3 hh (by decide) _ _ (by first | rfl | simp) rfl
  have f3_3 : fd h 3 3 < 8 := fd_lt h 3 3
  go_enter Tryd.func29, Tryd.ntmps29
  have S := SH.start w
  go_wp2_with (first
    | ((with_reducible refine wpl_isDst 4 ?_); refine SH.alloc (L := []) S rfl 31 rfl (Cel.iv IV.zero) zeroIV ?_; clear S; intro b1 w1 S)
    | ((with_reducible refine wpl_isLoad ?_); refine S.ld 3 _ rfl g 1 rfl 0 (Cel.any [.int .i64 40, .int .i64 39, .int .i64 42, .int .i64 41]) rfl _ rfl _ Tryd.underlying3 rfl rfl ?_)
    | ((with_reducible refine wpl_isStore ?_); refine S.storeAll rfl 31 _ _ rfl b1 (Cel.iv (nReg 39 (fd h 0 3) 0 (fd h 3 3) false).iv) rfl rfl 1 _ rfl rfl (one_iv _) (szIV _) ?_; clear S; intro w2 S; simp only [List.set_cons_zero, List.set_cons_succ] at S)
    | (go_at_call 26; refine (rdata_c _ _ _ _ _ _).mono ?_; rintro e wf ⟨rfl, hbf⟩; replace S := S.below hbf; clear hbf)
    | ((with_reducible refine wpl_is ?_); refine S.sliceA rfl 23 4 _ rfl [.int .i64 40, .int .i64 39, .int .i64 42, .int .i64 41] 3 (by kernel_rfl) ?_; clear S; intro g w1 S))
  (try simp only [Exit.inBlock, Exit.then])
  refine bodyPost_ret (S.results rfl _ _ rfl 1 _ rfl _ Tryd.underlying31 rfl (szIV _)) rfl ⟨rfl, S.low⟩
set_option maxHeartbeats 4000000 in
set_option maxRecDepth 100000 in
theorem rm2_2 (h : Nat) (hh : h < 65536) (b : Bool) (q8_4 : fd h 8 4 = 2) (q6_2 : fd h 6 2 = 2) (w : World) : Calls Tryd.prog 29 #[.int .i64 h, .bool b] w fun e w' => Says w (rMisc h b) e w' := by
  have hN : rMisc h b = (nReg 42 (fd h 0 3) 0 (fd h 3 3) false) := by
    unfold rMisc
    simp [nbeq, nblt, nble, pick2, extOp, revOp, *]
  unfold Says
  rw [hN]
  clear hN
  have k8_4 : bits .and .i64 ((h : Int) / 256) 15 = 2 := by have := i64_fd h 8 4 hh (by decide) ((h : Int) / 256) 15 (by first | rfl | simp) rfl; rw [this, q8_4]; rfl
  have k6_2 : bits .and .i64 ((h : Int) / 64) 3 = 2 := by have := i64_fd h 6 2 hh (by decide) ((h : Int) / 64) 3 (by first | rfl | simp) rfl; rw [this, q6_2]; rfl
  have k0_3 : bits .and .i64 ((h : Int)) 7 = ((fd h 0 3 : Nat) : Int) := i64_fd h 0 3 hh (by decide) _ _ (by first | rfl | simp) rfl
  have f0_3 : fd h 0 3 < 8 := fd_lt h 0 3
  have k3_3 : bits .and .i64 ((h : Int) / 8) 7 = ((fd h 3 3 : Nat) : Int) := i64_fd h 3 3 hh (by decide) _ _ (by first | rfl | simp) rfl
  have f3_3 : fd h 3 3 < 8 := fd_lt h 3 3
  go_enter Tryd.func29, Tryd.ntmps29
  have S := SH.start w
  go_wp2_with (first
    | ((with_reducible refine wpl_isDst 4 ?_); refine SH.alloc (L := []) S rfl 31 rfl (Cel.iv IV.zero) zeroIV ?_; clear S; intro b1 w1 S)
    | ((with_reducible refine wpl_isLoad ?_); refine S.ld 3 _ rfl g 2 rfl 0 (Cel.any [.int .i64 40, .int .i64 39, .int .i64 42, .int .i64 41]) rfl _ rfl _ Tryd.underlying3 rfl rfl ?_)
    | ((with_reducible refine wpl_isStore ?_); refine S.storeAll rfl 31 _ _ rfl b1 (Cel.iv (nReg 42 (fd h 0 3) 0 (fd h 3 3) false).iv) rfl rfl 1 _ rfl rfl (one_iv _) (szIV _) ?_; clear S; intro w2 S; simp only [List.set_cons_zero, List.set_cons_succ] at S)
    | (go_at_call 26; refine (rdata_c _ _ _ _ _ _).mono ?_; rintro e wf ⟨rfl, hbf⟩; replace S := S.below hbf; clear hbf)
    | ((with_reducible refine wpl_is ?_); refine S.sliceA rfl 23 4 _ rfl [.int .i64 40, .int .i64 39, .int .i64 42, .int .i64 41] 3 (by kernel_rfl) ?_; clear S; intro g w1 S))
  (try simp only [Exit.inBlock, Exit.then])
  refine bodyPost_ret (S.results rfl _ _ rfl 1 _ rfl _ Tryd.underlying31 rfl (szIV _)) rfl ⟨rfl, S.low⟩
set_option maxHeartbeats 4000000 in
set_option maxRecDepth 100000 in
theorem rm2_3 (h : Nat) (hh : h < 65536) (b : Bool) (q8_4 : fd h 8 4 = 2) (q6_2 : fd h 6 2 = 3) (w : World) : Calls Tryd.prog 29 #[.int .i64 h, .bool b] w fun e w' => Says w (rMisc h b) e w' := by
  have hN : rMisc h b = (nReg 41 (fd h 0 3) 0 (fd h 3 3) false) := by
    unfold rMisc
    simp [nbeq, nblt, nble, pick2, extOp, revOp, *]
  unfold Says
  rw [hN]
  clear hN
  have k8_4 : bits .and .i64 ((h : Int) / 256) 15 = 2 := by have := i64_fd h 8 4 hh (by decide) ((h : Int) / 256) 15 (by first | rfl | simp) rfl; rw [this, q8_4]; rfl
  have k6_2 : bits .and .i64 ((h : Int) / 64) 3 = 3 := by have := i64_fd h 6 2 hh (by decide) ((h : Int) / 64) 3 (by first | rfl | simp) rfl; rw [this, q6_2]; rfl
  have k0_3 : bits .and .i64 ((h : Int)) 7 = ((fd h 0 3 : Nat) : Int) := i64_fd h 0 3 hh (by decide) _ _ (by first | rfl | simp) rfl
  have f0_3 : fd h 0 3 < 8 := fd_lt h 0 3
  have k3_3 : bits .and .i64 ((h : Int) / 8) 7 = ((fd h 3 3 : Nat) : Int) := i64_fd h 3 3 hh (by decide) _ _ (by first | rfl | simp) rfl
  have f3_3 : fd h 3 3 < 8 := fd_lt h 3 3
  go_enter Tryd.func29, Tryd.ntmps29
  have S := SH.start w
  go_wp2_with (first
    | ((with_reducible refine wpl_isDst 4 ?_); refine SH.alloc (L := []) S rfl 31 rfl (Cel.iv IV.zero) zeroIV ?_; clear S; intro b1 w1 S)
    | ((with_reducible refine wpl_isLoad ?_); refine S.ld 3 _ rfl g 3 rfl 0 (Cel.any [.int .i64 40, .int .i64 39, .int .i64 42, .int .i64 41]) rfl _ rfl _ Tryd.underlying3 rfl rfl ?_)
    | ((with_reducible refine wpl_isStore ?_); refine S.storeAll rfl 31 _ _ rfl b1 (Cel.iv (nReg 41 (fd h 0 3) 0 (fd h 3 3) false).iv) rfl rfl 1 _ rfl rfl (one_iv _) (szIV _) ?_; clear S; intro w2 S; simp only [List.set_cons_zero, List.set_cons_succ] at S)
    | (go_at_call 26; refine (rdata_c _ _ _ _ _ _).mono ?_; rintro e wf ⟨rfl, hbf⟩; replace S := S.below hbf; clear hbf)
    | ((with_reducible refine wpl_is ?_); refine S.sliceA rfl 23 4 _ rfl [.int .i64 40, .int .i64 39, .int .i64 42, .int .i64 41] 3 (by kernel_rfl) ?_; clear S; intro g w1 S))
  (try simp only [Exit.inBlock, Exit.then])
  refine bodyPost_ret (S.results rfl _ _ rfl 1 _ rfl _ Tryd.underlying31 rfl (szIV _)) rfl ⟨rfl, S.low⟩
set_option maxHeartbeats 4000000 in
set_option maxRecDepth 100000 in
theorem rm10_0 (h : Nat) (hh : h < 65536) (b : Bool) (q8_4 : fd h 8 4 = 10) (q6_2 : fd h 6 2 = 0) (w : World) : Calls Tryd.prog 29 #[.int .i64 h, .bool b] w fun e w' => Says w (rMisc h b) e w' := by
  have hN : rMisc h b = (nReg 36 (fd h 0 3) 0 (fd h 3 3) false) := by
    unfold rMisc
    simp [nbeq, nblt, nble, pick2, extOp, revOp, *]
  unfold Says
  rw [hN]
  clear hN
  have k8_4 : bits .and .i64 ((h : Int) / 256) 15 = 10 := by have := i64_fd h 8 4 hh (by decide) ((h : Int) / 256) 15 (by first | rfl | simp) rfl; rw [this, q8_4]; rfl
  have k6_2 : bits .and .i64 ((h : Int) / 64) 3 = 0 := by have := i64_fd h 6 2 hh (by decide) ((h : Int) / 64) 3 (by first | rfl | simp) rfl; rw [this, q6_2]; rfl
  have k0_3 : bits .and .i64 ((h : Int)) 7 = ((fd h 0 3 : Nat) : Int) := i64_fd h 0 3 hh (by decide) _ _ (by first | rfl | simp) rfl
  have f0_3 : fd h 0 3 < 8 := fd_lt h 0 3
  have k3_3 : bits .and .i64 ((h : Int) / 8) 7 = ((fd h 3 3 : Nat) : Int) := i64_fd h 3 3 hh (by decide) _ _ (by first | rfl | simp) rfl
  have f3_3 : fd h 3 3 < 8 := fd_lt h 3 3
  go_enter Tryd.func29, Tryd.ntmps29
  have S := SH.start w
  go_wp2_with (first
    | ((with_reducible refine wpl_isDst 4 ?_); refine SH.alloc (L := []) S rfl 31 rfl (Cel.iv IV.zero) zeroIV ?_; clear S; intro b1 w1 S)
    | ((with_reducible refine wpl_isLoad ?_); refine S.ld 3 _ rfl g 0 rfl 0 (Cel.any [.int .i64 36, .int .i64 37, .int .i64 0, .int .i64 38]) rfl _ rfl _ Tryd.underlying3 rfl rfl ?_)
    | ((with_reducible refine wpl_isStore ?_); refine S.storeAll rfl 31 _ _ rfl b1 (Cel.iv (nReg 36 (fd h 0 3) 0 (fd h 3 3) false).iv) rfl rfl 1 _ rfl rfl (one_iv _) (szIV _) ?_; clear S; intro w2 S; simp only [List.set_cons_zero, List.set_cons_succ] at S)
    | (go_at_call 26; refine (rdata_c _ _ _ _ _ _).mono ?_; rintro e wf ⟨rfl, hbf⟩; replace S := S.below hbf; clear hbf)
    | ((with_reducible refine wpl_is ?_); refine S.sliceA rfl 23 4 _ rfl [.int .i64 36, .int .i64 37, .int .i64 0, .int .i64 38] 3 (by kernel_rfl) ?_; clear S; intro g w1 S))
  (try simp only [Exit.inBlock, Exit.then])
  refine bodyPost_ret (S.results rfl _ _ rfl 1 _ rfl _ Tryd.underlying31 rfl (szIV _)) rfl ⟨rfl, S.low⟩
set_option maxHeartbeats 4000000 in
set_option maxRecDepth 100000 in
theorem rm10_1 (h : Nat) (hh : h < 65536) (b : Bool) (q8_4 : fd h 8 4 = 10) (q6_2 : fd h 6 2 = 1) (w : World) : Calls Tryd.prog 29 #[.int .i64 h, .bool b] w fun e w' => Says w (rMisc h b) e w' := by
  have hN : rMisc h b = (nReg 37 (fd h 0 3) 0 (fd h 3 3) false) := by
    unfold rMisc
    simp [nbeq, nblt, nble, pick2, extOp, revOp, *]
  unfold Says
  rw [hN]
  clear hN
  have k8_4 : bits .and .i64 ((h : Int) / 256) 15 = 10 := by have := i64_fd h 8 4 hh (by decide) ((h : Int) / 256) 15 (by first | rfl | simp) rfl; rw [this, q8_4]; rfl
  have k6_2 : bits .and .i64 ((h : Int) / 64) 3 = 1 := by have := i64_fd h 6 2 hh (by decide) ((h : Int) / 64) 3 (by first | rfl | simp) rfl; rw [this, q6_2]; rfl
  have k0_3 : bits .and .i64 ((h : Int)) 7 = ((fd h 0 3 : Nat) : Int) := i64_fd h 0 3 hh (by decide) _ _ (by first | rfl | simp) rfl
  have f0_3 : fd h 0 3 < 8 := fd_lt h 0 3
  have k3_3 : bits .and .i64 ((h : Int) / 8) 7 = ((fd h 3 3 : Nat) : Int) := i64_fd h 3 3 hh (by decide) _ _ (by first | rfl | simp) rfl
  have f3_3 : fd h 3 3 < 8 := fd_lt h 3 3
  go_enter Tryd.func29, Tryd.ntmps29
  have S := SH.start w
  go_wp2_with (first
    | ((with_reducible refine wpl_isDst 4 ?_); refine SH.alloc (L := []) S rfl 31 rfl (Cel.iv IV.zero) zeroIV ?_; clear S; intro b1 w1 S)
    | ((with_reducible refine wpl_isLoad ?_); refine S.ld 3 _ rfl g 1 rfl 0 (Cel.any [.int .i64 36, .int .i64 37, .int .i64 0, .int .i64 38]) rfl _ rfl _ Tryd.underlying3 rfl rfl ?_)
    | ((with_reducible refine wpl_isStore ?_); refine S.storeAll rfl 31 _ _ rfl b1 (Cel.iv (nReg 37 (fd h 0 3) 0 (fd h 3 3) false).iv) rfl rfl 1 _ rfl rfl (one_iv _) (szIV _) ?_; clear S; intro w2 S; simp only [List.set_cons_zero, List.set_cons_succ] at S)
    | (go_at_call 26; refine (rdata_c _ _ _ _ _ _).mono ?_; rintro e wf ⟨rfl, hbf⟩; replace S := S.below hbf; clear hbf)
    | ((with_reducible refine wpl_is ?_); refine S.sliceA rfl 23 4 _ rfl [.int .i64 36, .int .i64 37, .int .i64 0, .int .i64 38] 3 (by kernel_rfl) ?_; clear S; intro g w1 S))
  (try simp only [Exit.inBlock, Exit.then])
  refine bodyPost_ret (S.results rfl _ _ rfl 1 _ rfl _ Tryd.underlying31 rfl (szIV _)) rfl ⟨rfl, S.low⟩
set_option maxHeartbeats 4000000 in
set_option maxRecDepth 100000 in
theorem rm10_2 (h : Nat) (hh : h < 65536) (b : Bool) (q8_4 : fd h 8 4 = 10) (q6_2 : fd h 6 2 = 2) (w : World) : Calls Tryd.prog 29 #[.int .i64 h, .bool b] w fun e w' => Says w (rMisc h b) e w' := by
  have hN : rMisc h b = (nNone 64 h) := by
    unfold rMisc
    simp [nbeq, nblt, nble, pick2, extOp, revOp, *]
  unfold Says
  rw [hN]
  clear hN
  have k8_4 : bits .and .i64 ((h : Int) / 256) 15 = 10 := by have := i64_fd h 8 4 hh (by decide) ((h : Int) / 256) 15 (by first | rfl | simp) rfl; rw [this, q8_4]; rfl
  have k6_2 : bits .and .i64 ((h : Int) / 64) 3 = 2 := by have := i64_fd h 6 2 hh (by decide) ((h : Int) / 64) 3 (by first | rfl | simp) rfl; rw [this, q6_2]; rfl
  have k0_3 : bits .and .i64 ((h : Int)) 7 = ((fd h 0 3 : Nat) : Int) := i64_fd h 0 3 hh (by decide) _ _ (by first | rfl | simp) rfl
  have f0_3 : fd h 0 3 < 8 := fd_lt h 0 3
  have k3_3 : bits .and .i64 ((h : Int) / 8) 7 = ((fd h 3 3 : Nat) : Int) := i64_fd h 3 3 hh (by decide) _ _ (by first | rfl | simp) rfl
  have f3_3 : fd h 3 3 < 8 := fd_lt h 3 3
  go_enter Tryd.func29, Tryd.ntmps29
  have S := SH.start w
  go_wp2_with (first
    | ((with_reducible refine wpl_isDst 4 ?_); refine SH.alloc (L := []) S rfl 31 rfl (Cel.iv IV.zero) zeroIV ?_; clear S; intro b1 w1 S)
    | ((with_reducible refine wpl_isStore ?_); refine S.storeAll rfl 31 _ _ rfl b1 (Cel.iv (nNone 64 h).iv) rfl rfl 0 _ rfl rfl (one_iv _) (szIV _) ?_; clear S; intro w2 S; simp only [List.set_cons_zero, List.set_cons_succ] at S)
    | (go_at_call 24; refine (rundef_c _ _).mono ?_; rintro e wf ⟨rfl, hbf⟩; replace S := S.below hbf; clear hbf))
  (try simp only [Exit.inBlock, Exit.then])
  refine bodyPost_ret (S.results rfl _ _ rfl 0 _ rfl _ Tryd.underlying31 rfl (szIV _)) rfl ⟨rfl, S.low⟩
set_option maxHeartbeats 4000000 in
set_option maxRecDepth 100000 in
theorem rm10_3 (h : Nat) (hh : h < 65536) (b : Bool) (q8_4 : fd h 8 4 = 10) (q6_2 : fd h 6 2 = 3) (w : World) : Calls Tryd.prog 29 #[.int .i64 h, .bool b] w fun e w' => Says w (rMisc h b) e w' := by
  have hN : rMisc h b = (nReg 38 (fd h 0 3) 0 (fd h 3 3) false) := by
    unfold rMisc
    simp [nbeq, nblt, nble, pick2, extOp, revOp, *]
  unfold Says
  rw [hN]
  clear hN
  have k8_4 : bits .and .i64 ((h : Int) / 256) 15 = 10 := by have := i64_fd h 8 4 hh (by decide) ((h : Int) / 256) 15 (by first | rfl | simp) rfl; rw [this, q8_4]; rfl
  have k6_2 : bits .and .i64 ((h : Int) / 64) 3 = 3 := by have := i64_fd h 6 2 hh (by decide) ((h : Int) / 64) 3 (by first | rfl | simp) rfl; rw [this, q6_2]; rfl
  have k0_3 : bits .and .i64 ((h : Int)) 7 = ((fd h 0 3 : Nat) : Int) := i64_fd h 0 3 hh (by decide) _ _ (by first | rfl | simp) rfl
  have f0_3 : fd h 0 3 < 8 := fd_lt h 0 3
  have k3_3 : bits .and .i64 ((h : Int) / 8) 7 = ((fd h 3 3 : Nat) : Int) := i64_fd h 3 3 hh (by decide) _ _ (by first | rfl | simp) rfl
  have f3_3 : fd h 3 3 < 8 := fd_lt h 3 3
  go_enter Tryd.func29, Tryd.ntmps29
  have S := SH.start w
  go_wp2_with (first
    | ((with_reducible refine wpl_isDst 4 ?_); refine SH.alloc (L := []) S rfl 31 rfl (Cel.iv IV.zero) zeroIV ?_; clear S; intro b1 w1 S)
    | ((with_reducible refine wpl_isLoad ?_); refine S.ld 3 _ rfl g 3 rfl 0 (Cel.any [.int .i64 36, .int .i64 37, .int .i64 0, .int .i64 38]) rfl _ rfl _ Tryd.underlying3 rfl rfl ?_)
    | ((with_reducible refine wpl_isStore ?_); refine S.storeAll rfl 31 _ _ rfl b1 (Cel.iv (nReg 38 (fd h 0 3) 0 (fd h 3 3) false).iv) rfl rfl 1 _ rfl rfl (one_iv _) (szIV _) ?_; clear S; intro w2 S; simp only [List.set_cons_zero, List.set_cons_succ] at S)
    | (go_at_call 26; refine (rdata_c _ _ _ _ _ _).mono ?_; rintro e wf ⟨rfl, hbf⟩; replace S := S.below hbf; clear hbf)
    | ((with_reducible refine wpl_is ?_); refine S.sliceA rfl 23 4 _ rfl [.int .i64 36, .int .i64 37, .int .i64 0, .int .i64 38] 3 (by kernel_rfl) ?_; clear S; intro g w1 S))
  (try simp only [Exit.inBlock, Exit.then])
  refine bodyPost_ret (S.results rfl _ _ rfl 1 _ rfl _ Tryd.underlying31 rfl (szIV _)) rfl ⟨rfl, S.low⟩
set_option maxHeartbeats 4000000 in
set_option maxRecDepth 100000 in
theorem rm6 (h : Nat) (hh : h < 65536) (b : Bool) (q8_4 : fd h 8 4 = 6) (w : World) : Calls Tryd.prog 29 #[.int .i64 h, .bool b] w fun e w' => Says w (rMisc h b) e w' := by
  have hN : rMisc h b = (nNone 64 h) := by
    unfold rMisc
    simp [nbeq, nblt, nble, pick2, extOp, revOp, *]
  unfold Says
  rw [hN]
  clear hN
  have k8_4 : bits .and .i64 ((h : Int) / 256) 15 = 6 := by have := i64_fd h 8 4 hh (by decide) ((h : Int) / 256) 15 (by first | rfl | simp) rfl; rw [this, q8_4]; rfl
  have k0_3 : bits .and .i64 ((h : Int)) 7 = ((fd h 0 3 : Nat) : Int) := i64_fd h 0 3 hh (by decide) _ _ (by first | rfl | simp) rfl
  have f0_3 : fd h 0 3 < 8 := fd_lt h 0 3
  have k3_3 : bits .and .i64 ((h : Int) / 8) 7 = ((fd h 3 3 : Nat) : Int) := i64_fd h 3 3 hh (by decide) _ _ (by first | rfl | simp) rfl
  have f3_3 : fd h 3 3 < 8 := fd_lt h 3 3
  go_enter Tryd.func29, Tryd.ntmps29
  have S := SH.start w
  go_wp2_with (first
    | ((with_reducible refine wpl_isDst 4 ?_); refine SH.alloc (L := []) S rfl 31 rfl (Cel.iv IV.zero) zeroIV ?_; clear S; intro b1 w1 S)
    | ((with_reducible refine wpl_isStore ?_); refine S.storeAll rfl 31 _ _ rfl b1 (Cel.iv (nNone 64 h).iv) rfl rfl 0 _ rfl rfl (one_iv _) (szIV _) ?_; clear S; intro w2 S; simp only [List.set_cons_zero, List.set_cons_succ] at S)
    | (go_at_call 24; refine (rundef_c _ _).mono ?_; rintro e wf ⟨rfl, hbf⟩; replace S := S.below hbf; clear hbf))
  (try simp only [Exit.inBlock, Exit.then])
  refine bodyPost_ret (S.results rfl _ _ rfl 0 _ rfl _ Tryd.underlying31 rfl (szIV _)) rfl ⟨rfl, S.low⟩
set_option maxHeartbeats 4000000 in
set_option maxRecDepth 100000 in
theorem rm7 (h : Nat) (hh : h < 65536) (b : Bool) (q8_4 : fd h 8 4 = 7) (w : World) : Calls Tryd.prog 29 #[.int .i64 h, .bool b] w fun e w' => Says w (rMisc h b) e w' := by
  have hN : rMisc h b = (nNone 64 h) := by
    unfold rMisc
    simp [nbeq, nblt, nble, pick2, extOp, revOp, *]
  unfold Says
  rw [hN]
  clear hN
  have k8_4 : bits .and .i64 ((h : Int) / 256) 15 = 7 := by have := i64_fd h 8 4 hh (by decide) ((h : Int) / 256) 15 (by first | rfl | simp) rfl; rw [this, q8_4]; rfl
  have k0_3 : bits .and .i64 ((h : Int)) 7 = ((fd h 0 3 : Nat) : Int) := i64_fd h 0 3 hh (by decide) _ _ (by first | rfl | simp) rfl
  have f0_3 : fd h 0 3 < 8 := fd_lt h 0 3
  have k3_3 : bits .and .i64 ((h : Int) / 8) 7 = ((fd h 3 3 : Nat) : Int) := i64_fd h 3 3 hh (by decide) _ _ (by first | rfl | simp) rfl
  have f3_3 : fd h 3 3 < 8 := fd_lt h 3 3
  go_enter Tryd.func29, Tryd.ntmps29
  have S := SH.start w
  go_wp2_with (first
    | ((with_reducible refine wpl_isDst 4 ?_); refine SH.alloc (L := []) S rfl 31 rfl (Cel.iv IV.zero) zeroIV ?_; clear S; intro b1 w1 S)
    | ((with_reducible refine wpl_isStore ?_); refine S.storeAll rfl 31 _ _ rfl b1 (Cel.iv (nNone 64 h).iv) rfl rfl 0 _ rfl rfl (one_iv _) (szIV _) ?_; clear S; intro w2 S; simp only [List.set_cons_zero, List.set_cons_succ] at S)
    | (go_at_call 24; refine (rundef_c _ _).mono ?_; rintro e wf ⟨rfl, hbf⟩; replace S := S.below hbf; clear hbf))
  (try simp only [Exit.inBlock, Exit.then])
  refine bodyPost_ret (S.results rfl _ _ rfl 0 _ rfl _ Tryd.underlying31 rfl (szIV _)) rfl ⟨rfl, S.low⟩
set_option maxHeartbeats 4000000 in
set_option maxRecDepth 100000 in
theorem rm8 (h : Nat) (hh : h < 65536) (b : Bool) (q8_4 : fd h 8 4 = 8) (w : World) : Calls Tryd.prog 29 #[.int .i64 h, .bool b] w fun e w' => Says w (rMisc h b) e w' := by
  have hN : rMisc h b = (nNone 64 h) := by
    unfold rMisc
    simp [nbeq, nblt, nble, pick2, extOp, revOp, *]
  unfold Says
  rw [hN]
  clear hN
  have k8_4 : bits .and .i64 ((h : Int) / 256) 15 = 8 := by have := i64_fd h 8 4 hh (by decide) ((h : Int) / 256) 15 (by first | rfl | simp) rfl; rw [this, q8_4]; rfl
  have k0_3 : bits .and .i64 ((h : Int)) 7 = ((fd h 0 3 : Nat) : Int) := i64_fd h 0 3 hh (by decide) _ _ (by first | rfl | simp) rfl
  have f0_3 : fd h 0 3 < 8 := fd_lt h 0 3
  have k3_3 : bits .and .i64 ((h : Int) / 8) 7 = ((fd h 3 3 : Nat) : Int) := i64_fd h 3 3 hh (by decide) _ _ (by first | rfl | simp) rfl
  have f3_3 : fd h 3 3 < 8 := fd_lt h 3 3
  go_enter Tryd.func29, Tryd.ntmps29
  have S := SH.start w
  go_wp2_with (first
    | ((with_reducible refine wpl_isDst 4 ?_); refine SH.alloc (L := []) S rfl 31 rfl (Cel.iv IV.zero) zeroIV ?_; clear S; intro b1 w1 S)
    | ((with_reducible refine wpl_isStore ?_); refine S.storeAll rfl 31 _ _ rfl b1 (Cel.iv (nNone 64 h).iv) rfl rfl 0 _ rfl rfl (one_iv _) (szIV _) ?_; clear S; intro w2 S; simp only [List.set_cons_zero, List.set_cons_succ] at S)
    | (go_at_call 24; refine (rundef_c _ _).mono ?_; rintro e wf ⟨rfl, hbf⟩; replace S := S.below hbf; clear hbf))
  (try simp only [Exit.inBlock, Exit.then])
  refine bodyPost_ret (S.results rfl _ _ rfl 0 _ rfl _ Tryd.underlying31 rfl (szIV _)) rfl ⟨rfl, S.low⟩
set_option maxHeartbeats 4000000 in
set_option maxRecDepth 100000 in
theorem rm14 (h : Nat) (hh : h < 65536) (b : Bool) (q8_4 : fd h 8 4 = 14) (w : World) : Calls Tryd.prog 29 #[.int .i64 h, .bool b] w fun e w' => Says w (rMisc h b) e w' := by
  have hN : rMisc h b = (nNum 63 (fd h 0 8)) := by
    unfold rMisc
    simp [nbeq, nblt, nble, pick2, extOp, revOp, *]
  unfold Says
  rw [hN]
  clear hN
  have k8_4 : bits .and .i64 ((h : Int) / 256) 15 = 14 := by have := i64_fd h 8 4 hh (by decide) ((h : Int) / 256) 15 (by first | rfl | simp) rfl; rw [this, q8_4]; rfl
  have k0_3 : bits .and .i64 ((h : Int)) 7 = ((fd h 0 3 : Nat) : Int) := i64_fd h 0 3 hh (by decide) _ _ (by first | rfl | simp) rfl
  have f0_3 : fd h 0 3 < 8 := fd_lt h 0 3
  have k3_3 : bits .and .i64 ((h : Int) / 8) 7 = ((fd h 3 3 : Nat) : Int) := i64_fd h 3 3 hh (by decide) _ _ (by first | rfl | simp) rfl
  have f3_3 : fd h 3 3 < 8 := fd_lt h 3 3
  have u0_8 : bits .and .u32 ((h : Int)) 255 = ((fd h 0 8 : Nat) : Int) := u32_fd h 0 8 hh (by decide) _ _ (by first | rfl | simp) rfl
  have g0_8 : fd h 0 8 < 256 := fd_lt h 0 8
  go_enter Tryd.func29, Tryd.ntmps29
  have S := SH.start w
  go_wp2_with (first
    | ((with_reducible refine wpl_isDst 4 ?_); refine SH.alloc (L := []) S rfl 31 rfl (Cel.iv IV.zero) zeroIV ?_; clear S; intro b1 w1 S)
    | ((with_reducible refine wpl_isDst 10 ?_); refine S.alloc rfl 31 rfl (Cel.iv IV.zero) zeroIV ?_; clear S; intro b2 w1 S)
    | ((with_reducible refine wpl_isLoad ?_); first
      | (refine S.ldAll 31 _ rfl b2 rfl 0 (Cel.iv (iZ 63 0 ((fd h 0 8 : Nat) : Int) 0 14 false false)) rfl _ Tryd.underlying31 rfl (szIV _) rfl ?_))
    | ((with_reducible refine wpl_isStore ?_); first
      | (refine S.store1 rfl 29 _ _ rfl b2 8 _ rfl rfl 0 (Cel.iv (iZ 63 0 0 0 14 false false)) rfl rfl (by simp [Cel.cells, IV.cellsL]) (Cel.iv (iZ 63 0 ((fd h 0 8 : Nat) : Int) 0 14 false false)) rfl (by kernel_rfl) ?_; clear S; intro w2 S; simp only [List.set_cons_zero, List.set_cons_succ] at S)
      | (refine S.storeAll rfl 31 _ _ rfl b2 (Cel.iv (iZ 63 0 0 0 14 false false)) rfl rfl 0 _ rfl rfl (one_iv _) (szIV _) ?_; clear S; intro w2 S; simp only [List.set_cons_zero, List.set_cons_succ] at S)
      | (refine S.storeAll rfl 31 _ _ rfl b1 (Cel.iv (nNum 63 (fd h 0 8)).iv) rfl rfl 1 _ rfl rfl (one_iv _) (szIV _) ?_; clear S; intro w2 S; simp only [List.set_cons_zero, List.set_cons_succ] at S))
    | (go_at_call 30; refine (plain_c _ _).mono ?_; rintro e wf ⟨rfl, hbf⟩; replace S := S.below hbf; clear hbf)
  )
  (try simp only [Exit.inBlock, Exit.then])
  refine bodyPost_ret (S.results rfl _ _ rfl 1 _ rfl _ Tryd.underlying31 rfl (szIV _)) rfl ⟨rfl, S.low⟩
end Go.Proofs.YtbbkiiabjhgpkaaDoor
namespace Go.Proofs.YtbbkiiabjhgpkaaDoor
open Go.ChangeShapes Go.WideShapes Go.ChangeAt Go.RowKit
set_option linter.unusedVariables false
set_option linter.unusedSimpArgs false

theorem cbj (h : Nat) : ∃ JO : Nat, fd h 3 5 + fd h 9 1 * 32 = JO ∧ JO < 64 ∧ bits .or .u32 ((fd h 3 5 : Nat) : Int) ((fd h 9 1 : Nat) * 32 : Int) = ((JO : Nat) : Int) := by
  have f35 : fd h 3 5 < 32 := fd_lt h 3 5
  have f91 : fd h 9 1 < 2 := fd_lt h 9 1
  refine ⟨_, rfl, by omega, ?_⟩
  rw [show ((fd h 9 1 : Nat) * 32 : Int) = ((fd h 9 1 * 32 : Nat) : Int) from rfl, u32_or_nat _ _ (by omega) (by omega), Nat.or_comm, show fd h 9 1 * 32 = 2 ^ 5 * fd h 9 1 by omega, ← Nat.two_pow_add_eq_or_of_lt f35 (fd h 9 1), Nat.add_comm]
set_option maxHeartbeats 4000000 in
set_option maxRecDepth 100000 in
theorem rm1_0_false (h : Nat) (hh : h < 65536) (q8_4 : fd h 8 4 = 1) (q11_1 : fd h 11 1 = 0) (w : World) : Calls Tryd.prog 29 #[.int .i64 h, .bool false] w fun e w' => Says w (rMisc h false) e w' := by
  have hN : rMisc h false = (NV.mk 58 false 14 0 (fd h 0 3) 0 ((fd h 3 5 + fd h 9 1 * 32) * 2) false 0 false false) := by
    unfold rMisc
    simp [nbeq, nblt, nble, pick2, extOp, revOp, *]
  unfold Says
  rw [hN]
  clear hN
  have k8_4 : bits .and .i64 ((h : Int) / 256) 15 = 1 := by have := i64_fd h 8 4 hh (by decide) ((h : Int) / 256) 15 (by first | rfl | simp) rfl; rw [this, q8_4]; rfl
  have k11_1 : bits .and .i64 ((h : Int) / 2048) 1 = 0 := by have := i64_fd h 11 1 hh (by decide) ((h : Int) / 2048) 1 (by first | rfl | simp) rfl; rw [this, q11_1]; rfl
  have k0_3 : bits .and .i64 ((h : Int)) 7 = ((fd h 0 3 : Nat) : Int) := i64_fd h 0 3 hh (by decide) _ _ (by first | rfl | simp) rfl
  have f0_3 : fd h 0 3 < 8 := fd_lt h 0 3
  have k3_3 : bits .and .i64 ((h : Int) / 8) 7 = ((fd h 3 3 : Nat) : Int) := i64_fd h 3 3 hh (by decide) _ _ (by first | rfl | simp) rfl
  have f3_3 : fd h 3 3 < 8 := fd_lt h 3 3
  have u3_5 : bits .and .u32 ((h : Int) / 8) 31 = ((fd h 3 5 : Nat) : Int) := u32_fd h 3 5 hh (by decide) _ _ (by first | rfl | simp) rfl
  have g3_5 : fd h 3 5 < 32 := fd_lt h 3 5
  have u9_1 : bits .and .u32 ((h : Int) / 512) 1 = ((fd h 9 1 : Nat) : Int) := u32_fd h 9 1 hh (by decide) _ _ (by first | rfl | simp) rfl
  have g9_1 : fd h 9 1 < 2 := fd_lt h 9 1
  obtain ⟨JO, hjo, jb, jo⟩ := cbj h
  (try rw [hjo])
  clear hjo
  go_enter Tryd.func29, Tryd.ntmps29
  have S := SH.start w
  go_wp2_with (first
    | ((with_reducible refine wpl_isDst 4 ?_); refine SH.alloc (L := []) S rfl 31 rfl (Cel.iv IV.zero) zeroIV ?_; clear S; intro b1 w1 S)
    | ((with_reducible refine wpl_isDst 8 ?_); refine S.alloc rfl 31 rfl (Cel.iv IV.zero) zeroIV ?_; clear S; intro b2 w1 S)
    | ((with_reducible refine wpl_isLoad ?_); first
      | (refine S.ld 3 _ rfl g 0 rfl 0 (Cel.any [.int .i64 58, .int .i64 59]) rfl _ rfl _ Tryd.underlying3 rfl rfl ?_)
      | (refine S.ldAll 31 _ rfl b2 rfl 0 (Cel.iv (iZ 58 ((fd h 0 3 : Nat) : Int) ((JO * 2 : Nat) : Int) 0 14 false false)) rfl _ Tryd.underlying31 rfl (szIV _) rfl ?_))
    | ((with_reducible refine wpl_isStore ?_); first
      | (refine S.store1 rfl 3 _ _ rfl b2 5 _ rfl rfl 0 (Cel.iv (iZ 58 0 0 0 14 false false)) rfl rfl (by simp [Cel.cells, IV.cellsL]) (Cel.iv (iZ 58 ((fd h 0 3 : Nat) : Int) 0 0 14 false false)) rfl (by kernel_rfl) ?_; clear S; intro w2 S; simp only [List.set_cons_zero, List.set_cons_succ] at S)
      | (refine S.store1 rfl 29 _ _ rfl b2 8 _ rfl rfl 0 (Cel.iv (iZ 58 ((fd h 0 3 : Nat) : Int) 0 0 14 false false)) rfl rfl (by simp [Cel.cells, IV.cellsL]) (Cel.iv (iZ 58 ((fd h 0 3 : Nat) : Int) ((JO * 2 : Nat) : Int) 0 14 false false)) rfl (by kernel_rfl) ?_; clear S; intro w2 S; simp only [List.set_cons_zero, List.set_cons_succ] at S)
      | (refine S.storeAll rfl 31 _ _ rfl b2 (Cel.iv (iZ 58 0 0 0 14 false false)) rfl rfl 0 _ rfl rfl (one_iv _) (szIV _) ?_; clear S; intro w2 S; simp only [List.set_cons_zero, List.set_cons_succ] at S)
      | (refine S.storeAll rfl 31 _ _ rfl b1 (Cel.iv (NV.mk 58 false 14 0 (fd h 0 3) 0 (JO * 2) false 0 false false).iv) rfl rfl 2 _ rfl rfl (one_iv _) (szIV _) ?_; clear S; intro w2 S; simp only [List.set_cons_zero, List.set_cons_succ] at S))
    | (go_at_call 30; refine (plain_c _ _).mono ?_; rintro e wf ⟨rfl, hbf⟩; replace S := S.below hbf; clear hbf)
    | ((with_reducible refine wpl_is ?_); refine S.sliceA rfl 23 2 _ rfl [.int .i64 58, .int .i64 59] 3 (by kernel_rfl) ?_; clear S; intro g w1 S))
  (try simp only [Exit.inBlock, Exit.then])
  refine bodyPost_ret (S.results rfl _ _ rfl 2 _ rfl _ Tryd.underlying31 rfl (szIV _)) rfl ⟨rfl, S.low⟩
set_option maxHeartbeats 4000000 in
set_option maxRecDepth 100000 in
theorem rm1_0_true (h : Nat) (hh : h < 65536) (q8_4 : fd h 8 4 = 1) (q11_1 : fd h 11 1 = 0) (w : World) : Calls Tryd.prog 29 #[.int .i64 h, .bool true] w fun e w' => Says w (rMisc h true) e w' := by
  have hN : rMisc h true = (nNone 65 h) := by
    unfold rMisc
    simp [nbeq, nblt, nble, pick2, extOp, revOp, *]
  unfold Says
  rw [hN]
  clear hN
  have k8_4 : bits .and .i64 ((h : Int) / 256) 15 = 1 := by have := i64_fd h 8 4 hh (by decide) ((h : Int) / 256) 15 (by first | rfl | simp) rfl; rw [this, q8_4]; rfl
  have k11_1 : bits .and .i64 ((h : Int) / 2048) 1 = 0 := by have := i64_fd h 11 1 hh (by decide) ((h : Int) / 2048) 1 (by first | rfl | simp) rfl; rw [this, q11_1]; rfl
  have k0_3 : bits .and .i64 ((h : Int)) 7 = ((fd h 0 3 : Nat) : Int) := i64_fd h 0 3 hh (by decide) _ _ (by first | rfl | simp) rfl
  have f0_3 : fd h 0 3 < 8 := fd_lt h 0 3
  have k3_3 : bits .and .i64 ((h : Int) / 8) 7 = ((fd h 3 3 : Nat) : Int) := i64_fd h 3 3 hh (by decide) _ _ (by first | rfl | simp) rfl
  have f3_3 : fd h 3 3 < 8 := fd_lt h 3 3
  have u3_5 : bits .and .u32 ((h : Int) / 8) 31 = ((fd h 3 5 : Nat) : Int) := u32_fd h 3 5 hh (by decide) _ _ (by first | rfl | simp) rfl
  have g3_5 : fd h 3 5 < 32 := fd_lt h 3 5
  have u9_1 : bits .and .u32 ((h : Int) / 512) 1 = ((fd h 9 1 : Nat) : Int) := u32_fd h 9 1 hh (by decide) _ _ (by first | rfl | simp) rfl
  have g9_1 : fd h 9 1 < 2 := fd_lt h 9 1
  obtain ⟨JO, hjo, jb, jo⟩ := cbj h
  (try rw [hjo])
  clear hjo
  go_enter Tryd.func29, Tryd.ntmps29
  have S := SH.start w
  go_wp2_with (first
    | ((with_reducible refine wpl_isDst 4 ?_); refine SH.alloc (L := []) S rfl 31 rfl (Cel.iv IV.zero) zeroIV ?_; clear S; intro b1 w1 S)
    | ((with_reducible refine wpl_isDst 8 ?_); refine S.alloc rfl 31 rfl (Cel.iv IV.zero) zeroIV ?_; clear S; intro b2 w1 S)
    | ((with_reducible refine wpl_isLoad ?_); first
      | (refine S.ld 3 _ rfl g 0 rfl 0 (Cel.any [.int .i64 58, .int .i64 59]) rfl _ rfl _ Tryd.underlying3 rfl rfl ?_)
      | (refine S.ldAll 31 _ rfl b2 rfl 0 (Cel.iv (iZ 58 ((fd h 0 3 : Nat) : Int) ((JO * 2 : Nat) : Int) 0 14 false false)) rfl _ Tryd.underlying31 rfl (szIV _) rfl ?_))
    | ((with_reducible refine wpl_isStore ?_); first
      | (refine S.store1 rfl 3 _ _ rfl b2 5 _ rfl rfl 0 (Cel.iv (iZ 58 0 0 0 14 false false)) rfl rfl (by simp [Cel.cells, IV.cellsL]) (Cel.iv (iZ 58 ((fd h 0 3 : Nat) : Int) 0 0 14 false false)) rfl (by kernel_rfl) ?_; clear S; intro w2 S; simp only [List.set_cons_zero, List.set_cons_succ] at S)
      | (refine S.store1 rfl 29 _ _ rfl b2 8 _ rfl rfl 0 (Cel.iv (iZ 58 ((fd h 0 3 : Nat) : Int) 0 0 14 false false)) rfl rfl (by simp [Cel.cells, IV.cellsL]) (Cel.iv (iZ 58 ((fd h 0 3 : Nat) : Int) ((JO * 2 : Nat) : Int) 0 14 false false)) rfl (by kernel_rfl) ?_; clear S; intro w2 S; simp only [List.set_cons_zero, List.set_cons_succ] at S)
      | (refine S.storeAll rfl 31 _ _ rfl b2 (Cel.iv (iZ 58 0 0 0 14 false false)) rfl rfl 0 _ rfl rfl (one_iv _) (szIV _) ?_; clear S; intro w2 S; simp only [List.set_cons_zero, List.set_cons_succ] at S)
      | (refine S.storeAll rfl 31 _ _ rfl b1 (Cel.iv (nNone 65 h).iv) rfl rfl 2 _ rfl rfl (one_iv _) (szIV _) ?_; clear S; intro w2 S; simp only [List.set_cons_zero, List.set_cons_succ] at S))
    | (go_at_call 30; refine (plain_c _ _).mono ?_; rintro e wf ⟨rfl, hbf⟩; replace S := S.below hbf; clear hbf)
    | (go_at_call 25; refine (rbad_c _ _).mono ?_; rintro e wf ⟨rfl, hbf⟩; replace S := S.below hbf; clear hbf)
    | ((with_reducible refine wpl_is ?_); refine S.sliceA rfl 23 2 _ rfl [.int .i64 58, .int .i64 59] 3 (by kernel_rfl) ?_; clear S; intro g w1 S))
  (try simp only [Exit.inBlock, Exit.then])
  refine bodyPost_ret (S.results rfl _ _ rfl 2 _ rfl _ Tryd.underlying31 rfl (szIV _)) rfl ⟨rfl, S.low⟩
set_option maxHeartbeats 4000000 in
set_option maxRecDepth 100000 in
theorem rm1_1_false (h : Nat) (hh : h < 65536) (q8_4 : fd h 8 4 = 1) (q11_1 : fd h 11 1 = 1) (w : World) : Calls Tryd.prog 29 #[.int .i64 h, .bool false] w fun e w' => Says w (rMisc h false) e w' := by
  have hN : rMisc h false = (NV.mk 59 false 14 0 (fd h 0 3) 0 ((fd h 3 5 + fd h 9 1 * 32) * 2) false 0 false false) := by
    unfold rMisc
    simp [nbeq, nblt, nble, pick2, extOp, revOp, *]
  unfold Says
  rw [hN]
  clear hN
  have k8_4 : bits .and .i64 ((h : Int) / 256) 15 = 1 := by have := i64_fd h 8 4 hh (by decide) ((h : Int) / 256) 15 (by first | rfl | simp) rfl; rw [this, q8_4]; rfl
  have k11_1 : bits .and .i64 ((h : Int) / 2048) 1 = 1 := by have := i64_fd h 11 1 hh (by decide) ((h : Int) / 2048) 1 (by first | rfl | simp) rfl; rw [this, q11_1]; rfl
  have k0_3 : bits .and .i64 ((h : Int)) 7 = ((fd h 0 3 : Nat) : Int) := i64_fd h 0 3 hh (by decide) _ _ (by first | rfl | simp) rfl
  have f0_3 : fd h 0 3 < 8 := fd_lt h 0 3
  have k3_3 : bits .and .i64 ((h : Int) / 8) 7 = ((fd h 3 3 : Nat) : Int) := i64_fd h 3 3 hh (by decide) _ _ (by first | rfl | simp) rfl
  have f3_3 : fd h 3 3 < 8 := fd_lt h 3 3
  have u3_5 : bits .and .u32 ((h : Int) / 8) 31 = ((fd h 3 5 : Nat) : Int) := u32_fd h 3 5 hh (by decide) _ _ (by first | rfl | simp) rfl
  have g3_5 : fd h 3 5 < 32 := fd_lt h 3 5
  have u9_1 : bits .and .u32 ((h : Int) / 512) 1 = ((fd h 9 1 : Nat) : Int) := u32_fd h 9 1 hh (by decide) _ _ (by first | rfl | simp) rfl
  have g9_1 : fd h 9 1 < 2 := fd_lt h 9 1
  obtain ⟨JO, hjo, jb, jo⟩ := cbj h
  (try rw [hjo])
  clear hjo
  go_enter Tryd.func29, Tryd.ntmps29
  have S := SH.start w
  go_wp2_with (first
    | ((with_reducible refine wpl_isDst 4 ?_); refine SH.alloc (L := []) S rfl 31 rfl (Cel.iv IV.zero) zeroIV ?_; clear S; intro b1 w1 S)
    | ((with_reducible refine wpl_isDst 8 ?_); refine S.alloc rfl 31 rfl (Cel.iv IV.zero) zeroIV ?_; clear S; intro b2 w1 S)
    | ((with_reducible refine wpl_isLoad ?_); first
      | (refine S.ld 3 _ rfl g 1 rfl 0 (Cel.any [.int .i64 58, .int .i64 59]) rfl _ rfl _ Tryd.underlying3 rfl rfl ?_)
      | (refine S.ldAll 31 _ rfl b2 rfl 0 (Cel.iv (iZ 59 ((fd h 0 3 : Nat) : Int) ((JO * 2 : Nat) : Int) 0 14 false false)) rfl _ Tryd.underlying31 rfl (szIV _) rfl ?_))
    | ((with_reducible refine wpl_isStore ?_); first
      | (refine S.store1 rfl 3 _ _ rfl b2 5 _ rfl rfl 0 (Cel.iv (iZ 59 0 0 0 14 false false)) rfl rfl (by simp [Cel.cells, IV.cellsL]) (Cel.iv (iZ 59 ((fd h 0 3 : Nat) : Int) 0 0 14 false false)) rfl (by kernel_rfl) ?_; clear S; intro w2 S; simp only [List.set_cons_zero, List.set_cons_succ] at S)
      | (refine S.store1 rfl 29 _ _ rfl b2 8 _ rfl rfl 0 (Cel.iv (iZ 59 ((fd h 0 3 : Nat) : Int) 0 0 14 false false)) rfl rfl (by simp [Cel.cells, IV.cellsL]) (Cel.iv (iZ 59 ((fd h 0 3 : Nat) : Int) ((JO * 2 : Nat) : Int) 0 14 false false)) rfl (by kernel_rfl) ?_; clear S; intro w2 S; simp only [List.set_cons_zero, List.set_cons_succ] at S)
      | (refine S.storeAll rfl 31 _ _ rfl b2 (Cel.iv (iZ 59 0 0 0 14 false false)) rfl rfl 0 _ rfl rfl (one_iv _) (szIV _) ?_; clear S; intro w2 S; simp only [List.set_cons_zero, List.set_cons_succ] at S)
      | (refine S.storeAll rfl 31 _ _ rfl b1 (Cel.iv (NV.mk 59 false 14 0 (fd h 0 3) 0 (JO * 2) false 0 false false).iv) rfl rfl 2 _ rfl rfl (one_iv _) (szIV _) ?_; clear S; intro w2 S; simp only [List.set_cons_zero, List.set_cons_succ] at S))
    | (go_at_call 30; refine (plain_c _ _).mono ?_; rintro e wf ⟨rfl, hbf⟩; replace S := S.below hbf; clear hbf)
    | ((with_reducible refine wpl_is ?_); refine S.sliceA rfl 23 2 _ rfl [.int .i64 58, .int .i64 59] 3 (by kernel_rfl) ?_; clear S; intro g w1 S))
  (try simp only [Exit.inBlock, Exit.then])
  refine bodyPost_ret (S.results rfl _ _ rfl 2 _ rfl _ Tryd.underlying31 rfl (szIV _)) rfl ⟨rfl, S.low⟩
set_option maxHeartbeats 4000000 in
set_option maxRecDepth 100000 in
theorem rm1_1_true (h : Nat) (hh : h < 65536) (q8_4 : fd h 8 4 = 1) (q11_1 : fd h 11 1 = 1) (w : World) : Calls Tryd.prog 29 #[.int .i64 h, .bool true] w fun e w' => Says w (rMisc h true) e w' := by
  have hN : rMisc h true = (nNone 65 h) := by
    unfold rMisc
    simp [nbeq, nblt, nble, pick2, extOp, revOp, *]
  unfold Says
  rw [hN]
  clear hN
  have k8_4 : bits .and .i64 ((h : Int) / 256) 15 = 1 := by have := i64_fd h 8 4 hh (by decide) ((h : Int) / 256) 15 (by first | rfl | simp) rfl; rw [this, q8_4]; rfl
  have k11_1 : bits .and .i64 ((h : Int) / 2048) 1 = 1 := by have := i64_fd h 11 1 hh (by decide) ((h : Int) / 2048) 1 (by first | rfl | simp) rfl; rw [this, q11_1]; rfl
  have k0_3 : bits .and .i64 ((h : Int)) 7 = ((fd h 0 3 : Nat) : Int) := i64_fd h 0 3 hh (by decide) _ _ (by first | rfl | simp) rfl
  have f0_3 : fd h 0 3 < 8 := fd_lt h 0 3
  have k3_3 : bits .and .i64 ((h : Int) / 8) 7 = ((fd h 3 3 : Nat) : Int) := i64_fd h 3 3 hh (by decide) _ _ (by first | rfl | simp) rfl
  have f3_3 : fd h 3 3 < 8 := fd_lt h 3 3
  have u3_5 : bits .and .u32 ((h : Int) / 8) 31 = ((fd h 3 5 : Nat) : Int) := u32_fd h 3 5 hh (by decide) _ _ (by first | rfl | simp) rfl
  have g3_5 : fd h 3 5 < 32 := fd_lt h 3 5
  have u9_1 : bits .and .u32 ((h : Int) / 512) 1 = ((fd h 9 1 : Nat) : Int) := u32_fd h 9 1 hh (by decide) _ _ (by first | rfl | simp) rfl
  have g9_1 : fd h 9 1 < 2 := fd_lt h 9 1
  obtain ⟨JO, hjo, jb, jo⟩ := cbj h
  (try rw [hjo])
  clear hjo
  go_enter Tryd.func29, Tryd.ntmps29
  have S := SH.start w
  go_wp2_with (first
    | ((with_reducible refine wpl_isDst 4 ?_); refine SH.alloc (L := []) S rfl 31 rfl (Cel.iv IV.zero) zeroIV ?_; clear S; intro b1 w1 S)
    | ((with_reducible refine wpl_isDst 8 ?_); refine S.alloc rfl 31 rfl (Cel.iv IV.zero) zeroIV ?_; clear S; intro b2 w1 S)
    | ((with_reducible refine wpl_isLoad ?_); first
      | (refine S.ld 3 _ rfl g 1 rfl 0 (Cel.any [.int .i64 58, .int .i64 59]) rfl _ rfl _ Tryd.underlying3 rfl rfl ?_)
      | (refine S.ldAll 31 _ rfl b2 rfl 0 (Cel.iv (iZ 59 ((fd h 0 3 : Nat) : Int) ((JO * 2 : Nat) : Int) 0 14 false false)) rfl _ Tryd.underlying31 rfl (szIV _) rfl ?_))
    | ((with_reducible refine wpl_isStore ?_); first
      | (refine S.store1 rfl 3 _ _ rfl b2 5 _ rfl rfl 0 (Cel.iv (iZ 59 0 0 0 14 false false)) rfl rfl (by simp [Cel.cells, IV.cellsL]) (Cel.iv (iZ 59 ((fd h 0 3 : Nat) : Int) 0 0 14 false false)) rfl (by kernel_rfl) ?_; clear S; intro w2 S; simp only [List.set_cons_zero, List.set_cons_succ] at S)
      | (refine S.store1 rfl 29 _ _ rfl b2 8 _ rfl rfl 0 (Cel.iv (iZ 59 ((fd h 0 3 : Nat) : Int) 0 0 14 false false)) rfl rfl (by simp [Cel.cells, IV.cellsL]) (Cel.iv (iZ 59 ((fd h 0 3 : Nat) : Int) ((JO * 2 : Nat) : Int) 0 14 false false)) rfl (by kernel_rfl) ?_; clear S; intro w2 S; simp only [List.set_cons_zero, List.set_cons_succ] at S)
      | (refine S.storeAll rfl 31 _ _ rfl b2 (Cel.iv (iZ 59 0 0 0 14 false false)) rfl rfl 0 _ rfl rfl (one_iv _) (szIV _) ?_; clear S; intro w2 S; simp only [List.set_cons_zero, List.set_cons_succ] at S)
      | (refine S.storeAll rfl 31 _ _ rfl b1 (Cel.iv (nNone 65 h).iv) rfl rfl 2 _ rfl rfl (one_iv _) (szIV _) ?_; clear S; intro w2 S; simp only [List.set_cons_zero, List.set_cons_succ] at S))
    | (go_at_call 30; refine (plain_c _ _).mono ?_; rintro e wf ⟨rfl, hbf⟩; replace S := S.below hbf; clear hbf)
    | (go_at_call 25; refine (rbad_c _ _).mono ?_; rintro e wf ⟨rfl, hbf⟩; replace S := S.below hbf; clear hbf)
    | ((with_reducible refine wpl_is ?_); refine S.sliceA rfl 23 2 _ rfl [.int .i64 58, .int .i64 59] 3 (by kernel_rfl) ?_; clear S; intro g w1 S))
  (try simp only [Exit.inBlock, Exit.then])
  refine bodyPost_ret (S.results rfl _ _ rfl 2 _ rfl _ Tryd.underlying31 rfl (szIV _)) rfl ⟨rfl, S.low⟩
set_option maxHeartbeats 4000000 in
set_option maxRecDepth 100000 in
theorem rm3_0_false (h : Nat) (hh : h < 65536) (q8_4 : fd h 8 4 = 3) (q11_1 : fd h 11 1 = 0) (w : World) : Calls Tryd.prog 29 #[.int .i64 h, .bool false] w fun e w' => Says w (rMisc h false) e w' := by
  have hN : rMisc h false = (NV.mk 58 false 14 0 (fd h 0 3) 0 ((fd h 3 5 + fd h 9 1 * 32) * 2) false 0 false false) := by
    unfold rMisc
    simp [nbeq, nblt, nble, pick2, extOp, revOp, *]
  unfold Says
  rw [hN]
  clear hN
  have k8_4 : bits .and .i64 ((h : Int) / 256) 15 = 3 := by have := i64_fd h 8 4 hh (by decide) ((h : Int) / 256) 15 (by first | rfl | simp) rfl; rw [this, q8_4]; rfl
  have k11_1 : bits .and .i64 ((h : Int) / 2048) 1 = 0 := by have := i64_fd h 11 1 hh (by decide) ((h : Int) / 2048) 1 (by first | rfl | simp) rfl; rw [this, q11_1]; rfl
  have k0_3 : bits .and .i64 ((h : Int)) 7 = ((fd h 0 3 : Nat) : Int) := i64_fd h 0 3 hh (by decide) _ _ (by first | rfl | simp) rfl
  have f0_3 : fd h 0 3 < 8 := fd_lt h 0 3
  have k3_3 : bits .and .i64 ((h : Int) / 8) 7 = ((fd h 3 3 : Nat) : Int) := i64_fd h 3 3 hh (by decide) _ _ (by first | rfl | simp) rfl
  have f3_3 : fd h 3 3 < 8 := fd_lt h 3 3
  have u3_5 : bits .and .u32 ((h : Int) / 8) 31 = ((fd h 3 5 : Nat) : Int) := u32_fd h 3 5 hh (by decide) _ _ (by first | rfl | simp) rfl
  have g3_5 : fd h 3 5 < 32 := fd_lt h 3 5
  have u9_1 : bits .and .u32 ((h : Int) / 512) 1 = ((fd h 9 1 : Nat) : Int) := u32_fd h 9 1 hh (by decide) _ _ (by first | rfl | simp) rfl
  have g9_1 : fd h 9 1 < 2 := fd_lt h 9 1
  obtain ⟨JO, hjo, jb, jo⟩ := cbj h
  (try rw [hjo])
  clear hjo
  go_enter Tryd.func29, Tryd.ntmps29
  have S := SH.start w
  go_wp2_with (first
    | ((with_reducible refine wpl_isDst 4 ?_); refine SH.alloc (L := []) S rfl 31 rfl (Cel.iv IV.zero) zeroIV ?_; clear S; intro b1 w1 S)
    | ((with_reducible refine wpl_isDst 8 ?_); refine S.alloc rfl 31 rfl (Cel.iv IV.zero) zeroIV ?_; clear S; intro b2 w1 S)
    | ((with_reducible refine wpl_isLoad ?_); first
      | (refine S.ld 3 _ rfl g 0 rfl 0 (Cel.any [.int .i64 58, .int .i64 59]) rfl _ rfl _ Tryd.underlying3 rfl rfl ?_)
      | (refine S.ldAll 31 _ rfl b2 rfl 0 (Cel.iv (iZ 58 ((fd h 0 3 : Nat) : Int) ((JO * 2 : Nat) : Int) 0 14 false false)) rfl _ Tryd.underlying31 rfl (szIV _) rfl ?_))
    | ((with_reducible refine wpl_isStore ?_); first
      | (refine S.store1 rfl 3 _ _ rfl b2 5 _ rfl rfl 0 (Cel.iv (iZ 58 0 0 0 14 false false)) rfl rfl (by simp [Cel.cells, IV.cellsL]) (Cel.iv (iZ 58 ((fd h 0 3 : Nat) : Int) 0 0 14 false false)) rfl (by kernel_rfl) ?_; clear S; intro w2 S; simp only [List.set_cons_zero, List.set_cons_succ] at S)
      | (refine S.store1 rfl 29 _ _ rfl b2 8 _ rfl rfl 0 (Cel.iv (iZ 58 ((fd h 0 3 : Nat) : Int) 0 0 14 false false)) rfl rfl (by simp [Cel.cells, IV.cellsL]) (Cel.iv (iZ 58 ((fd h 0 3 : Nat) : Int) ((JO * 2 : Nat) : Int) 0 14 false false)) rfl (by kernel_rfl) ?_; clear S; intro w2 S; simp only [List.set_cons_zero, List.set_cons_succ] at S)
      | (refine S.storeAll rfl 31 _ _ rfl b2 (Cel.iv (iZ 58 0 0 0 14 false false)) rfl rfl 0 _ rfl rfl (one_iv _) (szIV _) ?_; clear S; intro w2 S; simp only [List.set_cons_zero, List.set_cons_succ] at S)
      | (refine S.storeAll rfl 31 _ _ rfl b1 (Cel.iv (NV.mk 58 false 14 0 (fd h 0 3) 0 (JO * 2) false 0 false false).iv) rfl rfl 2 _ rfl rfl (one_iv _) (szIV _) ?_; clear S; intro w2 S; simp only [List.set_cons_zero, List.set_cons_succ] at S))
    | (go_at_call 30; refine (plain_c _ _).mono ?_; rintro e wf ⟨rfl, hbf⟩; replace S := S.below hbf; clear hbf)
    | ((with_reducible refine wpl_is ?_); refine S.sliceA rfl 23 2 _ rfl [.int .i64 58, .int .i64 59] 3 (by kernel_rfl) ?_; clear S; intro g w1 S))
  (try simp only [Exit.inBlock, Exit.then])
  refine bodyPost_ret (S.results rfl _ _ rfl 2 _ rfl _ Tryd.underlying31 rfl (szIV _)) rfl ⟨rfl, S.low⟩
set_option maxHeartbeats 4000000 in
set_option maxRecDepth 100000 in
theorem rm3_0_true (h : Nat) (hh : h < 65536) (q8_4 : fd h 8 4 = 3) (q11_1 : fd h 11 1 = 0) (w : World) : Calls Tryd.prog 29 #[.int .i64 h, .bool true] w fun e w' => Says w (rMisc h true) e w' := by
  have hN : rMisc h true = (nNone 65 h) := by
    unfold rMisc
    simp [nbeq, nblt, nble, pick2, extOp, revOp, *]
  unfold Says
  rw [hN]
  clear hN
  have k8_4 : bits .and .i64 ((h : Int) / 256) 15 = 3 := by have := i64_fd h 8 4 hh (by decide) ((h : Int) / 256) 15 (by first | rfl | simp) rfl; rw [this, q8_4]; rfl
  have k11_1 : bits .and .i64 ((h : Int) / 2048) 1 = 0 := by have := i64_fd h 11 1 hh (by decide) ((h : Int) / 2048) 1 (by first | rfl | simp) rfl; rw [this, q11_1]; rfl
  have k0_3 : bits .and .i64 ((h : Int)) 7 = ((fd h 0 3 : Nat) : Int) := i64_fd h 0 3 hh (by decide) _ _ (by first | rfl | simp) rfl
  have f0_3 : fd h 0 3 < 8 := fd_lt h 0 3
  have k3_3 : bits .and .i64 ((h : Int) / 8) 7 = ((fd h 3 3 : Nat) : Int) := i64_fd h 3 3 hh (by decide) _ _ (by first | rfl | simp) rfl
  have f3_3 : fd h 3 3 < 8 := fd_lt h 3 3
  have u3_5 : bits .and .u32 ((h : Int) / 8) 31 = ((fd h 3 5 : Nat) : Int) := u32_fd h 3 5 hh (by decide) _ _ (by first | rfl | simp) rfl
  have g3_5 : fd h 3 5 < 32 := fd_lt h 3 5
  have u9_1 : bits .and .u32 ((h : Int) / 512) 1 = ((fd h 9 1 : Nat) : Int) := u32_fd h 9 1 hh (by decide) _ _ (by first | rfl | simp) rfl
  have g9_1 : fd h 9 1 < 2 := fd_lt h 9 1
  obtain ⟨JO, hjo, jb, jo⟩ := cbj h
  (try rw [hjo])
  clear hjo
  go_enter Tryd.func29, Tryd.ntmps29
  have S := SH.start w
  go_wp2_with (first
    | ((with_reducible refine wpl_isDst 4 ?_); refine SH.alloc (L := []) S rfl 31 rfl (Cel.iv IV.zero) zeroIV ?_; clear S; intro b1 w1 S)
    | ((with_reducible refine wpl_isDst 8 ?_); refine S.alloc rfl 31 rfl (Cel.iv IV.zero) zeroIV ?_; clear S; intro b2 w1 S)
    | ((with_reducible refine wpl_isLoad ?_); first
      | (refine S.ld 3 _ rfl g 0 rfl 0 (Cel.any [.int .i64 58, .int .i64 59]) rfl _ rfl _ Tryd.underlying3 rfl rfl ?_)
      | (refine S.ldAll 31 _ rfl b2 rfl 0 (Cel.iv (iZ 58 ((fd h 0 3 : Nat) : Int) ((JO * 2 : Nat) : Int) 0 14 false false)) rfl _ Tryd.underlying31 rfl (szIV _) rfl ?_))
    | ((with_reducible refine wpl_isStore ?_); first
      | (refine S.store1 rfl 3 _ _ rfl b2 5 _ rfl rfl 0 (Cel.iv (iZ 58 0 0 0 14 false false)) rfl rfl (by simp [Cel.cells, IV.cellsL]) (Cel.iv (iZ 58 ((fd h 0 3 : Nat) : Int) 0 0 14 false false)) rfl (by kernel_rfl) ?_; clear S; intro w2 S; simp only [List.set_cons_zero, List.set_cons_succ] at S)
      | (refine S.store1 rfl 29 _ _ rfl b2 8 _ rfl rfl 0 (Cel.iv (iZ 58 ((fd h 0 3 : Nat) : Int) 0 0 14 false false)) rfl rfl (by simp [Cel.cells, IV.cellsL]) (Cel.iv (iZ 58 ((fd h 0 3 : Nat) : Int) ((JO * 2 : Nat) : Int) 0 14 false false)) rfl (by kernel_rfl) ?_; clear S; intro w2 S; simp only [List.set_cons_zero, List.set_cons_succ] at S)
      | (refine S.storeAll rfl 31 _ _ rfl b2 (Cel.iv (iZ 58 0 0 0 14 false false)) rfl rfl 0 _ rfl rfl (one_iv _) (szIV _) ?_; clear S; intro w2 S; simp only [List.set_cons_zero, List.set_cons_succ] at S)
      | (refine S.storeAll rfl 31 _ _ rfl b1 (Cel.iv (nNone 65 h).iv) rfl rfl 2 _ rfl rfl (one_iv _) (szIV _) ?_; clear S; intro w2 S; simp only [List.set_cons_zero, List.set_cons_succ] at S))
    | (go_at_call 30; refine (plain_c _ _).mono ?_; rintro e wf ⟨rfl, hbf⟩; replace S := S.below hbf; clear hbf)
    | (go_at_call 25; refine (rbad_c _ _).mono ?_; rintro e wf ⟨rfl, hbf⟩; replace S := S.below hbf; clear hbf)
    | ((with_reducible refine wpl_is ?_); refine S.sliceA rfl 23 2 _ rfl [.int .i64 58, .int .i64 59] 3 (by kernel_rfl) ?_; clear S; intro g w1 S))
  (try simp only [Exit.inBlock, Exit.then])
  refine bodyPost_ret (S.results rfl _ _ rfl 2 _ rfl _ Tryd.underlying31 rfl (szIV _)) rfl ⟨rfl, S.low⟩
set_option maxHeartbeats 4000000 in
set_option maxRecDepth 100000 in
theorem rm3_1_false (h : Nat) (hh : h < 65536) (q8_4 : fd h 8 4 = 3) (q11_1 : fd h 11 1 = 1) (w : World) : Calls Tryd.prog 29 #[.int .i64 h, .bool false] w fun e w' => Says w (rMisc h false) e w' := by
  have hN : rMisc h false = (NV.mk 59 false 14 0 (fd h 0 3) 0 ((fd h 3 5 + fd h 9 1 * 32) * 2) false 0 false false) := by
    unfold rMisc
    simp [nbeq, nblt, nble, pick2, extOp, revOp, *]
  unfold Says
  rw [hN]
  clear hN
  have k8_4 : bits .and .i64 ((h : Int) / 256) 15 = 3 := by have := i64_fd h 8 4 hh (by decide) ((h : Int) / 256) 15 (by first | rfl | simp) rfl; rw [this, q8_4]; rfl
  have k11_1 : bits .and .i64 ((h : Int) / 2048) 1 = 1 := by have := i64_fd h 11 1 hh (by decide) ((h : Int) / 2048) 1 (by first | rfl | simp) rfl; rw [this, q11_1]; rfl
  have k0_3 : bits .and .i64 ((h : Int)) 7 = ((fd h 0 3 : Nat) : Int) := i64_fd h 0 3 hh (by decide) _ _ (by first | rfl | simp) rfl
  have f0_3 : fd h 0 3 < 8 := fd_lt h 0 3
  have k3_3 : bits .and .i64 ((h : Int) / 8) 7 = ((fd h 3 3 : Nat) : Int) := i64_fd h 3 3 hh (by decide) _ _ (by first | rfl | simp) rfl
  have f3_3 : fd h 3 3 < 8 := fd_lt h 3 3
  have u3_5 : bits .and .u32 ((h : Int) / 8) 31 = ((fd h 3 5 : Nat) : Int) := u32_fd h 3 5 hh (by decide) _ _ (by first | rfl | simp) rfl
  have g3_5 : fd h 3 5 < 32 := fd_lt h 3 5
  have u9_1 : bits .and .u32 ((h : Int) / 512) 1 = ((fd h 9 1 : Nat) : Int) := u32_fd h 9 1 hh (by decide) _ _ (by first | rfl | simp) rfl
  have g9_1 : fd h 9 1 < 2 := fd_lt h 9 1
  obtain ⟨JO, hjo, jb, jo⟩ := cbj h
  (try rw [hjo])
  clear hjo
  go_enter Tryd.func29, Tryd.ntmps29
  have S := SH.start w
  go_wp2_with (first
    | ((with_reducible refine wpl_isDst 4 ?_); refine SH.alloc (L := []) S rfl 31 rfl (Cel.iv IV.zero) zeroIV ?_; clear S; intro b1 w1 S)
    | ((with_reducible refine wpl_isDst 8 ?_); refine S.alloc rfl 31 rfl (Cel.iv IV.zero) zeroIV ?_; clear S; intro b2 w1 S)
    | ((with_reducible refine wpl_isLoad ?_); first
      | (refine S.ld 3 _ rfl g 1 rfl 0 (Cel.any [.int .i64 58, .int .i64 59]) rfl _ rfl _ Tryd.underlying3 rfl rfl ?_)
      | (refine S.ldAll 31 _ rfl b2 rfl 0 (Cel.iv (iZ 59 ((fd h 0 3 : Nat) : Int) ((JO * 2 : Nat) : Int) 0 14 false false)) rfl _ Tryd.underlying31 rfl (szIV _) rfl ?_))
    | ((with_reducible refine wpl_isStore ?_); first
      | (refine S.store1 rfl 3 _ _ rfl b2 5 _ rfl rfl 0 (Cel.iv (iZ 59 0 0 0 14 false false)) rfl rfl (by simp [Cel.cells, IV.cellsL]) (Cel.iv (iZ 59 ((fd h 0 3 : Nat) : Int) 0 0 14 false false)) rfl (by kernel_rfl) ?_; clear S; intro w2 S; simp only [List.set_cons_zero, List.set_cons_succ] at S)
      | (refine S.store1 rfl 29 _ _ rfl b2 8 _ rfl rfl 0 (Cel.iv (iZ 59 ((fd h 0 3 : Nat) : Int) 0 0 14 false false)) rfl rfl (by simp [Cel.cells, IV.cellsL]) (Cel.iv (iZ 59 ((fd h 0 3 : Nat) : Int) ((JO * 2 : Nat) : Int) 0 14 false false)) rfl (by kernel_rfl) ?_; clear S; intro w2 S; simp only [List.set_cons_zero, List.set_cons_succ] at S)
      | (refine S.storeAll rfl 31 _ _ rfl b2 (Cel.iv (iZ 59 0 0 0 14 false false)) rfl rfl 0 _ rfl rfl (one_iv _) (szIV _) ?_; clear S; intro w2 S; simp only [List.set_cons_zero, List.set_cons_succ] at S)
      | (refine S.storeAll rfl 31 _ _ rfl b1 (Cel.iv (NV.mk 59 false 14 0 (fd h 0 3) 0 (JO * 2) false 0 false false).iv) rfl rfl 2 _ rfl rfl (one_iv _) (szIV _) ?_; clear S; intro w2 S; simp only [List.set_cons_zero, List.set_cons_succ] at S))
    | (go_at_call 30; refine (plain_c _ _).mono ?_; rintro e wf ⟨rfl, hbf⟩; replace S := S.below hbf; clear hbf)
    | ((with_reducible refine wpl_is ?_); refine S.sliceA rfl 23 2 _ rfl [.int .i64 58, .int .i64 59] 3 (by kernel_rfl) ?_; clear S; intro g w1 S))
  (try simp only [Exit.inBlock, Exit.then])
  refine bodyPost_ret (S.results rfl _ _ rfl 2 _ rfl _ Tryd.underlying31 rfl (szIV _)) rfl ⟨rfl, S.low⟩
set_option maxHeartbeats 4000000 in
set_option maxRecDepth 100000 in
theorem rm3_1_true (h : Nat) (hh : h < 65536) (q8_4 : fd h 8 4 = 3) (q11_1 : fd h 11 1 = 1) (w : World) : Calls Tryd.prog 29 #[.int .i64 h, .bool true] w fun e w' => Says w (rMisc h true) e w' := by
  have hN : rMisc h true = (nNone 65 h) := by
    unfold rMisc
    simp [nbeq, nblt, nble, pick2, extOp, revOp, *]
  unfold Says
  rw [hN]
  clear hN
  have k8_4 : bits .and .i64 ((h : Int) / 256) 15 = 3 := by have := i64_fd h 8 4 hh (by decide) ((h : Int) / 256) 15 (by first | rfl | simp) rfl; rw [this, q8_4]; rfl
  have k11_1 : bits .and .i64 ((h : Int) / 2048) 1 = 1 := by have := i64_fd h 11 1 hh (by decide) ((h : Int) / 2048) 1 (by first | rfl | simp) rfl; rw [this, q11_1]; rfl
  have k0_3 : bits .and .i64 ((h : Int)) 7 = ((fd h 0 3 : Nat) : Int) := i64_fd h 0 3 hh (by decide) _ _ (by first | rfl | simp) rfl
  have f0_3 : fd h 0 3 < 8 := fd_lt h 0 3
  have k3_3 : bits .and .i64 ((h : Int) / 8) 7 = ((fd h 3 3 : Nat) : Int) := i64_fd h 3 3 hh (by decide) _ _ (by first | rfl | simp) rfl
  have f3_3 : fd h 3 3 < 8 := fd_lt h 3 3
  have u3_5 : bits .and .u32 ((h : Int) / 8) 31 = ((fd h 3 5 : Nat) : Int) := u32_fd h 3 5 hh (by decide) _ _ (by first | rfl | simp) rfl
  have g3_5 : fd h 3 5 < 32 := fd_lt h 3 5
  have u9_1 : bits .and .u32 ((h : Int) / 512) 1 = ((fd h 9 1 : Nat) : Int) := u32_fd h 9 1 hh (by decide) _ _ (by first | rfl | simp) rfl
  have g9_1 : fd h 9 1 < 2 := fd_lt h 9 1
  obtain ⟨JO, hjo, jb, jo⟩ := cbj h
  (try rw [hjo])
  clear hjo
  go_enter Tryd.func29, Tryd.ntmps29
  have S := SH.start w
  go_wp2_with (first
    | ((with_reducible refine wpl_isDst 4 ?_); refine SH.alloc (L := []) S rfl 31 rfl (Cel.iv IV.zero) zeroIV ?_; clear S; intro b1 w1 S)
    | ((with_reducible refine wpl_isDst 8 ?_); refine S.alloc rfl 31 rfl (Cel.iv IV.zero) zeroIV ?_; clear S; intro b2 w1 S)
    | ((with_reducible refine wpl_isLoad ?_); first
      | (refine S.ld 3 _ rfl g 1 rfl 0 (Cel.any [.int .i64 58, .int .i64 59]) rfl _ rfl _ Tryd.underlying3 rfl rfl ?_)
      | (refine S.ldAll 31 _ rfl b2 rfl 0 (Cel.iv (iZ 59 ((fd h 0 3 : Nat) : Int) ((JO * 2 : Nat) : Int) 0 14 false false)) rfl _ Tryd.underlying31 rfl (szIV _) rfl ?_))
    | ((with_reducible refine wpl_isStore ?_); first
      | (refine S.store1 rfl 3 _ _ rfl b2 5 _ rfl rfl 0 (Cel.iv (iZ 59 0 0 0 14 false false)) rfl rfl (by simp [Cel.cells, IV.cellsL]) (Cel.iv (iZ 59 ((fd h 0 3 : Nat) : Int) 0 0 14 false false)) rfl (by kernel_rfl) ?_; clear S; intro w2 S; simp only [List.set_cons_zero, List.set_cons_succ] at S)
      | (refine S.store1 rfl 29 _ _ rfl b2 8 _ rfl rfl 0 (Cel.iv (iZ 59 ((fd h 0 3 : Nat) : Int) 0 0 14 false false)) rfl rfl (by simp [Cel.cells, IV.cellsL]) (Cel.iv (iZ 59 ((fd h 0 3 : Nat) : Int) ((JO * 2 : Nat) : Int) 0 14 false false)) rfl (by kernel_rfl) ?_; clear S; intro w2 S; simp only [List.set_cons_zero, List.set_cons_succ] at S)
      | (refine S.storeAll rfl 31 _ _ rfl b2 (Cel.iv (iZ 59 0 0 0 14 false false)) rfl rfl 0 _ rfl rfl (one_iv _) (szIV _) ?_; clear S; intro w2 S; simp only [List.set_cons_zero, List.set_cons_succ] at S)
      | (refine S.storeAll rfl 31 _ _ rfl b1 (Cel.iv (nNone 65 h).iv) rfl rfl 2 _ rfl rfl (one_iv _) (szIV _) ?_; clear S; intro w2 S; simp only [List.set_cons_zero, List.set_cons_succ] at S))
    | (go_at_call 30; refine (plain_c _ _).mono ?_; rintro e wf ⟨rfl, hbf⟩; replace S := S.below hbf; clear hbf)
    | (go_at_call 25; refine (rbad_c _ _).mono ?_; rintro e wf ⟨rfl, hbf⟩; replace S := S.below hbf; clear hbf)
    | ((with_reducible refine wpl_is ?_); refine S.sliceA rfl 23 2 _ rfl [.int .i64 58, .int .i64 59] 3 (by kernel_rfl) ?_; clear S; intro g w1 S))
  (try simp only [Exit.inBlock, Exit.then])
  refine bodyPost_ret (S.results rfl _ _ rfl 2 _ rfl _ Tryd.underlying31 rfl (szIV _)) rfl ⟨rfl, S.low⟩
set_option maxHeartbeats 4000000 in
set_option maxRecDepth 100000 in
theorem rm9_0_false (h : Nat) (hh : h < 65536) (q8_4 : fd h 8 4 = 9) (q11_1 : fd h 11 1 = 0) (w : World) : Calls Tryd.prog 29 #[.int .i64 h, .bool false] w fun e w' => Says w (rMisc h false) e w' := by
  have hN : rMisc h false = (NV.mk 58 false 14 0 (fd h 0 3) 0 ((fd h 3 5 + fd h 9 1 * 32) * 2) false 0 false false) := by
    unfold rMisc
    simp [nbeq, nblt, nble, pick2, extOp, revOp, *]
  unfold Says
  rw [hN]
  clear hN
  have k8_4 : bits .and .i64 ((h : Int) / 256) 15 = 9 := by have := i64_fd h 8 4 hh (by decide) ((h : Int) / 256) 15 (by first | rfl | simp) rfl; rw [this, q8_4]; rfl
  have k11_1 : bits .and .i64 ((h : Int) / 2048) 1 = 0 := by have := i64_fd h 11 1 hh (by decide) ((h : Int) / 2048) 1 (by first | rfl | simp) rfl; rw [this, q11_1]; rfl
  have k0_3 : bits .and .i64 ((h : Int)) 7 = ((fd h 0 3 : Nat) : Int) := i64_fd h 0 3 hh (by decide) _ _ (by first | rfl | simp) rfl
  have f0_3 : fd h 0 3 < 8 := fd_lt h 0 3
  have k3_3 : bits .and .i64 ((h : Int) / 8) 7 = ((fd h 3 3 : Nat) : Int) := i64_fd h 3 3 hh (by decide) _ _ (by first | rfl | simp) rfl
  have f3_3 : fd h 3 3 < 8 := fd_lt h 3 3
  have u3_5 : bits .and .u32 ((h : Int) / 8) 31 = ((fd h 3 5 : Nat) : Int) := u32_fd h 3 5 hh (by decide) _ _ (by first | rfl | simp) rfl
  have g3_5 : fd h 3 5 < 32 := fd_lt h 3 5
  have u9_1 : bits .and .u32 ((h : Int) / 512) 1 = ((fd h 9 1 : Nat) : Int) := u32_fd h 9 1 hh (by decide) _ _ (by first | rfl | simp) rfl
  have g9_1 : fd h 9 1 < 2 := fd_lt h 9 1
  obtain ⟨JO, hjo, jb, jo⟩ := cbj h
  (try rw [hjo])
  clear hjo
  go_enter Tryd.func29, Tryd.ntmps29
  have S := SH.start w
  go_wp2_with (first
    | ((with_reducible refine wpl_isDst 4 ?_); refine SH.alloc (L := []) S rfl 31 rfl (Cel.iv IV.zero) zeroIV ?_; clear S; intro b1 w1 S)
    | ((with_reducible refine wpl_isDst 8 ?_); refine S.alloc rfl 31 rfl (Cel.iv IV.zero) zeroIV ?_; clear S; intro b2 w1 S)
    | ((with_reducible refine wpl_isLoad ?_); first
      | (refine S.ld 3 _ rfl g 0 rfl 0 (Cel.any [.int .i64 58, .int .i64 59]) rfl _ rfl _ Tryd.underlying3 rfl rfl ?_)
      | (refine S.ldAll 31 _ rfl b2 rfl 0 (Cel.iv (iZ 58 ((fd h 0 3 : Nat) : Int) ((JO * 2 : Nat) : Int) 0 14 false false)) rfl _ Tryd.underlying31 rfl (szIV _) rfl ?_))
    | ((with_reducible refine wpl_isStore ?_); first
      | (refine S.store1 rfl 3 _ _ rfl b2 5 _ rfl rfl 0 (Cel.iv (iZ 58 0 0 0 14 false false)) rfl rfl (by simp [Cel.cells, IV.cellsL]) (Cel.iv (iZ 58 ((fd h 0 3 : Nat) : Int) 0 0 14 false false)) rfl (by kernel_rfl) ?_; clear S; intro w2 S; simp only [List.set_cons_zero, List.set_cons_succ] at S)
      | (refine S.store1 rfl 29 _ _ rfl b2 8 _ rfl rfl 0 (Cel.iv (iZ 58 ((fd h 0 3 : Nat) : Int) 0 0 14 false false)) rfl rfl (by simp [Cel.cells, IV.cellsL]) (Cel.iv (iZ 58 ((fd h 0 3 : Nat) : Int) ((JO * 2 : Nat) : Int) 0 14 false false)) rfl (by kernel_rfl) ?_; clear S; intro w2 S; simp only [List.set_cons_zero, List.set_cons_succ] at S)
      | (refine S.storeAll rfl 31 _ _ rfl b2 (Cel.iv (iZ 58 0 0 0 14 false false)) rfl rfl 0 _ rfl rfl (one_iv _) (szIV _) ?_; clear S; intro w2 S; simp only [List.set_cons_zero, List.set_cons_succ] at S)
      | (refine S.storeAll rfl 31 _ _ rfl b1 (Cel.iv (NV.mk 58 false 14 0 (fd h 0 3) 0 (JO * 2) false 0 false false).iv) rfl rfl 2 _ rfl rfl (one_iv _) (szIV _) ?_; clear S; intro w2 S; simp only [List.set_cons_zero, List.set_cons_succ] at S))
    | (go_at_call 30; refine (plain_c _ _).mono ?_; rintro e wf ⟨rfl, hbf⟩; replace S := S.below hbf; clear hbf)
    | ((with_reducible refine wpl_is ?_); refine S.sliceA rfl 23 2 _ rfl [.int .i64 58, .int .i64 59] 3 (by kernel_rfl) ?_; clear S; intro g w1 S))
  (try simp only [Exit.inBlock, Exit.then])
  refine bodyPost_ret (S.results rfl _ _ rfl 2 _ rfl _ Tryd.underlying31 rfl (szIV _)) rfl ⟨rfl, S.low⟩
set_option maxHeartbeats 4000000 in
set_option maxRecDepth 100000 in
theorem rm9_0_true (h : Nat) (hh : h < 65536) (q8_4 : fd h 8 4 = 9) (q11_1 : fd h 11 1 = 0) (w : World) : Calls Tryd.prog 29 #[.int .i64 h, .bool true] w fun e w' => Says w (rMisc h true) e w' := by
  have hN : rMisc h true = (nNone 65 h) := by
    unfold rMisc
    simp [nbeq, nblt, nble, pick2, extOp, revOp, *]
  unfold Says
  rw [hN]
  clear hN
  have k8_4 : bits .and .i64 ((h : Int) / 256) 15 = 9 := by have := i64_fd h 8 4 hh (by decide) ((h : Int) / 256) 15 (by first | rfl | simp) rfl; rw [this, q8_4]; rfl
  have k11_1 : bits .and .i64 ((h : Int) / 2048) 1 = 0 := by have := i64_fd h 11 1 hh (by decide) ((h : Int) / 2048) 1 (by first | rfl | simp) rfl; rw [this, q11_1]; rfl
  have k0_3 : bits .and .i64 ((h : Int)) 7 = ((fd h 0 3 : Nat) : Int) := i64_fd h 0 3 hh (by decide) _ _ (by first | rfl | simp) rfl
  have f0_3 : fd h 0 3 < 8 := fd_lt h 0 3
  have k3_3 : bits .and .i64 ((h : Int) / 8) 7 = ((fd h 3 3 : Nat) : Int) := i64_fd h 3 3 hh (by decide) _ _ (by first | rfl | simp) rfl
  have f3_3 : fd h 3 3 < 8 := fd_lt h 3 3
  have u3_5 : bits .and .u32 ((h : Int) / 8) 31 = ((fd h 3 5 : Nat) : Int) := u32_fd h 3 5 hh (by decide) _ _ (by first | rfl | simp) rfl
  have g3_5 : fd h 3 5 < 32 := fd_lt h 3 5
  have u9_1 : bits .and .u32 ((h : Int) / 512) 1 = ((fd h 9 1 : Nat) : Int) := u32_fd h 9 1 hh (by decide) _ _ (by first | rfl | simp) rfl
  have g9_1 : fd h 9 1 < 2 := fd_lt h 9 1
  obtain ⟨JO, hjo, jb, jo⟩ := cbj h
  (try rw [hjo])
  clear hjo
  go_enter Tryd.func29, Tryd.ntmps29
  have S := SH.start w
  go_wp2_with (first
    | ((with_reducible refine wpl_isDst 4 ?_); refine SH.alloc (L := []) S rfl 31 rfl (Cel.iv IV.zero) zeroIV ?_; clear S; intro b1 w1 S)
    | ((with_reducible refine wpl_isDst 8 ?_); refine S.alloc rfl 31 rfl (Cel.iv IV.zero) zeroIV ?_; clear S; intro b2 w1 S)
    | ((with_reducible refine wpl_isLoad ?_); first
      | (refine S.ld 3 _ rfl g 0 rfl 0 (Cel.any [.int .i64 58, .int .i64 59]) rfl _ rfl _ Tryd.underlying3 rfl rfl ?_)
      | (refine S.ldAll 31 _ rfl b2 rfl 0 (Cel.iv (iZ 58 ((fd h 0 3 : Nat) : Int) ((JO * 2 : Nat) : Int) 0 14 false false)) rfl _ Tryd.underlying31 rfl (szIV _) rfl ?_))
    | ((with_reducible refine wpl_isStore ?_); first
      | (refine S.store1 rfl 3 _ _ rfl b2 5 _ rfl rfl 0 (Cel.iv (iZ 58 0 0 0 14 false false)) rfl rfl (by simp [Cel.cells, IV.cellsL]) (Cel.iv (iZ 58 ((fd h 0 3 : Nat) : Int) 0 0 14 false false)) rfl (by kernel_rfl) ?_; clear S; intro w2 S; simp only [List.set_cons_zero, List.set_cons_succ] at S)
      | (refine S.store1 rfl 29 _ _ rfl b2 8 _ rfl rfl 0 (Cel.iv (iZ 58 ((fd h 0 3 : Nat) : Int) 0 0 14 false false)) rfl rfl (by simp [Cel.cells, IV.cellsL]) (Cel.iv (iZ 58 ((fd h 0 3 : Nat) : Int) ((JO * 2 : Nat) : Int) 0 14 false false)) rfl (by kernel_rfl) ?_; clear S; intro w2 S; simp only [List.set_cons_zero, List.set_cons_succ] at S)
      | (refine S.storeAll rfl 31 _ _ rfl b2 (Cel.iv (iZ 58 0 0 0 14 false false)) rfl rfl 0 _ rfl rfl (one_iv _) (szIV _) ?_; clear S; intro w2 S; simp only [List.set_cons_zero, List.set_cons_succ] at S)
      | (refine S.storeAll rfl 31 _ _ rfl b1 (Cel.iv (nNone 65 h).iv) rfl rfl 2 _ rfl rfl (one_iv _) (szIV _) ?_; clear S; intro w2 S; simp only [List.set_cons_zero, List.set_cons_succ] at S))
    | (go_at_call 30; refine (plain_c _ _).mono ?_; rintro e wf ⟨rfl, hbf⟩; replace S := S.below hbf; clear hbf)
    | (go_at_call 25; refine (rbad_c _ _).mono ?_; rintro e wf ⟨rfl, hbf⟩; replace S := S.below hbf; clear hbf)
    | ((with_reducible refine wpl_is ?_); refine S.sliceA rfl 23 2 _ rfl [.int .i64 58, .int .i64 59] 3 (by kernel_rfl) ?_; clear S; intro g w1 S))
  (try simp only [Exit.inBlock, Exit.then])
  refine bodyPost_ret (S.results rfl _ _ rfl 2 _ rfl _ Tryd.underlying31 rfl (szIV _)) rfl ⟨rfl, S.low⟩
set_option maxHeartbeats 4000000 in
set_option maxRecDepth 100000 in
theorem rm9_1_false (h : Nat) (hh : h < 65536) (q8_4 : fd h 8 4 = 9) (q11_1 : fd h 11 1 = 1) (w : World) : Calls Tryd.prog 29 #[.int .i64 h, .bool false] w fun e w' => Says w (rMisc h false) e w' := by
  have hN : rMisc h false = (NV.mk 59 false 14 0 (fd h 0 3) 0 ((fd h 3 5 + fd h 9 1 * 32) * 2) false 0 false false) := by
    unfold rMisc
    simp [nbeq, nblt, nble, pick2, extOp, revOp, *]
  unfold Says
  rw [hN]
  clear hN
  have k8_4 : bits .and .i64 ((h : Int) / 256) 15 = 9 := by have := i64_fd h 8 4 hh (by decide) ((h : Int) / 256) 15 (by first | rfl | simp) rfl; rw [this, q8_4]; rfl
  have k11_1 : bits .and .i64 ((h : Int) / 2048) 1 = 1 := by have := i64_fd h 11 1 hh (by decide) ((h : Int) / 2048) 1 (by first | rfl | simp) rfl; rw [this, q11_1]; rfl
  have k0_3 : bits .and .i64 ((h : Int)) 7 = ((fd h 0 3 : Nat) : Int) := i64_fd h 0 3 hh (by decide) _ _ (by first | rfl | simp) rfl
  have f0_3 : fd h 0 3 < 8 := fd_lt h 0 3
  have k3_3 : bits .and .i64 ((h : Int) / 8) 7 = ((fd h 3 3 : Nat) : Int) := i64_fd h 3 3 hh (by decide) _ _ (by first | rfl | simp) rfl
  have f3_3 : fd h 3 3 < 8 := fd_lt h 3 3
  have u3_5 : bits .and .u32 ((h : Int) / 8) 31 = ((fd h 3 5 : Nat) : Int) := u32_fd h 3 5 hh (by decide) _ _ (by first | rfl | simp) rfl
  have g3_5 : fd h 3 5 < 32 := fd_lt h 3 5
  have u9_1 : bits .and .u32 ((h : Int) / 512) 1 = ((fd h 9 1 : Nat) : Int) := u32_fd h 9 1 hh (by decide) _ _ (by first | rfl | simp) rfl
  have g9_1 : fd h 9 1 < 2 := fd_lt h 9 1
  obtain ⟨JO, hjo, jb, jo⟩ := cbj h
  (try rw [hjo])
  clear hjo
  go_enter Tryd.func29, Tryd.ntmps29
  have S := SH.start w
  go_wp2_with (first
    | ((with_reducible refine wpl_isDst 4 ?_); refine SH.alloc (L := []) S rfl 31 rfl (Cel.iv IV.zero) zeroIV ?_; clear S; intro b1 w1 S)
    | ((with_reducible refine wpl_isDst 8 ?_); refine S.alloc rfl 31 rfl (Cel.iv IV.zero) zeroIV ?_; clear S; intro b2 w1 S)
    | ((with_reducible refine wpl_isLoad ?_); first
      | (refine S.ld 3 _ rfl g 1 rfl 0 (Cel.any [.int .i64 58, .int .i64 59]) rfl _ rfl _ Tryd.underlying3 rfl rfl ?_)
      | (refine S.ldAll 31 _ rfl b2 rfl 0 (Cel.iv (iZ 59 ((fd h 0 3 : Nat) : Int) ((JO * 2 : Nat) : Int) 0 14 false false)) rfl _ Tryd.underlying31 rfl (szIV _) rfl ?_))
    | ((with_reducible refine wpl_isStore ?_); first
      | (refine S.store1 rfl 3 _ _ rfl b2 5 _ rfl rfl 0 (Cel.iv (iZ 59 0 0 0 14 false false)) rfl rfl (by simp [Cel.cells, IV.cellsL]) (Cel.iv (iZ 59 ((fd h 0 3 : Nat) : Int) 0 0 14 false false)) rfl (by kernel_rfl) ?_; clear S; intro w2 S; simp only [List.set_cons_zero, List.set_cons_succ] at S)
      | (refine S.store1 rfl 29 _ _ rfl b2 8 _ rfl rfl 0 (Cel.iv (iZ 59 ((fd h 0 3 : Nat) : Int) 0 0 14 false false)) rfl rfl (by simp [Cel.cells, IV.cellsL]) (Cel.iv (iZ 59 ((fd h 0 3 : Nat) : Int) ((JO * 2 : Nat) : Int) 0 14 false false)) rfl (by kernel_rfl) ?_; clear S; intro w2 S; simp only [List.set_cons_zero, List.set_cons_succ] at S)
      | (refine S.storeAll rfl 31 _ _ rfl b2 (Cel.iv (iZ 59 0 0 0 14 false false)) rfl rfl 0 _ rfl rfl (one_iv _) (szIV _) ?_; clear S; intro w2 S; simp only [List.set_cons_zero, List.set_cons_succ] at S)
      | (refine S.storeAll rfl 31 _ _ rfl b1 (Cel.iv (NV.mk 59 false 14 0 (fd h 0 3) 0 (JO * 2) false 0 false false).iv) rfl rfl 2 _ rfl rfl (one_iv _) (szIV _) ?_; clear S; intro w2 S; simp only [List.set_cons_zero, List.set_cons_succ] at S))
    | (go_at_call 30; refine (plain_c _ _).mono ?_; rintro e wf ⟨rfl, hbf⟩; replace S := S.below hbf; clear hbf)
    | ((with_reducible refine wpl_is ?_); refine S.sliceA rfl 23 2 _ rfl [.int .i64 58, .int .i64 59] 3 (by kernel_rfl) ?_; clear S; intro g w1 S))
  (try simp only [Exit.inBlock, Exit.then])
  refine bodyPost_ret (S.results rfl _ _ rfl 2 _ rfl _ Tryd.underlying31 rfl (szIV _)) rfl ⟨rfl, S.low⟩
set_option maxHeartbeats 4000000 in
set_option maxRecDepth 100000 in
theorem rm9_1_true (h : Nat) (hh : h < 65536) (q8_4 : fd h 8 4 = 9) (q11_1 : fd h 11 1 = 1) (w : World) : Calls Tryd.prog 29 #[.int .i64 h, .bool true] w fun e w' => Says w (rMisc h true) e w' := by
  have hN : rMisc h true = (nNone 65 h) := by
    unfold rMisc
    simp [nbeq, nblt, nble, pick2, extOp, revOp, *]
  unfold Says
  rw [hN]
  clear hN
  have k8_4 : bits .and .i64 ((h : Int) / 256) 15 = 9 := by have := i64_fd h 8 4 hh (by decide) ((h : Int) / 256) 15 (by first | rfl | simp) rfl; rw [this, q8_4]; rfl
  have k11_1 : bits .and .i64 ((h : Int) / 2048) 1 = 1 := by have := i64_fd h 11 1 hh (by decide) ((h : Int) / 2048) 1 (by first | rfl | simp) rfl; rw [this, q11_1]; rfl
  have k0_3 : bits .and .i64 ((h : Int)) 7 = ((fd h 0 3 : Nat) : Int) := i64_fd h 0 3 hh (by decide) _ _ (by first | rfl | simp) rfl
  have f0_3 : fd h 0 3 < 8 := fd_lt h 0 3
  have k3_3 : bits .and .i64 ((h : Int) / 8) 7 = ((fd h 3 3 : Nat) : Int) := i64_fd h 3 3 hh (by decide) _ _ (by first | rfl | simp) rfl
  have f3_3 : fd h 3 3 < 8 := fd_lt h 3 3
  have u3_5 : bits .and .u32 ((h : Int) / 8) 31 = ((fd h 3 5 : Nat) : Int) := u32_fd h 3 5 hh (by decide) _ _ (by first | rfl | simp) rfl
  have g3_5 : fd h 3 5 < 32 := fd_lt h 3 5
  have u9_1 : bits .and .u32 ((h : Int) / 512) 1 = ((fd h 9 1 : Nat) : Int) := u32_fd h 9 1 hh (by decide) _ _ (by first | rfl | simp) rfl
  have g9_1 : fd h 9 1 < 2 := fd_lt h 9 1
  obtain ⟨JO, hjo, jb, jo⟩ := cbj h
  (try rw [hjo])
  clear hjo
  go_enter Tryd.func29, Tryd.ntmps29
  have S := SH.start w
  go_wp2_with (first
    | ((with_reducible refine wpl_isDst 4 ?_); refine SH.alloc (L := []) S rfl 31 rfl (Cel.iv IV.zero) zeroIV ?_; clear S; intro b1 w1 S)
    | ((with_reducible refine wpl_isDst 8 ?_); refine S.alloc rfl 31 rfl (Cel.iv IV.zero) zeroIV ?_; clear S; intro b2 w1 S)
    | ((with_reducible refine wpl_isLoad ?_); first
      | (refine S.ld 3 _ rfl g 1 rfl 0 (Cel.any [.int .i64 58, .int .i64 59]) rfl _ rfl _ Tryd.underlying3 rfl rfl ?_)
      | (refine S.ldAll 31 _ rfl b2 rfl 0 (Cel.iv (iZ 59 ((fd h 0 3 : Nat) : Int) ((JO * 2 : Nat) : Int) 0 14 false false)) rfl _ Tryd.underlying31 rfl (szIV _) rfl ?_))
    | ((with_reducible refine wpl_isStore ?_); first
      | (refine S.store1 rfl 3 _ _ rfl b2 5 _ rfl rfl 0 (Cel.iv (iZ 59 0 0 0 14 false false)) rfl rfl (by simp [Cel.cells, IV.cellsL]) (Cel.iv (iZ 59 ((fd h 0 3 : Nat) : Int) 0 0 14 false false)) rfl (by kernel_rfl) ?_; clear S; intro w2 S; simp only [List.set_cons_zero, List.set_cons_succ] at S)
      | (refine S.store1 rfl 29 _ _ rfl b2 8 _ rfl rfl 0 (Cel.iv (iZ 59 ((fd h 0 3 : Nat) : Int) 0 0 14 false false)) rfl rfl (by simp [Cel.cells, IV.cellsL]) (Cel.iv (iZ 59 ((fd h 0 3 : Nat) : Int) ((JO * 2 : Nat) : Int) 0 14 false false)) rfl (by kernel_rfl) ?_; clear S; intro w2 S; simp only [List.set_cons_zero, List.set_cons_succ] at S)
      | (refine S.storeAll rfl 31 _ _ rfl b2 (Cel.iv (iZ 59 0 0 0 14 false false)) rfl rfl 0 _ rfl rfl (one_iv _) (szIV _) ?_; clear S; intro w2 S; simp only [List.set_cons_zero, List.set_cons_succ] at S)
      | (refine S.storeAll rfl 31 _ _ rfl b1 (Cel.iv (nNone 65 h).iv) rfl rfl 2 _ rfl rfl (one_iv _) (szIV _) ?_; clear S; intro w2 S; simp only [List.set_cons_zero, List.set_cons_succ] at S))
    | (go_at_call 30; refine (plain_c _ _).mono ?_; rintro e wf ⟨rfl, hbf⟩; replace S := S.below hbf; clear hbf)
    | (go_at_call 25; refine (rbad_c _ _).mono ?_; rintro e wf ⟨rfl, hbf⟩; replace S := S.below hbf; clear hbf)
    | ((with_reducible refine wpl_is ?_); refine S.sliceA rfl 23 2 _ rfl [.int .i64 58, .int .i64 59] 3 (by kernel_rfl) ?_; clear S; intro g w1 S))
  (try simp only [Exit.inBlock, Exit.then])
  refine bodyPost_ret (S.results rfl _ _ rfl 2 _ rfl _ Tryd.underlying31 rfl (szIV _)) rfl ⟨rfl, S.low⟩
set_option maxHeartbeats 4000000 in
set_option maxRecDepth 100000 in
theorem rm11_0_false (h : Nat) (hh : h < 65536) (q8_4 : fd h 8 4 = 11) (q11_1 : fd h 11 1 = 0) (w : World) : Calls Tryd.prog 29 #[.int .i64 h, .bool false] w fun e w' => Says w (rMisc h false) e w' := by
  have hN : rMisc h false = (NV.mk 58 false 14 0 (fd h 0 3) 0 ((fd h 3 5 + fd h 9 1 * 32) * 2) false 0 false false) := by
    unfold rMisc
    simp [nbeq, nblt, nble, pick2, extOp, revOp, *]
  unfold Says
  rw [hN]
  clear hN
  have k8_4 : bits .and .i64 ((h : Int) / 256) 15 = 11 := by have := i64_fd h 8 4 hh (by decide) ((h : Int) / 256) 15 (by first | rfl | simp) rfl; rw [this, q8_4]; rfl
  have k11_1 : bits .and .i64 ((h : Int) / 2048) 1 = 0 := by have := i64_fd h 11 1 hh (by decide) ((h : Int) / 2048) 1 (by first | rfl | simp) rfl; rw [this, q11_1]; rfl
  have k0_3 : bits .and .i64 ((h : Int)) 7 = ((fd h 0 3 : Nat) : Int) := i64_fd h 0 3 hh (by decide) _ _ (by first | rfl | simp) rfl
  have f0_3 : fd h 0 3 < 8 := fd_lt h 0 3
  have k3_3 : bits .and .i64 ((h : Int) / 8) 7 = ((fd h 3 3 : Nat) : Int) := i64_fd h 3 3 hh (by decide) _ _ (by first | rfl | simp) rfl
  have f3_3 : fd h 3 3 < 8 := fd_lt h 3 3
  have u3_5 : bits .and .u32 ((h : Int) / 8) 31 = ((fd h 3 5 : Nat) : Int) := u32_fd h 3 5 hh (by decide) _ _ (by first | rfl | simp) rfl
  have g3_5 : fd h 3 5 < 32 := fd_lt h 3 5
  have u9_1 : bits .and .u32 ((h : Int) / 512) 1 = ((fd h 9 1 : Nat) : Int) := u32_fd h 9 1 hh (by decide) _ _ (by first | rfl | simp) rfl
  have g9_1 : fd h 9 1 < 2 := fd_lt h 9 1
  obtain ⟨JO, hjo, jb, jo⟩ := cbj h
  (try rw [hjo])
  clear hjo
  go_enter Tryd.func29, Tryd.ntmps29
  have S := SH.start w
  go_wp2_with (first
    | ((with_reducible refine wpl_isDst 4 ?_); refine SH.alloc (L := []) S rfl 31 rfl (Cel.iv IV.zero) zeroIV ?_; clear S; intro b1 w1 S)
    | ((with_reducible refine wpl_isDst 8 ?_); refine S.alloc rfl 31 rfl (Cel.iv IV.zero) zeroIV ?_; clear S; intro b2 w1 S)
    | ((with_reducible refine wpl_isLoad ?_); first
      | (refine S.ld 3 _ rfl g 0 rfl 0 (Cel.any [.int .i64 58, .int .i64 59]) rfl _ rfl _ Tryd.underlying3 rfl rfl ?_)
      | (refine S.ldAll 31 _ rfl b2 rfl 0 (Cel.iv (iZ 58 ((fd h 0 3 : Nat) : Int) ((JO * 2 : Nat) : Int) 0 14 false false)) rfl _ Tryd.underlying31 rfl (szIV _) rfl ?_))
    | ((with_reducible refine wpl_isStore ?_); first
      | (refine S.store1 rfl 3 _ _ rfl b2 5 _ rfl rfl 0 (Cel.iv (iZ 58 0 0 0 14 false false)) rfl rfl (by simp [Cel.cells, IV.cellsL]) (Cel.iv (iZ 58 ((fd h 0 3 : Nat) : Int) 0 0 14 false false)) rfl (by kernel_rfl) ?_; clear S; intro w2 S; simp only [List.set_cons_zero, List.set_cons_succ] at S)
      | (refine S.store1 rfl 29 _ _ rfl b2 8 _ rfl rfl 0 (Cel.iv (iZ 58 ((fd h 0 3 : Nat) : Int) 0 0 14 false false)) rfl rfl (by simp [Cel.cells, IV.cellsL]) (Cel.iv (iZ 58 ((fd h 0 3 : Nat) : Int) ((JO * 2 : Nat) : Int) 0 14 false false)) rfl (by kernel_rfl) ?_; clear S; intro w2 S; simp only [List.set_cons_zero, List.set_cons_succ] at S)
      | (refine S.storeAll rfl 31 _ _ rfl b2 (Cel.iv (iZ 58 0 0 0 14 false false)) rfl rfl 0 _ rfl rfl (one_iv _) (szIV _) ?_; clear S; intro w2 S; simp only [List.set_cons_zero, List.set_cons_succ] at S)
      | (refine S.storeAll rfl 31 _ _ rfl b1 (Cel.iv (NV.mk 58 false 14 0 (fd h 0 3) 0 (JO * 2) false 0 false false).iv) rfl rfl 2 _ rfl rfl (one_iv _) (szIV _) ?_; clear S; intro w2 S; simp only [List.set_cons_zero, List.set_cons_succ] at S))
    | (go_at_call 30; refine (plain_c _ _).mono ?_; rintro e wf ⟨rfl, hbf⟩; replace S := S.below hbf; clear hbf)
    | ((with_reducible refine wpl_is ?_); refine S.sliceA rfl 23 2 _ rfl [.int .i64 58, .int .i64 59] 3 (by kernel_rfl) ?_; clear S; intro g w1 S))
  (try simp only [Exit.inBlock, Exit.then])
  refine bodyPost_ret (S.results rfl _ _ rfl 2 _ rfl _ Tryd.underlying31 rfl (szIV _)) rfl ⟨rfl, S.low⟩
set_option maxHeartbeats 4000000 in
set_option maxRecDepth 100000 in
theorem rm11_0_true (h : Nat) (hh : h < 65536) (q8_4 : fd h 8 4 = 11) (q11_1 : fd h 11 1 = 0) (w : World) : Calls Tryd.prog 29 #[.int .i64 h, .bool true] w fun e w' => Says w (rMisc h true) e w' := by
  have hN : rMisc h true = (nNone 65 h) := by
    unfold rMisc
    simp [nbeq, nblt, nble, pick2, extOp, revOp, *]
  unfold Says
  rw [hN]
  clear hN
  have k8_4 : bits .and .i64 ((h : Int) / 256) 15 = 11 := by have := i64_fd h 8 4 hh (by decide) ((h : Int) / 256) 15 (by first | rfl | simp) rfl; rw [this, q8_4]; rfl
  have k11_1 : bits .and .i64 ((h : Int) / 2048) 1 = 0 := by have := i64_fd h 11 1 hh (by decide) ((h : Int) / 2048) 1 (by first | rfl | simp) rfl; rw [this, q11_1]; rfl
  have k0_3 : bits .and .i64 ((h : Int)) 7 = ((fd h 0 3 : Nat) : Int) := i64_fd h 0 3 hh (by decide) _ _ (by first | rfl | simp) rfl
  have f0_3 : fd h 0 3 < 8 := fd_lt h 0 3
  have k3_3 : bits .and .i64 ((h : Int) / 8) 7 = ((fd h 3 3 : Nat) : Int) := i64_fd h 3 3 hh (by decide) _ _ (by first | rfl | simp) rfl
  have f3_3 : fd h 3 3 < 8 := fd_lt h 3 3
  have u3_5 : bits .and .u32 ((h : Int) / 8) 31 = ((fd h 3 5 : Nat) : Int) := u32_fd h 3 5 hh (by decide) _ _ (by first | rfl | simp) rfl
  have g3_5 : fd h 3 5 < 32 := fd_lt h 3 5
  have u9_1 : bits .and .u32 ((h : Int) / 512) 1 = ((fd h 9 1 : Nat) : Int) := u32_fd h 9 1 hh (by decide) _ _ (by first | rfl | simp) rfl
  have g9_1 : fd h 9 1 < 2 := fd_lt h 9 1
  obtain ⟨JO, hjo, jb, jo⟩ := cbj h
  (try rw [hjo])
  clear hjo
  go_enter Tryd.func29, Tryd.ntmps29
  have S := SH.start w
  go_wp2_with (first
    | ((with_reducible refine wpl_isDst 4 ?_); refine SH.alloc (L := []) S rfl 31 rfl (Cel.iv IV.zero) zeroIV ?_; clear S; intro b1 w1 S)
    | ((with_reducible refine wpl_isDst 8 ?_); refine S.alloc rfl 31 rfl (Cel.iv IV.zero) zeroIV ?_; clear S; intro b2 w1 S)
    | ((with_reducible refine wpl_isLoad ?_); first
      | (refine S.ld 3 _ rfl g 0 rfl 0 (Cel.any [.int .i64 58, .int .i64 59]) rfl _ rfl _ Tryd.underlying3 rfl rfl ?_)
      | (refine S.ldAll 31 _ rfl b2 rfl 0 (Cel.iv (iZ 58 ((fd h 0 3 : Nat) : Int) ((JO * 2 : Nat) : Int) 0 14 false false)) rfl _ Tryd.underlying31 rfl (szIV _) rfl ?_))
    | ((with_reducible refine wpl_isStore ?_); first
      | (refine S.store1 rfl 3 _ _ rfl b2 5 _ rfl rfl 0 (Cel.iv (iZ 58 0 0 0 14 false false)) rfl rfl (by simp [Cel.cells, IV.cellsL]) (Cel.iv (iZ 58 ((fd h 0 3 : Nat) : Int) 0 0 14 false false)) rfl (by kernel_rfl) ?_; clear S; intro w2 S; simp only [List.set_cons_zero, List.set_cons_succ] at S)
      | (refine S.store1 rfl 29 _ _ rfl b2 8 _ rfl rfl 0 (Cel.iv (iZ 58 ((fd h 0 3 : Nat) : Int) 0 0 14 false false)) rfl rfl (by simp [Cel.cells, IV.cellsL]) (Cel.iv (iZ 58 ((fd h 0 3 : Nat) : Int) ((JO * 2 : Nat) : Int) 0 14 false false)) rfl (by kernel_rfl) ?_; clear S; intro w2 S; simp only [List.set_cons_zero, List.set_cons_succ] at S)
      | (refine S.storeAll rfl 31 _ _ rfl b2 (Cel.iv (iZ 58 0 0 0 14 false false)) rfl rfl 0 _ rfl rfl (one_iv _) (szIV _) ?_; clear S; intro w2 S; simp only [List.set_cons_zero, List.set_cons_succ] at S)
      | (refine S.storeAll rfl 31 _ _ rfl b1 (Cel.iv (nNone 65 h).iv) rfl rfl 2 _ rfl rfl (one_iv _) (szIV _) ?_; clear S; intro w2 S; simp only [List.set_cons_zero, List.set_cons_succ] at S))
    | (go_at_call 30; refine (plain_c _ _).mono ?_; rintro e wf ⟨rfl, hbf⟩; replace S := S.below hbf; clear hbf)
    | (go_at_call 25; refine (rbad_c _ _).mono ?_; rintro e wf ⟨rfl, hbf⟩; replace S := S.below hbf; clear hbf)
    | ((with_reducible refine wpl_is ?_); refine S.sliceA rfl 23 2 _ rfl [.int .i64 58, .int .i64 59] 3 (by kernel_rfl) ?_; clear S; intro g w1 S))
  (try simp only [Exit.inBlock, Exit.then])
  refine bodyPost_ret (S.results rfl _ _ rfl 2 _ rfl _ Tryd.underlying31 rfl (szIV _)) rfl ⟨rfl, S.low⟩
set_option maxHeartbeats 4000000 in
set_option maxRecDepth 100000 in
theorem rm11_1_false (h : Nat) (hh : h < 65536) (q8_4 : fd h 8 4 = 11) (q11_1 : fd h 11 1 = 1) (w : World) : Calls Tryd.prog 29 #[.int .i64 h, .bool false] w fun e w' => Says w (rMisc h false) e w' := by
  have hN : rMisc h false = (NV.mk 59 false 14 0 (fd h 0 3) 0 ((fd h 3 5 + fd h 9 1 * 32) * 2) false 0 false false) := by
    unfold rMisc
    simp [nbeq, nblt, nble, pick2, extOp, revOp, *]
  unfold Says
  rw [hN]
  clear hN
  have k8_4 : bits .and .i64 ((h : Int) / 256) 15 = 11 := by have := i64_fd h 8 4 hh (by decide) ((h : Int) / 256) 15 (by first | rfl | simp) rfl; rw [this, q8_4]; rfl
  have k11_1 : bits .and .i64 ((h : Int) / 2048) 1 = 1 := by have := i64_fd h 11 1 hh (by decide) ((h : Int) / 2048) 1 (by first | rfl | simp) rfl; rw [this, q11_1]; rfl
  have k0_3 : bits .and .i64 ((h : Int)) 7 = ((fd h 0 3 : Nat) : Int) := i64_fd h 0 3 hh (by decide) _ _ (by first | rfl | simp) rfl
  have f0_3 : fd h 0 3 < 8 := fd_lt h 0 3
  have k3_3 : bits .and .i64 ((h : Int) / 8) 7 = ((fd h 3 3 : Nat) : Int) := i64_fd h 3 3 hh (by decide) _ _ (by first | rfl | simp) rfl
  have f3_3 : fd h 3 3 < 8 := fd_lt h 3 3
  have u3_5 : bits .and .u32 ((h : Int) / 8) 31 = ((fd h 3 5 : Nat) : Int) := u32_fd h 3 5 hh (by decide) _ _ (by first | rfl | simp) rfl
  have g3_5 : fd h 3 5 < 32 := fd_lt h 3 5
  have u9_1 : bits .and .u32 ((h : Int) / 512) 1 = ((fd h 9 1 : Nat) : Int) := u32_fd h 9 1 hh (by decide) _ _ (by first | rfl | simp) rfl
  have g9_1 : fd h 9 1 < 2 := fd_lt h 9 1
  obtain ⟨JO, hjo, jb, jo⟩ := cbj h
  (try rw [hjo])
  clear hjo
  go_enter Tryd.func29, Tryd.ntmps29
  have S := SH.start w
  go_wp2_with (first
    | ((with_reducible refine wpl_isDst 4 ?_); refine SH.alloc (L := []) S rfl 31 rfl (Cel.iv IV.zero) zeroIV ?_; clear S; intro b1 w1 S)
    | ((with_reducible refine wpl_isDst 8 ?_); refine S.alloc rfl 31 rfl (Cel.iv IV.zero) zeroIV ?_; clear S; intro b2 w1 S)
    | ((with_reducible refine wpl_isLoad ?_); first
      | (refine S.ld 3 _ rfl g 1 rfl 0 (Cel.any [.int .i64 58, .int .i64 59]) rfl _ rfl _ Tryd.underlying3 rfl rfl ?_)
      | (refine S.ldAll 31 _ rfl b2 rfl 0 (Cel.iv (iZ 59 ((fd h 0 3 : Nat) : Int) ((JO * 2 : Nat) : Int) 0 14 false false)) rfl _ Tryd.underlying31 rfl (szIV _) rfl ?_))
    | ((with_reducible refine wpl_isStore ?_); first
      | (refine S.store1 rfl 3 _ _ rfl b2 5 _ rfl rfl 0 (Cel.iv (iZ 59 0 0 0 14 false false)) rfl rfl (by simp [Cel.cells, IV.cellsL]) (Cel.iv (iZ 59 ((fd h 0 3 : Nat) : Int) 0 0 14 false false)) rfl (by kernel_rfl) ?_; clear S; intro w2 S; simp only [List.set_cons_zero, List.set_cons_succ] at S)
      | (refine S.store1 rfl 29 _ _ rfl b2 8 _ rfl rfl 0 (Cel.iv (iZ 59 ((fd h 0 3 : Nat) : Int) 0 0 14 false false)) rfl rfl (by simp [Cel.cells, IV.cellsL]) (Cel.iv (iZ 59 ((fd h 0 3 : Nat) : Int) ((JO * 2 : Nat) : Int) 0 14 false false)) rfl (by kernel_rfl) ?_; clear S; intro w2 S; simp only [List.set_cons_zero, List.set_cons_succ] at S)
      | (refine S.storeAll rfl 31 _ _ rfl b2 (Cel.iv (iZ 59 0 0 0 14 false false)) rfl rfl 0 _ rfl rfl (one_iv _) (szIV _) ?_; clear S; intro w2 S; simp only [List.set_cons_zero, List.set_cons_succ] at S)
      | (refine S.storeAll rfl 31 _ _ rfl b1 (Cel.iv (NV.mk 59 false 14 0 (fd h 0 3) 0 (JO * 2) false 0 false false).iv) rfl rfl 2 _ rfl rfl (one_iv _) (szIV _) ?_; clear S; intro w2 S; simp only [List.set_cons_zero, List.set_cons_succ] at S))
    | (go_at_call 30; refine (plain_c _ _).mono ?_; rintro e wf ⟨rfl, hbf⟩; replace S := S.below hbf; clear hbf)
    | ((with_reducible refine wpl_is ?_); refine S.sliceA rfl 23 2 _ rfl [.int .i64 58, .int .i64 59] 3 (by kernel_rfl) ?_; clear S; intro g w1 S))
  (try simp only [Exit.inBlock, Exit.then])
  refine bodyPost_ret (S.results rfl _ _ rfl 2 _ rfl _ Tryd.underlying31 rfl (szIV _)) rfl ⟨rfl, S.low⟩
set_option maxHeartbeats 4000000 in
set_option maxRecDepth 100000 in
theorem rm11_1_true (h : Nat) (hh : h < 65536) (q8_4 : fd h 8 4 = 11) (q11_1 : fd h 11 1 = 1) (w : World) : Calls Tryd.prog 29 #[.int .i64 h, .bool true] w fun e w' => Says w (rMisc h true) e w' := by
  have hN : rMisc h true = (nNone 65 h) := by
    unfold rMisc
    simp [nbeq, nblt, nble, pick2, extOp, revOp, *]
  unfold Says
  rw [hN]
  clear hN
  have k8_4 : bits .and .i64 ((h : Int) / 256) 15 = 11 := by have := i64_fd h 8 4 hh (by decide) ((h : Int) / 256) 15 (by first | rfl | simp) rfl; rw [this, q8_4]; rfl
  have k11_1 : bits .and .i64 ((h : Int) / 2048) 1 = 1 := by have := i64_fd h 11 1 hh (by decide) ((h : Int) / 2048) 1 (by first | rfl | simp) rfl; rw [this, q11_1]; rfl
  have k0_3 : bits .and .i64 ((h : Int)) 7 = ((fd h 0 3 : Nat) : Int) := i64_fd h 0 3 hh (by decide) _ _ (by first | rfl | simp) rfl
  have f0_3 : fd h 0 3 < 8 := fd_lt h 0 3
  have k3_3 : bits .and .i64 ((h : Int) / 8) 7 = ((fd h 3 3 : Nat) : Int) := i64_fd h 3 3 hh (by decide) _ _ (by first | rfl | simp) rfl
  have f3_3 : fd h 3 3 < 8 := fd_lt h 3 3
  have u3_5 : bits .and .u32 ((h : Int) / 8) 31 = ((fd h 3 5 : Nat) : Int) := u32_fd h 3 5 hh (by decide) _ _ (by first | rfl | simp) rfl
  have g3_5 : fd h 3 5 < 32 := fd_lt h 3 5
  have u9_1 : bits .and .u32 ((h : Int) / 512) 1 = ((fd h 9 1 : Nat) : Int) := u32_fd h 9 1 hh (by decide) _ _ (by first | rfl | simp) rfl
  have g9_1 : fd h 9 1 < 2 := fd_lt h 9 1
  obtain ⟨JO, hjo, jb, jo⟩ := cbj h
  (try rw [hjo])
  clear hjo
  go_enter Tryd.func29, Tryd.ntmps29
  have S := SH.start w
  go_wp2_with (first
    | ((with_reducible refine wpl_isDst 4 ?_); refine SH.alloc (L := []) S rfl 31 rfl (Cel.iv IV.zero) zeroIV ?_; clear S; intro b1 w1 S)
    | ((with_reducible refine wpl_isDst 8 ?_); refine S.alloc rfl 31 rfl (Cel.iv IV.zero) zeroIV ?_; clear S; intro b2 w1 S)
    | ((with_reducible refine wpl_isLoad ?_); first
      | (refine S.ld 3 _ rfl g 1 rfl 0 (Cel.any [.int .i64 58, .int .i64 59]) rfl _ rfl _ Tryd.underlying3 rfl rfl ?_)
      | (refine S.ldAll 31 _ rfl b2 rfl 0 (Cel.iv (iZ 59 ((fd h 0 3 : Nat) : Int) ((JO * 2 : Nat) : Int) 0 14 false false)) rfl _ Tryd.underlying31 rfl (szIV _) rfl ?_))
    | ((with_reducible refine wpl_isStore ?_); first
      | (refine S.store1 rfl 3 _ _ rfl b2 5 _ rfl rfl 0 (Cel.iv (iZ 59 0 0 0 14 false false)) rfl rfl (by simp [Cel.cells, IV.cellsL]) (Cel.iv (iZ 59 ((fd h 0 3 : Nat) : Int) 0 0 14 false false)) rfl (by kernel_rfl) ?_; clear S; intro w2 S; simp only [List.set_cons_zero, List.set_cons_succ] at S)
      | (refine S.store1 rfl 29 _ _ rfl b2 8 _ rfl rfl 0 (Cel.iv (iZ 59 ((fd h 0 3 : Nat) : Int) 0 0 14 false false)) rfl rfl (by simp [Cel.cells, IV.cellsL]) (Cel.iv (iZ 59 ((fd h 0 3 : Nat) : Int) ((JO * 2 : Nat) : Int) 0 14 false false)) rfl (by kernel_rfl) ?_; clear S; intro w2 S; simp only [List.set_cons_zero, List.set_cons_succ] at S)
      | (refine S.storeAll rfl 31 _ _ rfl b2 (Cel.iv (iZ 59 0 0 0 14 false false)) rfl rfl 0 _ rfl rfl (one_iv _) (szIV _) ?_; clear S; intro w2 S; simp only [List.set_cons_zero, List.set_cons_succ] at S)
      | (refine S.storeAll rfl 31 _ _ rfl b1 (Cel.iv (nNone 65 h).iv) rfl rfl 2 _ rfl rfl (one_iv _) (szIV _) ?_; clear S; intro w2 S; simp only [List.set_cons_zero, List.set_cons_succ] at S))
    | (go_at_call 30; refine (plain_c _ _).mono ?_; rintro e wf ⟨rfl, hbf⟩; replace S := S.below hbf; clear hbf)
    | (go_at_call 25; refine (rbad_c _ _).mono ?_; rintro e wf ⟨rfl, hbf⟩; replace S := S.below hbf; clear hbf)
    | ((with_reducible refine wpl_is ?_); refine S.sliceA rfl 23 2 _ rfl [.int .i64 58, .int .i64 59] 3 (by kernel_rfl) ?_; clear S; intro g w1 S))
  (try simp only [Exit.inBlock, Exit.then])
  refine bodyPost_ret (S.results rfl _ _ rfl 2 _ rfl _ Tryd.underlying31 rfl (szIV _)) rfl ⟨rfl, S.low⟩
end Go.Proofs.YtbbkiiabjhgpkaaDoor
