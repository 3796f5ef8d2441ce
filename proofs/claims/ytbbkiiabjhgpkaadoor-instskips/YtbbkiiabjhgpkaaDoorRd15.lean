/- Stage 8: the document's narrow words, walked. -/
import Derived.Test.YtbbkiiabjhgpkaaDoorRd10z
import Derived.Test.YtbbkiiabjhgpkaaDoorTh6
namespace Go.Proofs.YtbbkiiabjhgpkaaDoor
open Go.ChangeShapes Go.WideShapes Go.ChangeAt Go.RowKit
set_option linter.unusedVariables false
set_option linter.unusedSimpArgs false

set_option maxHeartbeats 4000000 in
set_option maxRecDepth 100000 in
theorem rm4_0z (h : Nat) (hh : h < 65536) (b : Bool) (q8_4 : fd h 8 4 = 4) (q11_1 : fd h 11 1 = 0) (g : (fd h 0 8 + fd h 8 1 * 16384) = 0) (w : World) : Calls Tryd.prog 29 #[.int .i64 h, .bool b] w fun e w' => Says w (rMisc h b) e w' := by
  have hN : rMisc h b = (nNone 65 h) := by
    unfold rMisc
    simp [nbeq, nblt, nble, pick2, extOp, revOp, *] <;> omega
  unfold Says
  rw [hN]
  clear hN
  have k8_4 : bits .and .i64 ((h : Int) / 256) 15 = 4 := by have := i64_fd h 8 4 hh (by decide) ((h : Int) / 256) 15 (by first | rfl | simp) rfl; rw [this, q8_4]; rfl
  have k11_1 : bits .and .i64 ((h : Int) / 2048) 1 = 0 := by have := i64_fd h 11 1 hh (by decide) ((h : Int) / 2048) 1 (by first | rfl | simp) rfl; rw [this, q11_1]; rfl
  have k0_3 : bits .and .i64 ((h : Int)) 7 = ((fd h 0 3 : Nat) : Int) := i64_fd h 0 3 hh (by decide) _ _ (by first | rfl | simp) rfl
  have f0_3 : fd h 0 3 < 8 := fd_lt h 0 3
  have k3_3 : bits .and .i64 ((h : Int) / 8) 7 = ((fd h 3 3 : Nat) : Int) := i64_fd h 3 3 hh (by decide) _ _ (by first | rfl | simp) rfl
  have f3_3 : fd h 3 3 < 8 := fd_lt h 3 3
  have k0_8 : bits .and .i64 ((h : Int)) 255 = ((fd h 0 8 : Nat) : Int) := i64_fd h 0 8 hh (by decide) _ _ (by first | rfl | simp) rfl
  have f0_8 : fd h 0 8 < 256 := fd_lt h 0 8
  have k8_1 : bits .and .i64 ((h : Int) / 256) 1 = ((fd h 8 1 : Nat) : Int) := i64_fd h 8 1 hh (by decide) _ _ (by first | rfl | simp) rfl
  have f8_1 : fd h 8 1 < 2 := fd_lt h 8 1
  have lj := list14 h
  generalize hLL : fd h 0 8 + fd h 8 1 * 16384 = LL at *
  have tl : (((LL : Nat) : Int) == 0) = true := by simp; omega
  clear g
  go_enter Tryd.func29, Tryd.ntmps29
  have S := SH.start w
  go_wp2_with (first
    | ((with_reducible refine wpl_isDst 4 ?_); refine SH.alloc (L := []) S rfl 31 rfl (Cel.iv IV.zero) zeroIV ?_; clear S; intro b1 w1 S)
    | ((with_reducible refine wpl_isDst 9 ?_); refine S.alloc rfl 31 rfl (Cel.iv IV.zero) zeroIV ?_; clear S; intro b2 w1 S)
    | ((with_reducible refine wpl_isDst 80 ?_); refine S.sliceA rfl 23 2 _ rfl [.int .i64 53, .int .i64 52] 3 (by kernel_rfl) ?_; clear S; intro g w1 S)
    | ((with_reducible refine wpl_isDst 98 ?_); refine S.sliceA rfl 23 2 _ rfl [.int .i64 14, .int .i64 15] 3 (by kernel_rfl) ?_; clear S; intro g2 w1 S)
    | ((with_reducible refine wpl_isLoad ?_); first
      | (refine S.ld 3 _ rfl g 0 rfl 0 (Cel.any [.int .i64 53, .int .i64 52]) rfl _ rfl _ Tryd.underlying3 rfl rfl ?_)
      | (refine S.ld 3 _ rfl g2 0 rfl 0 (Cel.any [.int .i64 14, .int .i64 15]) rfl _ rfl _ Tryd.underlying3 rfl rfl ?_)
      | (refine S.ld 3 _ rfl b2 0 rfl 0 (Cel.iv (iZ 53 0 0 0 14 false false)) rfl _ rfl _ Tryd.underlying3 rfl rfl ?_)
      | (refine S.ld 3 _ rfl b2 12 rfl 1 (Cel.iv (iZ 53 13 0 ((LL : Nat) : Int) 14 true true)) rfl _ rfl _ Tryd.underlying3 rfl rfl ?_)
      | (refine S.ldAll 31 _ rfl b2 rfl 1 (Cel.iv (iZ 53 13 0 ((LL : Nat) : Int) 14 true true)) rfl _ Tryd.underlying31 rfl (szIV _) rfl ?_))
    | ((with_reducible refine wpl_isStore ?_); first
      | (refine S.store1 rfl 3 _ _ rfl b2 5 _ rfl rfl 0 (Cel.iv (iZ 53 0 0 0 14 false false)) rfl rfl (by simp [Cel.cells, IV.cellsL]) (Cel.iv (iZ 53 13 0 0 14 false false)) rfl (by kernel_rfl) ?_; clear S; intro w2 S; simp only [List.set_cons_zero, List.set_cons_succ] at S)
      | (refine S.store1 rfl 4 _ _ rfl b2 13 _ rfl rfl 0 (Cel.iv (iZ 53 13 0 0 14 false false)) rfl rfl (by simp [Cel.cells, IV.cellsL]) (Cel.iv (iZ 53 13 0 0 14 true false)) rfl (by kernel_rfl) ?_; clear S; intro w2 S; simp only [List.set_cons_zero, List.set_cons_succ] at S)
      | (refine S.store1 rfl 4 _ _ rfl b2 14 _ rfl rfl 0 (Cel.iv (iZ 53 13 0 0 14 true false)) rfl rfl (by simp [Cel.cells, IV.cellsL]) (Cel.iv (iZ 53 13 0 0 14 true true)) rfl (by kernel_rfl) ?_; clear S; intro w2 S; simp only [List.set_cons_zero, List.set_cons_succ] at S)
      | (refine S.store1 rfl 3 _ _ rfl b2 12 _ rfl rfl 1 (Cel.iv (iZ 53 13 0 0 14 true true)) rfl rfl (by simp [Cel.cells, IV.cellsL]) (Cel.iv (iZ 53 13 0 ((LL : Nat) : Int) 14 true true)) rfl (by kernel_rfl) ?_; clear S; intro w2 S; simp only [List.set_cons_zero, List.set_cons_succ] at S)
      | (refine S.storeAll rfl 31 _ _ rfl b2 (Cel.iv (iZ 53 0 0 0 14 false false)) rfl rfl 0 _ rfl rfl (one_iv _) (szIV _) ?_; clear S; intro w2 S; simp only [List.set_cons_zero, List.set_cons_succ] at S)
      | (refine S.storeAll rfl 31 _ _ rfl b1 (Cel.iv (nNone 65 h).iv) rfl rfl 3 _ rfl rfl (one_iv _) (szIV _) ?_; clear S; intro w2 S; simp only [List.set_cons_zero, List.set_cons_succ] at S))
    | (go_at_call 30; refine (plain_c _ _).mono ?_; rintro e wf ⟨rfl, hbf⟩; replace S := S.below hbf; clear hbf)
    | (go_at_call 25; refine (rbad_c _ _).mono ?_; rintro e wf ⟨rfl, hbf⟩; replace S := S.below hbf; clear hbf))
  (try simp only [Exit.inBlock, Exit.then])
  refine bodyPost_ret (S.results rfl _ _ rfl 3 _ rfl _ Tryd.underlying31 rfl (szIV _)) rfl ⟨rfl, S.low⟩
set_option maxHeartbeats 4000000 in
set_option maxRecDepth 100000 in
theorem rm4_0n (h : Nat) (hh : h < 65536) (b : Bool) (q8_4 : fd h 8 4 = 4) (q11_1 : fd h 11 1 = 0) (g : (fd h 0 8 + fd h 8 1 * 16384) ≠ 0) (w : World) : Calls Tryd.prog 29 #[.int .i64 h, .bool b] w fun e w' => Says w (rMisc h b) e w' := by
  have hN : rMisc h b = (NV.mk 53 false 14 0 13 0 0 false (fd h 0 8 + fd h 8 1 * 16384) true true) := by
    unfold rMisc
    simp [nbeq, nblt, nble, pick2, extOp, revOp, *]
    rcases (show fd h 0 8 ≠ 0 ∨ fd h 8 1 * 16384 ≠ 0 by omega) with z | z
    · rw [decide_eq_false z]; rfl
    · rw [decide_eq_false z, Bool.and_false]; rfl
  unfold Says
  rw [hN]
  clear hN
  have k8_4 : bits .and .i64 ((h : Int) / 256) 15 = 4 := by have := i64_fd h 8 4 hh (by decide) ((h : Int) / 256) 15 (by first | rfl | simp) rfl; rw [this, q8_4]; rfl
  have k11_1 : bits .and .i64 ((h : Int) / 2048) 1 = 0 := by have := i64_fd h 11 1 hh (by decide) ((h : Int) / 2048) 1 (by first | rfl | simp) rfl; rw [this, q11_1]; rfl
  have k0_3 : bits .and .i64 ((h : Int)) 7 = ((fd h 0 3 : Nat) : Int) := i64_fd h 0 3 hh (by decide) _ _ (by first | rfl | simp) rfl
  have f0_3 : fd h 0 3 < 8 := fd_lt h 0 3
  have k3_3 : bits .and .i64 ((h : Int) / 8) 7 = ((fd h 3 3 : Nat) : Int) := i64_fd h 3 3 hh (by decide) _ _ (by first | rfl | simp) rfl
  have f3_3 : fd h 3 3 < 8 := fd_lt h 3 3
  have k0_8 : bits .and .i64 ((h : Int)) 255 = ((fd h 0 8 : Nat) : Int) := i64_fd h 0 8 hh (by decide) _ _ (by first | rfl | simp) rfl
  have f0_8 : fd h 0 8 < 256 := fd_lt h 0 8
  have k8_1 : bits .and .i64 ((h : Int) / 256) 1 = ((fd h 8 1 : Nat) : Int) := i64_fd h 8 1 hh (by decide) _ _ (by first | rfl | simp) rfl
  have f8_1 : fd h 8 1 < 2 := fd_lt h 8 1
  have lj := list14 h
  generalize hLL : fd h 0 8 + fd h 8 1 * 16384 = LL at *
  have tl : (((LL : Nat) : Int) == 0) = false := by simp; omega
  clear g
  go_enter Tryd.func29, Tryd.ntmps29
  have S := SH.start w
  go_wp2_with (first
    | ((with_reducible refine wpl_isDst 4 ?_); refine SH.alloc (L := []) S rfl 31 rfl (Cel.iv IV.zero) zeroIV ?_; clear S; intro b1 w1 S)
    | ((with_reducible refine wpl_isDst 9 ?_); refine S.alloc rfl 31 rfl (Cel.iv IV.zero) zeroIV ?_; clear S; intro b2 w1 S)
    | ((with_reducible refine wpl_isDst 80 ?_); refine S.sliceA rfl 23 2 _ rfl [.int .i64 53, .int .i64 52] 3 (by kernel_rfl) ?_; clear S; intro g w1 S)
    | ((with_reducible refine wpl_isDst 98 ?_); refine S.sliceA rfl 23 2 _ rfl [.int .i64 14, .int .i64 15] 3 (by kernel_rfl) ?_; clear S; intro g2 w1 S)
    | ((with_reducible refine wpl_isLoad ?_); first
      | (refine S.ld 3 _ rfl g 0 rfl 0 (Cel.any [.int .i64 53, .int .i64 52]) rfl _ rfl _ Tryd.underlying3 rfl rfl ?_)
      | (refine S.ld 3 _ rfl g2 0 rfl 0 (Cel.any [.int .i64 14, .int .i64 15]) rfl _ rfl _ Tryd.underlying3 rfl rfl ?_)
      | (refine S.ld 3 _ rfl b2 0 rfl 0 (Cel.iv (iZ 53 0 0 0 14 false false)) rfl _ rfl _ Tryd.underlying3 rfl rfl ?_)
      | (refine S.ld 3 _ rfl b2 12 rfl 1 (Cel.iv (iZ 53 13 0 ((LL : Nat) : Int) 14 true true)) rfl _ rfl _ Tryd.underlying3 rfl rfl ?_)
      | (refine S.ldAll 31 _ rfl b2 rfl 1 (Cel.iv (iZ 53 13 0 ((LL : Nat) : Int) 14 true true)) rfl _ Tryd.underlying31 rfl (szIV _) rfl ?_))
    | ((with_reducible refine wpl_isStore ?_); first
      | (refine S.store1 rfl 3 _ _ rfl b2 5 _ rfl rfl 0 (Cel.iv (iZ 53 0 0 0 14 false false)) rfl rfl (by simp [Cel.cells, IV.cellsL]) (Cel.iv (iZ 53 13 0 0 14 false false)) rfl (by kernel_rfl) ?_; clear S; intro w2 S; simp only [List.set_cons_zero, List.set_cons_succ] at S)
      | (refine S.store1 rfl 4 _ _ rfl b2 13 _ rfl rfl 0 (Cel.iv (iZ 53 13 0 0 14 false false)) rfl rfl (by simp [Cel.cells, IV.cellsL]) (Cel.iv (iZ 53 13 0 0 14 true false)) rfl (by kernel_rfl) ?_; clear S; intro w2 S; simp only [List.set_cons_zero, List.set_cons_succ] at S)
      | (refine S.store1 rfl 4 _ _ rfl b2 14 _ rfl rfl 0 (Cel.iv (iZ 53 13 0 0 14 true false)) rfl rfl (by simp [Cel.cells, IV.cellsL]) (Cel.iv (iZ 53 13 0 0 14 true true)) rfl (by kernel_rfl) ?_; clear S; intro w2 S; simp only [List.set_cons_zero, List.set_cons_succ] at S)
      | (refine S.store1 rfl 3 _ _ rfl b2 12 _ rfl rfl 1 (Cel.iv (iZ 53 13 0 0 14 true true)) rfl rfl (by simp [Cel.cells, IV.cellsL]) (Cel.iv (iZ 53 13 0 ((LL : Nat) : Int) 14 true true)) rfl (by kernel_rfl) ?_; clear S; intro w2 S; simp only [List.set_cons_zero, List.set_cons_succ] at S)
      | (refine S.storeAll rfl 31 _ _ rfl b2 (Cel.iv (iZ 53 0 0 0 14 false false)) rfl rfl 0 _ rfl rfl (one_iv _) (szIV _) ?_; clear S; intro w2 S; simp only [List.set_cons_zero, List.set_cons_succ] at S)
      | (refine S.storeAll rfl 31 _ _ rfl b1 (Cel.iv (NV.mk 53 false 14 0 13 0 0 false LL true true).iv) rfl rfl 3 _ rfl rfl (one_iv _) (szIV _) ?_; clear S; intro w2 S; simp only [List.set_cons_zero, List.set_cons_succ] at S))
    | (go_at_call 30; refine (plain_c _ _).mono ?_; rintro e wf ⟨rfl, hbf⟩; replace S := S.below hbf; clear hbf)
    | (go_at_call 25; refine (rbad_c _ _).mono ?_; rintro e wf ⟨rfl, hbf⟩; replace S := S.below hbf; clear hbf))
  (try simp only [Exit.inBlock, Exit.then])
  refine bodyPost_ret (S.results rfl _ _ rfl 3 _ rfl _ Tryd.underlying31 rfl (szIV _)) rfl ⟨rfl, S.low⟩
set_option maxHeartbeats 4000000 in
set_option maxRecDepth 100000 in
theorem rm4_1z (h : Nat) (hh : h < 65536) (b : Bool) (q8_4 : fd h 8 4 = 4) (q11_1 : fd h 11 1 = 1) (g : (fd h 0 8 + fd h 8 1 * 32768) = 0) (w : World) : Calls Tryd.prog 29 #[.int .i64 h, .bool b] w fun e w' => Says w (rMisc h b) e w' := by
  have hN : rMisc h b = (nNone 65 h) := by
    unfold rMisc
    simp [nbeq, nblt, nble, pick2, extOp, revOp, *] <;> omega
  unfold Says
  rw [hN]
  clear hN
  have k8_4 : bits .and .i64 ((h : Int) / 256) 15 = 4 := by have := i64_fd h 8 4 hh (by decide) ((h : Int) / 256) 15 (by first | rfl | simp) rfl; rw [this, q8_4]; rfl
  have k11_1 : bits .and .i64 ((h : Int) / 2048) 1 = 1 := by have := i64_fd h 11 1 hh (by decide) ((h : Int) / 2048) 1 (by first | rfl | simp) rfl; rw [this, q11_1]; rfl
  have k0_3 : bits .and .i64 ((h : Int)) 7 = ((fd h 0 3 : Nat) : Int) := i64_fd h 0 3 hh (by decide) _ _ (by first | rfl | simp) rfl
  have f0_3 : fd h 0 3 < 8 := fd_lt h 0 3
  have k3_3 : bits .and .i64 ((h : Int) / 8) 7 = ((fd h 3 3 : Nat) : Int) := i64_fd h 3 3 hh (by decide) _ _ (by first | rfl | simp) rfl
  have f3_3 : fd h 3 3 < 8 := fd_lt h 3 3
  have k0_8 : bits .and .i64 ((h : Int)) 255 = ((fd h 0 8 : Nat) : Int) := i64_fd h 0 8 hh (by decide) _ _ (by first | rfl | simp) rfl
  have f0_8 : fd h 0 8 < 256 := fd_lt h 0 8
  have k8_1 : bits .and .i64 ((h : Int) / 256) 1 = ((fd h 8 1 : Nat) : Int) := i64_fd h 8 1 hh (by decide) _ _ (by first | rfl | simp) rfl
  have f8_1 : fd h 8 1 < 2 := fd_lt h 8 1
  have lj := list15 h
  generalize hLL : fd h 0 8 + fd h 8 1 * 32768 = LL at *
  have tl : (((LL : Nat) : Int) == 0) = true := by simp; omega
  clear g
  go_enter Tryd.func29, Tryd.ntmps29
  have S := SH.start w
  go_wp2_with (first
    | ((with_reducible refine wpl_isDst 4 ?_); refine SH.alloc (L := []) S rfl 31 rfl (Cel.iv IV.zero) zeroIV ?_; clear S; intro b1 w1 S)
    | ((with_reducible refine wpl_isDst 9 ?_); refine S.alloc rfl 31 rfl (Cel.iv IV.zero) zeroIV ?_; clear S; intro b2 w1 S)
    | ((with_reducible refine wpl_isDst 80 ?_); refine S.sliceA rfl 23 2 _ rfl [.int .i64 53, .int .i64 52] 3 (by kernel_rfl) ?_; clear S; intro g w1 S)
    | ((with_reducible refine wpl_isDst 98 ?_); refine S.sliceA rfl 23 2 _ rfl [.int .i64 14, .int .i64 15] 3 (by kernel_rfl) ?_; clear S; intro g2 w1 S)
    | ((with_reducible refine wpl_isLoad ?_); first
      | (refine S.ld 3 _ rfl g 1 rfl 0 (Cel.any [.int .i64 53, .int .i64 52]) rfl _ rfl _ Tryd.underlying3 rfl rfl ?_)
      | (refine S.ld 3 _ rfl g2 1 rfl 0 (Cel.any [.int .i64 14, .int .i64 15]) rfl _ rfl _ Tryd.underlying3 rfl rfl ?_)
      | (refine S.ld 3 _ rfl b2 0 rfl 0 (Cel.iv (iZ 52 0 0 0 14 false false)) rfl _ rfl _ Tryd.underlying3 rfl rfl ?_)
      | (refine S.ld 3 _ rfl b2 12 rfl 1 (Cel.iv (iZ 52 13 0 ((LL : Nat) : Int) 14 true false)) rfl _ rfl _ Tryd.underlying3 rfl rfl ?_)
      | (refine S.ldAll 31 _ rfl b2 rfl 1 (Cel.iv (iZ 52 13 0 ((LL : Nat) : Int) 14 true false)) rfl _ Tryd.underlying31 rfl (szIV _) rfl ?_))
    | ((with_reducible refine wpl_isStore ?_); first
      | (refine S.store1 rfl 3 _ _ rfl b2 5 _ rfl rfl 0 (Cel.iv (iZ 52 0 0 0 14 false false)) rfl rfl (by simp [Cel.cells, IV.cellsL]) (Cel.iv (iZ 52 13 0 0 14 false false)) rfl (by kernel_rfl) ?_; clear S; intro w2 S; simp only [List.set_cons_zero, List.set_cons_succ] at S)
      | (refine S.store1 rfl 4 _ _ rfl b2 13 _ rfl rfl 0 (Cel.iv (iZ 52 13 0 0 14 false false)) rfl rfl (by simp [Cel.cells, IV.cellsL]) (Cel.iv (iZ 52 13 0 0 14 true false)) rfl (by kernel_rfl) ?_; clear S; intro w2 S; simp only [List.set_cons_zero, List.set_cons_succ] at S)
      | (refine S.store1 rfl 4 _ _ rfl b2 14 _ rfl rfl 0 (Cel.iv (iZ 52 13 0 0 14 true false)) rfl rfl (by simp [Cel.cells, IV.cellsL]) (Cel.iv (iZ 52 13 0 0 14 true false)) rfl (by kernel_rfl) ?_; clear S; intro w2 S; simp only [List.set_cons_zero, List.set_cons_succ] at S)
      | (refine S.store1 rfl 3 _ _ rfl b2 12 _ rfl rfl 1 (Cel.iv (iZ 52 13 0 0 14 true false)) rfl rfl (by simp [Cel.cells, IV.cellsL]) (Cel.iv (iZ 52 13 0 ((LL : Nat) : Int) 14 true false)) rfl (by kernel_rfl) ?_; clear S; intro w2 S; simp only [List.set_cons_zero, List.set_cons_succ] at S)
      | (refine S.storeAll rfl 31 _ _ rfl b2 (Cel.iv (iZ 52 0 0 0 14 false false)) rfl rfl 0 _ rfl rfl (one_iv _) (szIV _) ?_; clear S; intro w2 S; simp only [List.set_cons_zero, List.set_cons_succ] at S)
      | (refine S.storeAll rfl 31 _ _ rfl b1 (Cel.iv (nNone 65 h).iv) rfl rfl 3 _ rfl rfl (one_iv _) (szIV _) ?_; clear S; intro w2 S; simp only [List.set_cons_zero, List.set_cons_succ] at S))
    | (go_at_call 30; refine (plain_c _ _).mono ?_; rintro e wf ⟨rfl, hbf⟩; replace S := S.below hbf; clear hbf)
    | (go_at_call 25; refine (rbad_c _ _).mono ?_; rintro e wf ⟨rfl, hbf⟩; replace S := S.below hbf; clear hbf))
  (try simp only [Exit.inBlock, Exit.then])
  refine bodyPost_ret (S.results rfl _ _ rfl 3 _ rfl _ Tryd.underlying31 rfl (szIV _)) rfl ⟨rfl, S.low⟩
set_option maxHeartbeats 4000000 in
set_option maxRecDepth 100000 in
theorem rm4_1n (h : Nat) (hh : h < 65536) (b : Bool) (q8_4 : fd h 8 4 = 4) (q11_1 : fd h 11 1 = 1) (g : (fd h 0 8 + fd h 8 1 * 32768) ≠ 0) (w : World) : Calls Tryd.prog 29 #[.int .i64 h, .bool b] w fun e w' => Says w (rMisc h b) e w' := by
  have hN : rMisc h b = (NV.mk 52 false 14 0 13 0 0 false (fd h 0 8 + fd h 8 1 * 32768) true false) := by
    unfold rMisc
    simp [nbeq, nblt, nble, pick2, extOp, revOp, *]
    rcases (show fd h 0 8 ≠ 0 ∨ fd h 8 1 * 32768 ≠ 0 by omega) with z | z
    · rw [decide_eq_false z]; rfl
    · rw [decide_eq_false z, Bool.and_false]; rfl
  unfold Says
  rw [hN]
  clear hN
  have k8_4 : bits .and .i64 ((h : Int) / 256) 15 = 4 := by have := i64_fd h 8 4 hh (by decide) ((h : Int) / 256) 15 (by first | rfl | simp) rfl; rw [this, q8_4]; rfl
  have k11_1 : bits .and .i64 ((h : Int) / 2048) 1 = 1 := by have := i64_fd h 11 1 hh (by decide) ((h : Int) / 2048) 1 (by first | rfl | simp) rfl; rw [this, q11_1]; rfl
  have k0_3 : bits .and .i64 ((h : Int)) 7 = ((fd h 0 3 : Nat) : Int) := i64_fd h 0 3 hh (by decide) _ _ (by first | rfl | simp) rfl
  have f0_3 : fd h 0 3 < 8 := fd_lt h 0 3
  have k3_3 : bits .and .i64 ((h : Int) / 8) 7 = ((fd h 3 3 : Nat) : Int) := i64_fd h 3 3 hh (by decide) _ _ (by first | rfl | simp) rfl
  have f3_3 : fd h 3 3 < 8 := fd_lt h 3 3
  have k0_8 : bits .and .i64 ((h : Int)) 255 = ((fd h 0 8 : Nat) : Int) := i64_fd h 0 8 hh (by decide) _ _ (by first | rfl | simp) rfl
  have f0_8 : fd h 0 8 < 256 := fd_lt h 0 8
  have k8_1 : bits .and .i64 ((h : Int) / 256) 1 = ((fd h 8 1 : Nat) : Int) := i64_fd h 8 1 hh (by decide) _ _ (by first | rfl | simp) rfl
  have f8_1 : fd h 8 1 < 2 := fd_lt h 8 1
  have lj := list15 h
  generalize hLL : fd h 0 8 + fd h 8 1 * 32768 = LL at *
  have tl : (((LL : Nat) : Int) == 0) = false := by simp; omega
  clear g
  go_enter Tryd.func29, Tryd.ntmps29
  have S := SH.start w
  go_wp2_with (first
    | ((with_reducible refine wpl_isDst 4 ?_); refine SH.alloc (L := []) S rfl 31 rfl (Cel.iv IV.zero) zeroIV ?_; clear S; intro b1 w1 S)
    | ((with_reducible refine wpl_isDst 9 ?_); refine S.alloc rfl 31 rfl (Cel.iv IV.zero) zeroIV ?_; clear S; intro b2 w1 S)
    | ((with_reducible refine wpl_isDst 80 ?_); refine S.sliceA rfl 23 2 _ rfl [.int .i64 53, .int .i64 52] 3 (by kernel_rfl) ?_; clear S; intro g w1 S)
    | ((with_reducible refine wpl_isDst 98 ?_); refine S.sliceA rfl 23 2 _ rfl [.int .i64 14, .int .i64 15] 3 (by kernel_rfl) ?_; clear S; intro g2 w1 S)
    | ((with_reducible refine wpl_isLoad ?_); first
      | (refine S.ld 3 _ rfl g 1 rfl 0 (Cel.any [.int .i64 53, .int .i64 52]) rfl _ rfl _ Tryd.underlying3 rfl rfl ?_)
      | (refine S.ld 3 _ rfl g2 1 rfl 0 (Cel.any [.int .i64 14, .int .i64 15]) rfl _ rfl _ Tryd.underlying3 rfl rfl ?_)
      | (refine S.ld 3 _ rfl b2 0 rfl 0 (Cel.iv (iZ 52 0 0 0 14 false false)) rfl _ rfl _ Tryd.underlying3 rfl rfl ?_)
      | (refine S.ld 3 _ rfl b2 12 rfl 1 (Cel.iv (iZ 52 13 0 ((LL : Nat) : Int) 14 true false)) rfl _ rfl _ Tryd.underlying3 rfl rfl ?_)
      | (refine S.ldAll 31 _ rfl b2 rfl 1 (Cel.iv (iZ 52 13 0 ((LL : Nat) : Int) 14 true false)) rfl _ Tryd.underlying31 rfl (szIV _) rfl ?_))
    | ((with_reducible refine wpl_isStore ?_); first
      | (refine S.store1 rfl 3 _ _ rfl b2 5 _ rfl rfl 0 (Cel.iv (iZ 52 0 0 0 14 false false)) rfl rfl (by simp [Cel.cells, IV.cellsL]) (Cel.iv (iZ 52 13 0 0 14 false false)) rfl (by kernel_rfl) ?_; clear S; intro w2 S; simp only [List.set_cons_zero, List.set_cons_succ] at S)
      | (refine S.store1 rfl 4 _ _ rfl b2 13 _ rfl rfl 0 (Cel.iv (iZ 52 13 0 0 14 false false)) rfl rfl (by simp [Cel.cells, IV.cellsL]) (Cel.iv (iZ 52 13 0 0 14 true false)) rfl (by kernel_rfl) ?_; clear S; intro w2 S; simp only [List.set_cons_zero, List.set_cons_succ] at S)
      | (refine S.store1 rfl 4 _ _ rfl b2 14 _ rfl rfl 0 (Cel.iv (iZ 52 13 0 0 14 true false)) rfl rfl (by simp [Cel.cells, IV.cellsL]) (Cel.iv (iZ 52 13 0 0 14 true false)) rfl (by kernel_rfl) ?_; clear S; intro w2 S; simp only [List.set_cons_zero, List.set_cons_succ] at S)
      | (refine S.store1 rfl 3 _ _ rfl b2 12 _ rfl rfl 1 (Cel.iv (iZ 52 13 0 0 14 true false)) rfl rfl (by simp [Cel.cells, IV.cellsL]) (Cel.iv (iZ 52 13 0 ((LL : Nat) : Int) 14 true false)) rfl (by kernel_rfl) ?_; clear S; intro w2 S; simp only [List.set_cons_zero, List.set_cons_succ] at S)
      | (refine S.storeAll rfl 31 _ _ rfl b2 (Cel.iv (iZ 52 0 0 0 14 false false)) rfl rfl 0 _ rfl rfl (one_iv _) (szIV _) ?_; clear S; intro w2 S; simp only [List.set_cons_zero, List.set_cons_succ] at S)
      | (refine S.storeAll rfl 31 _ _ rfl b1 (Cel.iv (NV.mk 52 false 14 0 13 0 0 false LL true false).iv) rfl rfl 3 _ rfl rfl (one_iv _) (szIV _) ?_; clear S; intro w2 S; simp only [List.set_cons_zero, List.set_cons_succ] at S))
    | (go_at_call 30; refine (plain_c _ _).mono ?_; rintro e wf ⟨rfl, hbf⟩; replace S := S.below hbf; clear hbf)
    | (go_at_call 25; refine (rbad_c _ _).mono ?_; rintro e wf ⟨rfl, hbf⟩; replace S := S.below hbf; clear hbf))
  (try simp only [Exit.inBlock, Exit.then])
  refine bodyPost_ret (S.results rfl _ _ rfl 3 _ rfl _ Tryd.underlying31 rfl (szIV _)) rfl ⟨rfl, S.low⟩
set_option maxHeartbeats 4000000 in
set_option maxRecDepth 100000 in
theorem rm5_0z (h : Nat) (hh : h < 65536) (b : Bool) (q8_4 : fd h 8 4 = 5) (q11_1 : fd h 11 1 = 0) (g : (fd h 0 8 + fd h 8 1 * 16384) = 0) (w : World) : Calls Tryd.prog 29 #[.int .i64 h, .bool b] w fun e w' => Says w (rMisc h b) e w' := by
  have hN : rMisc h b = (nNone 65 h) := by
    unfold rMisc
    simp [nbeq, nblt, nble, pick2, extOp, revOp, *] <;> omega
  unfold Says
  rw [hN]
  clear hN
  have k8_4 : bits .and .i64 ((h : Int) / 256) 15 = 5 := by have := i64_fd h 8 4 hh (by decide) ((h : Int) / 256) 15 (by first | rfl | simp) rfl; rw [this, q8_4]; rfl
  have k11_1 : bits .and .i64 ((h : Int) / 2048) 1 = 0 := by have := i64_fd h 11 1 hh (by decide) ((h : Int) / 2048) 1 (by first | rfl | simp) rfl; rw [this, q11_1]; rfl
  have k0_3 : bits .and .i64 ((h : Int)) 7 = ((fd h 0 3 : Nat) : Int) := i64_fd h 0 3 hh (by decide) _ _ (by first | rfl | simp) rfl
  have f0_3 : fd h 0 3 < 8 := fd_lt h 0 3
  have k3_3 : bits .and .i64 ((h : Int) / 8) 7 = ((fd h 3 3 : Nat) : Int) := i64_fd h 3 3 hh (by decide) _ _ (by first | rfl | simp) rfl
  have f3_3 : fd h 3 3 < 8 := fd_lt h 3 3
  have k0_8 : bits .and .i64 ((h : Int)) 255 = ((fd h 0 8 : Nat) : Int) := i64_fd h 0 8 hh (by decide) _ _ (by first | rfl | simp) rfl
  have f0_8 : fd h 0 8 < 256 := fd_lt h 0 8
  have k8_1 : bits .and .i64 ((h : Int) / 256) 1 = ((fd h 8 1 : Nat) : Int) := i64_fd h 8 1 hh (by decide) _ _ (by first | rfl | simp) rfl
  have f8_1 : fd h 8 1 < 2 := fd_lt h 8 1
  have lj := list14 h
  generalize hLL : fd h 0 8 + fd h 8 1 * 16384 = LL at *
  have tl : (((LL : Nat) : Int) == 0) = true := by simp; omega
  clear g
  go_enter Tryd.func29, Tryd.ntmps29
  have S := SH.start w
  go_wp2_with (first
    | ((with_reducible refine wpl_isDst 4 ?_); refine SH.alloc (L := []) S rfl 31 rfl (Cel.iv IV.zero) zeroIV ?_; clear S; intro b1 w1 S)
    | ((with_reducible refine wpl_isDst 9 ?_); refine S.alloc rfl 31 rfl (Cel.iv IV.zero) zeroIV ?_; clear S; intro b2 w1 S)
    | ((with_reducible refine wpl_isDst 80 ?_); refine S.sliceA rfl 23 2 _ rfl [.int .i64 53, .int .i64 52] 3 (by kernel_rfl) ?_; clear S; intro g w1 S)
    | ((with_reducible refine wpl_isDst 98 ?_); refine S.sliceA rfl 23 2 _ rfl [.int .i64 14, .int .i64 15] 3 (by kernel_rfl) ?_; clear S; intro g2 w1 S)
    | ((with_reducible refine wpl_isLoad ?_); first
      | (refine S.ld 3 _ rfl g 0 rfl 0 (Cel.any [.int .i64 53, .int .i64 52]) rfl _ rfl _ Tryd.underlying3 rfl rfl ?_)
      | (refine S.ld 3 _ rfl g2 0 rfl 0 (Cel.any [.int .i64 14, .int .i64 15]) rfl _ rfl _ Tryd.underlying3 rfl rfl ?_)
      | (refine S.ld 3 _ rfl b2 0 rfl 0 (Cel.iv (iZ 53 0 0 0 14 false false)) rfl _ rfl _ Tryd.underlying3 rfl rfl ?_)
      | (refine S.ld 3 _ rfl b2 12 rfl 1 (Cel.iv (iZ 53 13 0 ((LL : Nat) : Int) 14 true true)) rfl _ rfl _ Tryd.underlying3 rfl rfl ?_)
      | (refine S.ldAll 31 _ rfl b2 rfl 1 (Cel.iv (iZ 53 13 0 ((LL : Nat) : Int) 14 true true)) rfl _ Tryd.underlying31 rfl (szIV _) rfl ?_))
    | ((with_reducible refine wpl_isStore ?_); first
      | (refine S.store1 rfl 3 _ _ rfl b2 5 _ rfl rfl 0 (Cel.iv (iZ 53 0 0 0 14 false false)) rfl rfl (by simp [Cel.cells, IV.cellsL]) (Cel.iv (iZ 53 13 0 0 14 false false)) rfl (by kernel_rfl) ?_; clear S; intro w2 S; simp only [List.set_cons_zero, List.set_cons_succ] at S)
      | (refine S.store1 rfl 4 _ _ rfl b2 13 _ rfl rfl 0 (Cel.iv (iZ 53 13 0 0 14 false false)) rfl rfl (by simp [Cel.cells, IV.cellsL]) (Cel.iv (iZ 53 13 0 0 14 true false)) rfl (by kernel_rfl) ?_; clear S; intro w2 S; simp only [List.set_cons_zero, List.set_cons_succ] at S)
      | (refine S.store1 rfl 4 _ _ rfl b2 14 _ rfl rfl 0 (Cel.iv (iZ 53 13 0 0 14 true false)) rfl rfl (by simp [Cel.cells, IV.cellsL]) (Cel.iv (iZ 53 13 0 0 14 true true)) rfl (by kernel_rfl) ?_; clear S; intro w2 S; simp only [List.set_cons_zero, List.set_cons_succ] at S)
      | (refine S.store1 rfl 3 _ _ rfl b2 12 _ rfl rfl 1 (Cel.iv (iZ 53 13 0 0 14 true true)) rfl rfl (by simp [Cel.cells, IV.cellsL]) (Cel.iv (iZ 53 13 0 ((LL : Nat) : Int) 14 true true)) rfl (by kernel_rfl) ?_; clear S; intro w2 S; simp only [List.set_cons_zero, List.set_cons_succ] at S)
      | (refine S.storeAll rfl 31 _ _ rfl b2 (Cel.iv (iZ 53 0 0 0 14 false false)) rfl rfl 0 _ rfl rfl (one_iv _) (szIV _) ?_; clear S; intro w2 S; simp only [List.set_cons_zero, List.set_cons_succ] at S)
      | (refine S.storeAll rfl 31 _ _ rfl b1 (Cel.iv (nNone 65 h).iv) rfl rfl 3 _ rfl rfl (one_iv _) (szIV _) ?_; clear S; intro w2 S; simp only [List.set_cons_zero, List.set_cons_succ] at S))
    | (go_at_call 30; refine (plain_c _ _).mono ?_; rintro e wf ⟨rfl, hbf⟩; replace S := S.below hbf; clear hbf)
    | (go_at_call 25; refine (rbad_c _ _).mono ?_; rintro e wf ⟨rfl, hbf⟩; replace S := S.below hbf; clear hbf))
  (try simp only [Exit.inBlock, Exit.then])
  refine bodyPost_ret (S.results rfl _ _ rfl 3 _ rfl _ Tryd.underlying31 rfl (szIV _)) rfl ⟨rfl, S.low⟩
set_option maxHeartbeats 4000000 in
set_option maxRecDepth 100000 in
theorem rm5_0n (h : Nat) (hh : h < 65536) (b : Bool) (q8_4 : fd h 8 4 = 5) (q11_1 : fd h 11 1 = 0) (g : (fd h 0 8 + fd h 8 1 * 16384) ≠ 0) (w : World) : Calls Tryd.prog 29 #[.int .i64 h, .bool b] w fun e w' => Says w (rMisc h b) e w' := by
  have hN : rMisc h b = (NV.mk 53 false 14 0 13 0 0 false (fd h 0 8 + fd h 8 1 * 16384) true true) := by
    unfold rMisc
    simp [nbeq, nblt, nble, pick2, extOp, revOp, *]
    rcases (show fd h 0 8 ≠ 0 ∨ fd h 8 1 * 16384 ≠ 0 by omega) with z | z
    · rw [decide_eq_false z]; rfl
    · rw [decide_eq_false z, Bool.and_false]; rfl
  unfold Says
  rw [hN]
  clear hN
  have k8_4 : bits .and .i64 ((h : Int) / 256) 15 = 5 := by have := i64_fd h 8 4 hh (by decide) ((h : Int) / 256) 15 (by first | rfl | simp) rfl; rw [this, q8_4]; rfl
  have k11_1 : bits .and .i64 ((h : Int) / 2048) 1 = 0 := by have := i64_fd h 11 1 hh (by decide) ((h : Int) / 2048) 1 (by first | rfl | simp) rfl; rw [this, q11_1]; rfl
  have k0_3 : bits .and .i64 ((h : Int)) 7 = ((fd h 0 3 : Nat) : Int) := i64_fd h 0 3 hh (by decide) _ _ (by first | rfl | simp) rfl
  have f0_3 : fd h 0 3 < 8 := fd_lt h 0 3
  have k3_3 : bits .and .i64 ((h : Int) / 8) 7 = ((fd h 3 3 : Nat) : Int) := i64_fd h 3 3 hh (by decide) _ _ (by first | rfl | simp) rfl
  have f3_3 : fd h 3 3 < 8 := fd_lt h 3 3
  have k0_8 : bits .and .i64 ((h : Int)) 255 = ((fd h 0 8 : Nat) : Int) := i64_fd h 0 8 hh (by decide) _ _ (by first | rfl | simp) rfl
  have f0_8 : fd h 0 8 < 256 := fd_lt h 0 8
  have k8_1 : bits .and .i64 ((h : Int) / 256) 1 = ((fd h 8 1 : Nat) : Int) := i64_fd h 8 1 hh (by decide) _ _ (by first | rfl | simp) rfl
  have f8_1 : fd h 8 1 < 2 := fd_lt h 8 1
  have lj := list14 h
  generalize hLL : fd h 0 8 + fd h 8 1 * 16384 = LL at *
  have tl : (((LL : Nat) : Int) == 0) = false := by simp; omega
  clear g
  go_enter Tryd.func29, Tryd.ntmps29
  have S := SH.start w
  go_wp2_with (first
    | ((with_reducible refine wpl_isDst 4 ?_); refine SH.alloc (L := []) S rfl 31 rfl (Cel.iv IV.zero) zeroIV ?_; clear S; intro b1 w1 S)
    | ((with_reducible refine wpl_isDst 9 ?_); refine S.alloc rfl 31 rfl (Cel.iv IV.zero) zeroIV ?_; clear S; intro b2 w1 S)
    | ((with_reducible refine wpl_isDst 80 ?_); refine S.sliceA rfl 23 2 _ rfl [.int .i64 53, .int .i64 52] 3 (by kernel_rfl) ?_; clear S; intro g w1 S)
    | ((with_reducible refine wpl_isDst 98 ?_); refine S.sliceA rfl 23 2 _ rfl [.int .i64 14, .int .i64 15] 3 (by kernel_rfl) ?_; clear S; intro g2 w1 S)
    | ((with_reducible refine wpl_isLoad ?_); first
      | (refine S.ld 3 _ rfl g 0 rfl 0 (Cel.any [.int .i64 53, .int .i64 52]) rfl _ rfl _ Tryd.underlying3 rfl rfl ?_)
      | (refine S.ld 3 _ rfl g2 0 rfl 0 (Cel.any [.int .i64 14, .int .i64 15]) rfl _ rfl _ Tryd.underlying3 rfl rfl ?_)
      | (refine S.ld 3 _ rfl b2 0 rfl 0 (Cel.iv (iZ 53 0 0 0 14 false false)) rfl _ rfl _ Tryd.underlying3 rfl rfl ?_)
      | (refine S.ld 3 _ rfl b2 12 rfl 1 (Cel.iv (iZ 53 13 0 ((LL : Nat) : Int) 14 true true)) rfl _ rfl _ Tryd.underlying3 rfl rfl ?_)
      | (refine S.ldAll 31 _ rfl b2 rfl 1 (Cel.iv (iZ 53 13 0 ((LL : Nat) : Int) 14 true true)) rfl _ Tryd.underlying31 rfl (szIV _) rfl ?_))
    | ((with_reducible refine wpl_isStore ?_); first
      | (refine S.store1 rfl 3 _ _ rfl b2 5 _ rfl rfl 0 (Cel.iv (iZ 53 0 0 0 14 false false)) rfl rfl (by simp [Cel.cells, IV.cellsL]) (Cel.iv (iZ 53 13 0 0 14 false false)) rfl (by kernel_rfl) ?_; clear S; intro w2 S; simp only [List.set_cons_zero, List.set_cons_succ] at S)
      | (refine S.store1 rfl 4 _ _ rfl b2 13 _ rfl rfl 0 (Cel.iv (iZ 53 13 0 0 14 false false)) rfl rfl (by simp [Cel.cells, IV.cellsL]) (Cel.iv (iZ 53 13 0 0 14 true false)) rfl (by kernel_rfl) ?_; clear S; intro w2 S; simp only [List.set_cons_zero, List.set_cons_succ] at S)
      | (refine S.store1 rfl 4 _ _ rfl b2 14 _ rfl rfl 0 (Cel.iv (iZ 53 13 0 0 14 true false)) rfl rfl (by simp [Cel.cells, IV.cellsL]) (Cel.iv (iZ 53 13 0 0 14 true true)) rfl (by kernel_rfl) ?_; clear S; intro w2 S; simp only [List.set_cons_zero, List.set_cons_succ] at S)
      | (refine S.store1 rfl 3 _ _ rfl b2 12 _ rfl rfl 1 (Cel.iv (iZ 53 13 0 0 14 true true)) rfl rfl (by simp [Cel.cells, IV.cellsL]) (Cel.iv (iZ 53 13 0 ((LL : Nat) : Int) 14 true true)) rfl (by kernel_rfl) ?_; clear S; intro w2 S; simp only [List.set_cons_zero, List.set_cons_succ] at S)
      | (refine S.storeAll rfl 31 _ _ rfl b2 (Cel.iv (iZ 53 0 0 0 14 false false)) rfl rfl 0 _ rfl rfl (one_iv _) (szIV _) ?_; clear S; intro w2 S; simp only [List.set_cons_zero, List.set_cons_succ] at S)
      | (refine S.storeAll rfl 31 _ _ rfl b1 (Cel.iv (NV.mk 53 false 14 0 13 0 0 false LL true true).iv) rfl rfl 3 _ rfl rfl (one_iv _) (szIV _) ?_; clear S; intro w2 S; simp only [List.set_cons_zero, List.set_cons_succ] at S))
    | (go_at_call 30; refine (plain_c _ _).mono ?_; rintro e wf ⟨rfl, hbf⟩; replace S := S.below hbf; clear hbf)
    | (go_at_call 25; refine (rbad_c _ _).mono ?_; rintro e wf ⟨rfl, hbf⟩; replace S := S.below hbf; clear hbf))
  (try simp only [Exit.inBlock, Exit.then])
  refine bodyPost_ret (S.results rfl _ _ rfl 3 _ rfl _ Tryd.underlying31 rfl (szIV _)) rfl ⟨rfl, S.low⟩
set_option maxHeartbeats 4000000 in
set_option maxRecDepth 100000 in
theorem rm5_1z (h : Nat) (hh : h < 65536) (b : Bool) (q8_4 : fd h 8 4 = 5) (q11_1 : fd h 11 1 = 1) (g : (fd h 0 8 + fd h 8 1 * 32768) = 0) (w : World) : Calls Tryd.prog 29 #[.int .i64 h, .bool b] w fun e w' => Says w (rMisc h b) e w' := by
  have hN : rMisc h b = (nNone 65 h) := by
    unfold rMisc
    simp [nbeq, nblt, nble, pick2, extOp, revOp, *] <;> omega
  unfold Says
  rw [hN]
  clear hN
  have k8_4 : bits .and .i64 ((h : Int) / 256) 15 = 5 := by have := i64_fd h 8 4 hh (by decide) ((h : Int) / 256) 15 (by first | rfl | simp) rfl; rw [this, q8_4]; rfl
  have k11_1 : bits .and .i64 ((h : Int) / 2048) 1 = 1 := by have := i64_fd h 11 1 hh (by decide) ((h : Int) / 2048) 1 (by first | rfl | simp) rfl; rw [this, q11_1]; rfl
  have k0_3 : bits .and .i64 ((h : Int)) 7 = ((fd h 0 3 : Nat) : Int) := i64_fd h 0 3 hh (by decide) _ _ (by first | rfl | simp) rfl
  have f0_3 : fd h 0 3 < 8 := fd_lt h 0 3
  have k3_3 : bits .and .i64 ((h : Int) / 8) 7 = ((fd h 3 3 : Nat) : Int) := i64_fd h 3 3 hh (by decide) _ _ (by first | rfl | simp) rfl
  have f3_3 : fd h 3 3 < 8 := fd_lt h 3 3
  have k0_8 : bits .and .i64 ((h : Int)) 255 = ((fd h 0 8 : Nat) : Int) := i64_fd h 0 8 hh (by decide) _ _ (by first | rfl | simp) rfl
  have f0_8 : fd h 0 8 < 256 := fd_lt h 0 8
  have k8_1 : bits .and .i64 ((h : Int) / 256) 1 = ((fd h 8 1 : Nat) : Int) := i64_fd h 8 1 hh (by decide) _ _ (by first | rfl | simp) rfl
  have f8_1 : fd h 8 1 < 2 := fd_lt h 8 1
  have lj := list15 h
  generalize hLL : fd h 0 8 + fd h 8 1 * 32768 = LL at *
  have tl : (((LL : Nat) : Int) == 0) = true := by simp; omega
  clear g
  go_enter Tryd.func29, Tryd.ntmps29
  have S := SH.start w
  go_wp2_with (first
    | ((with_reducible refine wpl_isDst 4 ?_); refine SH.alloc (L := []) S rfl 31 rfl (Cel.iv IV.zero) zeroIV ?_; clear S; intro b1 w1 S)
    | ((with_reducible refine wpl_isDst 9 ?_); refine S.alloc rfl 31 rfl (Cel.iv IV.zero) zeroIV ?_; clear S; intro b2 w1 S)
    | ((with_reducible refine wpl_isDst 80 ?_); refine S.sliceA rfl 23 2 _ rfl [.int .i64 53, .int .i64 52] 3 (by kernel_rfl) ?_; clear S; intro g w1 S)
    | ((with_reducible refine wpl_isDst 98 ?_); refine S.sliceA rfl 23 2 _ rfl [.int .i64 14, .int .i64 15] 3 (by kernel_rfl) ?_; clear S; intro g2 w1 S)
    | ((with_reducible refine wpl_isLoad ?_); first
      | (refine S.ld 3 _ rfl g 1 rfl 0 (Cel.any [.int .i64 53, .int .i64 52]) rfl _ rfl _ Tryd.underlying3 rfl rfl ?_)
      | (refine S.ld 3 _ rfl g2 1 rfl 0 (Cel.any [.int .i64 14, .int .i64 15]) rfl _ rfl _ Tryd.underlying3 rfl rfl ?_)
      | (refine S.ld 3 _ rfl b2 0 rfl 0 (Cel.iv (iZ 52 0 0 0 14 false false)) rfl _ rfl _ Tryd.underlying3 rfl rfl ?_)
      | (refine S.ld 3 _ rfl b2 12 rfl 1 (Cel.iv (iZ 52 13 0 ((LL : Nat) : Int) 14 true false)) rfl _ rfl _ Tryd.underlying3 rfl rfl ?_)
      | (refine S.ldAll 31 _ rfl b2 rfl 1 (Cel.iv (iZ 52 13 0 ((LL : Nat) : Int) 14 true false)) rfl _ Tryd.underlying31 rfl (szIV _) rfl ?_))
    | ((with_reducible refine wpl_isStore ?_); first
      | (refine S.store1 rfl 3 _ _ rfl b2 5 _ rfl rfl 0 (Cel.iv (iZ 52 0 0 0 14 false false)) rfl rfl (by simp [Cel.cells, IV.cellsL]) (Cel.iv (iZ 52 13 0 0 14 false false)) rfl (by kernel_rfl) ?_; clear S; intro w2 S; simp only [List.set_cons_zero, List.set_cons_succ] at S)
      | (refine S.store1 rfl 4 _ _ rfl b2 13 _ rfl rfl 0 (Cel.iv (iZ 52 13 0 0 14 false false)) rfl rfl (by simp [Cel.cells, IV.cellsL]) (Cel.iv (iZ 52 13 0 0 14 true false)) rfl (by kernel_rfl) ?_; clear S; intro w2 S; simp only [List.set_cons_zero, List.set_cons_succ] at S)
      | (refine S.store1 rfl 4 _ _ rfl b2 14 _ rfl rfl 0 (Cel.iv (iZ 52 13 0 0 14 true false)) rfl rfl (by simp [Cel.cells, IV.cellsL]) (Cel.iv (iZ 52 13 0 0 14 true false)) rfl (by kernel_rfl) ?_; clear S; intro w2 S; simp only [List.set_cons_zero, List.set_cons_succ] at S)
      | (refine S.store1 rfl 3 _ _ rfl b2 12 _ rfl rfl 1 (Cel.iv (iZ 52 13 0 0 14 true false)) rfl rfl (by simp [Cel.cells, IV.cellsL]) (Cel.iv (iZ 52 13 0 ((LL : Nat) : Int) 14 true false)) rfl (by kernel_rfl) ?_; clear S; intro w2 S; simp only [List.set_cons_zero, List.set_cons_succ] at S)
      | (refine S.storeAll rfl 31 _ _ rfl b2 (Cel.iv (iZ 52 0 0 0 14 false false)) rfl rfl 0 _ rfl rfl (one_iv _) (szIV _) ?_; clear S; intro w2 S; simp only [List.set_cons_zero, List.set_cons_succ] at S)
      | (refine S.storeAll rfl 31 _ _ rfl b1 (Cel.iv (nNone 65 h).iv) rfl rfl 3 _ rfl rfl (one_iv _) (szIV _) ?_; clear S; intro w2 S; simp only [List.set_cons_zero, List.set_cons_succ] at S))
    | (go_at_call 30; refine (plain_c _ _).mono ?_; rintro e wf ⟨rfl, hbf⟩; replace S := S.below hbf; clear hbf)
    | (go_at_call 25; refine (rbad_c _ _).mono ?_; rintro e wf ⟨rfl, hbf⟩; replace S := S.below hbf; clear hbf))
  (try simp only [Exit.inBlock, Exit.then])
  refine bodyPost_ret (S.results rfl _ _ rfl 3 _ rfl _ Tryd.underlying31 rfl (szIV _)) rfl ⟨rfl, S.low⟩
set_option maxHeartbeats 4000000 in
set_option maxRecDepth 100000 in
theorem rm5_1n (h : Nat) (hh : h < 65536) (b : Bool) (q8_4 : fd h 8 4 = 5) (q11_1 : fd h 11 1 = 1) (g : (fd h 0 8 + fd h 8 1 * 32768) ≠ 0) (w : World) : Calls Tryd.prog 29 #[.int .i64 h, .bool b] w fun e w' => Says w (rMisc h b) e w' := by
  have hN : rMisc h b = (NV.mk 52 false 14 0 13 0 0 false (fd h 0 8 + fd h 8 1 * 32768) true false) := by
    unfold rMisc
    simp [nbeq, nblt, nble, pick2, extOp, revOp, *]
    rcases (show fd h 0 8 ≠ 0 ∨ fd h 8 1 * 32768 ≠ 0 by omega) with z | z
    · rw [decide_eq_false z]; rfl
    · rw [decide_eq_false z, Bool.and_false]; rfl
  unfold Says
  rw [hN]
  clear hN
  have k8_4 : bits .and .i64 ((h : Int) / 256) 15 = 5 := by have := i64_fd h 8 4 hh (by decide) ((h : Int) / 256) 15 (by first | rfl | simp) rfl; rw [this, q8_4]; rfl
  have k11_1 : bits .and .i64 ((h : Int) / 2048) 1 = 1 := by have := i64_fd h 11 1 hh (by decide) ((h : Int) / 2048) 1 (by first | rfl | simp) rfl; rw [this, q11_1]; rfl
  have k0_3 : bits .and .i64 ((h : Int)) 7 = ((fd h 0 3 : Nat) : Int) := i64_fd h 0 3 hh (by decide) _ _ (by first | rfl | simp) rfl
  have f0_3 : fd h 0 3 < 8 := fd_lt h 0 3
  have k3_3 : bits .and .i64 ((h : Int) / 8) 7 = ((fd h 3 3 : Nat) : Int) := i64_fd h 3 3 hh (by decide) _ _ (by first | rfl | simp) rfl
  have f3_3 : fd h 3 3 < 8 := fd_lt h 3 3
  have k0_8 : bits .and .i64 ((h : Int)) 255 = ((fd h 0 8 : Nat) : Int) := i64_fd h 0 8 hh (by decide) _ _ (by first | rfl | simp) rfl
  have f0_8 : fd h 0 8 < 256 := fd_lt h 0 8
  have k8_1 : bits .and .i64 ((h : Int) / 256) 1 = ((fd h 8 1 : Nat) : Int) := i64_fd h 8 1 hh (by decide) _ _ (by first | rfl | simp) rfl
  have f8_1 : fd h 8 1 < 2 := fd_lt h 8 1
  have lj := list15 h
  generalize hLL : fd h 0 8 + fd h 8 1 * 32768 = LL at *
  have tl : (((LL : Nat) : Int) == 0) = false := by simp; omega
  clear g
  go_enter Tryd.func29, Tryd.ntmps29
  have S := SH.start w
  go_wp2_with (first
    | ((with_reducible refine wpl_isDst 4 ?_); refine SH.alloc (L := []) S rfl 31 rfl (Cel.iv IV.zero) zeroIV ?_; clear S; intro b1 w1 S)
    | ((with_reducible refine wpl_isDst 9 ?_); refine S.alloc rfl 31 rfl (Cel.iv IV.zero) zeroIV ?_; clear S; intro b2 w1 S)
    | ((with_reducible refine wpl_isDst 80 ?_); refine S.sliceA rfl 23 2 _ rfl [.int .i64 53, .int .i64 52] 3 (by kernel_rfl) ?_; clear S; intro g w1 S)
    | ((with_reducible refine wpl_isDst 98 ?_); refine S.sliceA rfl 23 2 _ rfl [.int .i64 14, .int .i64 15] 3 (by kernel_rfl) ?_; clear S; intro g2 w1 S)
    | ((with_reducible refine wpl_isLoad ?_); first
      | (refine S.ld 3 _ rfl g 1 rfl 0 (Cel.any [.int .i64 53, .int .i64 52]) rfl _ rfl _ Tryd.underlying3 rfl rfl ?_)
      | (refine S.ld 3 _ rfl g2 1 rfl 0 (Cel.any [.int .i64 14, .int .i64 15]) rfl _ rfl _ Tryd.underlying3 rfl rfl ?_)
      | (refine S.ld 3 _ rfl b2 0 rfl 0 (Cel.iv (iZ 52 0 0 0 14 false false)) rfl _ rfl _ Tryd.underlying3 rfl rfl ?_)
      | (refine S.ld 3 _ rfl b2 12 rfl 1 (Cel.iv (iZ 52 13 0 ((LL : Nat) : Int) 14 true false)) rfl _ rfl _ Tryd.underlying3 rfl rfl ?_)
      | (refine S.ldAll 31 _ rfl b2 rfl 1 (Cel.iv (iZ 52 13 0 ((LL : Nat) : Int) 14 true false)) rfl _ Tryd.underlying31 rfl (szIV _) rfl ?_))
    | ((with_reducible refine wpl_isStore ?_); first
      | (refine S.store1 rfl 3 _ _ rfl b2 5 _ rfl rfl 0 (Cel.iv (iZ 52 0 0 0 14 false false)) rfl rfl (by simp [Cel.cells, IV.cellsL]) (Cel.iv (iZ 52 13 0 0 14 false false)) rfl (by kernel_rfl) ?_; clear S; intro w2 S; simp only [List.set_cons_zero, List.set_cons_succ] at S)
      | (refine S.store1 rfl 4 _ _ rfl b2 13 _ rfl rfl 0 (Cel.iv (iZ 52 13 0 0 14 false false)) rfl rfl (by simp [Cel.cells, IV.cellsL]) (Cel.iv (iZ 52 13 0 0 14 true false)) rfl (by kernel_rfl) ?_; clear S; intro w2 S; simp only [List.set_cons_zero, List.set_cons_succ] at S)
      | (refine S.store1 rfl 4 _ _ rfl b2 14 _ rfl rfl 0 (Cel.iv (iZ 52 13 0 0 14 true false)) rfl rfl (by simp [Cel.cells, IV.cellsL]) (Cel.iv (iZ 52 13 0 0 14 true false)) rfl (by kernel_rfl) ?_; clear S; intro w2 S; simp only [List.set_cons_zero, List.set_cons_succ] at S)
      | (refine S.store1 rfl 3 _ _ rfl b2 12 _ rfl rfl 1 (Cel.iv (iZ 52 13 0 0 14 true false)) rfl rfl (by simp [Cel.cells, IV.cellsL]) (Cel.iv (iZ 52 13 0 ((LL : Nat) : Int) 14 true false)) rfl (by kernel_rfl) ?_; clear S; intro w2 S; simp only [List.set_cons_zero, List.set_cons_succ] at S)
      | (refine S.storeAll rfl 31 _ _ rfl b2 (Cel.iv (iZ 52 0 0 0 14 false false)) rfl rfl 0 _ rfl rfl (one_iv _) (szIV _) ?_; clear S; intro w2 S; simp only [List.set_cons_zero, List.set_cons_succ] at S)
      | (refine S.storeAll rfl 31 _ _ rfl b1 (Cel.iv (NV.mk 52 false 14 0 13 0 0 false LL true false).iv) rfl rfl 3 _ rfl rfl (one_iv _) (szIV _) ?_; clear S; intro w2 S; simp only [List.set_cons_zero, List.set_cons_succ] at S))
    | (go_at_call 30; refine (plain_c _ _).mono ?_; rintro e wf ⟨rfl, hbf⟩; replace S := S.below hbf; clear hbf)
    | (go_at_call 25; refine (rbad_c _ _).mono ?_; rintro e wf ⟨rfl, hbf⟩; replace S := S.below hbf; clear hbf))
  (try simp only [Exit.inBlock, Exit.then])
  refine bodyPost_ret (S.results rfl _ _ rfl 3 _ rfl _ Tryd.underlying31 rfl (szIV _)) rfl ⟨rfl, S.low⟩
end Go.Proofs.YtbbkiiabjhgpkaaDoor
namespace Go.Proofs.YtbbkiiabjhgpkaaDoor
open Go.ChangeShapes Go.WideShapes Go.ChangeAt Go.RowKit
set_option linter.unusedVariables false
set_option linter.unusedSimpArgs false

set_option maxHeartbeats 4000000 in
set_option maxRecDepth 100000 in
theorem rm12_0z (h : Nat) (hh : h < 65536) (b : Bool) (q8_4 : fd h 8 4 = 12) (q11_1 : fd h 11 1 = 0) (g : (fd h 0 8 + fd h 8 1 * 16384) = 0) (w : World) : Calls Tryd.prog 29 #[.int .i64 h, .bool b] w fun e w' => Says w (rMisc h b) e w' := by
  have hN : rMisc h b = (nNone 65 h) := by
    unfold rMisc
    simp [nbeq, nblt, nble, pick2, extOp, revOp, *] <;> omega
  unfold Says
  rw [hN]
  clear hN
  have k8_4 : bits .and .i64 ((h : Int) / 256) 15 = 12 := by have := i64_fd h 8 4 hh (by decide) ((h : Int) / 256) 15 (by first | rfl | simp) rfl; rw [this, q8_4]; rfl
  have k11_1 : bits .and .i64 ((h : Int) / 2048) 1 = 0 := by have := i64_fd h 11 1 hh (by decide) ((h : Int) / 2048) 1 (by first | rfl | simp) rfl; rw [this, q11_1]; rfl
  have k0_3 : bits .and .i64 ((h : Int)) 7 = ((fd h 0 3 : Nat) : Int) := i64_fd h 0 3 hh (by decide) _ _ (by first | rfl | simp) rfl
  have f0_3 : fd h 0 3 < 8 := fd_lt h 0 3
  have k3_3 : bits .and .i64 ((h : Int) / 8) 7 = ((fd h 3 3 : Nat) : Int) := i64_fd h 3 3 hh (by decide) _ _ (by first | rfl | simp) rfl
  have f3_3 : fd h 3 3 < 8 := fd_lt h 3 3
  have k0_8 : bits .and .i64 ((h : Int)) 255 = ((fd h 0 8 : Nat) : Int) := i64_fd h 0 8 hh (by decide) _ _ (by first | rfl | simp) rfl
  have f0_8 : fd h 0 8 < 256 := fd_lt h 0 8
  have k8_1 : bits .and .i64 ((h : Int) / 256) 1 = ((fd h 8 1 : Nat) : Int) := i64_fd h 8 1 hh (by decide) _ _ (by first | rfl | simp) rfl
  have f8_1 : fd h 8 1 < 2 := fd_lt h 8 1
  have lj := list14 h
  generalize hLL : fd h 0 8 + fd h 8 1 * 16384 = LL at *
  have tl : (((LL : Nat) : Int) == 0) = true := by simp; omega
  clear g
  go_enter Tryd.func29, Tryd.ntmps29
  have S := SH.start w
  go_wp2_with (first
    | ((with_reducible refine wpl_isDst 4 ?_); refine SH.alloc (L := []) S rfl 31 rfl (Cel.iv IV.zero) zeroIV ?_; clear S; intro b1 w1 S)
    | ((with_reducible refine wpl_isDst 9 ?_); refine S.alloc rfl 31 rfl (Cel.iv IV.zero) zeroIV ?_; clear S; intro b2 w1 S)
    | ((with_reducible refine wpl_isDst 80 ?_); refine S.sliceA rfl 23 2 _ rfl [.int .i64 53, .int .i64 52] 3 (by kernel_rfl) ?_; clear S; intro g w1 S)
    | ((with_reducible refine wpl_isDst 98 ?_); refine S.sliceA rfl 23 2 _ rfl [.int .i64 14, .int .i64 15] 3 (by kernel_rfl) ?_; clear S; intro g2 w1 S)
    | ((with_reducible refine wpl_isLoad ?_); first
      | (refine S.ld 3 _ rfl g 0 rfl 0 (Cel.any [.int .i64 53, .int .i64 52]) rfl _ rfl _ Tryd.underlying3 rfl rfl ?_)
      | (refine S.ld 3 _ rfl g2 0 rfl 0 (Cel.any [.int .i64 14, .int .i64 15]) rfl _ rfl _ Tryd.underlying3 rfl rfl ?_)
      | (refine S.ld 3 _ rfl b2 0 rfl 0 (Cel.iv (iZ 53 0 0 0 14 false false)) rfl _ rfl _ Tryd.underlying3 rfl rfl ?_)
      | (refine S.ld 3 _ rfl b2 12 rfl 1 (Cel.iv (iZ 53 13 0 ((LL : Nat) : Int) 14 true true)) rfl _ rfl _ Tryd.underlying3 rfl rfl ?_)
      | (refine S.ldAll 31 _ rfl b2 rfl 1 (Cel.iv (iZ 53 13 0 ((LL : Nat) : Int) 14 true true)) rfl _ Tryd.underlying31 rfl (szIV _) rfl ?_))
    | ((with_reducible refine wpl_isStore ?_); first
      | (refine S.store1 rfl 3 _ _ rfl b2 5 _ rfl rfl 0 (Cel.iv (iZ 53 0 0 0 14 false false)) rfl rfl (by simp [Cel.cells, IV.cellsL]) (Cel.iv (iZ 53 13 0 0 14 false false)) rfl (by kernel_rfl) ?_; clear S; intro w2 S; simp only [List.set_cons_zero, List.set_cons_succ] at S)
      | (refine S.store1 rfl 4 _ _ rfl b2 13 _ rfl rfl 0 (Cel.iv (iZ 53 13 0 0 14 false false)) rfl rfl (by simp [Cel.cells, IV.cellsL]) (Cel.iv (iZ 53 13 0 0 14 true false)) rfl (by kernel_rfl) ?_; clear S; intro w2 S; simp only [List.set_cons_zero, List.set_cons_succ] at S)
      | (refine S.store1 rfl 4 _ _ rfl b2 14 _ rfl rfl 0 (Cel.iv (iZ 53 13 0 0 14 true false)) rfl rfl (by simp [Cel.cells, IV.cellsL]) (Cel.iv (iZ 53 13 0 0 14 true true)) rfl (by kernel_rfl) ?_; clear S; intro w2 S; simp only [List.set_cons_zero, List.set_cons_succ] at S)
      | (refine S.store1 rfl 3 _ _ rfl b2 12 _ rfl rfl 1 (Cel.iv (iZ 53 13 0 0 14 true true)) rfl rfl (by simp [Cel.cells, IV.cellsL]) (Cel.iv (iZ 53 13 0 ((LL : Nat) : Int) 14 true true)) rfl (by kernel_rfl) ?_; clear S; intro w2 S; simp only [List.set_cons_zero, List.set_cons_succ] at S)
      | (refine S.storeAll rfl 31 _ _ rfl b2 (Cel.iv (iZ 53 0 0 0 14 false false)) rfl rfl 0 _ rfl rfl (one_iv _) (szIV _) ?_; clear S; intro w2 S; simp only [List.set_cons_zero, List.set_cons_succ] at S)
      | (refine S.storeAll rfl 31 _ _ rfl b1 (Cel.iv (nNone 65 h).iv) rfl rfl 3 _ rfl rfl (one_iv _) (szIV _) ?_; clear S; intro w2 S; simp only [List.set_cons_zero, List.set_cons_succ] at S))
    | (go_at_call 30; refine (plain_c _ _).mono ?_; rintro e wf ⟨rfl, hbf⟩; replace S := S.below hbf; clear hbf)
    | (go_at_call 25; refine (rbad_c _ _).mono ?_; rintro e wf ⟨rfl, hbf⟩; replace S := S.below hbf; clear hbf))
  (try simp only [Exit.inBlock, Exit.then])
  refine bodyPost_ret (S.results rfl _ _ rfl 3 _ rfl _ Tryd.underlying31 rfl (szIV _)) rfl ⟨rfl, S.low⟩
set_option maxHeartbeats 4000000 in
set_option maxRecDepth 100000 in
theorem rm12_0n (h : Nat) (hh : h < 65536) (b : Bool) (q8_4 : fd h 8 4 = 12) (q11_1 : fd h 11 1 = 0) (g : (fd h 0 8 + fd h 8 1 * 16384) ≠ 0) (w : World) : Calls Tryd.prog 29 #[.int .i64 h, .bool b] w fun e w' => Says w (rMisc h b) e w' := by
  have hN : rMisc h b = (NV.mk 53 false 14 0 13 0 0 false (fd h 0 8 + fd h 8 1 * 16384) true true) := by
    unfold rMisc
    simp [nbeq, nblt, nble, pick2, extOp, revOp, *]
    rcases (show fd h 0 8 ≠ 0 ∨ fd h 8 1 * 16384 ≠ 0 by omega) with z | z
    · rw [decide_eq_false z]; rfl
    · rw [decide_eq_false z, Bool.and_false]; rfl
  unfold Says
  rw [hN]
  clear hN
  have k8_4 : bits .and .i64 ((h : Int) / 256) 15 = 12 := by have := i64_fd h 8 4 hh (by decide) ((h : Int) / 256) 15 (by first | rfl | simp) rfl; rw [this, q8_4]; rfl
  have k11_1 : bits .and .i64 ((h : Int) / 2048) 1 = 0 := by have := i64_fd h 11 1 hh (by decide) ((h : Int) / 2048) 1 (by first | rfl | simp) rfl; rw [this, q11_1]; rfl
  have k0_3 : bits .and .i64 ((h : Int)) 7 = ((fd h 0 3 : Nat) : Int) := i64_fd h 0 3 hh (by decide) _ _ (by first | rfl | simp) rfl
  have f0_3 : fd h 0 3 < 8 := fd_lt h 0 3
  have k3_3 : bits .and .i64 ((h : Int) / 8) 7 = ((fd h 3 3 : Nat) : Int) := i64_fd h 3 3 hh (by decide) _ _ (by first | rfl | simp) rfl
  have f3_3 : fd h 3 3 < 8 := fd_lt h 3 3
  have k0_8 : bits .and .i64 ((h : Int)) 255 = ((fd h 0 8 : Nat) : Int) := i64_fd h 0 8 hh (by decide) _ _ (by first | rfl | simp) rfl
  have f0_8 : fd h 0 8 < 256 := fd_lt h 0 8
  have k8_1 : bits .and .i64 ((h : Int) / 256) 1 = ((fd h 8 1 : Nat) : Int) := i64_fd h 8 1 hh (by decide) _ _ (by first | rfl | simp) rfl
  have f8_1 : fd h 8 1 < 2 := fd_lt h 8 1
  have lj := list14 h
  generalize hLL : fd h 0 8 + fd h 8 1 * 16384 = LL at *
  have tl : (((LL : Nat) : Int) == 0) = false := by simp; omega
  clear g
  go_enter Tryd.func29, Tryd.ntmps29
  have S := SH.start w
  go_wp2_with (first
    | ((with_reducible refine wpl_isDst 4 ?_); refine SH.alloc (L := []) S rfl 31 rfl (Cel.iv IV.zero) zeroIV ?_; clear S; intro b1 w1 S)
    | ((with_reducible refine wpl_isDst 9 ?_); refine S.alloc rfl 31 rfl (Cel.iv IV.zero) zeroIV ?_; clear S; intro b2 w1 S)
    | ((with_reducible refine wpl_isDst 80 ?_); refine S.sliceA rfl 23 2 _ rfl [.int .i64 53, .int .i64 52] 3 (by kernel_rfl) ?_; clear S; intro g w1 S)
    | ((with_reducible refine wpl_isDst 98 ?_); refine S.sliceA rfl 23 2 _ rfl [.int .i64 14, .int .i64 15] 3 (by kernel_rfl) ?_; clear S; intro g2 w1 S)
    | ((with_reducible refine wpl_isLoad ?_); first
      | (refine S.ld 3 _ rfl g 0 rfl 0 (Cel.any [.int .i64 53, .int .i64 52]) rfl _ rfl _ Tryd.underlying3 rfl rfl ?_)
      | (refine S.ld 3 _ rfl g2 0 rfl 0 (Cel.any [.int .i64 14, .int .i64 15]) rfl _ rfl _ Tryd.underlying3 rfl rfl ?_)
      | (refine S.ld 3 _ rfl b2 0 rfl 0 (Cel.iv (iZ 53 0 0 0 14 false false)) rfl _ rfl _ Tryd.underlying3 rfl rfl ?_)
      | (refine S.ld 3 _ rfl b2 12 rfl 1 (Cel.iv (iZ 53 13 0 ((LL : Nat) : Int) 14 true true)) rfl _ rfl _ Tryd.underlying3 rfl rfl ?_)
      | (refine S.ldAll 31 _ rfl b2 rfl 1 (Cel.iv (iZ 53 13 0 ((LL : Nat) : Int) 14 true true)) rfl _ Tryd.underlying31 rfl (szIV _) rfl ?_))
    | ((with_reducible refine wpl_isStore ?_); first
      | (refine S.store1 rfl 3 _ _ rfl b2 5 _ rfl rfl 0 (Cel.iv (iZ 53 0 0 0 14 false false)) rfl rfl (by simp [Cel.cells, IV.cellsL]) (Cel.iv (iZ 53 13 0 0 14 false false)) rfl (by kernel_rfl) ?_; clear S; intro w2 S; simp only [List.set_cons_zero, List.set_cons_succ] at S)
      | (refine S.store1 rfl 4 _ _ rfl b2 13 _ rfl rfl 0 (Cel.iv (iZ 53 13 0 0 14 false false)) rfl rfl (by simp [Cel.cells, IV.cellsL]) (Cel.iv (iZ 53 13 0 0 14 true false)) rfl (by kernel_rfl) ?_; clear S; intro w2 S; simp only [List.set_cons_zero, List.set_cons_succ] at S)
      | (refine S.store1 rfl 4 _ _ rfl b2 14 _ rfl rfl 0 (Cel.iv (iZ 53 13 0 0 14 true false)) rfl rfl (by simp [Cel.cells, IV.cellsL]) (Cel.iv (iZ 53 13 0 0 14 true true)) rfl (by kernel_rfl) ?_; clear S; intro w2 S; simp only [List.set_cons_zero, List.set_cons_succ] at S)
      | (refine S.store1 rfl 3 _ _ rfl b2 12 _ rfl rfl 1 (Cel.iv (iZ 53 13 0 0 14 true true)) rfl rfl (by simp [Cel.cells, IV.cellsL]) (Cel.iv (iZ 53 13 0 ((LL : Nat) : Int) 14 true true)) rfl (by kernel_rfl) ?_; clear S; intro w2 S; simp only [List.set_cons_zero, List.set_cons_succ] at S)
      | (refine S.storeAll rfl 31 _ _ rfl b2 (Cel.iv (iZ 53 0 0 0 14 false false)) rfl rfl 0 _ rfl rfl (one_iv _) (szIV _) ?_; clear S; intro w2 S; simp only [List.set_cons_zero, List.set_cons_succ] at S)
      | (refine S.storeAll rfl 31 _ _ rfl b1 (Cel.iv (NV.mk 53 false 14 0 13 0 0 false LL true true).iv) rfl rfl 3 _ rfl rfl (one_iv _) (szIV _) ?_; clear S; intro w2 S; simp only [List.set_cons_zero, List.set_cons_succ] at S))
    | (go_at_call 30; refine (plain_c _ _).mono ?_; rintro e wf ⟨rfl, hbf⟩; replace S := S.below hbf; clear hbf)
    | (go_at_call 25; refine (rbad_c _ _).mono ?_; rintro e wf ⟨rfl, hbf⟩; replace S := S.below hbf; clear hbf))
  (try simp only [Exit.inBlock, Exit.then])
  refine bodyPost_ret (S.results rfl _ _ rfl 3 _ rfl _ Tryd.underlying31 rfl (szIV _)) rfl ⟨rfl, S.low⟩
set_option maxHeartbeats 4000000 in
set_option maxRecDepth 100000 in
theorem rm12_1z (h : Nat) (hh : h < 65536) (b : Bool) (q8_4 : fd h 8 4 = 12) (q11_1 : fd h 11 1 = 1) (g : (fd h 0 8 + fd h 8 1 * 32768) = 0) (w : World) : Calls Tryd.prog 29 #[.int .i64 h, .bool b] w fun e w' => Says w (rMisc h b) e w' := by
  have hN : rMisc h b = (nNone 65 h) := by
    unfold rMisc
    simp [nbeq, nblt, nble, pick2, extOp, revOp, *] <;> omega
  unfold Says
  rw [hN]
  clear hN
  have k8_4 : bits .and .i64 ((h : Int) / 256) 15 = 12 := by have := i64_fd h 8 4 hh (by decide) ((h : Int) / 256) 15 (by first | rfl | simp) rfl; rw [this, q8_4]; rfl
  have k11_1 : bits .and .i64 ((h : Int) / 2048) 1 = 1 := by have := i64_fd h 11 1 hh (by decide) ((h : Int) / 2048) 1 (by first | rfl | simp) rfl; rw [this, q11_1]; rfl
  have k0_3 : bits .and .i64 ((h : Int)) 7 = ((fd h 0 3 : Nat) : Int) := i64_fd h 0 3 hh (by decide) _ _ (by first | rfl | simp) rfl
  have f0_3 : fd h 0 3 < 8 := fd_lt h 0 3
  have k3_3 : bits .and .i64 ((h : Int) / 8) 7 = ((fd h 3 3 : Nat) : Int) := i64_fd h 3 3 hh (by decide) _ _ (by first | rfl | simp) rfl
  have f3_3 : fd h 3 3 < 8 := fd_lt h 3 3
  have k0_8 : bits .and .i64 ((h : Int)) 255 = ((fd h 0 8 : Nat) : Int) := i64_fd h 0 8 hh (by decide) _ _ (by first | rfl | simp) rfl
  have f0_8 : fd h 0 8 < 256 := fd_lt h 0 8
  have k8_1 : bits .and .i64 ((h : Int) / 256) 1 = ((fd h 8 1 : Nat) : Int) := i64_fd h 8 1 hh (by decide) _ _ (by first | rfl | simp) rfl
  have f8_1 : fd h 8 1 < 2 := fd_lt h 8 1
  have lj := list15 h
  generalize hLL : fd h 0 8 + fd h 8 1 * 32768 = LL at *
  have tl : (((LL : Nat) : Int) == 0) = true := by simp; omega
  clear g
  go_enter Tryd.func29, Tryd.ntmps29
  have S := SH.start w
  go_wp2_with (first
    | ((with_reducible refine wpl_isDst 4 ?_); refine SH.alloc (L := []) S rfl 31 rfl (Cel.iv IV.zero) zeroIV ?_; clear S; intro b1 w1 S)
    | ((with_reducible refine wpl_isDst 9 ?_); refine S.alloc rfl 31 rfl (Cel.iv IV.zero) zeroIV ?_; clear S; intro b2 w1 S)
    | ((with_reducible refine wpl_isDst 80 ?_); refine S.sliceA rfl 23 2 _ rfl [.int .i64 53, .int .i64 52] 3 (by kernel_rfl) ?_; clear S; intro g w1 S)
    | ((with_reducible refine wpl_isDst 98 ?_); refine S.sliceA rfl 23 2 _ rfl [.int .i64 14, .int .i64 15] 3 (by kernel_rfl) ?_; clear S; intro g2 w1 S)
    | ((with_reducible refine wpl_isLoad ?_); first
      | (refine S.ld 3 _ rfl g 1 rfl 0 (Cel.any [.int .i64 53, .int .i64 52]) rfl _ rfl _ Tryd.underlying3 rfl rfl ?_)
      | (refine S.ld 3 _ rfl g2 1 rfl 0 (Cel.any [.int .i64 14, .int .i64 15]) rfl _ rfl _ Tryd.underlying3 rfl rfl ?_)
      | (refine S.ld 3 _ rfl b2 0 rfl 0 (Cel.iv (iZ 52 0 0 0 14 false false)) rfl _ rfl _ Tryd.underlying3 rfl rfl ?_)
      | (refine S.ld 3 _ rfl b2 12 rfl 1 (Cel.iv (iZ 52 13 0 ((LL : Nat) : Int) 14 true false)) rfl _ rfl _ Tryd.underlying3 rfl rfl ?_)
      | (refine S.ldAll 31 _ rfl b2 rfl 1 (Cel.iv (iZ 52 13 0 ((LL : Nat) : Int) 14 true false)) rfl _ Tryd.underlying31 rfl (szIV _) rfl ?_))
    | ((with_reducible refine wpl_isStore ?_); first
      | (refine S.store1 rfl 3 _ _ rfl b2 5 _ rfl rfl 0 (Cel.iv (iZ 52 0 0 0 14 false false)) rfl rfl (by simp [Cel.cells, IV.cellsL]) (Cel.iv (iZ 52 13 0 0 14 false false)) rfl (by kernel_rfl) ?_; clear S; intro w2 S; simp only [List.set_cons_zero, List.set_cons_succ] at S)
      | (refine S.store1 rfl 4 _ _ rfl b2 13 _ rfl rfl 0 (Cel.iv (iZ 52 13 0 0 14 false false)) rfl rfl (by simp [Cel.cells, IV.cellsL]) (Cel.iv (iZ 52 13 0 0 14 true false)) rfl (by kernel_rfl) ?_; clear S; intro w2 S; simp only [List.set_cons_zero, List.set_cons_succ] at S)
      | (refine S.store1 rfl 4 _ _ rfl b2 14 _ rfl rfl 0 (Cel.iv (iZ 52 13 0 0 14 true false)) rfl rfl (by simp [Cel.cells, IV.cellsL]) (Cel.iv (iZ 52 13 0 0 14 true false)) rfl (by kernel_rfl) ?_; clear S; intro w2 S; simp only [List.set_cons_zero, List.set_cons_succ] at S)
      | (refine S.store1 rfl 3 _ _ rfl b2 12 _ rfl rfl 1 (Cel.iv (iZ 52 13 0 0 14 true false)) rfl rfl (by simp [Cel.cells, IV.cellsL]) (Cel.iv (iZ 52 13 0 ((LL : Nat) : Int) 14 true false)) rfl (by kernel_rfl) ?_; clear S; intro w2 S; simp only [List.set_cons_zero, List.set_cons_succ] at S)
      | (refine S.storeAll rfl 31 _ _ rfl b2 (Cel.iv (iZ 52 0 0 0 14 false false)) rfl rfl 0 _ rfl rfl (one_iv _) (szIV _) ?_; clear S; intro w2 S; simp only [List.set_cons_zero, List.set_cons_succ] at S)
      | (refine S.storeAll rfl 31 _ _ rfl b1 (Cel.iv (nNone 65 h).iv) rfl rfl 3 _ rfl rfl (one_iv _) (szIV _) ?_; clear S; intro w2 S; simp only [List.set_cons_zero, List.set_cons_succ] at S))
    | (go_at_call 30; refine (plain_c _ _).mono ?_; rintro e wf ⟨rfl, hbf⟩; replace S := S.below hbf; clear hbf)
    | (go_at_call 25; refine (rbad_c _ _).mono ?_; rintro e wf ⟨rfl, hbf⟩; replace S := S.below hbf; clear hbf))
  (try simp only [Exit.inBlock, Exit.then])
  refine bodyPost_ret (S.results rfl _ _ rfl 3 _ rfl _ Tryd.underlying31 rfl (szIV _)) rfl ⟨rfl, S.low⟩
set_option maxHeartbeats 4000000 in
set_option maxRecDepth 100000 in
theorem rm12_1n (h : Nat) (hh : h < 65536) (b : Bool) (q8_4 : fd h 8 4 = 12) (q11_1 : fd h 11 1 = 1) (g : (fd h 0 8 + fd h 8 1 * 32768) ≠ 0) (w : World) : Calls Tryd.prog 29 #[.int .i64 h, .bool b] w fun e w' => Says w (rMisc h b) e w' := by
  have hN : rMisc h b = (NV.mk 52 false 14 0 13 0 0 false (fd h 0 8 + fd h 8 1 * 32768) true false) := by
    unfold rMisc
    simp [nbeq, nblt, nble, pick2, extOp, revOp, *]
    rcases (show fd h 0 8 ≠ 0 ∨ fd h 8 1 * 32768 ≠ 0 by omega) with z | z
    · rw [decide_eq_false z]; rfl
    · rw [decide_eq_false z, Bool.and_false]; rfl
  unfold Says
  rw [hN]
  clear hN
  have k8_4 : bits .and .i64 ((h : Int) / 256) 15 = 12 := by have := i64_fd h 8 4 hh (by decide) ((h : Int) / 256) 15 (by first | rfl | simp) rfl; rw [this, q8_4]; rfl
  have k11_1 : bits .and .i64 ((h : Int) / 2048) 1 = 1 := by have := i64_fd h 11 1 hh (by decide) ((h : Int) / 2048) 1 (by first | rfl | simp) rfl; rw [this, q11_1]; rfl
  have k0_3 : bits .and .i64 ((h : Int)) 7 = ((fd h 0 3 : Nat) : Int) := i64_fd h 0 3 hh (by decide) _ _ (by first | rfl | simp) rfl
  have f0_3 : fd h 0 3 < 8 := fd_lt h 0 3
  have k3_3 : bits .and .i64 ((h : Int) / 8) 7 = ((fd h 3 3 : Nat) : Int) := i64_fd h 3 3 hh (by decide) _ _ (by first | rfl | simp) rfl
  have f3_3 : fd h 3 3 < 8 := fd_lt h 3 3
  have k0_8 : bits .and .i64 ((h : Int)) 255 = ((fd h 0 8 : Nat) : Int) := i64_fd h 0 8 hh (by decide) _ _ (by first | rfl | simp) rfl
  have f0_8 : fd h 0 8 < 256 := fd_lt h 0 8
  have k8_1 : bits .and .i64 ((h : Int) / 256) 1 = ((fd h 8 1 : Nat) : Int) := i64_fd h 8 1 hh (by decide) _ _ (by first | rfl | simp) rfl
  have f8_1 : fd h 8 1 < 2 := fd_lt h 8 1
  have lj := list15 h
  generalize hLL : fd h 0 8 + fd h 8 1 * 32768 = LL at *
  have tl : (((LL : Nat) : Int) == 0) = false := by simp; omega
  clear g
  go_enter Tryd.func29, Tryd.ntmps29
  have S := SH.start w
  go_wp2_with (first
    | ((with_reducible refine wpl_isDst 4 ?_); refine SH.alloc (L := []) S rfl 31 rfl (Cel.iv IV.zero) zeroIV ?_; clear S; intro b1 w1 S)
    | ((with_reducible refine wpl_isDst 9 ?_); refine S.alloc rfl 31 rfl (Cel.iv IV.zero) zeroIV ?_; clear S; intro b2 w1 S)
    | ((with_reducible refine wpl_isDst 80 ?_); refine S.sliceA rfl 23 2 _ rfl [.int .i64 53, .int .i64 52] 3 (by kernel_rfl) ?_; clear S; intro g w1 S)
    | ((with_reducible refine wpl_isDst 98 ?_); refine S.sliceA rfl 23 2 _ rfl [.int .i64 14, .int .i64 15] 3 (by kernel_rfl) ?_; clear S; intro g2 w1 S)
    | ((with_reducible refine wpl_isLoad ?_); first
      | (refine S.ld 3 _ rfl g 1 rfl 0 (Cel.any [.int .i64 53, .int .i64 52]) rfl _ rfl _ Tryd.underlying3 rfl rfl ?_)
      | (refine S.ld 3 _ rfl g2 1 rfl 0 (Cel.any [.int .i64 14, .int .i64 15]) rfl _ rfl _ Tryd.underlying3 rfl rfl ?_)
      | (refine S.ld 3 _ rfl b2 0 rfl 0 (Cel.iv (iZ 52 0 0 0 14 false false)) rfl _ rfl _ Tryd.underlying3 rfl rfl ?_)
      | (refine S.ld 3 _ rfl b2 12 rfl 1 (Cel.iv (iZ 52 13 0 ((LL : Nat) : Int) 14 true false)) rfl _ rfl _ Tryd.underlying3 rfl rfl ?_)
      | (refine S.ldAll 31 _ rfl b2 rfl 1 (Cel.iv (iZ 52 13 0 ((LL : Nat) : Int) 14 true false)) rfl _ Tryd.underlying31 rfl (szIV _) rfl ?_))
    | ((with_reducible refine wpl_isStore ?_); first
      | (refine S.store1 rfl 3 _ _ rfl b2 5 _ rfl rfl 0 (Cel.iv (iZ 52 0 0 0 14 false false)) rfl rfl (by simp [Cel.cells, IV.cellsL]) (Cel.iv (iZ 52 13 0 0 14 false false)) rfl (by kernel_rfl) ?_; clear S; intro w2 S; simp only [List.set_cons_zero, List.set_cons_succ] at S)
      | (refine S.store1 rfl 4 _ _ rfl b2 13 _ rfl rfl 0 (Cel.iv (iZ 52 13 0 0 14 false false)) rfl rfl (by simp [Cel.cells, IV.cellsL]) (Cel.iv (iZ 52 13 0 0 14 true false)) rfl (by kernel_rfl) ?_; clear S; intro w2 S; simp only [List.set_cons_zero, List.set_cons_succ] at S)
      | (refine S.store1 rfl 4 _ _ rfl b2 14 _ rfl rfl 0 (Cel.iv (iZ 52 13 0 0 14 true false)) rfl rfl (by simp [Cel.cells, IV.cellsL]) (Cel.iv (iZ 52 13 0 0 14 true false)) rfl (by kernel_rfl) ?_; clear S; intro w2 S; simp only [List.set_cons_zero, List.set_cons_succ] at S)
      | (refine S.store1 rfl 3 _ _ rfl b2 12 _ rfl rfl 1 (Cel.iv (iZ 52 13 0 0 14 true false)) rfl rfl (by simp [Cel.cells, IV.cellsL]) (Cel.iv (iZ 52 13 0 ((LL : Nat) : Int) 14 true false)) rfl (by kernel_rfl) ?_; clear S; intro w2 S; simp only [List.set_cons_zero, List.set_cons_succ] at S)
      | (refine S.storeAll rfl 31 _ _ rfl b2 (Cel.iv (iZ 52 0 0 0 14 false false)) rfl rfl 0 _ rfl rfl (one_iv _) (szIV _) ?_; clear S; intro w2 S; simp only [List.set_cons_zero, List.set_cons_succ] at S)
      | (refine S.storeAll rfl 31 _ _ rfl b1 (Cel.iv (NV.mk 52 false 14 0 13 0 0 false LL true false).iv) rfl rfl 3 _ rfl rfl (one_iv _) (szIV _) ?_; clear S; intro w2 S; simp only [List.set_cons_zero, List.set_cons_succ] at S))
    | (go_at_call 30; refine (plain_c _ _).mono ?_; rintro e wf ⟨rfl, hbf⟩; replace S := S.below hbf; clear hbf)
    | (go_at_call 25; refine (rbad_c _ _).mono ?_; rintro e wf ⟨rfl, hbf⟩; replace S := S.below hbf; clear hbf))
  (try simp only [Exit.inBlock, Exit.then])
  refine bodyPost_ret (S.results rfl _ _ rfl 3 _ rfl _ Tryd.underlying31 rfl (szIV _)) rfl ⟨rfl, S.low⟩
set_option maxHeartbeats 4000000 in
set_option maxRecDepth 100000 in
theorem rm13_0z (h : Nat) (hh : h < 65536) (b : Bool) (q8_4 : fd h 8 4 = 13) (q11_1 : fd h 11 1 = 0) (g : (fd h 0 8 + fd h 8 1 * 16384) = 0) (w : World) : Calls Tryd.prog 29 #[.int .i64 h, .bool b] w fun e w' => Says w (rMisc h b) e w' := by
  have hN : rMisc h b = (nNone 65 h) := by
    unfold rMisc
    simp [nbeq, nblt, nble, pick2, extOp, revOp, *] <;> omega
  unfold Says
  rw [hN]
  clear hN
  have k8_4 : bits .and .i64 ((h : Int) / 256) 15 = 13 := by have := i64_fd h 8 4 hh (by decide) ((h : Int) / 256) 15 (by first | rfl | simp) rfl; rw [this, q8_4]; rfl
  have k11_1 : bits .and .i64 ((h : Int) / 2048) 1 = 0 := by have := i64_fd h 11 1 hh (by decide) ((h : Int) / 2048) 1 (by first | rfl | simp) rfl; rw [this, q11_1]; rfl
  have k0_3 : bits .and .i64 ((h : Int)) 7 = ((fd h 0 3 : Nat) : Int) := i64_fd h 0 3 hh (by decide) _ _ (by first | rfl | simp) rfl
  have f0_3 : fd h 0 3 < 8 := fd_lt h 0 3
  have k3_3 : bits .and .i64 ((h : Int) / 8) 7 = ((fd h 3 3 : Nat) : Int) := i64_fd h 3 3 hh (by decide) _ _ (by first | rfl | simp) rfl
  have f3_3 : fd h 3 3 < 8 := fd_lt h 3 3
  have k0_8 : bits .and .i64 ((h : Int)) 255 = ((fd h 0 8 : Nat) : Int) := i64_fd h 0 8 hh (by decide) _ _ (by first | rfl | simp) rfl
  have f0_8 : fd h 0 8 < 256 := fd_lt h 0 8
  have k8_1 : bits .and .i64 ((h : Int) / 256) 1 = ((fd h 8 1 : Nat) : Int) := i64_fd h 8 1 hh (by decide) _ _ (by first | rfl | simp) rfl
  have f8_1 : fd h 8 1 < 2 := fd_lt h 8 1
  have lj := list14 h
  generalize hLL : fd h 0 8 + fd h 8 1 * 16384 = LL at *
  have tl : (((LL : Nat) : Int) == 0) = true := by simp; omega
  clear g
  go_enter Tryd.func29, Tryd.ntmps29
  have S := SH.start w
  go_wp2_with (first
    | ((with_reducible refine wpl_isDst 4 ?_); refine SH.alloc (L := []) S rfl 31 rfl (Cel.iv IV.zero) zeroIV ?_; clear S; intro b1 w1 S)
    | ((with_reducible refine wpl_isDst 9 ?_); refine S.alloc rfl 31 rfl (Cel.iv IV.zero) zeroIV ?_; clear S; intro b2 w1 S)
    | ((with_reducible refine wpl_isDst 80 ?_); refine S.sliceA rfl 23 2 _ rfl [.int .i64 53, .int .i64 52] 3 (by kernel_rfl) ?_; clear S; intro g w1 S)
    | ((with_reducible refine wpl_isDst 98 ?_); refine S.sliceA rfl 23 2 _ rfl [.int .i64 14, .int .i64 15] 3 (by kernel_rfl) ?_; clear S; intro g2 w1 S)
    | ((with_reducible refine wpl_isLoad ?_); first
      | (refine S.ld 3 _ rfl g 0 rfl 0 (Cel.any [.int .i64 53, .int .i64 52]) rfl _ rfl _ Tryd.underlying3 rfl rfl ?_)
      | (refine S.ld 3 _ rfl g2 0 rfl 0 (Cel.any [.int .i64 14, .int .i64 15]) rfl _ rfl _ Tryd.underlying3 rfl rfl ?_)
      | (refine S.ld 3 _ rfl b2 0 rfl 0 (Cel.iv (iZ 53 0 0 0 14 false false)) rfl _ rfl _ Tryd.underlying3 rfl rfl ?_)
      | (refine S.ld 3 _ rfl b2 12 rfl 1 (Cel.iv (iZ 53 13 0 ((LL : Nat) : Int) 14 true true)) rfl _ rfl _ Tryd.underlying3 rfl rfl ?_)
      | (refine S.ldAll 31 _ rfl b2 rfl 1 (Cel.iv (iZ 53 13 0 ((LL : Nat) : Int) 14 true true)) rfl _ Tryd.underlying31 rfl (szIV _) rfl ?_))
    | ((with_reducible refine wpl_isStore ?_); first
      | (refine S.store1 rfl 3 _ _ rfl b2 5 _ rfl rfl 0 (Cel.iv (iZ 53 0 0 0 14 false false)) rfl rfl (by simp [Cel.cells, IV.cellsL]) (Cel.iv (iZ 53 13 0 0 14 false false)) rfl (by kernel_rfl) ?_; clear S; intro w2 S; simp only [List.set_cons_zero, List.set_cons_succ] at S)
      | (refine S.store1 rfl 4 _ _ rfl b2 13 _ rfl rfl 0 (Cel.iv (iZ 53 13 0 0 14 false false)) rfl rfl (by simp [Cel.cells, IV.cellsL]) (Cel.iv (iZ 53 13 0 0 14 true false)) rfl (by kernel_rfl) ?_; clear S; intro w2 S; simp only [List.set_cons_zero, List.set_cons_succ] at S)
      | (refine S.store1 rfl 4 _ _ rfl b2 14 _ rfl rfl 0 (Cel.iv (iZ 53 13 0 0 14 true false)) rfl rfl (by simp [Cel.cells, IV.cellsL]) (Cel.iv (iZ 53 13 0 0 14 true true)) rfl (by kernel_rfl) ?_; clear S; intro w2 S; simp only [List.set_cons_zero, List.set_cons_succ] at S)
      | (refine S.store1 rfl 3 _ _ rfl b2 12 _ rfl rfl 1 (Cel.iv (iZ 53 13 0 0 14 true true)) rfl rfl (by simp [Cel.cells, IV.cellsL]) (Cel.iv (iZ 53 13 0 ((LL : Nat) : Int) 14 true true)) rfl (by kernel_rfl) ?_; clear S; intro w2 S; simp only [List.set_cons_zero, List.set_cons_succ] at S)
      | (refine S.storeAll rfl 31 _ _ rfl b2 (Cel.iv (iZ 53 0 0 0 14 false false)) rfl rfl 0 _ rfl rfl (one_iv _) (szIV _) ?_; clear S; intro w2 S; simp only [List.set_cons_zero, List.set_cons_succ] at S)
      | (refine S.storeAll rfl 31 _ _ rfl b1 (Cel.iv (nNone 65 h).iv) rfl rfl 3 _ rfl rfl (one_iv _) (szIV _) ?_; clear S; intro w2 S; simp only [List.set_cons_zero, List.set_cons_succ] at S))
    | (go_at_call 30; refine (plain_c _ _).mono ?_; rintro e wf ⟨rfl, hbf⟩; replace S := S.below hbf; clear hbf)
    | (go_at_call 25; refine (rbad_c _ _).mono ?_; rintro e wf ⟨rfl, hbf⟩; replace S := S.below hbf; clear hbf))
  (try simp only [Exit.inBlock, Exit.then])
  refine bodyPost_ret (S.results rfl _ _ rfl 3 _ rfl _ Tryd.underlying31 rfl (szIV _)) rfl ⟨rfl, S.low⟩
set_option maxHeartbeats 4000000 in
set_option maxRecDepth 100000 in
theorem rm13_0n (h : Nat) (hh : h < 65536) (b : Bool) (q8_4 : fd h 8 4 = 13) (q11_1 : fd h 11 1 = 0) (g : (fd h 0 8 + fd h 8 1 * 16384) ≠ 0) (w : World) : Calls Tryd.prog 29 #[.int .i64 h, .bool b] w fun e w' => Says w (rMisc h b) e w' := by
  have hN : rMisc h b = (NV.mk 53 false 14 0 13 0 0 false (fd h 0 8 + fd h 8 1 * 16384) true true) := by
    unfold rMisc
    simp [nbeq, nblt, nble, pick2, extOp, revOp, *]
    rcases (show fd h 0 8 ≠ 0 ∨ fd h 8 1 * 16384 ≠ 0 by omega) with z | z
    · rw [decide_eq_false z]; rfl
    · rw [decide_eq_false z, Bool.and_false]; rfl
  unfold Says
  rw [hN]
  clear hN
  have k8_4 : bits .and .i64 ((h : Int) / 256) 15 = 13 := by have := i64_fd h 8 4 hh (by decide) ((h : Int) / 256) 15 (by first | rfl | simp) rfl; rw [this, q8_4]; rfl
  have k11_1 : bits .and .i64 ((h : Int) / 2048) 1 = 0 := by have := i64_fd h 11 1 hh (by decide) ((h : Int) / 2048) 1 (by first | rfl | simp) rfl; rw [this, q11_1]; rfl
  have k0_3 : bits .and .i64 ((h : Int)) 7 = ((fd h 0 3 : Nat) : Int) := i64_fd h 0 3 hh (by decide) _ _ (by first | rfl | simp) rfl
  have f0_3 : fd h 0 3 < 8 := fd_lt h 0 3
  have k3_3 : bits .and .i64 ((h : Int) / 8) 7 = ((fd h 3 3 : Nat) : Int) := i64_fd h 3 3 hh (by decide) _ _ (by first | rfl | simp) rfl
  have f3_3 : fd h 3 3 < 8 := fd_lt h 3 3
  have k0_8 : bits .and .i64 ((h : Int)) 255 = ((fd h 0 8 : Nat) : Int) := i64_fd h 0 8 hh (by decide) _ _ (by first | rfl | simp) rfl
  have f0_8 : fd h 0 8 < 256 := fd_lt h 0 8
  have k8_1 : bits .and .i64 ((h : Int) / 256) 1 = ((fd h 8 1 : Nat) : Int) := i64_fd h 8 1 hh (by decide) _ _ (by first | rfl | simp) rfl
  have f8_1 : fd h 8 1 < 2 := fd_lt h 8 1
  have lj := list14 h
  generalize hLL : fd h 0 8 + fd h 8 1 * 16384 = LL at *
  have tl : (((LL : Nat) : Int) == 0) = false := by simp; omega
  clear g
  go_enter Tryd.func29, Tryd.ntmps29
  have S := SH.start w
  go_wp2_with (first
    | ((with_reducible refine wpl_isDst 4 ?_); refine SH.alloc (L := []) S rfl 31 rfl (Cel.iv IV.zero) zeroIV ?_; clear S; intro b1 w1 S)
    | ((with_reducible refine wpl_isDst 9 ?_); refine S.alloc rfl 31 rfl (Cel.iv IV.zero) zeroIV ?_; clear S; intro b2 w1 S)
    | ((with_reducible refine wpl_isDst 80 ?_); refine S.sliceA rfl 23 2 _ rfl [.int .i64 53, .int .i64 52] 3 (by kernel_rfl) ?_; clear S; intro g w1 S)
    | ((with_reducible refine wpl_isDst 98 ?_); refine S.sliceA rfl 23 2 _ rfl [.int .i64 14, .int .i64 15] 3 (by kernel_rfl) ?_; clear S; intro g2 w1 S)
    | ((with_reducible refine wpl_isLoad ?_); first
      | (refine S.ld 3 _ rfl g 0 rfl 0 (Cel.any [.int .i64 53, .int .i64 52]) rfl _ rfl _ Tryd.underlying3 rfl rfl ?_)
      | (refine S.ld 3 _ rfl g2 0 rfl 0 (Cel.any [.int .i64 14, .int .i64 15]) rfl _ rfl _ Tryd.underlying3 rfl rfl ?_)
      | (refine S.ld 3 _ rfl b2 0 rfl 0 (Cel.iv (iZ 53 0 0 0 14 false false)) rfl _ rfl _ Tryd.underlying3 rfl rfl ?_)
      | (refine S.ld 3 _ rfl b2 12 rfl 1 (Cel.iv (iZ 53 13 0 ((LL : Nat) : Int) 14 true true)) rfl _ rfl _ Tryd.underlying3 rfl rfl ?_)
      | (refine S.ldAll 31 _ rfl b2 rfl 1 (Cel.iv (iZ 53 13 0 ((LL : Nat) : Int) 14 true true)) rfl _ Tryd.underlying31 rfl (szIV _) rfl ?_))
    | ((with_reducible refine wpl_isStore ?_); first
      | (refine S.store1 rfl 3 _ _ rfl b2 5 _ rfl rfl 0 (Cel.iv (iZ 53 0 0 0 14 false false)) rfl rfl (by simp [Cel.cells, IV.cellsL]) (Cel.iv (iZ 53 13 0 0 14 false false)) rfl (by kernel_rfl) ?_; clear S; intro w2 S; simp only [List.set_cons_zero, List.set_cons_succ] at S)
      | (refine S.store1 rfl 4 _ _ rfl b2 13 _ rfl rfl 0 (Cel.iv (iZ 53 13 0 0 14 false false)) rfl rfl (by simp [Cel.cells, IV.cellsL]) (Cel.iv (iZ 53 13 0 0 14 true false)) rfl (by kernel_rfl) ?_; clear S; intro w2 S; simp only [List.set_cons_zero, List.set_cons_succ] at S)
      | (refine S.store1 rfl 4 _ _ rfl b2 14 _ rfl rfl 0 (Cel.iv (iZ 53 13 0 0 14 true false)) rfl rfl (by simp [Cel.cells, IV.cellsL]) (Cel.iv (iZ 53 13 0 0 14 true true)) rfl (by kernel_rfl) ?_; clear S; intro w2 S; simp only [List.set_cons_zero, List.set_cons_succ] at S)
      | (refine S.store1 rfl 3 _ _ rfl b2 12 _ rfl rfl 1 (Cel.iv (iZ 53 13 0 0 14 true true)) rfl rfl (by simp [Cel.cells, IV.cellsL]) (Cel.iv (iZ 53 13 0 ((LL : Nat) : Int) 14 true true)) rfl (by kernel_rfl) ?_; clear S; intro w2 S; simp only [List.set_cons_zero, List.set_cons_succ] at S)
      | (refine S.storeAll rfl 31 _ _ rfl b2 (Cel.iv (iZ 53 0 0 0 14 false false)) rfl rfl 0 _ rfl rfl (one_iv _) (szIV _) ?_; clear S; intro w2 S; simp only [List.set_cons_zero, List.set_cons_succ] at S)
      | (refine S.storeAll rfl 31 _ _ rfl b1 (Cel.iv (NV.mk 53 false 14 0 13 0 0 false LL true true).iv) rfl rfl 3 _ rfl rfl (one_iv _) (szIV _) ?_; clear S; intro w2 S; simp only [List.set_cons_zero, List.set_cons_succ] at S))
    | (go_at_call 30; refine (plain_c _ _).mono ?_; rintro e wf ⟨rfl, hbf⟩; replace S := S.below hbf; clear hbf)
    | (go_at_call 25; refine (rbad_c _ _).mono ?_; rintro e wf ⟨rfl, hbf⟩; replace S := S.below hbf; clear hbf))
  (try simp only [Exit.inBlock, Exit.then])
  refine bodyPost_ret (S.results rfl _ _ rfl 3 _ rfl _ Tryd.underlying31 rfl (szIV _)) rfl ⟨rfl, S.low⟩
set_option maxHeartbeats 4000000 in
set_option maxRecDepth 100000 in
theorem rm13_1z (h : Nat) (hh : h < 65536) (b : Bool) (q8_4 : fd h 8 4 = 13) (q11_1 : fd h 11 1 = 1) (g : (fd h 0 8 + fd h 8 1 * 32768) = 0) (w : World) : Calls Tryd.prog 29 #[.int .i64 h, .bool b] w fun e w' => Says w (rMisc h b) e w' := by
  have hN : rMisc h b = (nNone 65 h) := by
    unfold rMisc
    simp [nbeq, nblt, nble, pick2, extOp, revOp, *] <;> omega
  unfold Says
  rw [hN]
  clear hN
  have k8_4 : bits .and .i64 ((h : Int) / 256) 15 = 13 := by have := i64_fd h 8 4 hh (by decide) ((h : Int) / 256) 15 (by first | rfl | simp) rfl; rw [this, q8_4]; rfl
  have k11_1 : bits .and .i64 ((h : Int) / 2048) 1 = 1 := by have := i64_fd h 11 1 hh (by decide) ((h : Int) / 2048) 1 (by first | rfl | simp) rfl; rw [this, q11_1]; rfl
  have k0_3 : bits .and .i64 ((h : Int)) 7 = ((fd h 0 3 : Nat) : Int) := i64_fd h 0 3 hh (by decide) _ _ (by first | rfl | simp) rfl
  have f0_3 : fd h 0 3 < 8 := fd_lt h 0 3
  have k3_3 : bits .and .i64 ((h : Int) / 8) 7 = ((fd h 3 3 : Nat) : Int) := i64_fd h 3 3 hh (by decide) _ _ (by first | rfl | simp) rfl
  have f3_3 : fd h 3 3 < 8 := fd_lt h 3 3
  have k0_8 : bits .and .i64 ((h : Int)) 255 = ((fd h 0 8 : Nat) : Int) := i64_fd h 0 8 hh (by decide) _ _ (by first | rfl | simp) rfl
  have f0_8 : fd h 0 8 < 256 := fd_lt h 0 8
  have k8_1 : bits .and .i64 ((h : Int) / 256) 1 = ((fd h 8 1 : Nat) : Int) := i64_fd h 8 1 hh (by decide) _ _ (by first | rfl | simp) rfl
  have f8_1 : fd h 8 1 < 2 := fd_lt h 8 1
  have lj := list15 h
  generalize hLL : fd h 0 8 + fd h 8 1 * 32768 = LL at *
  have tl : (((LL : Nat) : Int) == 0) = true := by simp; omega
  clear g
  go_enter Tryd.func29, Tryd.ntmps29
  have S := SH.start w
  go_wp2_with (first
    | ((with_reducible refine wpl_isDst 4 ?_); refine SH.alloc (L := []) S rfl 31 rfl (Cel.iv IV.zero) zeroIV ?_; clear S; intro b1 w1 S)
    | ((with_reducible refine wpl_isDst 9 ?_); refine S.alloc rfl 31 rfl (Cel.iv IV.zero) zeroIV ?_; clear S; intro b2 w1 S)
    | ((with_reducible refine wpl_isDst 80 ?_); refine S.sliceA rfl 23 2 _ rfl [.int .i64 53, .int .i64 52] 3 (by kernel_rfl) ?_; clear S; intro g w1 S)
    | ((with_reducible refine wpl_isDst 98 ?_); refine S.sliceA rfl 23 2 _ rfl [.int .i64 14, .int .i64 15] 3 (by kernel_rfl) ?_; clear S; intro g2 w1 S)
    | ((with_reducible refine wpl_isLoad ?_); first
      | (refine S.ld 3 _ rfl g 1 rfl 0 (Cel.any [.int .i64 53, .int .i64 52]) rfl _ rfl _ Tryd.underlying3 rfl rfl ?_)
      | (refine S.ld 3 _ rfl g2 1 rfl 0 (Cel.any [.int .i64 14, .int .i64 15]) rfl _ rfl _ Tryd.underlying3 rfl rfl ?_)
      | (refine S.ld 3 _ rfl b2 0 rfl 0 (Cel.iv (iZ 52 0 0 0 14 false false)) rfl _ rfl _ Tryd.underlying3 rfl rfl ?_)
      | (refine S.ld 3 _ rfl b2 12 rfl 1 (Cel.iv (iZ 52 13 0 ((LL : Nat) : Int) 14 true false)) rfl _ rfl _ Tryd.underlying3 rfl rfl ?_)
      | (refine S.ldAll 31 _ rfl b2 rfl 1 (Cel.iv (iZ 52 13 0 ((LL : Nat) : Int) 14 true false)) rfl _ Tryd.underlying31 rfl (szIV _) rfl ?_))
    | ((with_reducible refine wpl_isStore ?_); first
      | (refine S.store1 rfl 3 _ _ rfl b2 5 _ rfl rfl 0 (Cel.iv (iZ 52 0 0 0 14 false false)) rfl rfl (by simp [Cel.cells, IV.cellsL]) (Cel.iv (iZ 52 13 0 0 14 false false)) rfl (by kernel_rfl) ?_; clear S; intro w2 S; simp only [List.set_cons_zero, List.set_cons_succ] at S)
      | (refine S.store1 rfl 4 _ _ rfl b2 13 _ rfl rfl 0 (Cel.iv (iZ 52 13 0 0 14 false false)) rfl rfl (by simp [Cel.cells, IV.cellsL]) (Cel.iv (iZ 52 13 0 0 14 true false)) rfl (by kernel_rfl) ?_; clear S; intro w2 S; simp only [List.set_cons_zero, List.set_cons_succ] at S)
      | (refine S.store1 rfl 4 _ _ rfl b2 14 _ rfl rfl 0 (Cel.iv (iZ 52 13 0 0 14 true false)) rfl rfl (by simp [Cel.cells, IV.cellsL]) (Cel.iv (iZ 52 13 0 0 14 true false)) rfl (by kernel_rfl) ?_; clear S; intro w2 S; simp only [List.set_cons_zero, List.set_cons_succ] at S)
      | (refine S.store1 rfl 3 _ _ rfl b2 12 _ rfl rfl 1 (Cel.iv (iZ 52 13 0 0 14 true false)) rfl rfl (by simp [Cel.cells, IV.cellsL]) (Cel.iv (iZ 52 13 0 ((LL : Nat) : Int) 14 true false)) rfl (by kernel_rfl) ?_; clear S; intro w2 S; simp only [List.set_cons_zero, List.set_cons_succ] at S)
      | (refine S.storeAll rfl 31 _ _ rfl b2 (Cel.iv (iZ 52 0 0 0 14 false false)) rfl rfl 0 _ rfl rfl (one_iv _) (szIV _) ?_; clear S; intro w2 S; simp only [List.set_cons_zero, List.set_cons_succ] at S)
      | (refine S.storeAll rfl 31 _ _ rfl b1 (Cel.iv (nNone 65 h).iv) rfl rfl 3 _ rfl rfl (one_iv _) (szIV _) ?_; clear S; intro w2 S; simp only [List.set_cons_zero, List.set_cons_succ] at S))
    | (go_at_call 30; refine (plain_c _ _).mono ?_; rintro e wf ⟨rfl, hbf⟩; replace S := S.below hbf; clear hbf)
    | (go_at_call 25; refine (rbad_c _ _).mono ?_; rintro e wf ⟨rfl, hbf⟩; replace S := S.below hbf; clear hbf))
  (try simp only [Exit.inBlock, Exit.then])
  refine bodyPost_ret (S.results rfl _ _ rfl 3 _ rfl _ Tryd.underlying31 rfl (szIV _)) rfl ⟨rfl, S.low⟩
set_option maxHeartbeats 4000000 in
set_option maxRecDepth 100000 in
theorem rm13_1n (h : Nat) (hh : h < 65536) (b : Bool) (q8_4 : fd h 8 4 = 13) (q11_1 : fd h 11 1 = 1) (g : (fd h 0 8 + fd h 8 1 * 32768) ≠ 0) (w : World) : Calls Tryd.prog 29 #[.int .i64 h, .bool b] w fun e w' => Says w (rMisc h b) e w' := by
  have hN : rMisc h b = (NV.mk 52 false 14 0 13 0 0 false (fd h 0 8 + fd h 8 1 * 32768) true false) := by
    unfold rMisc
    simp [nbeq, nblt, nble, pick2, extOp, revOp, *]
    rcases (show fd h 0 8 ≠ 0 ∨ fd h 8 1 * 32768 ≠ 0 by omega) with z | z
    · rw [decide_eq_false z]; rfl
    · rw [decide_eq_false z, Bool.and_false]; rfl
  unfold Says
  rw [hN]
  clear hN
  have k8_4 : bits .and .i64 ((h : Int) / 256) 15 = 13 := by have := i64_fd h 8 4 hh (by decide) ((h : Int) / 256) 15 (by first | rfl | simp) rfl; rw [this, q8_4]; rfl
  have k11_1 : bits .and .i64 ((h : Int) / 2048) 1 = 1 := by have := i64_fd h 11 1 hh (by decide) ((h : Int) / 2048) 1 (by first | rfl | simp) rfl; rw [this, q11_1]; rfl
  have k0_3 : bits .and .i64 ((h : Int)) 7 = ((fd h 0 3 : Nat) : Int) := i64_fd h 0 3 hh (by decide) _ _ (by first | rfl | simp) rfl
  have f0_3 : fd h 0 3 < 8 := fd_lt h 0 3
  have k3_3 : bits .and .i64 ((h : Int) / 8) 7 = ((fd h 3 3 : Nat) : Int) := i64_fd h 3 3 hh (by decide) _ _ (by first | rfl | simp) rfl
  have f3_3 : fd h 3 3 < 8 := fd_lt h 3 3
  have k0_8 : bits .and .i64 ((h : Int)) 255 = ((fd h 0 8 : Nat) : Int) := i64_fd h 0 8 hh (by decide) _ _ (by first | rfl | simp) rfl
  have f0_8 : fd h 0 8 < 256 := fd_lt h 0 8
  have k8_1 : bits .and .i64 ((h : Int) / 256) 1 = ((fd h 8 1 : Nat) : Int) := i64_fd h 8 1 hh (by decide) _ _ (by first | rfl | simp) rfl
  have f8_1 : fd h 8 1 < 2 := fd_lt h 8 1
  have lj := list15 h
  generalize hLL : fd h 0 8 + fd h 8 1 * 32768 = LL at *
  have tl : (((LL : Nat) : Int) == 0) = false := by simp; omega
  clear g
  go_enter Tryd.func29, Tryd.ntmps29
  have S := SH.start w
  go_wp2_with (first
    | ((with_reducible refine wpl_isDst 4 ?_); refine SH.alloc (L := []) S rfl 31 rfl (Cel.iv IV.zero) zeroIV ?_; clear S; intro b1 w1 S)
    | ((with_reducible refine wpl_isDst 9 ?_); refine S.alloc rfl 31 rfl (Cel.iv IV.zero) zeroIV ?_; clear S; intro b2 w1 S)
    | ((with_reducible refine wpl_isDst 80 ?_); refine S.sliceA rfl 23 2 _ rfl [.int .i64 53, .int .i64 52] 3 (by kernel_rfl) ?_; clear S; intro g w1 S)
    | ((with_reducible refine wpl_isDst 98 ?_); refine S.sliceA rfl 23 2 _ rfl [.int .i64 14, .int .i64 15] 3 (by kernel_rfl) ?_; clear S; intro g2 w1 S)
    | ((with_reducible refine wpl_isLoad ?_); first
      | (refine S.ld 3 _ rfl g 1 rfl 0 (Cel.any [.int .i64 53, .int .i64 52]) rfl _ rfl _ Tryd.underlying3 rfl rfl ?_)
      | (refine S.ld 3 _ rfl g2 1 rfl 0 (Cel.any [.int .i64 14, .int .i64 15]) rfl _ rfl _ Tryd.underlying3 rfl rfl ?_)
      | (refine S.ld 3 _ rfl b2 0 rfl 0 (Cel.iv (iZ 52 0 0 0 14 false false)) rfl _ rfl _ Tryd.underlying3 rfl rfl ?_)
      | (refine S.ld 3 _ rfl b2 12 rfl 1 (Cel.iv (iZ 52 13 0 ((LL : Nat) : Int) 14 true false)) rfl _ rfl _ Tryd.underlying3 rfl rfl ?_)
      | (refine S.ldAll 31 _ rfl b2 rfl 1 (Cel.iv (iZ 52 13 0 ((LL : Nat) : Int) 14 true false)) rfl _ Tryd.underlying31 rfl (szIV _) rfl ?_))
    | ((with_reducible refine wpl_isStore ?_); first
      | (refine S.store1 rfl 3 _ _ rfl b2 5 _ rfl rfl 0 (Cel.iv (iZ 52 0 0 0 14 false false)) rfl rfl (by simp [Cel.cells, IV.cellsL]) (Cel.iv (iZ 52 13 0 0 14 false false)) rfl (by kernel_rfl) ?_; clear S; intro w2 S; simp only [List.set_cons_zero, List.set_cons_succ] at S)
      | (refine S.store1 rfl 4 _ _ rfl b2 13 _ rfl rfl 0 (Cel.iv (iZ 52 13 0 0 14 false false)) rfl rfl (by simp [Cel.cells, IV.cellsL]) (Cel.iv (iZ 52 13 0 0 14 true false)) rfl (by kernel_rfl) ?_; clear S; intro w2 S; simp only [List.set_cons_zero, List.set_cons_succ] at S)
      | (refine S.store1 rfl 4 _ _ rfl b2 14 _ rfl rfl 0 (Cel.iv (iZ 52 13 0 0 14 true false)) rfl rfl (by simp [Cel.cells, IV.cellsL]) (Cel.iv (iZ 52 13 0 0 14 true false)) rfl (by kernel_rfl) ?_; clear S; intro w2 S; simp only [List.set_cons_zero, List.set_cons_succ] at S)
      | (refine S.store1 rfl 3 _ _ rfl b2 12 _ rfl rfl 1 (Cel.iv (iZ 52 13 0 0 14 true false)) rfl rfl (by simp [Cel.cells, IV.cellsL]) (Cel.iv (iZ 52 13 0 ((LL : Nat) : Int) 14 true false)) rfl (by kernel_rfl) ?_; clear S; intro w2 S; simp only [List.set_cons_zero, List.set_cons_succ] at S)
      | (refine S.storeAll rfl 31 _ _ rfl b2 (Cel.iv (iZ 52 0 0 0 14 false false)) rfl rfl 0 _ rfl rfl (one_iv _) (szIV _) ?_; clear S; intro w2 S; simp only [List.set_cons_zero, List.set_cons_succ] at S)
      | (refine S.storeAll rfl 31 _ _ rfl b1 (Cel.iv (NV.mk 52 false 14 0 13 0 0 false LL true false).iv) rfl rfl 3 _ rfl rfl (one_iv _) (szIV _) ?_; clear S; intro w2 S; simp only [List.set_cons_zero, List.set_cons_succ] at S))
    | (go_at_call 30; refine (plain_c _ _).mono ?_; rintro e wf ⟨rfl, hbf⟩; replace S := S.below hbf; clear hbf)
    | (go_at_call 25; refine (rbad_c _ _).mono ?_; rintro e wf ⟨rfl, hbf⟩; replace S := S.below hbf; clear hbf))
  (try simp only [Exit.inBlock, Exit.then])
  refine bodyPost_ret (S.results rfl _ _ rfl 3 _ rfl _ Tryd.underlying31 rfl (szIV _)) rfl ⟨rfl, S.low⟩
end Go.Proofs.YtbbkiiabjhgpkaaDoor
