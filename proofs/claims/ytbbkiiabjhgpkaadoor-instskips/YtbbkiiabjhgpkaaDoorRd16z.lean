/- Stage 8: the document's narrow words, walked. -/
import Derived.Test.YtbbkiiabjhgpkaaDoorRd10z
import Derived.Test.YtbbkiiabjhgpkaaDoorRd11z
import Derived.Test.YtbbkiiabjhgpkaaDoorRd15
namespace Go.Proofs.YtbbkiiabjhgpkaaDoor
open Go.ChangeShapes Go.WideShapes Go.ChangeAt Go.RowKit
set_option linter.unusedVariables false
set_option linter.unusedSimpArgs false

set_option maxHeartbeats 4000000 in
set_option maxRecDepth 100000 in
theorem rm15_0 (h : Nat) (hh : h < 65536) (b : Bool) (q8_4 : fd h 8 4 = 15) (g : fd h 0 4 = 0) (w : World) : Calls Tryd.prog 29 #[.int .i64 h, .bool b] w fun e w' => Says w (rMisc h b) e w' := by
  have hN : rMisc h b = (nNum 61 (fd h 4 4)) := by
    unfold rMisc
    simp [nbeq, nblt, nble, pick2, extOp, revOp, *]
  unfold Says
  rw [hN]
  clear hN
  have k8_4 : bits .and .i64 ((h : Int) / 256) 15 = 15 := by have := i64_fd h 8 4 hh (by decide) ((h : Int) / 256) 15 (by first | rfl | simp) rfl; rw [this, q8_4]; rfl
  have k0_3 : bits .and .i64 ((h : Int)) 7 = ((fd h 0 3 : Nat) : Int) := i64_fd h 0 3 hh (by decide) _ _ (by first | rfl | simp) rfl
  have f0_3 : fd h 0 3 < 8 := fd_lt h 0 3
  have k3_3 : bits .and .i64 ((h : Int) / 8) 7 = ((fd h 3 3 : Nat) : Int) := i64_fd h 3 3 hh (by decide) _ _ (by first | rfl | simp) rfl
  have f3_3 : fd h 3 3 < 8 := fd_lt h 3 3
  have u4_4 : bits .and .u32 ((h : Int) / 16) 15 = ((fd h 4 4 : Nat) : Int) := u32_fd h 4 4 hh (by decide) _ _ (by first | rfl | simp) rfl
  have g4_4 : fd h 4 4 < 16 := fd_lt h 4 4
  have u0_8 : bits .and .u32 ((h : Int)) 255 = ((fd h 0 8 : Nat) : Int) := u32_fd h 0 8 hh (by decide) _ _ (by first | rfl | simp) rfl
  have g0_8 : fd h 0 8 < 256 := fd_lt h 0 8
  have k0_4 : bits .and .i64 ((h : Int)) 15 = ((fd h 0 4 : Nat) : Int) := i64_fd h 0 4 hh (by decide) _ _ (by first | rfl | simp) rfl
  have f0_4 : fd h 0 4 < 16 := fd_lt h 0 4
  have k4_4 : bits .and .i64 ((h : Int) / 16) 15 = ((fd h 4 4 : Nat) : Int) := i64_fd h 4 4 hh (by decide) _ _ (by first | rfl | simp) rfl
  have f4_4 : fd h 4 4 < 16 := fd_lt h 4 4
  have tz : (((fd h 0 4 : Nat) : Int) != 0) = false := by simp; omega
  clear g
  go_enter Tryd.func29, Tryd.ntmps29
  have S := SH.start w
  go_wp2_with (first
    | ((with_reducible refine wpl_isDst 4 ?_); refine SH.alloc (L := []) S rfl 31 rfl (Cel.iv IV.zero) zeroIV ?_; clear S; intro b1 w1 S)
    | ((with_reducible refine wpl_isDst 11 ?_); refine S.alloc rfl 31 rfl (Cel.iv IV.zero) zeroIV ?_; clear S; intro b2 w1 S)
    | ((with_reducible refine wpl_isLoad ?_); first
      | (refine S.ldAll 31 _ rfl b2 rfl 0 (Cel.iv (iZ 61 0 ((fd h 4 4 : Nat) : Int) 0 14 false false)) rfl _ Tryd.underlying31 rfl (szIV _) rfl ?_))
    | ((with_reducible refine wpl_isStore ?_); first
      | (refine S.store1 rfl 29 _ _ rfl b2 8 _ rfl rfl 0 (Cel.iv (iZ 61 0 0 0 14 false false)) rfl rfl (by simp [Cel.cells, IV.cellsL]) (Cel.iv (iZ 61 0 ((fd h 4 4 : Nat) : Int) 0 14 false false)) rfl (by kernel_rfl) ?_; clear S; intro w2 S; simp only [List.set_cons_zero, List.set_cons_succ] at S)
      | (refine S.storeAll rfl 31 _ _ rfl b2 (Cel.iv (iZ 61 0 0 0 14 false false)) rfl rfl 0 _ rfl rfl (one_iv _) (szIV _) ?_; clear S; intro w2 S; simp only [List.set_cons_zero, List.set_cons_succ] at S)
      | (refine S.storeAll rfl 31 _ _ rfl b1 (Cel.iv (nNum 61 (fd h 4 4)).iv) rfl rfl 1 _ rfl rfl (one_iv _) (szIV _) ?_; clear S; intro w2 S; simp only [List.set_cons_zero, List.set_cons_succ] at S))
    | (go_at_call 30; refine (plain_c _ _).mono ?_; rintro e wf ⟨rfl, hbf⟩; replace S := S.below hbf; clear hbf)
    | (go_at_call 25; refine (rbad_c _ _).mono ?_; rintro e wf ⟨rfl, hbf⟩; replace S := S.below hbf; clear hbf)
    | (go_at_call 24; refine (rundef_c _ _).mono ?_; rintro e wf ⟨rfl, hbf⟩; replace S := S.below hbf; clear hbf)
  )
  (try simp only [Exit.inBlock, Exit.then])
  refine bodyPost_ret (S.results rfl _ _ rfl 1 _ rfl _ Tryd.underlying31 rfl (szIV _)) rfl ⟨rfl, S.low⟩
set_option maxHeartbeats 4000000 in
set_option maxRecDepth 100000 in
theorem rm15_n (h : Nat) (hh : h < 65536) (b : Bool) (q8_4 : fd h 8 4 = 15) (g : fd h 0 4 ≠ 0) (q3 : itOk (fd h 4 4) (fd h 0 4) = false) (w : World) : Calls Tryd.prog 29 #[.int .i64 h, .bool b] w fun e w' => Says w (rMisc h b) e w' := by
  have hN : rMisc h b = (nNone 65 h) := by
    unfold rMisc
    simp [nbeq, nblt, nble, pick2, extOp, revOp, *]
  unfold Says
  rw [hN]
  clear hN
  have k8_4 : bits .and .i64 ((h : Int) / 256) 15 = 15 := by have := i64_fd h 8 4 hh (by decide) ((h : Int) / 256) 15 (by first | rfl | simp) rfl; rw [this, q8_4]; rfl
  have k0_3 : bits .and .i64 ((h : Int)) 7 = ((fd h 0 3 : Nat) : Int) := i64_fd h 0 3 hh (by decide) _ _ (by first | rfl | simp) rfl
  have f0_3 : fd h 0 3 < 8 := fd_lt h 0 3
  have k3_3 : bits .and .i64 ((h : Int) / 8) 7 = ((fd h 3 3 : Nat) : Int) := i64_fd h 3 3 hh (by decide) _ _ (by first | rfl | simp) rfl
  have f3_3 : fd h 3 3 < 8 := fd_lt h 3 3
  have u4_4 : bits .and .u32 ((h : Int) / 16) 15 = ((fd h 4 4 : Nat) : Int) := u32_fd h 4 4 hh (by decide) _ _ (by first | rfl | simp) rfl
  have g4_4 : fd h 4 4 < 16 := fd_lt h 4 4
  have u0_8 : bits .and .u32 ((h : Int)) 255 = ((fd h 0 8 : Nat) : Int) := u32_fd h 0 8 hh (by decide) _ _ (by first | rfl | simp) rfl
  have g0_8 : fd h 0 8 < 256 := fd_lt h 0 8
  have k0_4 : bits .and .i64 ((h : Int)) 15 = ((fd h 0 4 : Nat) : Int) := i64_fd h 0 4 hh (by decide) _ _ (by first | rfl | simp) rfl
  have f0_4 : fd h 0 4 < 16 := fd_lt h 0 4
  have k4_4 : bits .and .i64 ((h : Int) / 16) 15 = ((fd h 4 4 : Nat) : Int) := i64_fd h 4 4 hh (by decide) _ _ (by first | rfl | simp) rfl
  have f4_4 : fd h 4 4 < 16 := fd_lt h 4 4
  have tz : (((fd h 0 4 : Nat) : Int) != 0) = true := by simp; omega
  have CI : Hid (∀ w, Calls Tryd.prog 41 #[.int .i64 (fd h 4 4 : Nat), .int .i64 (fd h 0 4 : Nat)] w fun e w' => (∃ v, e = .returned (.tuple #[v, .bool false])) ∧ Below w.heap.size w w') := fun w => by
    have := rit_c (fd h 4 4) (fd h 0 4) (by omega) (by omega) (by omega) w
    rw [q3] at this
    exact this
  clear q3
  go_enter Tryd.func29, Tryd.ntmps29
  have S := SH.start w
  go_wp2_with (first
    | ((with_reducible refine wpl_isDst 4 ?_); refine SH.alloc (L := []) S rfl 31 rfl (Cel.iv IV.zero) zeroIV ?_; clear S; intro b1 w1 S)
    | ((with_reducible refine wpl_isDst 11 ?_); refine S.alloc rfl 31 rfl (Cel.iv IV.zero) zeroIV ?_; clear S; intro b2 w1 S)
    | ((with_reducible refine wpl_isLoad ?_); first
      | (refine S.ldAll 31 _ rfl b2 rfl 0 (Cel.iv (iZ 60 0 ((fd h 0 8 : Nat) : Int) 0 14 false false)) rfl _ Tryd.underlying31 rfl (szIV _) rfl ?_))
    | ((with_reducible refine wpl_isStore ?_); first
      | (refine S.store1 rfl 29 _ _ rfl b2 8 _ rfl rfl 0 (Cel.iv (iZ 61 0 0 0 14 false false)) rfl rfl (by simp [Cel.cells, IV.cellsL]) (Cel.iv (iZ 61 0 ((fd h 4 4 : Nat) : Int) 0 14 false false)) rfl (by kernel_rfl) ?_; clear S; intro w2 S; simp only [List.set_cons_zero, List.set_cons_succ] at S)
      | (refine S.store1 rfl 3 _ _ rfl b2 0 _ rfl rfl 0 (Cel.iv (iZ 61 0 ((fd h 4 4 : Nat) : Int) 0 14 false false)) rfl rfl (by simp [Cel.cells, IV.cellsL]) (Cel.iv (iZ 60 0 ((fd h 4 4 : Nat) : Int) 0 14 false false)) rfl (by kernel_rfl) ?_; clear S; intro w2 S; simp only [List.set_cons_zero, List.set_cons_succ] at S)
      | (refine S.store1 rfl 29 _ _ rfl b2 8 _ rfl rfl 0 (Cel.iv (iZ 60 0 ((fd h 4 4 : Nat) : Int) 0 14 false false)) rfl rfl (by simp [Cel.cells, IV.cellsL]) (Cel.iv (iZ 60 0 ((fd h 0 8 : Nat) : Int) 0 14 false false)) rfl (by kernel_rfl) ?_; clear S; intro w2 S; simp only [List.set_cons_zero, List.set_cons_succ] at S)
      | (refine S.storeAll rfl 31 _ _ rfl b2 (Cel.iv (iZ 61 0 0 0 14 false false)) rfl rfl 0 _ rfl rfl (one_iv _) (szIV _) ?_; clear S; intro w2 S; simp only [List.set_cons_zero, List.set_cons_succ] at S)
      | (refine S.storeAll rfl 31 _ _ rfl b1 (Cel.iv (nNone 65 h).iv) rfl rfl 1 _ rfl rfl (one_iv _) (szIV _) ?_; clear S; intro w2 S; simp only [List.set_cons_zero, List.set_cons_succ] at S))
    | (go_at_call 41; with_reducible refine (CI.out _).mono ?_; rintro e wf ⟨⟨vv, rfl⟩, hbf⟩; replace S := S.below hbf; clear hbf)
    | (go_at_call 30; refine (plain_c _ _).mono ?_; rintro e wf ⟨rfl, hbf⟩; replace S := S.below hbf; clear hbf)
    | (go_at_call 25; refine (rbad_c _ _).mono ?_; rintro e wf ⟨rfl, hbf⟩; replace S := S.below hbf; clear hbf)
    | (go_at_call 24; refine (rundef_c _ _).mono ?_; rintro e wf ⟨rfl, hbf⟩; replace S := S.below hbf; clear hbf)
  )
  (try simp only [Exit.inBlock, Exit.then])
  refine bodyPost_ret (S.results rfl _ _ rfl 1 _ rfl _ Tryd.underlying31 rfl (szIV _)) rfl ⟨rfl, S.low⟩
set_option maxHeartbeats 4000000 in
set_option maxRecDepth 100000 in
theorem rm15_t (h : Nat) (hh : h < 65536) (q8_4 : fd h 8 4 = 15) (g : fd h 0 4 ≠ 0) (q3 : itOk (fd h 4 4) (fd h 0 4) = true) (w : World) : Calls Tryd.prog 29 #[.int .i64 h, .bool true] w fun e w' => Says w (rMisc h true) e w' := by
  have hN : rMisc h true = (nNone 65 h) := by
    unfold rMisc
    simp [nbeq, nblt, nble, pick2, extOp, revOp, *]
  unfold Says
  rw [hN]
  clear hN
  have k8_4 : bits .and .i64 ((h : Int) / 256) 15 = 15 := by have := i64_fd h 8 4 hh (by decide) ((h : Int) / 256) 15 (by first | rfl | simp) rfl; rw [this, q8_4]; rfl
  have k0_3 : bits .and .i64 ((h : Int)) 7 = ((fd h 0 3 : Nat) : Int) := i64_fd h 0 3 hh (by decide) _ _ (by first | rfl | simp) rfl
  have f0_3 : fd h 0 3 < 8 := fd_lt h 0 3
  have k3_3 : bits .and .i64 ((h : Int) / 8) 7 = ((fd h 3 3 : Nat) : Int) := i64_fd h 3 3 hh (by decide) _ _ (by first | rfl | simp) rfl
  have f3_3 : fd h 3 3 < 8 := fd_lt h 3 3
  have u4_4 : bits .and .u32 ((h : Int) / 16) 15 = ((fd h 4 4 : Nat) : Int) := u32_fd h 4 4 hh (by decide) _ _ (by first | rfl | simp) rfl
  have g4_4 : fd h 4 4 < 16 := fd_lt h 4 4
  have u0_8 : bits .and .u32 ((h : Int)) 255 = ((fd h 0 8 : Nat) : Int) := u32_fd h 0 8 hh (by decide) _ _ (by first | rfl | simp) rfl
  have g0_8 : fd h 0 8 < 256 := fd_lt h 0 8
  have k0_4 : bits .and .i64 ((h : Int)) 15 = ((fd h 0 4 : Nat) : Int) := i64_fd h 0 4 hh (by decide) _ _ (by first | rfl | simp) rfl
  have f0_4 : fd h 0 4 < 16 := fd_lt h 0 4
  have k4_4 : bits .and .i64 ((h : Int) / 16) 15 = ((fd h 4 4 : Nat) : Int) := i64_fd h 4 4 hh (by decide) _ _ (by first | rfl | simp) rfl
  have f4_4 : fd h 4 4 < 16 := fd_lt h 4 4
  have tz : (((fd h 0 4 : Nat) : Int) != 0) = true := by simp; omega
  have CI : Hid (∀ w, Calls Tryd.prog 41 #[.int .i64 (fd h 4 4 : Nat), .int .i64 (fd h 0 4 : Nat)] w fun e w' => (∃ v, e = .returned (.tuple #[v, .bool true])) ∧ Below w.heap.size w w') := fun w => by
    have := rit_c (fd h 4 4) (fd h 0 4) (by omega) (by omega) (by omega) w
    rw [q3] at this
    exact this
  clear q3
  go_enter Tryd.func29, Tryd.ntmps29
  have S := SH.start w
  go_wp2_with (first
    | ((with_reducible refine wpl_isDst 4 ?_); refine SH.alloc (L := []) S rfl 31 rfl (Cel.iv IV.zero) zeroIV ?_; clear S; intro b1 w1 S)
    | ((with_reducible refine wpl_isDst 11 ?_); refine S.alloc rfl 31 rfl (Cel.iv IV.zero) zeroIV ?_; clear S; intro b2 w1 S)
    | ((with_reducible refine wpl_isLoad ?_); first
      | (refine S.ldAll 31 _ rfl b2 rfl 0 (Cel.iv (iZ 60 0 ((fd h 0 8 : Nat) : Int) 0 14 false false)) rfl _ Tryd.underlying31 rfl (szIV _) rfl ?_))
    | ((with_reducible refine wpl_isStore ?_); first
      | (refine S.store1 rfl 29 _ _ rfl b2 8 _ rfl rfl 0 (Cel.iv (iZ 61 0 0 0 14 false false)) rfl rfl (by simp [Cel.cells, IV.cellsL]) (Cel.iv (iZ 61 0 ((fd h 4 4 : Nat) : Int) 0 14 false false)) rfl (by kernel_rfl) ?_; clear S; intro w2 S; simp only [List.set_cons_zero, List.set_cons_succ] at S)
      | (refine S.store1 rfl 3 _ _ rfl b2 0 _ rfl rfl 0 (Cel.iv (iZ 61 0 ((fd h 4 4 : Nat) : Int) 0 14 false false)) rfl rfl (by simp [Cel.cells, IV.cellsL]) (Cel.iv (iZ 60 0 ((fd h 4 4 : Nat) : Int) 0 14 false false)) rfl (by kernel_rfl) ?_; clear S; intro w2 S; simp only [List.set_cons_zero, List.set_cons_succ] at S)
      | (refine S.store1 rfl 29 _ _ rfl b2 8 _ rfl rfl 0 (Cel.iv (iZ 60 0 ((fd h 4 4 : Nat) : Int) 0 14 false false)) rfl rfl (by simp [Cel.cells, IV.cellsL]) (Cel.iv (iZ 60 0 ((fd h 0 8 : Nat) : Int) 0 14 false false)) rfl (by kernel_rfl) ?_; clear S; intro w2 S; simp only [List.set_cons_zero, List.set_cons_succ] at S)
      | (refine S.storeAll rfl 31 _ _ rfl b2 (Cel.iv (iZ 61 0 0 0 14 false false)) rfl rfl 0 _ rfl rfl (one_iv _) (szIV _) ?_; clear S; intro w2 S; simp only [List.set_cons_zero, List.set_cons_succ] at S)
      | (refine S.storeAll rfl 31 _ _ rfl b1 (Cel.iv (nNone 65 h).iv) rfl rfl 1 _ rfl rfl (one_iv _) (szIV _) ?_; clear S; intro w2 S; simp only [List.set_cons_zero, List.set_cons_succ] at S))
    | (go_at_call 41; with_reducible refine (CI.out _).mono ?_; rintro e wf ⟨⟨vv, rfl⟩, hbf⟩; replace S := S.below hbf; clear hbf)
    | (go_at_call 30; refine (plain_c _ _).mono ?_; rintro e wf ⟨rfl, hbf⟩; replace S := S.below hbf; clear hbf)
    | (go_at_call 25; refine (rbad_c _ _).mono ?_; rintro e wf ⟨rfl, hbf⟩; replace S := S.below hbf; clear hbf)
    | (go_at_call 24; refine (rundef_c _ _).mono ?_; rintro e wf ⟨rfl, hbf⟩; replace S := S.below hbf; clear hbf)
  )
  (try simp only [Exit.inBlock, Exit.then])
  refine bodyPost_ret (S.results rfl _ _ rfl 1 _ rfl _ Tryd.underlying31 rfl (szIV _)) rfl ⟨rfl, S.low⟩
set_option maxHeartbeats 4000000 in
set_option maxRecDepth 100000 in
theorem rm15_f (h : Nat) (hh : h < 65536) (q8_4 : fd h 8 4 = 15) (g : fd h 0 4 ≠ 0) (q3 : itOk (fd h 4 4) (fd h 0 4) = true) (w : World) : Calls Tryd.prog 29 #[.int .i64 h, .bool false] w fun e w' => Says w (rMisc h false) e w' := by
  have hN : rMisc h false = (nNum 60 (fd h 0 8)) := by
    unfold rMisc
    simp [nbeq, nblt, nble, pick2, extOp, revOp, *]
  unfold Says
  rw [hN]
  clear hN
  have k8_4 : bits .and .i64 ((h : Int) / 256) 15 = 15 := by have := i64_fd h 8 4 hh (by decide) ((h : Int) / 256) 15 (by first | rfl | simp) rfl; rw [this, q8_4]; rfl
  have k0_3 : bits .and .i64 ((h : Int)) 7 = ((fd h 0 3 : Nat) : Int) := i64_fd h 0 3 hh (by decide) _ _ (by first | rfl | simp) rfl
  have f0_3 : fd h 0 3 < 8 := fd_lt h 0 3
  have k3_3 : bits .and .i64 ((h : Int) / 8) 7 = ((fd h 3 3 : Nat) : Int) := i64_fd h 3 3 hh (by decide) _ _ (by first | rfl | simp) rfl
  have f3_3 : fd h 3 3 < 8 := fd_lt h 3 3
  have u4_4 : bits .and .u32 ((h : Int) / 16) 15 = ((fd h 4 4 : Nat) : Int) := u32_fd h 4 4 hh (by decide) _ _ (by first | rfl | simp) rfl
  have g4_4 : fd h 4 4 < 16 := fd_lt h 4 4
  have u0_8 : bits .and .u32 ((h : Int)) 255 = ((fd h 0 8 : Nat) : Int) := u32_fd h 0 8 hh (by decide) _ _ (by first | rfl | simp) rfl
  have g0_8 : fd h 0 8 < 256 := fd_lt h 0 8
  have k0_4 : bits .and .i64 ((h : Int)) 15 = ((fd h 0 4 : Nat) : Int) := i64_fd h 0 4 hh (by decide) _ _ (by first | rfl | simp) rfl
  have f0_4 : fd h 0 4 < 16 := fd_lt h 0 4
  have k4_4 : bits .and .i64 ((h : Int) / 16) 15 = ((fd h 4 4 : Nat) : Int) := i64_fd h 4 4 hh (by decide) _ _ (by first | rfl | simp) rfl
  have f4_4 : fd h 4 4 < 16 := fd_lt h 4 4
  have tz : (((fd h 0 4 : Nat) : Int) != 0) = true := by simp; omega
  have CI : Hid (∀ w, Calls Tryd.prog 41 #[.int .i64 (fd h 4 4 : Nat), .int .i64 (fd h 0 4 : Nat)] w fun e w' => (∃ v, e = .returned (.tuple #[v, .bool true])) ∧ Below w.heap.size w w') := fun w => by
    have := rit_c (fd h 4 4) (fd h 0 4) (by omega) (by omega) (by omega) w
    rw [q3] at this
    exact this
  clear q3
  go_enter Tryd.func29, Tryd.ntmps29
  have S := SH.start w
  go_wp2_with (first
    | ((with_reducible refine wpl_isDst 4 ?_); refine SH.alloc (L := []) S rfl 31 rfl (Cel.iv IV.zero) zeroIV ?_; clear S; intro b1 w1 S)
    | ((with_reducible refine wpl_isDst 11 ?_); refine S.alloc rfl 31 rfl (Cel.iv IV.zero) zeroIV ?_; clear S; intro b2 w1 S)
    | ((with_reducible refine wpl_isLoad ?_); first
      | (refine S.ldAll 31 _ rfl b2 rfl 0 (Cel.iv (iZ 60 0 ((fd h 0 8 : Nat) : Int) 0 14 false false)) rfl _ Tryd.underlying31 rfl (szIV _) rfl ?_))
    | ((with_reducible refine wpl_isStore ?_); first
      | (refine S.store1 rfl 29 _ _ rfl b2 8 _ rfl rfl 0 (Cel.iv (iZ 61 0 0 0 14 false false)) rfl rfl (by simp [Cel.cells, IV.cellsL]) (Cel.iv (iZ 61 0 ((fd h 4 4 : Nat) : Int) 0 14 false false)) rfl (by kernel_rfl) ?_; clear S; intro w2 S; simp only [List.set_cons_zero, List.set_cons_succ] at S)
      | (refine S.store1 rfl 3 _ _ rfl b2 0 _ rfl rfl 0 (Cel.iv (iZ 61 0 ((fd h 4 4 : Nat) : Int) 0 14 false false)) rfl rfl (by simp [Cel.cells, IV.cellsL]) (Cel.iv (iZ 60 0 ((fd h 4 4 : Nat) : Int) 0 14 false false)) rfl (by kernel_rfl) ?_; clear S; intro w2 S; simp only [List.set_cons_zero, List.set_cons_succ] at S)
      | (refine S.store1 rfl 29 _ _ rfl b2 8 _ rfl rfl 0 (Cel.iv (iZ 60 0 ((fd h 4 4 : Nat) : Int) 0 14 false false)) rfl rfl (by simp [Cel.cells, IV.cellsL]) (Cel.iv (iZ 60 0 ((fd h 0 8 : Nat) : Int) 0 14 false false)) rfl (by kernel_rfl) ?_; clear S; intro w2 S; simp only [List.set_cons_zero, List.set_cons_succ] at S)
      | (refine S.storeAll rfl 31 _ _ rfl b2 (Cel.iv (iZ 61 0 0 0 14 false false)) rfl rfl 0 _ rfl rfl (one_iv _) (szIV _) ?_; clear S; intro w2 S; simp only [List.set_cons_zero, List.set_cons_succ] at S)
      | (refine S.storeAll rfl 31 _ _ rfl b1 (Cel.iv (nNum 60 (fd h 0 8)).iv) rfl rfl 1 _ rfl rfl (one_iv _) (szIV _) ?_; clear S; intro w2 S; simp only [List.set_cons_zero, List.set_cons_succ] at S))
    | (go_at_call 41; with_reducible refine (CI.out _).mono ?_; rintro e wf ⟨⟨vv, rfl⟩, hbf⟩; replace S := S.below hbf; clear hbf)
    | (go_at_call 30; refine (plain_c _ _).mono ?_; rintro e wf ⟨rfl, hbf⟩; replace S := S.below hbf; clear hbf)
    | (go_at_call 25; refine (rbad_c _ _).mono ?_; rintro e wf ⟨rfl, hbf⟩; replace S := S.below hbf; clear hbf)
    | (go_at_call 24; refine (rundef_c _ _).mono ?_; rintro e wf ⟨rfl, hbf⟩; replace S := S.below hbf; clear hbf)
  )
  (try simp only [Exit.inBlock, Exit.then])
  refine bodyPost_ret (S.results rfl _ _ rfl 1 _ rfl _ Tryd.underlying31 rfl (szIV _)) rfl ⟨rfl, S.low⟩
end Go.Proofs.YtbbkiiabjhgpkaaDoor
namespace Go.Proofs.YtbbkiiabjhgpkaaDoor
open Go.ChangeShapes Go.WideShapes Go.ChangeAt Go.RowKit
set_option linter.unusedVariables false
set_option linter.unusedSimpArgs false

theorem rmisc_c (h : Nat) (hh : h < 65536) (b : Bool) (w : World) : Calls Tryd.prog 29 #[.int .i64 h, .bool b] w fun e w' => Says w (rMisc h b) e w' := by
  have f84 : fd h 8 4 < 16 := fd_lt h 8 4
  have f71 : fd h 7 1 < 2 := fd_lt h 7 1
  have f11 : fd h 11 1 < 2 := fd_lt h 11 1
  have f62 : fd h 6 2 < 4 := fd_lt h 6 2
  have h71 : fd h 7 1 = 0 ∨ fd h 7 1 = 1 := by omega
  have h11 : fd h 11 1 = 0 ∨ fd h 11 1 = 1 := by omega
  have h62 : fd h 6 2 = 0 ∨ fd h 6 2 = 1 ∨ fd h 6 2 = 2 ∨ fd h 6 2 = 3 := by omega
  rcases (show fd h 8 4 = 0 ∨ fd h 8 4 = 1 ∨ fd h 8 4 = 2 ∨ fd h 8 4 = 3 ∨ fd h 8 4 = 4 ∨ fd h 8 4 = 5 ∨ fd h 8 4 = 6 ∨ fd h 8 4 = 7 ∨ fd h 8 4 = 8 ∨ fd h 8 4 = 9 ∨ fd h 8 4 = 10 ∨ fd h 8 4 = 11 ∨ fd h 8 4 = 12 ∨ fd h 8 4 = 13 ∨ fd h 8 4 = 14 ∨ fd h 8 4 = 15 by omega) with q | q | q | q | q | q | q | q | q | q | q | q | q | q | q | q
  · rcases h71 with p | p
    · exact rm0_0 h hh b q p w
    · exact rm0_1 h hh b q p w
  · rcases h11 with p | p
    · cases b
      · exact rm1_0_false h hh q p w
      · exact rm1_0_true h hh q p w
    · cases b
      · exact rm1_1_false h hh q p w
      · exact rm1_1_true h hh q p w
  · rcases h62 with p | p | p | p
    · exact rm2_0 h hh b q p w
    · exact rm2_1 h hh b q p w
    · exact rm2_2 h hh b q p w
    · exact rm2_3 h hh b q p w
  · rcases h11 with p | p
    · cases b
      · exact rm3_0_false h hh q p w
      · exact rm3_0_true h hh q p w
    · cases b
      · exact rm3_1_false h hh q p w
      · exact rm3_1_true h hh q p w
  · rcases h11 with p | p
    · by_cases g : fd h 0 8 + fd h 8 1 * 16384 = 0
      · exact rm4_0z h hh b q p g w
      · exact rm4_0n h hh b q p g w
    · by_cases g : fd h 0 8 + fd h 8 1 * 32768 = 0
      · exact rm4_1z h hh b q p g w
      · exact rm4_1n h hh b q p g w
  · rcases h11 with p | p
    · by_cases g : fd h 0 8 + fd h 8 1 * 16384 = 0
      · exact rm5_0z h hh b q p g w
      · exact rm5_0n h hh b q p g w
    · by_cases g : fd h 0 8 + fd h 8 1 * 32768 = 0
      · exact rm5_1z h hh b q p g w
      · exact rm5_1n h hh b q p g w
  · exact rm6 h hh b q w
  · exact rm7 h hh b q w
  · exact rm8 h hh b q w
  · rcases h11 with p | p
    · cases b
      · exact rm9_0_false h hh q p w
      · exact rm9_0_true h hh q p w
    · cases b
      · exact rm9_1_false h hh q p w
      · exact rm9_1_true h hh q p w
  · rcases h62 with p | p | p | p
    · exact rm10_0 h hh b q p w
    · exact rm10_1 h hh b q p w
    · exact rm10_2 h hh b q p w
    · exact rm10_3 h hh b q p w
  · rcases h11 with p | p
    · cases b
      · exact rm11_0_false h hh q p w
      · exact rm11_0_true h hh q p w
    · cases b
      · exact rm11_1_false h hh q p w
      · exact rm11_1_true h hh q p w
  · rcases h11 with p | p
    · by_cases g : fd h 0 8 + fd h 8 1 * 16384 = 0
      · exact rm12_0z h hh b q p g w
      · exact rm12_0n h hh b q p g w
    · by_cases g : fd h 0 8 + fd h 8 1 * 32768 = 0
      · exact rm12_1z h hh b q p g w
      · exact rm12_1n h hh b q p g w
  · rcases h11 with p | p
    · by_cases g : fd h 0 8 + fd h 8 1 * 16384 = 0
      · exact rm13_0z h hh b q p g w
      · exact rm13_0n h hh b q p g w
    · by_cases g : fd h 0 8 + fd h 8 1 * 32768 = 0
      · exact rm13_1z h hh b q p g w
      · exact rm13_1n h hh b q p g w
  · exact rm14 h hh b q w
  · by_cases g : fd h 0 4 = 0
    · exact rm15_0 h hh b q g w
    · cases q3 : itOk (fd h 4 4) (fd h 0 4)
      · exact rm15_n h hh b q g q3 w
      · cases b
        · exact rm15_f h hh q g q3 w
        · exact rm15_t h hh q g q3 w
end Go.Proofs.YtbbkiiabjhgpkaaDoor
