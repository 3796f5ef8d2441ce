/- Stage 8: the document's narrow words, walked. -/
import Derived.Test.YtbbkiiabjhgpkaaDoorRd1b
namespace Go.Proofs.YtbbkiiabjhgpkaaDoor
open Go.ChangeShapes Go.WideShapes Go.ChangeAt Go.RowKit
set_option linter.unusedVariables false
set_option linter.unusedSimpArgs false

set_option maxHeartbeats 4000000 in
set_option maxRecDepth 100000 in
theorem rd_0 (h : Nat) (hh : h < 65536) (q1 : h / 2048 = 0) (q2 : fd h 6 5 = 0) (w : World) : Calls Tryd.prog 11 #[.int .u16 h, .bool false] w fun e w' => Says w (rdecN h false) e w' := by
  have CW : Hid (∀ w, Calls Tryd.prog 12 #[.int .u16 h] w fun e w' => e = .returned (.bool false) ∧ w' = w) := fun w => by
    have := riswide_c h hh w
    rw [q1] at this
    exact this
  have e1 : (h : Int) / 2048 = 0 := by omega
  have hN : rdecN h false = (nReg 13 (fd h 0 3) 0 (fd h 3 3) true) := by
    unfold rdecN
    simp [nbeq, nblt, nble, pick2, memOp, *]
  unfold Says
  rw [hN]
  clear hN
  have tz : (((fd h 6 5 : Nat) : Int) == 0) = true := by simp; omega
  obtain ⟨k0_3, f0_3, k3_3, f3_3, k6_3, f6_3, k6_5, f6_5, k0_8, f0_8, k8_3, f8_3⟩ := keys6 h hh
  clear q2
  go_enter Tryd.func11, Tryd.ntmps11
  have S := SH.start w
  go_wp2_with (first
    | ((with_reducible refine wpl_isDst 4 ?_); refine SH.alloc (L := []) S rfl 31 rfl (Cel.iv IV.zero) zeroIV ?_; clear S; intro b1 w1 S)
    | ((with_reducible refine wpl_isStore ?_); refine S.storeAll rfl 31 _ _ rfl b1 (Cel.iv (nReg 13 (fd h 0 3) 0 (fd h 3 3) true).iv) rfl rfl 0 _ rfl rfl (one_iv _) (szIV _) ?_; clear S; intro w2 S; simp only [List.set_cons_zero, List.set_cons_succ] at S)
    | (go_at_call 12; with_reducible refine (CW.out _).mono ?_; rintro e wf ⟨rfl, rfl⟩)
    | (go_at_call 26; refine (rdata_c _ _ _ _ _ _).mono ?_; rintro e wf ⟨rfl, hbf⟩; replace S := S.below hbf; clear hbf))
  (try simp only [Exit.inBlock, Exit.then])
  refine bodyPost_ret (S.results rfl _ _ rfl 0 _ rfl _ Tryd.underlying31 rfl (szIV _)) rfl ⟨rfl, S.low⟩
set_option maxHeartbeats 4000000 in
set_option maxRecDepth 100000 in
theorem rd_1 (h : Nat) (hh : h < 65536) (q1 : h / 2048 = 0) (q2 : fd h 6 5 ≠ 0) (w : World) : Calls Tryd.prog 11 #[.int .u16 h, .bool false] w fun e w' => Says w (rdecN h false) e w' := by
  have CW : Hid (∀ w, Calls Tryd.prog 12 #[.int .u16 h] w fun e w' => e = .returned (.bool false) ∧ w' = w) := fun w => by
    have := riswide_c h hh w
    rw [q1] at this
    exact this
  have e1 : (h : Int) / 2048 = 0 := by omega
  have hN : rdecN h false = (nImm 17 (fd h 0 3) (fd h 3 3) (fd h 6 5) true) := by
    unfold rdecN
    simp [nbeq, nblt, nble, pick2, memOp, *]
  unfold Says
  rw [hN]
  clear hN
  have tz : (((fd h 6 5 : Nat) : Int) == 0) = false := by simp; omega
  obtain ⟨k0_3, f0_3, k3_3, f3_3, k6_3, f6_3, k6_5, f6_5, k0_8, f0_8, k8_3, f8_3⟩ := keys6 h hh
  clear q2
  go_enter Tryd.func11, Tryd.ntmps11
  have S := SH.start w
  go_wp2_with (first
    | ((with_reducible refine wpl_isDst 4 ?_); refine SH.alloc (L := []) S rfl 31 rfl (Cel.iv IV.zero) zeroIV ?_; clear S; intro b1 w1 S)
    | ((with_reducible refine wpl_isStore ?_); refine S.storeAll rfl 31 _ _ rfl b1 (Cel.iv (nImm 17 (fd h 0 3) (fd h 3 3) (fd h 6 5) true).iv) rfl rfl 0 _ rfl rfl (one_iv _) (szIV _) ?_; clear S; intro w2 S; simp only [List.set_cons_zero, List.set_cons_succ] at S)
    | (go_at_call 12; with_reducible refine (CW.out _).mono ?_; rintro e wf ⟨rfl, rfl⟩)
    | (go_at_call 27; refine (rimm_c _ _ _ _ _ _).mono ?_; rintro e wf ⟨rfl, hbf⟩; replace S := S.below hbf; clear hbf))
  (try simp only [Exit.inBlock, Exit.then])
  refine bodyPost_ret (S.results rfl _ _ rfl 0 _ rfl _ Tryd.underlying31 rfl (szIV _)) rfl ⟨rfl, S.low⟩
set_option maxHeartbeats 4000000 in
set_option maxRecDepth 100000 in
theorem rd_2 (h : Nat) (hh : h < 65536) (q1 : h / 2048 = 1) (q2 : fd h 6 5 = 0) (w : World) : Calls Tryd.prog 11 #[.int .u16 h, .bool false] w fun e w' => Says w (rdecN h false) e w' := by
  have CW : Hid (∀ w, Calls Tryd.prog 12 #[.int .u16 h] w fun e w' => e = .returned (.bool false) ∧ w' = w) := fun w => by
    have := riswide_c h hh w
    rw [q1] at this
    exact this
  have e1 : (h : Int) / 2048 = 1 := by omega
  have hN : rdecN h false = (nImm 18 (fd h 0 3) (fd h 3 3) 32 true) := by
    unfold rdecN
    simp [nbeq, nblt, nble, pick2, memOp, *]
  unfold Says
  rw [hN]
  clear hN
  have tz : (((fd h 6 5 : Nat) : Int) == 0) = true := by simp; omega
  obtain ⟨k0_3, f0_3, k3_3, f3_3, k6_3, f6_3, k6_5, f6_5, k0_8, f0_8, k8_3, f8_3⟩ := keys6 h hh
  clear q2
  go_enter Tryd.func11, Tryd.ntmps11
  have S := SH.start w
  go_wp2_with (first
    | ((with_reducible refine wpl_isDst 4 ?_); refine SH.alloc (L := []) S rfl 31 rfl (Cel.iv IV.zero) zeroIV ?_; clear S; intro b1 w1 S)
    | ((with_reducible refine wpl_isLoad ?_); refine S.ld 3 _ rfl g 0 rfl 0 (Cel.any [.int .i64 18, .int .i64 19]) rfl _ rfl _ Tryd.underlying3 rfl rfl ?_)
    | ((with_reducible refine wpl_isStore ?_); refine S.storeAll rfl 31 _ _ rfl b1 (Cel.iv (nImm 18 (fd h 0 3) (fd h 3 3) 32 true).iv) rfl rfl 1 _ rfl rfl (one_iv _) (szIV _) ?_; clear S; intro w2 S; simp only [List.set_cons_zero, List.set_cons_succ] at S)
    | (go_at_call 12; with_reducible refine (CW.out _).mono ?_; rintro e wf ⟨rfl, rfl⟩)
    | (go_at_call 27; refine (rimm_c _ _ _ _ _ _).mono ?_; rintro e wf ⟨rfl, hbf⟩; replace S := S.below hbf; clear hbf)
    | ((with_reducible refine wpl_is ?_); refine S.sliceA rfl 23 2 _ rfl [.int .i64 18, .int .i64 19] 3 (by kernel_rfl) ?_; clear S; intro g w1 S))
  (try simp only [Exit.inBlock, Exit.then])
  refine bodyPost_ret (S.results rfl _ _ rfl 1 _ rfl _ Tryd.underlying31 rfl (szIV _)) rfl ⟨rfl, S.low⟩
set_option maxHeartbeats 4000000 in
set_option maxRecDepth 100000 in
theorem rd_3 (h : Nat) (hh : h < 65536) (q1 : h / 2048 = 1) (q2 : fd h 6 5 ≠ 0) (w : World) : Calls Tryd.prog 11 #[.int .u16 h, .bool false] w fun e w' => Says w (rdecN h false) e w' := by
  have CW : Hid (∀ w, Calls Tryd.prog 12 #[.int .u16 h] w fun e w' => e = .returned (.bool false) ∧ w' = w) := fun w => by
    have := riswide_c h hh w
    rw [q1] at this
    exact this
  have e1 : (h : Int) / 2048 = 1 := by omega
  have hN : rdecN h false = (nImm 18 (fd h 0 3) (fd h 3 3) (fd h 6 5) true) := by
    unfold rdecN
    simp [nbeq, nblt, nble, pick2, memOp, *]
  unfold Says
  rw [hN]
  clear hN
  have tz : (((fd h 6 5 : Nat) : Int) == 0) = false := by simp; omega
  obtain ⟨k0_3, f0_3, k3_3, f3_3, k6_3, f6_3, k6_5, f6_5, k0_8, f0_8, k8_3, f8_3⟩ := keys6 h hh
  clear q2
  go_enter Tryd.func11, Tryd.ntmps11
  have S := SH.start w
  go_wp2_with (first
    | ((with_reducible refine wpl_isDst 4 ?_); refine SH.alloc (L := []) S rfl 31 rfl (Cel.iv IV.zero) zeroIV ?_; clear S; intro b1 w1 S)
    | ((with_reducible refine wpl_isLoad ?_); refine S.ld 3 _ rfl g 0 rfl 0 (Cel.any [.int .i64 18, .int .i64 19]) rfl _ rfl _ Tryd.underlying3 rfl rfl ?_)
    | ((with_reducible refine wpl_isStore ?_); refine S.storeAll rfl 31 _ _ rfl b1 (Cel.iv (nImm 18 (fd h 0 3) (fd h 3 3) (fd h 6 5) true).iv) rfl rfl 1 _ rfl rfl (one_iv _) (szIV _) ?_; clear S; intro w2 S; simp only [List.set_cons_zero, List.set_cons_succ] at S)
    | (go_at_call 12; with_reducible refine (CW.out _).mono ?_; rintro e wf ⟨rfl, rfl⟩)
    | (go_at_call 27; refine (rimm_c _ _ _ _ _ _).mono ?_; rintro e wf ⟨rfl, hbf⟩; replace S := S.below hbf; clear hbf)
    | ((with_reducible refine wpl_is ?_); refine S.sliceA rfl 23 2 _ rfl [.int .i64 18, .int .i64 19] 3 (by kernel_rfl) ?_; clear S; intro g w1 S))
  (try simp only [Exit.inBlock, Exit.then])
  refine bodyPost_ret (S.results rfl _ _ rfl 1 _ rfl _ Tryd.underlying31 rfl (szIV _)) rfl ⟨rfl, S.low⟩
set_option maxHeartbeats 4000000 in
set_option maxRecDepth 100000 in
theorem rd_4 (h : Nat) (hh : h < 65536) (q1 : h / 2048 = 2) (q2 : fd h 6 5 = 0) (w : World) : Calls Tryd.prog 11 #[.int .u16 h, .bool false] w fun e w' => Says w (rdecN h false) e w' := by
  have CW : Hid (∀ w, Calls Tryd.prog 12 #[.int .u16 h] w fun e w' => e = .returned (.bool false) ∧ w' = w) := fun w => by
    have := riswide_c h hh w
    rw [q1] at this
    exact this
  have e1 : (h : Int) / 2048 = 2 := by omega
  have hN : rdecN h false = (nImm 19 (fd h 0 3) (fd h 3 3) 32 true) := by
    unfold rdecN
    simp [nbeq, nblt, nble, pick2, memOp, *]
  unfold Says
  rw [hN]
  clear hN
  have tz : (((fd h 6 5 : Nat) : Int) == 0) = true := by simp; omega
  obtain ⟨k0_3, f0_3, k3_3, f3_3, k6_3, f6_3, k6_5, f6_5, k0_8, f0_8, k8_3, f8_3⟩ := keys6 h hh
  clear q2
  go_enter Tryd.func11, Tryd.ntmps11
  have S := SH.start w
  go_wp2_with (first
    | ((with_reducible refine wpl_isDst 4 ?_); refine SH.alloc (L := []) S rfl 31 rfl (Cel.iv IV.zero) zeroIV ?_; clear S; intro b1 w1 S)
    | ((with_reducible refine wpl_isLoad ?_); refine S.ld 3 _ rfl g 1 rfl 0 (Cel.any [.int .i64 18, .int .i64 19]) rfl _ rfl _ Tryd.underlying3 rfl rfl ?_)
    | ((with_reducible refine wpl_isStore ?_); refine S.storeAll rfl 31 _ _ rfl b1 (Cel.iv (nImm 19 (fd h 0 3) (fd h 3 3) 32 true).iv) rfl rfl 1 _ rfl rfl (one_iv _) (szIV _) ?_; clear S; intro w2 S; simp only [List.set_cons_zero, List.set_cons_succ] at S)
    | (go_at_call 12; with_reducible refine (CW.out _).mono ?_; rintro e wf ⟨rfl, rfl⟩)
    | (go_at_call 27; refine (rimm_c _ _ _ _ _ _).mono ?_; rintro e wf ⟨rfl, hbf⟩; replace S := S.below hbf; clear hbf)
    | ((with_reducible refine wpl_is ?_); refine S.sliceA rfl 23 2 _ rfl [.int .i64 18, .int .i64 19] 3 (by kernel_rfl) ?_; clear S; intro g w1 S))
  (try simp only [Exit.inBlock, Exit.then])
  refine bodyPost_ret (S.results rfl _ _ rfl 1 _ rfl _ Tryd.underlying31 rfl (szIV _)) rfl ⟨rfl, S.low⟩
set_option maxHeartbeats 4000000 in
set_option maxRecDepth 100000 in
theorem rd_5 (h : Nat) (hh : h < 65536) (q1 : h / 2048 = 2) (q2 : fd h 6 5 ≠ 0) (w : World) : Calls Tryd.prog 11 #[.int .u16 h, .bool false] w fun e w' => Says w (rdecN h false) e w' := by
  have CW : Hid (∀ w, Calls Tryd.prog 12 #[.int .u16 h] w fun e w' => e = .returned (.bool false) ∧ w' = w) := fun w => by
    have := riswide_c h hh w
    rw [q1] at this
    exact this
  have e1 : (h : Int) / 2048 = 2 := by omega
  have hN : rdecN h false = (nImm 19 (fd h 0 3) (fd h 3 3) (fd h 6 5) true) := by
    unfold rdecN
    simp [nbeq, nblt, nble, pick2, memOp, *]
  unfold Says
  rw [hN]
  clear hN
  have tz : (((fd h 6 5 : Nat) : Int) == 0) = false := by simp; omega
  obtain ⟨k0_3, f0_3, k3_3, f3_3, k6_3, f6_3, k6_5, f6_5, k0_8, f0_8, k8_3, f8_3⟩ := keys6 h hh
  clear q2
  go_enter Tryd.func11, Tryd.ntmps11
  have S := SH.start w
  go_wp2_with (first
    | ((with_reducible refine wpl_isDst 4 ?_); refine SH.alloc (L := []) S rfl 31 rfl (Cel.iv IV.zero) zeroIV ?_; clear S; intro b1 w1 S)
    | ((with_reducible refine wpl_isLoad ?_); refine S.ld 3 _ rfl g 1 rfl 0 (Cel.any [.int .i64 18, .int .i64 19]) rfl _ rfl _ Tryd.underlying3 rfl rfl ?_)
    | ((with_reducible refine wpl_isStore ?_); refine S.storeAll rfl 31 _ _ rfl b1 (Cel.iv (nImm 19 (fd h 0 3) (fd h 3 3) (fd h 6 5) true).iv) rfl rfl 1 _ rfl rfl (one_iv _) (szIV _) ?_; clear S; intro w2 S; simp only [List.set_cons_zero, List.set_cons_succ] at S)
    | (go_at_call 12; with_reducible refine (CW.out _).mono ?_; rintro e wf ⟨rfl, rfl⟩)
    | (go_at_call 27; refine (rimm_c _ _ _ _ _ _).mono ?_; rintro e wf ⟨rfl, hbf⟩; replace S := S.below hbf; clear hbf)
    | ((with_reducible refine wpl_is ?_); refine S.sliceA rfl 23 2 _ rfl [.int .i64 18, .int .i64 19] 3 (by kernel_rfl) ?_; clear S; intro g w1 S))
  (try simp only [Exit.inBlock, Exit.then])
  refine bodyPost_ret (S.results rfl _ _ rfl 1 _ rfl _ Tryd.underlying31 rfl (szIV _)) rfl ⟨rfl, S.low⟩
set_option maxHeartbeats 4000000 in
set_option maxRecDepth 100000 in
theorem rd_6 (h : Nat) (hh : h < 65536) (q1 : h / 2048 = 3) (q2 : (fd h 9 1 = 0 ∧ fd h 10 1 = 0)) (w : World) : Calls Tryd.prog 11 #[.int .u16 h, .bool false] w fun e w' => Says w (rdecN h false) e w' := by
  have CW : Hid (∀ w, Calls Tryd.prog 12 #[.int .u16 h] w fun e w' => e = .returned (.bool false) ∧ w' = w) := fun w => by
    have := riswide_c h hh w
    rw [q1] at this
    exact this
  have e1 : (h : Int) / 2048 = 3 := by omega
  have hN : rdecN h false = (nReg 5 (fd h 0 3) (fd h 3 3) (fd h 6 3) true) := by
    unfold rdecN
    simp [nbeq, nblt, nble, pick2, memOp, *]
  unfold Says
  rw [hN]
  clear hN
  have k9 : bits .and .i64 ((h : Int) / 512) 1 = 0 := by have := i64_fd h 9 1 hh (by decide) ((h : Int) / 512) 1 (by first | rfl | simp) rfl; rw [this, q2.1]; rfl
  have k10 : bits .and .i64 ((h : Int) / 1024) 1 = 0 := by have := i64_fd h 10 1 hh (by decide) ((h : Int) / 1024) 1 (by first | rfl | simp) rfl; rw [this, q2.2]; rfl
  obtain ⟨k0_3, f0_3, k3_3, f3_3, k6_3, f6_3, k6_5, f6_5, k0_8, f0_8, k8_3, f8_3⟩ := keys6 h hh
  clear q2
  go_enter Tryd.func11, Tryd.ntmps11
  have S := SH.start w
  go_wp2_with (first
    | ((with_reducible refine wpl_isDst 4 ?_); refine SH.alloc (L := []) S rfl 31 rfl (Cel.iv IV.zero) zeroIV ?_; clear S; intro b1 w1 S)
    | ((with_reducible refine wpl_isLoad ?_); refine S.ld 3 _ rfl g 0 rfl 0 (Cel.any [.int .i64 5, .int .i64 3]) rfl _ rfl _ Tryd.underlying3 rfl rfl ?_)
    | ((with_reducible refine wpl_isStore ?_); refine S.storeAll rfl 31 _ _ rfl b1 (Cel.iv (nReg 5 (fd h 0 3) (fd h 3 3) (fd h 6 3) true).iv) rfl rfl 1 _ rfl rfl (one_iv _) (szIV _) ?_; clear S; intro w2 S; simp only [List.set_cons_zero, List.set_cons_succ] at S)
    | (go_at_call 12; with_reducible refine (CW.out _).mono ?_; rintro e wf ⟨rfl, rfl⟩)
    | (go_at_call 26; refine (rdata_c _ _ _ _ _ _).mono ?_; rintro e wf ⟨rfl, hbf⟩; replace S := S.below hbf; clear hbf)
    | ((with_reducible refine wpl_is ?_); refine S.sliceA rfl 23 2 _ rfl [.int .i64 5, .int .i64 3] 3 (by kernel_rfl) ?_; clear S; intro g w1 S))
  (try simp only [Exit.inBlock, Exit.then])
  refine bodyPost_ret (S.results rfl _ _ rfl 1 _ rfl _ Tryd.underlying31 rfl (szIV _)) rfl ⟨rfl, S.low⟩
set_option maxHeartbeats 4000000 in
set_option maxRecDepth 100000 in
theorem rd_7 (h : Nat) (hh : h < 65536) (q1 : h / 2048 = 3) (q2 : (fd h 9 1 = 0 ∧ fd h 10 1 = 1)) (w : World) : Calls Tryd.prog 11 #[.int .u16 h, .bool false] w fun e w' => Says w (rdecN h false) e w' := by
  have CW : Hid (∀ w, Calls Tryd.prog 12 #[.int .u16 h] w fun e w' => e = .returned (.bool false) ∧ w' = w) := fun w => by
    have := riswide_c h hh w
    rw [q1] at this
    exact this
  have e1 : (h : Int) / 2048 = 3 := by omega
  have hN : rdecN h false = (nImm 5 (fd h 0 3) (fd h 3 3) (fd h 6 3) true) := by
    unfold rdecN
    simp [nbeq, nblt, nble, pick2, memOp, *]
  unfold Says
  rw [hN]
  clear hN
  have k9 : bits .and .i64 ((h : Int) / 512) 1 = 0 := by have := i64_fd h 9 1 hh (by decide) ((h : Int) / 512) 1 (by first | rfl | simp) rfl; rw [this, q2.1]; rfl
  have k10 : bits .and .i64 ((h : Int) / 1024) 1 = 1 := by have := i64_fd h 10 1 hh (by decide) ((h : Int) / 1024) 1 (by first | rfl | simp) rfl; rw [this, q2.2]; rfl
  obtain ⟨k0_3, f0_3, k3_3, f3_3, k6_3, f6_3, k6_5, f6_5, k0_8, f0_8, k8_3, f8_3⟩ := keys6 h hh
  clear q2
  go_enter Tryd.func11, Tryd.ntmps11
  have S := SH.start w
  go_wp2_with (first
    | ((with_reducible refine wpl_isDst 4 ?_); refine SH.alloc (L := []) S rfl 31 rfl (Cel.iv IV.zero) zeroIV ?_; clear S; intro b1 w1 S)
    | ((with_reducible refine wpl_isLoad ?_); refine S.ld 3 _ rfl g 0 rfl 0 (Cel.any [.int .i64 5, .int .i64 3]) rfl _ rfl _ Tryd.underlying3 rfl rfl ?_)
    | ((with_reducible refine wpl_isStore ?_); refine S.storeAll rfl 31 _ _ rfl b1 (Cel.iv (nImm 5 (fd h 0 3) (fd h 3 3) (fd h 6 3) true).iv) rfl rfl 1 _ rfl rfl (one_iv _) (szIV _) ?_; clear S; intro w2 S; simp only [List.set_cons_zero, List.set_cons_succ] at S)
    | (go_at_call 12; with_reducible refine (CW.out _).mono ?_; rintro e wf ⟨rfl, rfl⟩)
    | (go_at_call 27; refine (rimm_c _ _ _ _ _ _).mono ?_; rintro e wf ⟨rfl, hbf⟩; replace S := S.below hbf; clear hbf)
    | ((with_reducible refine wpl_is ?_); refine S.sliceA rfl 23 2 _ rfl [.int .i64 5, .int .i64 3] 3 (by kernel_rfl) ?_; clear S; intro g w1 S))
  (try simp only [Exit.inBlock, Exit.then])
  refine bodyPost_ret (S.results rfl _ _ rfl 1 _ rfl _ Tryd.underlying31 rfl (szIV _)) rfl ⟨rfl, S.low⟩
set_option maxHeartbeats 4000000 in
set_option maxRecDepth 100000 in
theorem rd_8 (h : Nat) (hh : h < 65536) (q1 : h / 2048 = 3) (q2 : (fd h 9 1 = 1 ∧ fd h 10 1 = 0)) (w : World) : Calls Tryd.prog 11 #[.int .u16 h, .bool false] w fun e w' => Says w (rdecN h false) e w' := by
  have CW : Hid (∀ w, Calls Tryd.prog 12 #[.int .u16 h] w fun e w' => e = .returned (.bool false) ∧ w' = w) := fun w => by
    have := riswide_c h hh w
    rw [q1] at this
    exact this
  have e1 : (h : Int) / 2048 = 3 := by omega
  have hN : rdecN h false = (nReg 3 (fd h 0 3) (fd h 3 3) (fd h 6 3) true) := by
    unfold rdecN
    simp [nbeq, nblt, nble, pick2, memOp, *]
  unfold Says
  rw [hN]
  clear hN
  have k9 : bits .and .i64 ((h : Int) / 512) 1 = 1 := by have := i64_fd h 9 1 hh (by decide) ((h : Int) / 512) 1 (by first | rfl | simp) rfl; rw [this, q2.1]; rfl
  have k10 : bits .and .i64 ((h : Int) / 1024) 1 = 0 := by have := i64_fd h 10 1 hh (by decide) ((h : Int) / 1024) 1 (by first | rfl | simp) rfl; rw [this, q2.2]; rfl
  obtain ⟨k0_3, f0_3, k3_3, f3_3, k6_3, f6_3, k6_5, f6_5, k0_8, f0_8, k8_3, f8_3⟩ := keys6 h hh
  clear q2
  go_enter Tryd.func11, Tryd.ntmps11
  have S := SH.start w
  go_wp2_with (first
    | ((with_reducible refine wpl_isDst 4 ?_); refine SH.alloc (L := []) S rfl 31 rfl (Cel.iv IV.zero) zeroIV ?_; clear S; intro b1 w1 S)
    | ((with_reducible refine wpl_isLoad ?_); refine S.ld 3 _ rfl g 1 rfl 0 (Cel.any [.int .i64 5, .int .i64 3]) rfl _ rfl _ Tryd.underlying3 rfl rfl ?_)
    | ((with_reducible refine wpl_isStore ?_); refine S.storeAll rfl 31 _ _ rfl b1 (Cel.iv (nReg 3 (fd h 0 3) (fd h 3 3) (fd h 6 3) true).iv) rfl rfl 1 _ rfl rfl (one_iv _) (szIV _) ?_; clear S; intro w2 S; simp only [List.set_cons_zero, List.set_cons_succ] at S)
    | (go_at_call 12; with_reducible refine (CW.out _).mono ?_; rintro e wf ⟨rfl, rfl⟩)
    | (go_at_call 26; refine (rdata_c _ _ _ _ _ _).mono ?_; rintro e wf ⟨rfl, hbf⟩; replace S := S.below hbf; clear hbf)
    | ((with_reducible refine wpl_is ?_); refine S.sliceA rfl 23 2 _ rfl [.int .i64 5, .int .i64 3] 3 (by kernel_rfl) ?_; clear S; intro g w1 S))
  (try simp only [Exit.inBlock, Exit.then])
  refine bodyPost_ret (S.results rfl _ _ rfl 1 _ rfl _ Tryd.underlying31 rfl (szIV _)) rfl ⟨rfl, S.low⟩
set_option maxHeartbeats 4000000 in
set_option maxRecDepth 100000 in
theorem rd_9 (h : Nat) (hh : h < 65536) (q1 : h / 2048 = 3) (q2 : (fd h 9 1 = 1 ∧ fd h 10 1 = 1)) (w : World) : Calls Tryd.prog 11 #[.int .u16 h, .bool false] w fun e w' => Says w (rdecN h false) e w' := by
  have CW : Hid (∀ w, Calls Tryd.prog 12 #[.int .u16 h] w fun e w' => e = .returned (.bool false) ∧ w' = w) := fun w => by
    have := riswide_c h hh w
    rw [q1] at this
    exact this
  have e1 : (h : Int) / 2048 = 3 := by omega
  have hN : rdecN h false = (nImm 3 (fd h 0 3) (fd h 3 3) (fd h 6 3) true) := by
    unfold rdecN
    simp [nbeq, nblt, nble, pick2, memOp, *]
  unfold Says
  rw [hN]
  clear hN
  have k9 : bits .and .i64 ((h : Int) / 512) 1 = 1 := by have := i64_fd h 9 1 hh (by decide) ((h : Int) / 512) 1 (by first | rfl | simp) rfl; rw [this, q2.1]; rfl
  have k10 : bits .and .i64 ((h : Int) / 1024) 1 = 1 := by have := i64_fd h 10 1 hh (by decide) ((h : Int) / 1024) 1 (by first | rfl | simp) rfl; rw [this, q2.2]; rfl
  obtain ⟨k0_3, f0_3, k3_3, f3_3, k6_3, f6_3, k6_5, f6_5, k0_8, f0_8, k8_3, f8_3⟩ := keys6 h hh
  clear q2
  go_enter Tryd.func11, Tryd.ntmps11
  have S := SH.start w
  go_wp2_with (first
    | ((with_reducible refine wpl_isDst 4 ?_); refine SH.alloc (L := []) S rfl 31 rfl (Cel.iv IV.zero) zeroIV ?_; clear S; intro b1 w1 S)
    | ((with_reducible refine wpl_isLoad ?_); refine S.ld 3 _ rfl g 1 rfl 0 (Cel.any [.int .i64 5, .int .i64 3]) rfl _ rfl _ Tryd.underlying3 rfl rfl ?_)
    | ((with_reducible refine wpl_isStore ?_); refine S.storeAll rfl 31 _ _ rfl b1 (Cel.iv (nImm 3 (fd h 0 3) (fd h 3 3) (fd h 6 3) true).iv) rfl rfl 1 _ rfl rfl (one_iv _) (szIV _) ?_; clear S; intro w2 S; simp only [List.set_cons_zero, List.set_cons_succ] at S)
    | (go_at_call 12; with_reducible refine (CW.out _).mono ?_; rintro e wf ⟨rfl, rfl⟩)
    | (go_at_call 27; refine (rimm_c _ _ _ _ _ _).mono ?_; rintro e wf ⟨rfl, hbf⟩; replace S := S.below hbf; clear hbf)
    | ((with_reducible refine wpl_is ?_); refine S.sliceA rfl 23 2 _ rfl [.int .i64 5, .int .i64 3] 3 (by kernel_rfl) ?_; clear S; intro g w1 S))
  (try simp only [Exit.inBlock, Exit.then])
  refine bodyPost_ret (S.results rfl _ _ rfl 1 _ rfl _ Tryd.underlying31 rfl (szIV _)) rfl ⟨rfl, S.low⟩
set_option maxHeartbeats 4000000 in
set_option maxRecDepth 100000 in
theorem rd_10 (h : Nat) (hh : h < 65536) (q1 : h / 2048 = 4) (w : World) : Calls Tryd.prog 11 #[.int .u16 h, .bool false] w fun e w' => Says w (rdecN h false) e w' := by
  have CW : Hid (∀ w, Calls Tryd.prog 12 #[.int .u16 h] w fun e w' => e = .returned (.bool false) ∧ w' = w) := fun w => by
    have := riswide_c h hh w
    rw [q1] at this
    exact this
  have e1 : (h : Int) / 2048 = 4 := by omega
  have hN : rdecN h false = (nImm 13 (fd h 8 3) 0 (fd h 0 8) true) := by
    unfold rdecN
    simp [nbeq, nblt, nble, pick2, memOp, *]
  unfold Says
  rw [hN]
  clear hN
  obtain ⟨k0_3, f0_3, k3_3, f3_3, k6_3, f6_3, k6_5, f6_5, k0_8, f0_8, k8_3, f8_3⟩ := keys6 h hh
  go_enter Tryd.func11, Tryd.ntmps11
  have S := SH.start w
  go_wp2_with (first
    | ((with_reducible refine wpl_isDst 4 ?_); refine SH.alloc (L := []) S rfl 31 rfl (Cel.iv IV.zero) zeroIV ?_; clear S; intro b1 w1 S)
    | ((with_reducible refine wpl_isStore ?_); refine S.storeAll rfl 31 _ _ rfl b1 (Cel.iv (nImm 13 (fd h 8 3) 0 (fd h 0 8) true).iv) rfl rfl 0 _ rfl rfl (one_iv _) (szIV _) ?_; clear S; intro w2 S; simp only [List.set_cons_zero, List.set_cons_succ] at S)
    | (go_at_call 12; with_reducible refine (CW.out _).mono ?_; rintro e wf ⟨rfl, rfl⟩)
    | (go_at_call 27; refine (rimm_c _ _ _ _ _ _).mono ?_; rintro e wf ⟨rfl, hbf⟩; replace S := S.below hbf; clear hbf))
  (try simp only [Exit.inBlock, Exit.then])
  refine bodyPost_ret (S.results rfl _ _ rfl 0 _ rfl _ Tryd.underlying31 rfl (szIV _)) rfl ⟨rfl, S.low⟩
set_option maxHeartbeats 4000000 in
set_option maxRecDepth 100000 in
theorem rd_11 (h : Nat) (hh : h < 65536) (q1 : h / 2048 = 5) (w : World) : Calls Tryd.prog 11 #[.int .u16 h, .bool false] w fun e w' => Says w (rdecN h false) e w' := by
  have CW : Hid (∀ w, Calls Tryd.prog 12 #[.int .u16 h] w fun e w' => e = .returned (.bool false) ∧ w' = w) := fun w => by
    have := riswide_c h hh w
    rw [q1] at this
    exact this
  have e1 : (h : Int) / 2048 = 5 := by omega
  have hN : rdecN h false = (nImm 10 0 (fd h 8 3) (fd h 0 8) true) := by
    unfold rdecN
    simp [nbeq, nblt, nble, pick2, memOp, *]
  unfold Says
  rw [hN]
  clear hN
  obtain ⟨k0_3, f0_3, k3_3, f3_3, k6_3, f6_3, k6_5, f6_5, k0_8, f0_8, k8_3, f8_3⟩ := keys6 h hh
  go_enter Tryd.func11, Tryd.ntmps11
  have S := SH.start w
  go_wp2_with (first
    | ((with_reducible refine wpl_isDst 4 ?_); refine SH.alloc (L := []) S rfl 31 rfl (Cel.iv IV.zero) zeroIV ?_; clear S; intro b1 w1 S)
    | ((with_reducible refine wpl_isStore ?_); refine S.storeAll rfl 31 _ _ rfl b1 (Cel.iv (nImm 10 0 (fd h 8 3) (fd h 0 8) true).iv) rfl rfl 0 _ rfl rfl (one_iv _) (szIV _) ?_; clear S; intro w2 S; simp only [List.set_cons_zero, List.set_cons_succ] at S)
    | (go_at_call 12; with_reducible refine (CW.out _).mono ?_; rintro e wf ⟨rfl, rfl⟩)
    | (go_at_call 27; refine (rimm_c _ _ _ _ _ _).mono ?_; rintro e wf ⟨rfl, hbf⟩; replace S := S.below hbf; clear hbf))
  (try simp only [Exit.inBlock, Exit.then])
  refine bodyPost_ret (S.results rfl _ _ rfl 0 _ rfl _ Tryd.underlying31 rfl (szIV _)) rfl ⟨rfl, S.low⟩
set_option maxHeartbeats 4000000 in
set_option maxRecDepth 100000 in
theorem rd_12 (h : Nat) (hh : h < 65536) (q1 : h / 2048 = 6) (w : World) : Calls Tryd.prog 11 #[.int .u16 h, .bool false] w fun e w' => Says w (rdecN h false) e w' := by
  have CW : Hid (∀ w, Calls Tryd.prog 12 #[.int .u16 h] w fun e w' => e = .returned (.bool false) ∧ w' = w) := fun w => by
    have := riswide_c h hh w
    rw [q1] at this
    exact this
  have e1 : (h : Int) / 2048 = 6 := by omega
  have hN : rdecN h false = (nImm 5 (fd h 8 3) (fd h 8 3) (fd h 0 8) true) := by
    unfold rdecN
    simp [nbeq, nblt, nble, pick2, memOp, *]
  unfold Says
  rw [hN]
  clear hN
  obtain ⟨k0_3, f0_3, k3_3, f3_3, k6_3, f6_3, k6_5, f6_5, k0_8, f0_8, k8_3, f8_3⟩ := keys6 h hh
  go_enter Tryd.func11, Tryd.ntmps11
  have S := SH.start w
  go_wp2_with (first
    | ((with_reducible refine wpl_isDst 4 ?_); refine SH.alloc (L := []) S rfl 31 rfl (Cel.iv IV.zero) zeroIV ?_; clear S; intro b1 w1 S)
    | ((with_reducible refine wpl_isLoad ?_); refine S.ld 3 _ rfl g 0 rfl 0 (Cel.any [.int .i64 5, .int .i64 3]) rfl _ rfl _ Tryd.underlying3 rfl rfl ?_)
    | ((with_reducible refine wpl_isStore ?_); refine S.storeAll rfl 31 _ _ rfl b1 (Cel.iv (nImm 5 (fd h 8 3) (fd h 8 3) (fd h 0 8) true).iv) rfl rfl 1 _ rfl rfl (one_iv _) (szIV _) ?_; clear S; intro w2 S; simp only [List.set_cons_zero, List.set_cons_succ] at S)
    | (go_at_call 12; with_reducible refine (CW.out _).mono ?_; rintro e wf ⟨rfl, rfl⟩)
    | (go_at_call 27; refine (rimm_c _ _ _ _ _ _).mono ?_; rintro e wf ⟨rfl, hbf⟩; replace S := S.below hbf; clear hbf)
    | ((with_reducible refine wpl_is ?_); refine S.sliceA rfl 23 2 _ rfl [.int .i64 5, .int .i64 3] 3 (by kernel_rfl) ?_; clear S; intro g w1 S))
  (try simp only [Exit.inBlock, Exit.then])
  refine bodyPost_ret (S.results rfl _ _ rfl 1 _ rfl _ Tryd.underlying31 rfl (szIV _)) rfl ⟨rfl, S.low⟩
set_option maxHeartbeats 4000000 in
set_option maxRecDepth 100000 in
theorem rd_13 (h : Nat) (hh : h < 65536) (q1 : h / 2048 = 7) (w : World) : Calls Tryd.prog 11 #[.int .u16 h, .bool false] w fun e w' => Says w (rdecN h false) e w' := by
  have CW : Hid (∀ w, Calls Tryd.prog 12 #[.int .u16 h] w fun e w' => e = .returned (.bool false) ∧ w' = w) := fun w => by
    have := riswide_c h hh w
    rw [q1] at this
    exact this
  have e1 : (h : Int) / 2048 = 7 := by omega
  have hN : rdecN h false = (nImm 3 (fd h 8 3) (fd h 8 3) (fd h 0 8) true) := by
    unfold rdecN
    simp [nbeq, nblt, nble, pick2, memOp, *]
  unfold Says
  rw [hN]
  clear hN
  obtain ⟨k0_3, f0_3, k3_3, f3_3, k6_3, f6_3, k6_5, f6_5, k0_8, f0_8, k8_3, f8_3⟩ := keys6 h hh
  go_enter Tryd.func11, Tryd.ntmps11
  have S := SH.start w
  go_wp2_with (first
    | ((with_reducible refine wpl_isDst 4 ?_); refine SH.alloc (L := []) S rfl 31 rfl (Cel.iv IV.zero) zeroIV ?_; clear S; intro b1 w1 S)
    | ((with_reducible refine wpl_isLoad ?_); refine S.ld 3 _ rfl g 1 rfl 0 (Cel.any [.int .i64 5, .int .i64 3]) rfl _ rfl _ Tryd.underlying3 rfl rfl ?_)
    | ((with_reducible refine wpl_isStore ?_); refine S.storeAll rfl 31 _ _ rfl b1 (Cel.iv (nImm 3 (fd h 8 3) (fd h 8 3) (fd h 0 8) true).iv) rfl rfl 1 _ rfl rfl (one_iv _) (szIV _) ?_; clear S; intro w2 S; simp only [List.set_cons_zero, List.set_cons_succ] at S)
    | (go_at_call 12; with_reducible refine (CW.out _).mono ?_; rintro e wf ⟨rfl, rfl⟩)
    | (go_at_call 27; refine (rimm_c _ _ _ _ _ _).mono ?_; rintro e wf ⟨rfl, hbf⟩; replace S := S.below hbf; clear hbf)
    | ((with_reducible refine wpl_is ?_); refine S.sliceA rfl 23 2 _ rfl [.int .i64 5, .int .i64 3] 3 (by kernel_rfl) ?_; clear S; intro g w1 S))
  (try simp only [Exit.inBlock, Exit.then])
  refine bodyPost_ret (S.results rfl _ _ rfl 1 _ rfl _ Tryd.underlying31 rfl (szIV _)) rfl ⟨rfl, S.low⟩
set_option maxHeartbeats 4000000 in
set_option maxRecDepth 100000 in
theorem rd_14 (h : Nat) (hh : h < 65536) (q1 : h / 2048 = 9) (w : World) : Calls Tryd.prog 11 #[.int .u16 h, .bool false] w fun e w' => Says w (rdecN h false) e w' := by
  have CW : Hid (∀ w, Calls Tryd.prog 12 #[.int .u16 h] w fun e w' => e = .returned (.bool false) ∧ w' = w) := fun w => by
    have := riswide_c h hh w
    rw [q1] at this
    exact this
  have e1 : (h : Int) / 2048 = 9 := by omega
  have hN : rdecN h false = (nImm 44 (fd h 8 3) 15 (4 * (fd h 0 8)) false) := by
    unfold rdecN
    simp [nbeq, nblt, nble, pick2, memOp, *]
  unfold Says
  rw [hN]
  clear hN
  obtain ⟨k0_3, f0_3, k3_3, f3_3, k6_3, f6_3, k6_5, f6_5, k0_8, f0_8, k8_3, f8_3⟩ := keys6 h hh
  go_enter Tryd.func11, Tryd.ntmps11
  have S := SH.start w
  go_wp2_with (first
    | ((with_reducible refine wpl_isDst 4 ?_); refine SH.alloc (L := []) S rfl 31 rfl (Cel.iv IV.zero) zeroIV ?_; clear S; intro b1 w1 S)
    | ((with_reducible refine wpl_isStore ?_); refine S.storeAll rfl 31 _ _ rfl b1 (Cel.iv (nImm 44 (fd h 8 3) 15 (4 * (fd h 0 8)) false).iv) rfl rfl 0 _ rfl rfl (one_iv _) (szIV _) ?_; clear S; intro w2 S; simp only [List.set_cons_zero, List.set_cons_succ] at S)
    | (go_at_call 12; with_reducible refine (CW.out _).mono ?_; rintro e wf ⟨rfl, rfl⟩)
    | (go_at_call 27; refine (rimm_c _ _ _ _ _ _).mono ?_; rintro e wf ⟨rfl, hbf⟩; replace S := S.below hbf; clear hbf))
  (try simp only [Exit.inBlock, Exit.then])
  refine bodyPost_ret (S.results rfl _ _ rfl 0 _ rfl _ Tryd.underlying31 rfl (szIV _)) rfl ⟨rfl, S.low⟩
set_option maxHeartbeats 4000000 in
set_option maxRecDepth 100000 in
theorem rd_15 (h : Nat) (hh : h < 65536) (q1 : h / 2048 = 10) (q2 : fd h 9 3 = 0) (w : World) : Calls Tryd.prog 11 #[.int .u16 h, .bool false] w fun e w' => Says w (rdecN h false) e w' := by
  have CW : Hid (∀ w, Calls Tryd.prog 12 #[.int .u16 h] w fun e w' => e = .returned (.bool false) ∧ w' = w) := fun w => by
    have := riswide_c h hh w
    rw [q1] at this
    exact this
  have e1 : (h : Int) / 2048 = 10 := by omega
  have hN : rdecN h false = (nReg 49 (fd h 0 3) (fd h 3 3) (fd h 6 3) false) := by
    unfold rdecN
    simp [nbeq, nblt, nble, pick2, memOp, *]
  unfold Says
  rw [hN]
  clear hN
  have k9 : bits .and .i64 ((h : Int) / 512) 7 = 0 := by have := i64_fd h 9 3 hh (by decide) ((h : Int) / 512) 7 (by first | rfl | simp) rfl; rw [this, q2]; rfl
  obtain ⟨k0_3, f0_3, k3_3, f3_3, k6_3, f6_3, k6_5, f6_5, k0_8, f0_8, k8_3, f8_3⟩ := keys6 h hh
  clear q2
  go_enter Tryd.func11, Tryd.ntmps11
  have S := SH.start w
  go_wp2_with (first
    | ((with_reducible refine wpl_isDst 4 ?_); refine SH.alloc (L := []) S rfl 31 rfl (Cel.iv IV.zero) zeroIV ?_; clear S; intro b1 w1 S)
    | ((with_reducible refine wpl_isLoad ?_); refine S.ld 3 _ rfl g 0 rfl 0 (Cel.any [.int .i64 49, .int .i64 51, .int .i64 50, .int .i64 47, .int .i64 44, .int .i64 46, .int .i64 45, .int .i64 48]) rfl _ rfl _ Tryd.underlying3 rfl rfl ?_)
    | ((with_reducible refine wpl_isStore ?_); refine S.storeAll rfl 31 _ _ rfl b1 (Cel.iv (nReg 49 (fd h 0 3) (fd h 3 3) (fd h 6 3) false).iv) rfl rfl 1 _ rfl rfl (one_iv _) (szIV _) ?_; clear S; intro w2 S; simp only [List.set_cons_zero, List.set_cons_succ] at S)
    | (go_at_call 12; with_reducible refine (CW.out _).mono ?_; rintro e wf ⟨rfl, rfl⟩)
    | (go_at_call 26; refine (rdata_c _ _ _ _ _ _).mono ?_; rintro e wf ⟨rfl, hbf⟩; replace S := S.below hbf; clear hbf)
    | ((with_reducible refine wpl_is ?_); refine S.sliceA rfl 23 8 _ rfl [.int .i64 49, .int .i64 51, .int .i64 50, .int .i64 47, .int .i64 44, .int .i64 46, .int .i64 45, .int .i64 48] 3 (by kernel_rfl) ?_; clear S; intro g w1 S))
  (try simp only [Exit.inBlock, Exit.then])
  refine bodyPost_ret (S.results rfl _ _ rfl 1 _ rfl _ Tryd.underlying31 rfl (szIV _)) rfl ⟨rfl, S.low⟩
end Go.Proofs.YtbbkiiabjhgpkaaDoor
namespace Go.Proofs.YtbbkiiabjhgpkaaDoor
open Go.ChangeShapes Go.WideShapes Go.ChangeAt Go.RowKit
set_option linter.unusedVariables false
set_option linter.unusedSimpArgs false

set_option maxHeartbeats 4000000 in
set_option maxRecDepth 100000 in
theorem rd_16 (h : Nat) (hh : h < 65536) (q1 : h / 2048 = 10) (q2 : fd h 9 3 = 1) (w : World) : Calls Tryd.prog 11 #[.int .u16 h, .bool false] w fun e w' => Says w (rdecN h false) e w' := by
  have CW : Hid (∀ w, Calls Tryd.prog 12 #[.int .u16 h] w fun e w' => e = .returned (.bool false) ∧ w' = w) := fun w => by
    have := riswide_c h hh w
    rw [q1] at this
    exact this
  have e1 : (h : Int) / 2048 = 10 := by omega
  have hN : rdecN h false = (nReg 51 (fd h 0 3) (fd h 3 3) (fd h 6 3) false) := by
    unfold rdecN
    simp [nbeq, nblt, nble, pick2, memOp, *]
  unfold Says
  rw [hN]
  clear hN
  have k9 : bits .and .i64 ((h : Int) / 512) 7 = 1 := by have := i64_fd h 9 3 hh (by decide) ((h : Int) / 512) 7 (by first | rfl | simp) rfl; rw [this, q2]; rfl
  obtain ⟨k0_3, f0_3, k3_3, f3_3, k6_3, f6_3, k6_5, f6_5, k0_8, f0_8, k8_3, f8_3⟩ := keys6 h hh
  clear q2
  go_enter Tryd.func11, Tryd.ntmps11
  have S := SH.start w
  go_wp2_with (first
    | ((with_reducible refine wpl_isDst 4 ?_); refine SH.alloc (L := []) S rfl 31 rfl (Cel.iv IV.zero) zeroIV ?_; clear S; intro b1 w1 S)
    | ((with_reducible refine wpl_isLoad ?_); refine S.ld 3 _ rfl g 1 rfl 0 (Cel.any [.int .i64 49, .int .i64 51, .int .i64 50, .int .i64 47, .int .i64 44, .int .i64 46, .int .i64 45, .int .i64 48]) rfl _ rfl _ Tryd.underlying3 rfl rfl ?_)
    | ((with_reducible refine wpl_isStore ?_); refine S.storeAll rfl 31 _ _ rfl b1 (Cel.iv (nReg 51 (fd h 0 3) (fd h 3 3) (fd h 6 3) false).iv) rfl rfl 1 _ rfl rfl (one_iv _) (szIV _) ?_; clear S; intro w2 S; simp only [List.set_cons_zero, List.set_cons_succ] at S)
    | (go_at_call 12; with_reducible refine (CW.out _).mono ?_; rintro e wf ⟨rfl, rfl⟩)
    | (go_at_call 26; refine (rdata_c _ _ _ _ _ _).mono ?_; rintro e wf ⟨rfl, hbf⟩; replace S := S.below hbf; clear hbf)
    | ((with_reducible refine wpl_is ?_); refine S.sliceA rfl 23 8 _ rfl [.int .i64 49, .int .i64 51, .int .i64 50, .int .i64 47, .int .i64 44, .int .i64 46, .int .i64 45, .int .i64 48] 3 (by kernel_rfl) ?_; clear S; intro g w1 S))
  (try simp only [Exit.inBlock, Exit.then])
  refine bodyPost_ret (S.results rfl _ _ rfl 1 _ rfl _ Tryd.underlying31 rfl (szIV _)) rfl ⟨rfl, S.low⟩
set_option maxHeartbeats 4000000 in
set_option maxRecDepth 100000 in
theorem rd_17 (h : Nat) (hh : h < 65536) (q1 : h / 2048 = 10) (q2 : fd h 9 3 = 2) (w : World) : Calls Tryd.prog 11 #[.int .u16 h, .bool false] w fun e w' => Says w (rdecN h false) e w' := by
  have CW : Hid (∀ w, Calls Tryd.prog 12 #[.int .u16 h] w fun e w' => e = .returned (.bool false) ∧ w' = w) := fun w => by
    have := riswide_c h hh w
    rw [q1] at this
    exact this
  have e1 : (h : Int) / 2048 = 10 := by omega
  have hN : rdecN h false = (nReg 50 (fd h 0 3) (fd h 3 3) (fd h 6 3) false) := by
    unfold rdecN
    simp [nbeq, nblt, nble, pick2, memOp, *]
  unfold Says
  rw [hN]
  clear hN
  have k9 : bits .and .i64 ((h : Int) / 512) 7 = 2 := by have := i64_fd h 9 3 hh (by decide) ((h : Int) / 512) 7 (by first | rfl | simp) rfl; rw [this, q2]; rfl
  obtain ⟨k0_3, f0_3, k3_3, f3_3, k6_3, f6_3, k6_5, f6_5, k0_8, f0_8, k8_3, f8_3⟩ := keys6 h hh
  clear q2
  go_enter Tryd.func11, Tryd.ntmps11
  have S := SH.start w
  go_wp2_with (first
    | ((with_reducible refine wpl_isDst 4 ?_); refine SH.alloc (L := []) S rfl 31 rfl (Cel.iv IV.zero) zeroIV ?_; clear S; intro b1 w1 S)
    | ((with_reducible refine wpl_isLoad ?_); refine S.ld 3 _ rfl g 2 rfl 0 (Cel.any [.int .i64 49, .int .i64 51, .int .i64 50, .int .i64 47, .int .i64 44, .int .i64 46, .int .i64 45, .int .i64 48]) rfl _ rfl _ Tryd.underlying3 rfl rfl ?_)
    | ((with_reducible refine wpl_isStore ?_); refine S.storeAll rfl 31 _ _ rfl b1 (Cel.iv (nReg 50 (fd h 0 3) (fd h 3 3) (fd h 6 3) false).iv) rfl rfl 1 _ rfl rfl (one_iv _) (szIV _) ?_; clear S; intro w2 S; simp only [List.set_cons_zero, List.set_cons_succ] at S)
    | (go_at_call 12; with_reducible refine (CW.out _).mono ?_; rintro e wf ⟨rfl, rfl⟩)
    | (go_at_call 26; refine (rdata_c _ _ _ _ _ _).mono ?_; rintro e wf ⟨rfl, hbf⟩; replace S := S.below hbf; clear hbf)
    | ((with_reducible refine wpl_is ?_); refine S.sliceA rfl 23 8 _ rfl [.int .i64 49, .int .i64 51, .int .i64 50, .int .i64 47, .int .i64 44, .int .i64 46, .int .i64 45, .int .i64 48] 3 (by kernel_rfl) ?_; clear S; intro g w1 S))
  (try simp only [Exit.inBlock, Exit.then])
  refine bodyPost_ret (S.results rfl _ _ rfl 1 _ rfl _ Tryd.underlying31 rfl (szIV _)) rfl ⟨rfl, S.low⟩
set_option maxHeartbeats 4000000 in
set_option maxRecDepth 100000 in
theorem rd_18 (h : Nat) (hh : h < 65536) (q1 : h / 2048 = 10) (q2 : fd h 9 3 = 3) (w : World) : Calls Tryd.prog 11 #[.int .u16 h, .bool false] w fun e w' => Says w (rdecN h false) e w' := by
  have CW : Hid (∀ w, Calls Tryd.prog 12 #[.int .u16 h] w fun e w' => e = .returned (.bool false) ∧ w' = w) := fun w => by
    have := riswide_c h hh w
    rw [q1] at this
    exact this
  have e1 : (h : Int) / 2048 = 10 := by omega
  have hN : rdecN h false = (nReg 47 (fd h 0 3) (fd h 3 3) (fd h 6 3) false) := by
    unfold rdecN
    simp [nbeq, nblt, nble, pick2, memOp, *]
  unfold Says
  rw [hN]
  clear hN
  have k9 : bits .and .i64 ((h : Int) / 512) 7 = 3 := by have := i64_fd h 9 3 hh (by decide) ((h : Int) / 512) 7 (by first | rfl | simp) rfl; rw [this, q2]; rfl
  obtain ⟨k0_3, f0_3, k3_3, f3_3, k6_3, f6_3, k6_5, f6_5, k0_8, f0_8, k8_3, f8_3⟩ := keys6 h hh
  clear q2
  go_enter Tryd.func11, Tryd.ntmps11
  have S := SH.start w
  go_wp2_with (first
    | ((with_reducible refine wpl_isDst 4 ?_); refine SH.alloc (L := []) S rfl 31 rfl (Cel.iv IV.zero) zeroIV ?_; clear S; intro b1 w1 S)
    | ((with_reducible refine wpl_isLoad ?_); refine S.ld 3 _ rfl g 3 rfl 0 (Cel.any [.int .i64 49, .int .i64 51, .int .i64 50, .int .i64 47, .int .i64 44, .int .i64 46, .int .i64 45, .int .i64 48]) rfl _ rfl _ Tryd.underlying3 rfl rfl ?_)
    | ((with_reducible refine wpl_isStore ?_); refine S.storeAll rfl 31 _ _ rfl b1 (Cel.iv (nReg 47 (fd h 0 3) (fd h 3 3) (fd h 6 3) false).iv) rfl rfl 1 _ rfl rfl (one_iv _) (szIV _) ?_; clear S; intro w2 S; simp only [List.set_cons_zero, List.set_cons_succ] at S)
    | (go_at_call 12; with_reducible refine (CW.out _).mono ?_; rintro e wf ⟨rfl, rfl⟩)
    | (go_at_call 26; refine (rdata_c _ _ _ _ _ _).mono ?_; rintro e wf ⟨rfl, hbf⟩; replace S := S.below hbf; clear hbf)
    | ((with_reducible refine wpl_is ?_); refine S.sliceA rfl 23 8 _ rfl [.int .i64 49, .int .i64 51, .int .i64 50, .int .i64 47, .int .i64 44, .int .i64 46, .int .i64 45, .int .i64 48] 3 (by kernel_rfl) ?_; clear S; intro g w1 S))
  (try simp only [Exit.inBlock, Exit.then])
  refine bodyPost_ret (S.results rfl _ _ rfl 1 _ rfl _ Tryd.underlying31 rfl (szIV _)) rfl ⟨rfl, S.low⟩
set_option maxHeartbeats 4000000 in
set_option maxRecDepth 100000 in
theorem rd_19 (h : Nat) (hh : h < 65536) (q1 : h / 2048 = 11) (q2 : fd h 9 3 = 4) (w : World) : Calls Tryd.prog 11 #[.int .u16 h, .bool false] w fun e w' => Says w (rdecN h false) e w' := by
  have CW : Hid (∀ w, Calls Tryd.prog 12 #[.int .u16 h] w fun e w' => e = .returned (.bool false) ∧ w' = w) := fun w => by
    have := riswide_c h hh w
    rw [q1] at this
    exact this
  have e1 : (h : Int) / 2048 = 11 := by omega
  have hN : rdecN h false = (nReg 44 (fd h 0 3) (fd h 3 3) (fd h 6 3) false) := by
    unfold rdecN
    simp [nbeq, nblt, nble, pick2, memOp, *]
  unfold Says
  rw [hN]
  clear hN
  have k9 : bits .and .i64 ((h : Int) / 512) 7 = 4 := by have := i64_fd h 9 3 hh (by decide) ((h : Int) / 512) 7 (by first | rfl | simp) rfl; rw [this, q2]; rfl
  obtain ⟨k0_3, f0_3, k3_3, f3_3, k6_3, f6_3, k6_5, f6_5, k0_8, f0_8, k8_3, f8_3⟩ := keys6 h hh
  clear q2
  go_enter Tryd.func11, Tryd.ntmps11
  have S := SH.start w
  go_wp2_with (first
    | ((with_reducible refine wpl_isDst 4 ?_); refine SH.alloc (L := []) S rfl 31 rfl (Cel.iv IV.zero) zeroIV ?_; clear S; intro b1 w1 S)
    | ((with_reducible refine wpl_isLoad ?_); refine S.ld 3 _ rfl g 4 rfl 0 (Cel.any [.int .i64 49, .int .i64 51, .int .i64 50, .int .i64 47, .int .i64 44, .int .i64 46, .int .i64 45, .int .i64 48]) rfl _ rfl _ Tryd.underlying3 rfl rfl ?_)
    | ((with_reducible refine wpl_isStore ?_); refine S.storeAll rfl 31 _ _ rfl b1 (Cel.iv (nReg 44 (fd h 0 3) (fd h 3 3) (fd h 6 3) false).iv) rfl rfl 1 _ rfl rfl (one_iv _) (szIV _) ?_; clear S; intro w2 S; simp only [List.set_cons_zero, List.set_cons_succ] at S)
    | (go_at_call 12; with_reducible refine (CW.out _).mono ?_; rintro e wf ⟨rfl, rfl⟩)
    | (go_at_call 26; refine (rdata_c _ _ _ _ _ _).mono ?_; rintro e wf ⟨rfl, hbf⟩; replace S := S.below hbf; clear hbf)
    | ((with_reducible refine wpl_is ?_); refine S.sliceA rfl 23 8 _ rfl [.int .i64 49, .int .i64 51, .int .i64 50, .int .i64 47, .int .i64 44, .int .i64 46, .int .i64 45, .int .i64 48] 3 (by kernel_rfl) ?_; clear S; intro g w1 S))
  (try simp only [Exit.inBlock, Exit.then])
  refine bodyPost_ret (S.results rfl _ _ rfl 1 _ rfl _ Tryd.underlying31 rfl (szIV _)) rfl ⟨rfl, S.low⟩
set_option maxHeartbeats 4000000 in
set_option maxRecDepth 100000 in
theorem rd_20 (h : Nat) (hh : h < 65536) (q1 : h / 2048 = 11) (q2 : fd h 9 3 = 5) (w : World) : Calls Tryd.prog 11 #[.int .u16 h, .bool false] w fun e w' => Says w (rdecN h false) e w' := by
  have CW : Hid (∀ w, Calls Tryd.prog 12 #[.int .u16 h] w fun e w' => e = .returned (.bool false) ∧ w' = w) := fun w => by
    have := riswide_c h hh w
    rw [q1] at this
    exact this
  have e1 : (h : Int) / 2048 = 11 := by omega
  have hN : rdecN h false = (nReg 46 (fd h 0 3) (fd h 3 3) (fd h 6 3) false) := by
    unfold rdecN
    simp [nbeq, nblt, nble, pick2, memOp, *]
  unfold Says
  rw [hN]
  clear hN
  have k9 : bits .and .i64 ((h : Int) / 512) 7 = 5 := by have := i64_fd h 9 3 hh (by decide) ((h : Int) / 512) 7 (by first | rfl | simp) rfl; rw [this, q2]; rfl
  obtain ⟨k0_3, f0_3, k3_3, f3_3, k6_3, f6_3, k6_5, f6_5, k0_8, f0_8, k8_3, f8_3⟩ := keys6 h hh
  clear q2
  go_enter Tryd.func11, Tryd.ntmps11
  have S := SH.start w
  go_wp2_with (first
    | ((with_reducible refine wpl_isDst 4 ?_); refine SH.alloc (L := []) S rfl 31 rfl (Cel.iv IV.zero) zeroIV ?_; clear S; intro b1 w1 S)
    | ((with_reducible refine wpl_isLoad ?_); refine S.ld 3 _ rfl g 5 rfl 0 (Cel.any [.int .i64 49, .int .i64 51, .int .i64 50, .int .i64 47, .int .i64 44, .int .i64 46, .int .i64 45, .int .i64 48]) rfl _ rfl _ Tryd.underlying3 rfl rfl ?_)
    | ((with_reducible refine wpl_isStore ?_); refine S.storeAll rfl 31 _ _ rfl b1 (Cel.iv (nReg 46 (fd h 0 3) (fd h 3 3) (fd h 6 3) false).iv) rfl rfl 1 _ rfl rfl (one_iv _) (szIV _) ?_; clear S; intro w2 S; simp only [List.set_cons_zero, List.set_cons_succ] at S)
    | (go_at_call 12; with_reducible refine (CW.out _).mono ?_; rintro e wf ⟨rfl, rfl⟩)
    | (go_at_call 26; refine (rdata_c _ _ _ _ _ _).mono ?_; rintro e wf ⟨rfl, hbf⟩; replace S := S.below hbf; clear hbf)
    | ((with_reducible refine wpl_is ?_); refine S.sliceA rfl 23 8 _ rfl [.int .i64 49, .int .i64 51, .int .i64 50, .int .i64 47, .int .i64 44, .int .i64 46, .int .i64 45, .int .i64 48] 3 (by kernel_rfl) ?_; clear S; intro g w1 S))
  (try simp only [Exit.inBlock, Exit.then])
  refine bodyPost_ret (S.results rfl _ _ rfl 1 _ rfl _ Tryd.underlying31 rfl (szIV _)) rfl ⟨rfl, S.low⟩
set_option maxHeartbeats 4000000 in
set_option maxRecDepth 100000 in
theorem rd_21 (h : Nat) (hh : h < 65536) (q1 : h / 2048 = 11) (q2 : fd h 9 3 = 6) (w : World) : Calls Tryd.prog 11 #[.int .u16 h, .bool false] w fun e w' => Says w (rdecN h false) e w' := by
  have CW : Hid (∀ w, Calls Tryd.prog 12 #[.int .u16 h] w fun e w' => e = .returned (.bool false) ∧ w' = w) := fun w => by
    have := riswide_c h hh w
    rw [q1] at this
    exact this
  have e1 : (h : Int) / 2048 = 11 := by omega
  have hN : rdecN h false = (nReg 45 (fd h 0 3) (fd h 3 3) (fd h 6 3) false) := by
    unfold rdecN
    simp [nbeq, nblt, nble, pick2, memOp, *]
  unfold Says
  rw [hN]
  clear hN
  have k9 : bits .and .i64 ((h : Int) / 512) 7 = 6 := by have := i64_fd h 9 3 hh (by decide) ((h : Int) / 512) 7 (by first | rfl | simp) rfl; rw [this, q2]; rfl
  obtain ⟨k0_3, f0_3, k3_3, f3_3, k6_3, f6_3, k6_5, f6_5, k0_8, f0_8, k8_3, f8_3⟩ := keys6 h hh
  clear q2
  go_enter Tryd.func11, Tryd.ntmps11
  have S := SH.start w
  go_wp2_with (first
    | ((with_reducible refine wpl_isDst 4 ?_); refine SH.alloc (L := []) S rfl 31 rfl (Cel.iv IV.zero) zeroIV ?_; clear S; intro b1 w1 S)
    | ((with_reducible refine wpl_isLoad ?_); refine S.ld 3 _ rfl g 6 rfl 0 (Cel.any [.int .i64 49, .int .i64 51, .int .i64 50, .int .i64 47, .int .i64 44, .int .i64 46, .int .i64 45, .int .i64 48]) rfl _ rfl _ Tryd.underlying3 rfl rfl ?_)
    | ((with_reducible refine wpl_isStore ?_); refine S.storeAll rfl 31 _ _ rfl b1 (Cel.iv (nReg 45 (fd h 0 3) (fd h 3 3) (fd h 6 3) false).iv) rfl rfl 1 _ rfl rfl (one_iv _) (szIV _) ?_; clear S; intro w2 S; simp only [List.set_cons_zero, List.set_cons_succ] at S)
    | (go_at_call 12; with_reducible refine (CW.out _).mono ?_; rintro e wf ⟨rfl, rfl⟩)
    | (go_at_call 26; refine (rdata_c _ _ _ _ _ _).mono ?_; rintro e wf ⟨rfl, hbf⟩; replace S := S.below hbf; clear hbf)
    | ((with_reducible refine wpl_is ?_); refine S.sliceA rfl 23 8 _ rfl [.int .i64 49, .int .i64 51, .int .i64 50, .int .i64 47, .int .i64 44, .int .i64 46, .int .i64 45, .int .i64 48] 3 (by kernel_rfl) ?_; clear S; intro g w1 S))
  (try simp only [Exit.inBlock, Exit.then])
  refine bodyPost_ret (S.results rfl _ _ rfl 1 _ rfl _ Tryd.underlying31 rfl (szIV _)) rfl ⟨rfl, S.low⟩
set_option maxHeartbeats 4000000 in
set_option maxRecDepth 100000 in
theorem rd_22 (h : Nat) (hh : h < 65536) (q1 : h / 2048 = 11) (q2 : fd h 9 3 = 7) (w : World) : Calls Tryd.prog 11 #[.int .u16 h, .bool false] w fun e w' => Says w (rdecN h false) e w' := by
  have CW : Hid (∀ w, Calls Tryd.prog 12 #[.int .u16 h] w fun e w' => e = .returned (.bool false) ∧ w' = w) := fun w => by
    have := riswide_c h hh w
    rw [q1] at this
    exact this
  have e1 : (h : Int) / 2048 = 11 := by omega
  have hN : rdecN h false = (nReg 48 (fd h 0 3) (fd h 3 3) (fd h 6 3) false) := by
    unfold rdecN
    simp [nbeq, nblt, nble, pick2, memOp, *]
  unfold Says
  rw [hN]
  clear hN
  have k9 : bits .and .i64 ((h : Int) / 512) 7 = 7 := by have := i64_fd h 9 3 hh (by decide) ((h : Int) / 512) 7 (by first | rfl | simp) rfl; rw [this, q2]; rfl
  obtain ⟨k0_3, f0_3, k3_3, f3_3, k6_3, f6_3, k6_5, f6_5, k0_8, f0_8, k8_3, f8_3⟩ := keys6 h hh
  clear q2
  go_enter Tryd.func11, Tryd.ntmps11
  have S := SH.start w
  go_wp2_with (first
    | ((with_reducible refine wpl_isDst 4 ?_); refine SH.alloc (L := []) S rfl 31 rfl (Cel.iv IV.zero) zeroIV ?_; clear S; intro b1 w1 S)
    | ((with_reducible refine wpl_isLoad ?_); refine S.ld 3 _ rfl g 7 rfl 0 (Cel.any [.int .i64 49, .int .i64 51, .int .i64 50, .int .i64 47, .int .i64 44, .int .i64 46, .int .i64 45, .int .i64 48]) rfl _ rfl _ Tryd.underlying3 rfl rfl ?_)
    | ((with_reducible refine wpl_isStore ?_); refine S.storeAll rfl 31 _ _ rfl b1 (Cel.iv (nReg 48 (fd h 0 3) (fd h 3 3) (fd h 6 3) false).iv) rfl rfl 1 _ rfl rfl (one_iv _) (szIV _) ?_; clear S; intro w2 S; simp only [List.set_cons_zero, List.set_cons_succ] at S)
    | (go_at_call 12; with_reducible refine (CW.out _).mono ?_; rintro e wf ⟨rfl, rfl⟩)
    | (go_at_call 26; refine (rdata_c _ _ _ _ _ _).mono ?_; rintro e wf ⟨rfl, hbf⟩; replace S := S.below hbf; clear hbf)
    | ((with_reducible refine wpl_is ?_); refine S.sliceA rfl 23 8 _ rfl [.int .i64 49, .int .i64 51, .int .i64 50, .int .i64 47, .int .i64 44, .int .i64 46, .int .i64 45, .int .i64 48] 3 (by kernel_rfl) ?_; clear S; intro g w1 S))
  (try simp only [Exit.inBlock, Exit.then])
  refine bodyPost_ret (S.results rfl _ _ rfl 1 _ rfl _ Tryd.underlying31 rfl (szIV _)) rfl ⟨rfl, S.low⟩
set_option maxHeartbeats 4000000 in
set_option maxRecDepth 100000 in
theorem rd_23 (h : Nat) (hh : h < 65536) (q1 : h / 2048 = 12) (w : World) : Calls Tryd.prog 11 #[.int .u16 h, .bool false] w fun e w' => Says w (rdecN h false) e w' := by
  have CW : Hid (∀ w, Calls Tryd.prog 12 #[.int .u16 h] w fun e w' => e = .returned (.bool false) ∧ w' = w) := fun w => by
    have := riswide_c h hh w
    rw [q1] at this
    exact this
  have e1 : (h : Int) / 2048 = 12 := by omega
  have hN : rdecN h false = (nImm 49 (fd h 0 3) (fd h 3 3) (4 * (fd h 6 5)) false) := by
    unfold rdecN
    simp [nbeq, nblt, nble, pick2, memOp, *]
  unfold Says
  rw [hN]
  clear hN
  obtain ⟨k0_3, f0_3, k3_3, f3_3, k6_3, f6_3, k6_5, f6_5, k0_8, f0_8, k8_3, f8_3⟩ := keys6 h hh
  go_enter Tryd.func11, Tryd.ntmps11
  have S := SH.start w
  go_wp2_with (first
    | ((with_reducible refine wpl_isDst 4 ?_); refine SH.alloc (L := []) S rfl 31 rfl (Cel.iv IV.zero) zeroIV ?_; clear S; intro b1 w1 S)
    | ((with_reducible refine wpl_isLoad ?_); refine S.ld 3 _ rfl g 0 rfl 0 (Cel.any [.int .i64 49, .int .i64 44]) rfl _ rfl _ Tryd.underlying3 rfl rfl ?_)
    | ((with_reducible refine wpl_isStore ?_); refine S.storeAll rfl 31 _ _ rfl b1 (Cel.iv (nImm 49 (fd h 0 3) (fd h 3 3) (4 * (fd h 6 5)) false).iv) rfl rfl 1 _ rfl rfl (one_iv _) (szIV _) ?_; clear S; intro w2 S; simp only [List.set_cons_zero, List.set_cons_succ] at S)
    | (go_at_call 12; with_reducible refine (CW.out _).mono ?_; rintro e wf ⟨rfl, rfl⟩)
    | (go_at_call 27; refine (rimm_c _ _ _ _ _ _).mono ?_; rintro e wf ⟨rfl, hbf⟩; replace S := S.below hbf; clear hbf)
    | ((with_reducible refine wpl_is ?_); refine S.sliceA rfl 23 2 _ rfl [.int .i64 49, .int .i64 44] 3 (by kernel_rfl) ?_; clear S; intro g w1 S))
  (try simp only [Exit.inBlock, Exit.then])
  refine bodyPost_ret (S.results rfl _ _ rfl 1 _ rfl _ Tryd.underlying31 rfl (szIV _)) rfl ⟨rfl, S.low⟩
set_option maxHeartbeats 4000000 in
set_option maxRecDepth 100000 in
theorem rd_24 (h : Nat) (hh : h < 65536) (q1 : h / 2048 = 13) (w : World) : Calls Tryd.prog 11 #[.int .u16 h, .bool false] w fun e w' => Says w (rdecN h false) e w' := by
  have CW : Hid (∀ w, Calls Tryd.prog 12 #[.int .u16 h] w fun e w' => e = .returned (.bool false) ∧ w' = w) := fun w => by
    have := riswide_c h hh w
    rw [q1] at this
    exact this
  have e1 : (h : Int) / 2048 = 13 := by omega
  have hN : rdecN h false = (nImm 44 (fd h 0 3) (fd h 3 3) (4 * (fd h 6 5)) false) := by
    unfold rdecN
    simp [nbeq, nblt, nble, pick2, memOp, *]
  unfold Says
  rw [hN]
  clear hN
  obtain ⟨k0_3, f0_3, k3_3, f3_3, k6_3, f6_3, k6_5, f6_5, k0_8, f0_8, k8_3, f8_3⟩ := keys6 h hh
  go_enter Tryd.func11, Tryd.ntmps11
  have S := SH.start w
  go_wp2_with (first
    | ((with_reducible refine wpl_isDst 4 ?_); refine SH.alloc (L := []) S rfl 31 rfl (Cel.iv IV.zero) zeroIV ?_; clear S; intro b1 w1 S)
    | ((with_reducible refine wpl_isLoad ?_); refine S.ld 3 _ rfl g 1 rfl 0 (Cel.any [.int .i64 49, .int .i64 44]) rfl _ rfl _ Tryd.underlying3 rfl rfl ?_)
    | ((with_reducible refine wpl_isStore ?_); refine S.storeAll rfl 31 _ _ rfl b1 (Cel.iv (nImm 44 (fd h 0 3) (fd h 3 3) (4 * (fd h 6 5)) false).iv) rfl rfl 1 _ rfl rfl (one_iv _) (szIV _) ?_; clear S; intro w2 S; simp only [List.set_cons_zero, List.set_cons_succ] at S)
    | (go_at_call 12; with_reducible refine (CW.out _).mono ?_; rintro e wf ⟨rfl, rfl⟩)
    | (go_at_call 27; refine (rimm_c _ _ _ _ _ _).mono ?_; rintro e wf ⟨rfl, hbf⟩; replace S := S.below hbf; clear hbf)
    | ((with_reducible refine wpl_is ?_); refine S.sliceA rfl 23 2 _ rfl [.int .i64 49, .int .i64 44] 3 (by kernel_rfl) ?_; clear S; intro g w1 S))
  (try simp only [Exit.inBlock, Exit.then])
  refine bodyPost_ret (S.results rfl _ _ rfl 1 _ rfl _ Tryd.underlying31 rfl (szIV _)) rfl ⟨rfl, S.low⟩
set_option maxHeartbeats 4000000 in
set_option maxRecDepth 100000 in
theorem rd_25 (h : Nat) (hh : h < 65536) (q1 : h / 2048 = 14) (w : World) : Calls Tryd.prog 11 #[.int .u16 h, .bool false] w fun e w' => Says w (rdecN h false) e w' := by
  have CW : Hid (∀ w, Calls Tryd.prog 12 #[.int .u16 h] w fun e w' => e = .returned (.bool false) ∧ w' = w) := fun w => by
    have := riswide_c h hh w
    rw [q1] at this
    exact this
  have e1 : (h : Int) / 2048 = 14 := by omega
  have hN : rdecN h false = (nImm 50 (fd h 0 3) (fd h 3 3) (fd h 6 5) false) := by
    unfold rdecN
    simp [nbeq, nblt, nble, pick2, memOp, *]
  unfold Says
  rw [hN]
  clear hN
  obtain ⟨k0_3, f0_3, k3_3, f3_3, k6_3, f6_3, k6_5, f6_5, k0_8, f0_8, k8_3, f8_3⟩ := keys6 h hh
  go_enter Tryd.func11, Tryd.ntmps11
  have S := SH.start w
  go_wp2_with (first
    | ((with_reducible refine wpl_isDst 4 ?_); refine SH.alloc (L := []) S rfl 31 rfl (Cel.iv IV.zero) zeroIV ?_; clear S; intro b1 w1 S)
    | ((with_reducible refine wpl_isLoad ?_); refine S.ld 3 _ rfl g 0 rfl 0 (Cel.any [.int .i64 50, .int .i64 45]) rfl _ rfl _ Tryd.underlying3 rfl rfl ?_)
    | ((with_reducible refine wpl_isStore ?_); refine S.storeAll rfl 31 _ _ rfl b1 (Cel.iv (nImm 50 (fd h 0 3) (fd h 3 3) (fd h 6 5) false).iv) rfl rfl 1 _ rfl rfl (one_iv _) (szIV _) ?_; clear S; intro w2 S; simp only [List.set_cons_zero, List.set_cons_succ] at S)
    | (go_at_call 12; with_reducible refine (CW.out _).mono ?_; rintro e wf ⟨rfl, rfl⟩)
    | (go_at_call 27; refine (rimm_c _ _ _ _ _ _).mono ?_; rintro e wf ⟨rfl, hbf⟩; replace S := S.below hbf; clear hbf)
    | ((with_reducible refine wpl_is ?_); refine S.sliceA rfl 23 2 _ rfl [.int .i64 50, .int .i64 45] 3 (by kernel_rfl) ?_; clear S; intro g w1 S))
  (try simp only [Exit.inBlock, Exit.then])
  refine bodyPost_ret (S.results rfl _ _ rfl 1 _ rfl _ Tryd.underlying31 rfl (szIV _)) rfl ⟨rfl, S.low⟩
set_option maxHeartbeats 4000000 in
set_option maxRecDepth 100000 in
theorem rd_26 (h : Nat) (hh : h < 65536) (q1 : h / 2048 = 15) (w : World) : Calls Tryd.prog 11 #[.int .u16 h, .bool false] w fun e w' => Says w (rdecN h false) e w' := by
  have CW : Hid (∀ w, Calls Tryd.prog 12 #[.int .u16 h] w fun e w' => e = .returned (.bool false) ∧ w' = w) := fun w => by
    have := riswide_c h hh w
    rw [q1] at this
    exact this
  have e1 : (h : Int) / 2048 = 15 := by omega
  have hN : rdecN h false = (nImm 45 (fd h 0 3) (fd h 3 3) (fd h 6 5) false) := by
    unfold rdecN
    simp [nbeq, nblt, nble, pick2, memOp, *]
  unfold Says
  rw [hN]
  clear hN
  obtain ⟨k0_3, f0_3, k3_3, f3_3, k6_3, f6_3, k6_5, f6_5, k0_8, f0_8, k8_3, f8_3⟩ := keys6 h hh
  go_enter Tryd.func11, Tryd.ntmps11
  have S := SH.start w
  go_wp2_with (first
    | ((with_reducible refine wpl_isDst 4 ?_); refine SH.alloc (L := []) S rfl 31 rfl (Cel.iv IV.zero) zeroIV ?_; clear S; intro b1 w1 S)
    | ((with_reducible refine wpl_isLoad ?_); refine S.ld 3 _ rfl g 1 rfl 0 (Cel.any [.int .i64 50, .int .i64 45]) rfl _ rfl _ Tryd.underlying3 rfl rfl ?_)
    | ((with_reducible refine wpl_isStore ?_); refine S.storeAll rfl 31 _ _ rfl b1 (Cel.iv (nImm 45 (fd h 0 3) (fd h 3 3) (fd h 6 5) false).iv) rfl rfl 1 _ rfl rfl (one_iv _) (szIV _) ?_; clear S; intro w2 S; simp only [List.set_cons_zero, List.set_cons_succ] at S)
    | (go_at_call 12; with_reducible refine (CW.out _).mono ?_; rintro e wf ⟨rfl, rfl⟩)
    | (go_at_call 27; refine (rimm_c _ _ _ _ _ _).mono ?_; rintro e wf ⟨rfl, hbf⟩; replace S := S.below hbf; clear hbf)
    | ((with_reducible refine wpl_is ?_); refine S.sliceA rfl 23 2 _ rfl [.int .i64 50, .int .i64 45] 3 (by kernel_rfl) ?_; clear S; intro g w1 S))
  (try simp only [Exit.inBlock, Exit.then])
  refine bodyPost_ret (S.results rfl _ _ rfl 1 _ rfl _ Tryd.underlying31 rfl (szIV _)) rfl ⟨rfl, S.low⟩
set_option maxHeartbeats 4000000 in
set_option maxRecDepth 100000 in
theorem rd_27 (h : Nat) (hh : h < 65536) (q1 : h / 2048 = 16) (w : World) : Calls Tryd.prog 11 #[.int .u16 h, .bool false] w fun e w' => Says w (rdecN h false) e w' := by
  have CW : Hid (∀ w, Calls Tryd.prog 12 #[.int .u16 h] w fun e w' => e = .returned (.bool false) ∧ w' = w) := fun w => by
    have := riswide_c h hh w
    rw [q1] at this
    exact this
  have e1 : (h : Int) / 2048 = 16 := by omega
  have hN : rdecN h false = (nImm 51 (fd h 0 3) (fd h 3 3) (2 * (fd h 6 5)) false) := by
    unfold rdecN
    simp [nbeq, nblt, nble, pick2, memOp, *]
  unfold Says
  rw [hN]
  clear hN
  obtain ⟨k0_3, f0_3, k3_3, f3_3, k6_3, f6_3, k6_5, f6_5, k0_8, f0_8, k8_3, f8_3⟩ := keys6 h hh
  go_enter Tryd.func11, Tryd.ntmps11
  have S := SH.start w
  go_wp2_with (first
    | ((with_reducible refine wpl_isDst 4 ?_); refine SH.alloc (L := []) S rfl 31 rfl (Cel.iv IV.zero) zeroIV ?_; clear S; intro b1 w1 S)
    | ((with_reducible refine wpl_isLoad ?_); refine S.ld 3 _ rfl g 0 rfl 0 (Cel.any [.int .i64 51, .int .i64 46]) rfl _ rfl _ Tryd.underlying3 rfl rfl ?_)
    | ((with_reducible refine wpl_isStore ?_); refine S.storeAll rfl 31 _ _ rfl b1 (Cel.iv (nImm 51 (fd h 0 3) (fd h 3 3) (2 * (fd h 6 5)) false).iv) rfl rfl 1 _ rfl rfl (one_iv _) (szIV _) ?_; clear S; intro w2 S; simp only [List.set_cons_zero, List.set_cons_succ] at S)
    | (go_at_call 12; with_reducible refine (CW.out _).mono ?_; rintro e wf ⟨rfl, rfl⟩)
    | (go_at_call 27; refine (rimm_c _ _ _ _ _ _).mono ?_; rintro e wf ⟨rfl, hbf⟩; replace S := S.below hbf; clear hbf)
    | ((with_reducible refine wpl_is ?_); refine S.sliceA rfl 23 2 _ rfl [.int .i64 51, .int .i64 46] 3 (by kernel_rfl) ?_; clear S; intro g w1 S))
  (try simp only [Exit.inBlock, Exit.then])
  refine bodyPost_ret (S.results rfl _ _ rfl 1 _ rfl _ Tryd.underlying31 rfl (szIV _)) rfl ⟨rfl, S.low⟩
set_option maxHeartbeats 4000000 in
set_option maxRecDepth 100000 in
theorem rd_28 (h : Nat) (hh : h < 65536) (q1 : h / 2048 = 17) (w : World) : Calls Tryd.prog 11 #[.int .u16 h, .bool false] w fun e w' => Says w (rdecN h false) e w' := by
  have CW : Hid (∀ w, Calls Tryd.prog 12 #[.int .u16 h] w fun e w' => e = .returned (.bool false) ∧ w' = w) := fun w => by
    have := riswide_c h hh w
    rw [q1] at this
    exact this
  have e1 : (h : Int) / 2048 = 17 := by omega
  have hN : rdecN h false = (nImm 46 (fd h 0 3) (fd h 3 3) (2 * (fd h 6 5)) false) := by
    unfold rdecN
    simp [nbeq, nblt, nble, pick2, memOp, *]
  unfold Says
  rw [hN]
  clear hN
  obtain ⟨k0_3, f0_3, k3_3, f3_3, k6_3, f6_3, k6_5, f6_5, k0_8, f0_8, k8_3, f8_3⟩ := keys6 h hh
  go_enter Tryd.func11, Tryd.ntmps11
  have S := SH.start w
  go_wp2_with (first
    | ((with_reducible refine wpl_isDst 4 ?_); refine SH.alloc (L := []) S rfl 31 rfl (Cel.iv IV.zero) zeroIV ?_; clear S; intro b1 w1 S)
    | ((with_reducible refine wpl_isLoad ?_); refine S.ld 3 _ rfl g 1 rfl 0 (Cel.any [.int .i64 51, .int .i64 46]) rfl _ rfl _ Tryd.underlying3 rfl rfl ?_)
    | ((with_reducible refine wpl_isStore ?_); refine S.storeAll rfl 31 _ _ rfl b1 (Cel.iv (nImm 46 (fd h 0 3) (fd h 3 3) (2 * (fd h 6 5)) false).iv) rfl rfl 1 _ rfl rfl (one_iv _) (szIV _) ?_; clear S; intro w2 S; simp only [List.set_cons_zero, List.set_cons_succ] at S)
    | (go_at_call 12; with_reducible refine (CW.out _).mono ?_; rintro e wf ⟨rfl, rfl⟩)
    | (go_at_call 27; refine (rimm_c _ _ _ _ _ _).mono ?_; rintro e wf ⟨rfl, hbf⟩; replace S := S.below hbf; clear hbf)
    | ((with_reducible refine wpl_is ?_); refine S.sliceA rfl 23 2 _ rfl [.int .i64 51, .int .i64 46] 3 (by kernel_rfl) ?_; clear S; intro g w1 S))
  (try simp only [Exit.inBlock, Exit.then])
  refine bodyPost_ret (S.results rfl _ _ rfl 1 _ rfl _ Tryd.underlying31 rfl (szIV _)) rfl ⟨rfl, S.low⟩
set_option maxHeartbeats 4000000 in
set_option maxRecDepth 100000 in
theorem rd_29 (h : Nat) (hh : h < 65536) (q1 : h / 2048 = 18) (w : World) : Calls Tryd.prog 11 #[.int .u16 h, .bool false] w fun e w' => Says w (rdecN h false) e w' := by
  have CW : Hid (∀ w, Calls Tryd.prog 12 #[.int .u16 h] w fun e w' => e = .returned (.bool false) ∧ w' = w) := fun w => by
    have := riswide_c h hh w
    rw [q1] at this
    exact this
  have e1 : (h : Int) / 2048 = 18 := by omega
  have hN : rdecN h false = (nImm 49 (fd h 8 3) 13 (4 * (fd h 0 8)) false) := by
    unfold rdecN
    simp [nbeq, nblt, nble, pick2, memOp, *]
  unfold Says
  rw [hN]
  clear hN
  obtain ⟨k0_3, f0_3, k3_3, f3_3, k6_3, f6_3, k6_5, f6_5, k0_8, f0_8, k8_3, f8_3⟩ := keys6 h hh
  go_enter Tryd.func11, Tryd.ntmps11
  have S := SH.start w
  go_wp2_with (first
    | ((with_reducible refine wpl_isDst 4 ?_); refine SH.alloc (L := []) S rfl 31 rfl (Cel.iv IV.zero) zeroIV ?_; clear S; intro b1 w1 S)
    | ((with_reducible refine wpl_isLoad ?_); refine S.ld 3 _ rfl g 0 rfl 0 (Cel.any [.int .i64 49, .int .i64 44]) rfl _ rfl _ Tryd.underlying3 rfl rfl ?_)
    | ((with_reducible refine wpl_isStore ?_); refine S.storeAll rfl 31 _ _ rfl b1 (Cel.iv (nImm 49 (fd h 8 3) 13 (4 * (fd h 0 8)) false).iv) rfl rfl 1 _ rfl rfl (one_iv _) (szIV _) ?_; clear S; intro w2 S; simp only [List.set_cons_zero, List.set_cons_succ] at S)
    | (go_at_call 12; with_reducible refine (CW.out _).mono ?_; rintro e wf ⟨rfl, rfl⟩)
    | (go_at_call 27; refine (rimm_c _ _ _ _ _ _).mono ?_; rintro e wf ⟨rfl, hbf⟩; replace S := S.below hbf; clear hbf)
    | ((with_reducible refine wpl_is ?_); refine S.sliceA rfl 23 2 _ rfl [.int .i64 49, .int .i64 44] 3 (by kernel_rfl) ?_; clear S; intro g w1 S))
  (try simp only [Exit.inBlock, Exit.then])
  refine bodyPost_ret (S.results rfl _ _ rfl 1 _ rfl _ Tryd.underlying31 rfl (szIV _)) rfl ⟨rfl, S.low⟩
set_option maxHeartbeats 4000000 in
set_option maxRecDepth 100000 in
theorem rd_30 (h : Nat) (hh : h < 65536) (q1 : h / 2048 = 19) (w : World) : Calls Tryd.prog 11 #[.int .u16 h, .bool false] w fun e w' => Says w (rdecN h false) e w' := by
  have CW : Hid (∀ w, Calls Tryd.prog 12 #[.int .u16 h] w fun e w' => e = .returned (.bool false) ∧ w' = w) := fun w => by
    have := riswide_c h hh w
    rw [q1] at this
    exact this
  have e1 : (h : Int) / 2048 = 19 := by omega
  have hN : rdecN h false = (nImm 44 (fd h 8 3) 13 (4 * (fd h 0 8)) false) := by
    unfold rdecN
    simp [nbeq, nblt, nble, pick2, memOp, *]
  unfold Says
  rw [hN]
  clear hN
  obtain ⟨k0_3, f0_3, k3_3, f3_3, k6_3, f6_3, k6_5, f6_5, k0_8, f0_8, k8_3, f8_3⟩ := keys6 h hh
  go_enter Tryd.func11, Tryd.ntmps11
  have S := SH.start w
  go_wp2_with (first
    | ((with_reducible refine wpl_isDst 4 ?_); refine SH.alloc (L := []) S rfl 31 rfl (Cel.iv IV.zero) zeroIV ?_; clear S; intro b1 w1 S)
    | ((with_reducible refine wpl_isLoad ?_); refine S.ld 3 _ rfl g 1 rfl 0 (Cel.any [.int .i64 49, .int .i64 44]) rfl _ rfl _ Tryd.underlying3 rfl rfl ?_)
    | ((with_reducible refine wpl_isStore ?_); refine S.storeAll rfl 31 _ _ rfl b1 (Cel.iv (nImm 44 (fd h 8 3) 13 (4 * (fd h 0 8)) false).iv) rfl rfl 1 _ rfl rfl (one_iv _) (szIV _) ?_; clear S; intro w2 S; simp only [List.set_cons_zero, List.set_cons_succ] at S)
    | (go_at_call 12; with_reducible refine (CW.out _).mono ?_; rintro e wf ⟨rfl, rfl⟩)
    | (go_at_call 27; refine (rimm_c _ _ _ _ _ _).mono ?_; rintro e wf ⟨rfl, hbf⟩; replace S := S.below hbf; clear hbf)
    | ((with_reducible refine wpl_is ?_); refine S.sliceA rfl 23 2 _ rfl [.int .i64 49, .int .i64 44] 3 (by kernel_rfl) ?_; clear S; intro g w1 S))
  (try simp only [Exit.inBlock, Exit.then])
  refine bodyPost_ret (S.results rfl _ _ rfl 1 _ rfl _ Tryd.underlying31 rfl (szIV _)) rfl ⟨rfl, S.low⟩
set_option maxHeartbeats 4000000 in
set_option maxRecDepth 100000 in
theorem rd_31 (h : Nat) (hh : h < 65536) (q1 : h / 2048 = 20) (w : World) : Calls Tryd.prog 11 #[.int .u16 h, .bool false] w fun e w' => Says w (rdecN h false) e w' := by
  have CW : Hid (∀ w, Calls Tryd.prog 12 #[.int .u16 h] w fun e w' => e = .returned (.bool false) ∧ w' = w) := fun w => by
    have := riswide_c h hh w
    rw [q1] at this
    exact this
  have e1 : (h : Int) / 2048 = 20 := by omega
  have hN : rdecN h false = (nImm 43 (fd h 8 3) 0 (4 * (fd h 0 8)) false) := by
    unfold rdecN
    simp [nbeq, nblt, nble, pick2, memOp, *]
  unfold Says
  rw [hN]
  clear hN
  obtain ⟨k0_3, f0_3, k3_3, f3_3, k6_3, f6_3, k6_5, f6_5, k0_8, f0_8, k8_3, f8_3⟩ := keys6 h hh
  go_enter Tryd.func11, Tryd.ntmps11
  have S := SH.start w
  go_wp2_with (first
    | ((with_reducible refine wpl_isDst 4 ?_); refine SH.alloc (L := []) S rfl 31 rfl (Cel.iv IV.zero) zeroIV ?_; clear S; intro b1 w1 S)
    | ((with_reducible refine wpl_isStore ?_); refine S.storeAll rfl 31 _ _ rfl b1 (Cel.iv (nImm 43 (fd h 8 3) 0 (4 * (fd h 0 8)) false).iv) rfl rfl 0 _ rfl rfl (one_iv _) (szIV _) ?_; clear S; intro w2 S; simp only [List.set_cons_zero, List.set_cons_succ] at S)
    | (go_at_call 12; with_reducible refine (CW.out _).mono ?_; rintro e wf ⟨rfl, rfl⟩)
    | (go_at_call 27; refine (rimm_c _ _ _ _ _ _).mono ?_; rintro e wf ⟨rfl, hbf⟩; replace S := S.below hbf; clear hbf))
  (try simp only [Exit.inBlock, Exit.then])
  refine bodyPost_ret (S.results rfl _ _ rfl 0 _ rfl _ Tryd.underlying31 rfl (szIV _)) rfl ⟨rfl, S.low⟩
set_option maxHeartbeats 4000000 in
set_option maxRecDepth 100000 in
theorem rd_32 (h : Nat) (hh : h < 65536) (q1 : h / 2048 = 21) (w : World) : Calls Tryd.prog 11 #[.int .u16 h, .bool false] w fun e w' => Says w (rdecN h false) e w' := by
  have CW : Hid (∀ w, Calls Tryd.prog 12 #[.int .u16 h] w fun e w' => e = .returned (.bool false) ∧ w' = w) := fun w => by
    have := riswide_c h hh w
    rw [q1] at this
    exact this
  have e1 : (h : Int) / 2048 = 21 := by omega
  have hN : rdecN h false = (nImm 5 (fd h 8 3) 13 (4 * (fd h 0 8)) false) := by
    unfold rdecN
    simp [nbeq, nblt, nble, pick2, memOp, *]
  unfold Says
  rw [hN]
  clear hN
  obtain ⟨k0_3, f0_3, k3_3, f3_3, k6_3, f6_3, k6_5, f6_5, k0_8, f0_8, k8_3, f8_3⟩ := keys6 h hh
  go_enter Tryd.func11, Tryd.ntmps11
  have S := SH.start w
  go_wp2_with (first
    | ((with_reducible refine wpl_isDst 4 ?_); refine SH.alloc (L := []) S rfl 31 rfl (Cel.iv IV.zero) zeroIV ?_; clear S; intro b1 w1 S)
    | ((with_reducible refine wpl_isStore ?_); refine S.storeAll rfl 31 _ _ rfl b1 (Cel.iv (nImm 5 (fd h 8 3) 13 (4 * (fd h 0 8)) false).iv) rfl rfl 0 _ rfl rfl (one_iv _) (szIV _) ?_; clear S; intro w2 S; simp only [List.set_cons_zero, List.set_cons_succ] at S)
    | (go_at_call 12; with_reducible refine (CW.out _).mono ?_; rintro e wf ⟨rfl, rfl⟩)
    | (go_at_call 27; refine (rimm_c _ _ _ _ _ _).mono ?_; rintro e wf ⟨rfl, hbf⟩; replace S := S.below hbf; clear hbf))
  (try simp only [Exit.inBlock, Exit.then])
  refine bodyPost_ret (S.results rfl _ _ rfl 0 _ rfl _ Tryd.underlying31 rfl (szIV _)) rfl ⟨rfl, S.low⟩
end Go.Proofs.YtbbkiiabjhgpkaaDoor
