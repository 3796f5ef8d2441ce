/- Stage 8: the document's narrow words, walked. -/
import Derived.Test.YtbbkiiabjhgpkaaDoorRd6z
import Derived.Test.YtbbkiiabjhgpkaaDoorRd9
import Derived.Test.YtbbkiiabjhgpkaaDoorRd16z
namespace Go.Proofs.YtbbkiiabjhgpkaaDoor
open Go.ChangeShapes Go.WideShapes Go.ChangeAt Go.RowKit
set_option linter.unusedVariables false
set_option linter.unusedSimpArgs false

set_option maxHeartbeats 4000000 in
set_option maxRecDepth 100000 in
theorem rdr_8 (h : Nat) (hh : h < 65536) (q1 : h / 2048 = 8) (b : Bool) (w : World) : Calls Tryd.prog 11 #[.int .u16 h, .bool b] w fun e w' => Says w (rdecN h b) e w' := by
  have hN : rdecN h b = rRegister h b := by
    unfold rdecN
    simp [nbeq, nblt, nble, pick2, *]
  unfold Says
  rw [hN]
  clear hN
  have CW : Hid (∀ w, Calls Tryd.prog 12 #[.int .u16 h] w fun e w' => e = .returned (.bool false) ∧ w' = w) := fun w => by
    have := riswide_c h hh w
    rw [q1] at this
    exact this
  have e1 : (h : Int) / 2048 = 8 := by omega
  obtain ⟨k0_3, f0_3, k3_3, f3_3, k6_3, f6_3, k6_5, f6_5, k0_8, f0_8, k8_3, f8_3⟩ := keys6 h hh
  go_enter Tryd.func11, Tryd.ntmps11
  have S := SH.start w
  go_wp2_with (first
    | ((with_reducible refine wpl_isDst 4 ?_); refine SH.alloc (L := []) S rfl 31 rfl (Cel.iv IV.zero) zeroIV ?_; clear S; intro b1 w1 S)
    | ((with_reducible refine wpl_isStore ?_); refine S.storeAll rfl 31 _ _ rfl b1 (Cel.iv (rRegister h b).iv) rfl rfl 0 _ rfl rfl (one_iv _) (szIV _) ?_; clear S; intro w2 S; simp only [List.set_cons_zero, List.set_cons_succ] at S)
    | (go_at_call 12; with_reducible refine (CW.out _).mono ?_; rintro e wf ⟨rfl, rfl⟩)
    | (go_at_call 28; refine (rregister_c h hh b _).mono ?_; rintro e wf ⟨rfl, hbf⟩; replace S := S.below hbf; clear hbf)
  )
  (try simp only [Exit.inBlock, Exit.then])
  refine bodyPost_ret (S.results rfl _ _ rfl 0 _ rfl _ Tryd.underlying31 rfl (szIV _)) rfl ⟨rfl, S.low⟩
set_option maxHeartbeats 4000000 in
set_option maxRecDepth 100000 in
theorem rdr_26 (h : Nat) (hh : h < 65536) (q1 : h / 2048 = 26) (b : Bool) (w : World) : Calls Tryd.prog 11 #[.int .u16 h, .bool b] w fun e w' => Says w (rdecN h b) e w' := by
  have hN : rdecN h b = rJump h b := by
    unfold rdecN
    simp [nbeq, nblt, nble, pick2, *]
  unfold Says
  rw [hN]
  clear hN
  have CW : Hid (∀ w, Calls Tryd.prog 12 #[.int .u16 h] w fun e w' => e = .returned (.bool false) ∧ w' = w) := fun w => by
    have := riswide_c h hh w
    rw [q1] at this
    exact this
  have e1 : (h : Int) / 2048 = 26 := by omega
  obtain ⟨k0_3, f0_3, k3_3, f3_3, k6_3, f6_3, k6_5, f6_5, k0_8, f0_8, k8_3, f8_3⟩ := keys6 h hh
  go_enter Tryd.func11, Tryd.ntmps11
  have S := SH.start w
  go_wp2_with (first
    | ((with_reducible refine wpl_isDst 4 ?_); refine SH.alloc (L := []) S rfl 31 rfl (Cel.iv IV.zero) zeroIV ?_; clear S; intro b1 w1 S)
    | ((with_reducible refine wpl_isStore ?_); refine S.storeAll rfl 31 _ _ rfl b1 (Cel.iv (rJump h b).iv) rfl rfl 0 _ rfl rfl (one_iv _) (szIV _) ?_; clear S; intro w2 S; simp only [List.set_cons_zero, List.set_cons_succ] at S)
    | (go_at_call 12; with_reducible refine (CW.out _).mono ?_; rintro e wf ⟨rfl, rfl⟩)
    | (go_at_call 31; refine (rjump_c h hh b _).mono ?_; rintro e wf ⟨rfl, hbf⟩; replace S := S.below hbf; clear hbf)
  )
  (try simp only [Exit.inBlock, Exit.then])
  refine bodyPost_ret (S.results rfl _ _ rfl 0 _ rfl _ Tryd.underlying31 rfl (szIV _)) rfl ⟨rfl, S.low⟩
set_option maxHeartbeats 4000000 in
set_option maxRecDepth 100000 in
theorem rdr_27 (h : Nat) (hh : h < 65536) (q1 : h / 2048 = 27) (b : Bool) (w : World) : Calls Tryd.prog 11 #[.int .u16 h, .bool b] w fun e w' => Says w (rdecN h b) e w' := by
  have hN : rdecN h b = rJump h b := by
    unfold rdecN
    simp [nbeq, nblt, nble, pick2, *]
  unfold Says
  rw [hN]
  clear hN
  have CW : Hid (∀ w, Calls Tryd.prog 12 #[.int .u16 h] w fun e w' => e = .returned (.bool false) ∧ w' = w) := fun w => by
    have := riswide_c h hh w
    rw [q1] at this
    exact this
  have e1 : (h : Int) / 2048 = 27 := by omega
  obtain ⟨k0_3, f0_3, k3_3, f3_3, k6_3, f6_3, k6_5, f6_5, k0_8, f0_8, k8_3, f8_3⟩ := keys6 h hh
  go_enter Tryd.func11, Tryd.ntmps11
  have S := SH.start w
  go_wp2_with (first
    | ((with_reducible refine wpl_isDst 4 ?_); refine SH.alloc (L := []) S rfl 31 rfl (Cel.iv IV.zero) zeroIV ?_; clear S; intro b1 w1 S)
    | ((with_reducible refine wpl_isStore ?_); refine S.storeAll rfl 31 _ _ rfl b1 (Cel.iv (rJump h b).iv) rfl rfl 0 _ rfl rfl (one_iv _) (szIV _) ?_; clear S; intro w2 S; simp only [List.set_cons_zero, List.set_cons_succ] at S)
    | (go_at_call 12; with_reducible refine (CW.out _).mono ?_; rintro e wf ⟨rfl, rfl⟩)
    | (go_at_call 31; refine (rjump_c h hh b _).mono ?_; rintro e wf ⟨rfl, hbf⟩; replace S := S.below hbf; clear hbf)
  )
  (try simp only [Exit.inBlock, Exit.then])
  refine bodyPost_ret (S.results rfl _ _ rfl 0 _ rfl _ Tryd.underlying31 rfl (szIV _)) rfl ⟨rfl, S.low⟩
set_option maxHeartbeats 4000000 in
set_option maxRecDepth 100000 in
theorem rdr_29 (h : Nat) (hh : h < 65536) (q1 : h / 2048 = 29) (b : Bool) (w : World) : Calls Tryd.prog 11 #[.int .u16 h, .bool b] w fun e w' => Says w (rdecN h b) e w' := by
  have hN : rdecN h b = nNone 64 h := by
    unfold rdecN
    simp [nbeq, nblt, nble, pick2, *]
  unfold Says
  rw [hN]
  clear hN
  have CW : Hid (∀ w, Calls Tryd.prog 12 #[.int .u16 h] w fun e w' => e = .returned (.bool true) ∧ w' = w) := fun w => by
    have := riswide_c h hh w
    rw [q1] at this
    exact this
  have e1 : (h : Int) / 2048 = 29 := by omega
  go_enter Tryd.func11, Tryd.ntmps11
  have S := SH.start w
  go_wp2_with (first
    | ((with_reducible refine wpl_isDst 4 ?_); refine SH.alloc (L := []) S rfl 31 rfl (Cel.iv IV.zero) zeroIV ?_; clear S; intro b1 w1 S)
    | ((with_reducible refine wpl_isStore ?_); refine S.storeAll rfl 31 _ _ rfl b1 (Cel.iv (nNone 64 h).iv) rfl rfl 0 _ rfl rfl (one_iv _) (szIV _) ?_; clear S; intro w2 S; simp only [List.set_cons_zero, List.set_cons_succ] at S)
    | (go_at_call 12; with_reducible refine (CW.out _).mono ?_; rintro e wf ⟨rfl, rfl⟩)
    | (go_at_call 24; refine (rundef_c _ _).mono ?_; rintro e wf ⟨rfl, hbf⟩; replace S := S.below hbf; clear hbf))
  (try simp only [Exit.inBlock, Exit.then])
  refine bodyPost_ret (S.results rfl _ _ rfl 0 _ rfl _ Tryd.underlying31 rfl (szIV _)) rfl ⟨rfl, S.low⟩
set_option maxHeartbeats 4000000 in
set_option maxRecDepth 100000 in
theorem rdr_30 (h : Nat) (hh : h < 65536) (q1 : h / 2048 = 30) (b : Bool) (w : World) : Calls Tryd.prog 11 #[.int .u16 h, .bool b] w fun e w' => Says w (rdecN h b) e w' := by
  have hN : rdecN h b = nNone 64 h := by
    unfold rdecN
    simp [nbeq, nblt, nble, pick2, *]
  unfold Says
  rw [hN]
  clear hN
  have CW : Hid (∀ w, Calls Tryd.prog 12 #[.int .u16 h] w fun e w' => e = .returned (.bool true) ∧ w' = w) := fun w => by
    have := riswide_c h hh w
    rw [q1] at this
    exact this
  have e1 : (h : Int) / 2048 = 30 := by omega
  go_enter Tryd.func11, Tryd.ntmps11
  have S := SH.start w
  go_wp2_with (first
    | ((with_reducible refine wpl_isDst 4 ?_); refine SH.alloc (L := []) S rfl 31 rfl (Cel.iv IV.zero) zeroIV ?_; clear S; intro b1 w1 S)
    | ((with_reducible refine wpl_isStore ?_); refine S.storeAll rfl 31 _ _ rfl b1 (Cel.iv (nNone 64 h).iv) rfl rfl 0 _ rfl rfl (one_iv _) (szIV _) ?_; clear S; intro w2 S; simp only [List.set_cons_zero, List.set_cons_succ] at S)
    | (go_at_call 12; with_reducible refine (CW.out _).mono ?_; rintro e wf ⟨rfl, rfl⟩)
    | (go_at_call 24; refine (rundef_c _ _).mono ?_; rintro e wf ⟨rfl, hbf⟩; replace S := S.below hbf; clear hbf))
  (try simp only [Exit.inBlock, Exit.then])
  refine bodyPost_ret (S.results rfl _ _ rfl 0 _ rfl _ Tryd.underlying31 rfl (szIV _)) rfl ⟨rfl, S.low⟩
set_option maxHeartbeats 4000000 in
set_option maxRecDepth 100000 in
theorem rdr_31 (h : Nat) (hh : h < 65536) (q1 : h / 2048 = 31) (b : Bool) (w : World) : Calls Tryd.prog 11 #[.int .u16 h, .bool b] w fun e w' => Says w (rdecN h b) e w' := by
  have hN : rdecN h b = nNone 64 h := by
    unfold rdecN
    simp [nbeq, nblt, nble, pick2, *]
  unfold Says
  rw [hN]
  clear hN
  have CW : Hid (∀ w, Calls Tryd.prog 12 #[.int .u16 h] w fun e w' => e = .returned (.bool true) ∧ w' = w) := fun w => by
    have := riswide_c h hh w
    rw [q1] at this
    exact this
  have e1 : (h : Int) / 2048 = 31 := by omega
  go_enter Tryd.func11, Tryd.ntmps11
  have S := SH.start w
  go_wp2_with (first
    | ((with_reducible refine wpl_isDst 4 ?_); refine SH.alloc (L := []) S rfl 31 rfl (Cel.iv IV.zero) zeroIV ?_; clear S; intro b1 w1 S)
    | ((with_reducible refine wpl_isStore ?_); refine S.storeAll rfl 31 _ _ rfl b1 (Cel.iv (nNone 64 h).iv) rfl rfl 0 _ rfl rfl (one_iv _) (szIV _) ?_; clear S; intro w2 S; simp only [List.set_cons_zero, List.set_cons_succ] at S)
    | (go_at_call 12; with_reducible refine (CW.out _).mono ?_; rintro e wf ⟨rfl, rfl⟩)
    | (go_at_call 24; refine (rundef_c _ _).mono ?_; rintro e wf ⟨rfl, hbf⟩; replace S := S.below hbf; clear hbf))
  (try simp only [Exit.inBlock, Exit.then])
  refine bodyPost_ret (S.results rfl _ _ rfl 0 _ rfl _ Tryd.underlying31 rfl (szIV _)) rfl ⟨rfl, S.low⟩
set_option maxHeartbeats 4000000 in
set_option maxRecDepth 100000 in
theorem rdr_28 (h : Nat) (hh : h < 65536) (q1 : h / 2048 = 28) (b : Bool) (w : World) : Calls Tryd.prog 11 #[.int .u16 h, .bool b] w fun e w' => Says w (rdecN h b) e w' := by
  have hN : rdecN h b = branchN 14 h 11 := by
    unfold rdecN
    simp [nbeq, nblt, nble, pick2, *]
  unfold Says
  rw [hN]
  clear hN
  have CW : Hid (∀ w, Calls Tryd.prog 12 #[.int .u16 h] w fun e w' => e = .returned (.bool false) ∧ w' = w) := fun w => by
    have := riswide_c h hh w
    rw [q1] at this
    exact this
  have e1 : (h : Int) / 2048 = 28 := by omega
  obtain ⟨k0_3, f0_3, k3_3, f3_3, k6_3, f6_3, k6_5, f6_5, k0_8, f0_8, k8_3, f8_3⟩ := keys6 h hh
  have k0_11 : bits .and .i64 ((h : Int)) 2047 = ((fd h 0 11 : Nat) : Int) := i64_fd h 0 11 hh (by decide) _ _ (by first | rfl | simp) rfl
  have f0_11 : fd h 0 11 < 2048 := fd_lt h 0 11
  obtain ⟨g1, g2, g3⟩ := sgn11 h hh
  have CS : Hid (∀ w, Calls Tryd.prog 32 #[.int .u32 (fd h 0 11 : Nat), .int .i64 11] w fun e w' => e = .returned (.int .u32 (signS ((fd h 0 11 : Nat) : Int) 11)) ∧ w' = w) := fun w => rsign_11 h hh w
  generalize signS ((fd h 0 11 : Nat) : Int) 11 = SG at *
  go_enter Tryd.func11, Tryd.ntmps11
  have S := SH.start w
  go_wp2_with (first
    | ((with_reducible refine wpl_isDst 4 ?_); refine SH.alloc (L := []) S rfl 31 rfl (Cel.iv IV.zero) zeroIV ?_; clear S; intro b1 w1 S)
    | ((with_reducible refine wpl_isDst 17 ?_); refine S.alloc rfl 31 rfl (Cel.iv IV.zero) zeroIV ?_; clear S; intro b2 w1 S)
    | ((with_reducible refine wpl_isLoad ?_); first
      | (refine S.ldAll 31 _ rfl b2 rfl 0 (Cel.iv (iZ 54 0 ((farN h 11 : Nat) : Int) 0 14 false false)) rfl _ Tryd.underlying31 rfl (szIV _) rfl ?_))
    | ((with_reducible refine wpl_isStore ?_); first
      | (refine S.store1 rfl 29 _ _ rfl b2 8 _ rfl rfl 0 (Cel.iv (iZ 54 0 0 0 14 false false)) rfl rfl (by simp [Cel.cells, IV.cellsL]) (Cel.iv (iZ 54 0 ((farN h 11 : Nat) : Int) 0 14 false false)) rfl (by kernel_rfl) ?_; clear S; intro w2 S; simp only [List.set_cons_zero, List.set_cons_succ] at S)
      | (refine S.storeAll rfl 31 _ _ rfl b2 (Cel.iv (iZ 54 0 0 0 14 false false)) rfl rfl 0 _ rfl rfl (one_iv _) (szIV _) ?_; clear S; intro w2 S; simp only [List.set_cons_zero, List.set_cons_succ] at S)
      | (refine S.storeAll rfl 31 _ _ rfl b1 (Cel.iv (branchN 14 h 11).iv) rfl rfl 1 _ rfl rfl (one_iv _) (szIV _) ?_; clear S; intro w2 S; simp only [List.set_cons_zero, List.set_cons_succ] at S))
    | ((with_reducible refine wpl_isDst 276 ?_); refine wpl_dst 276 rfl (.int .u32 ((farN h 11 : Nat) : Int)) (by go_simp; rw [IntKind.wrap_u32]; exact g1) rfl ?_)
    | (go_at_call 32; with_reducible refine (CS.out _).mono ?_; rintro e wf ⟨rfl, rfl⟩)
    | (go_at_call 12; with_reducible refine (CW.out _).mono ?_; rintro e wf ⟨rfl, rfl⟩)
    | (go_at_call 30; refine (plain_c _ _).mono ?_; rintro e wf ⟨rfl, hbf⟩; replace S := S.below hbf; clear hbf)
    | (go_at_call 25; refine (rbad_c _ _).mono ?_; rintro e wf ⟨rfl, hbf⟩; replace S := S.below hbf; clear hbf)
    | (go_at_call 24; refine (rundef_c _ _).mono ?_; rintro e wf ⟨rfl, hbf⟩; replace S := S.below hbf; clear hbf)
  )
  (try simp only [Exit.inBlock, Exit.then])
  refine bodyPost_ret (S.results rfl _ _ rfl 1 _ rfl _ Tryd.underlying31 rfl (szIV _)) rfl ⟨rfl, S.low⟩
end Go.Proofs.YtbbkiiabjhgpkaaDoor
namespace Go.Proofs.YtbbkiiabjhgpkaaDoor
open Go.ChangeShapes Go.WideShapes Go.ChangeAt Go.RowKit
set_option linter.unusedVariables false
set_option linter.unusedSimpArgs false

set_option maxHeartbeats 4000000 in
set_option maxRecDepth 100000 in
theorem rdr_22 (h : Nat) (hh : h < 65536) (q1 : h / 2048 = 22) (b : Bool) (w : World) : Calls Tryd.prog 11 #[.int .u16 h, .bool b] w fun e w' => Says w (rdecN h b) e w' := by
  have hN : rdecN h b = rMisc h b := by
    unfold rdecN
    simp [nbeq, nblt, nble, pick2, *]
  unfold Says
  rw [hN]
  clear hN
  have CW : Hid (∀ w, Calls Tryd.prog 12 #[.int .u16 h] w fun e w' => e = .returned (.bool false) ∧ w' = w) := fun w => by
    have := riswide_c h hh w
    rw [q1] at this
    exact this
  have e1 : (h : Int) / 2048 = 22 := by omega
  obtain ⟨k0_3, f0_3, k3_3, f3_3, k6_3, f6_3, k6_5, f6_5, k0_8, f0_8, k8_3, f8_3⟩ := keys6 h hh
  go_enter Tryd.func11, Tryd.ntmps11
  have S := SH.start w
  go_wp2_with (first
    | ((with_reducible refine wpl_isDst 4 ?_); refine SH.alloc (L := []) S rfl 31 rfl (Cel.iv IV.zero) zeroIV ?_; clear S; intro b1 w1 S)
    | ((with_reducible refine wpl_isStore ?_); refine S.storeAll rfl 31 _ _ rfl b1 (Cel.iv (rMisc h b).iv) rfl rfl 0 _ rfl rfl (one_iv _) (szIV _) ?_; clear S; intro w2 S; simp only [List.set_cons_zero, List.set_cons_succ] at S)
    | (go_at_call 12; with_reducible refine (CW.out _).mono ?_; rintro e wf ⟨rfl, rfl⟩)
    | (go_at_call 29; refine (rmisc_c h hh b _).mono ?_; rintro e wf ⟨rfl, hbf⟩; replace S := S.below hbf; clear hbf)
  )
  (try simp only [Exit.inBlock, Exit.then])
  refine bodyPost_ret (S.results rfl _ _ rfl 0 _ rfl _ Tryd.underlying31 rfl (szIV _)) rfl ⟨rfl, S.low⟩
set_option maxHeartbeats 4000000 in
set_option maxRecDepth 100000 in
theorem rdr_23 (h : Nat) (hh : h < 65536) (q1 : h / 2048 = 23) (b : Bool) (w : World) : Calls Tryd.prog 11 #[.int .u16 h, .bool b] w fun e w' => Says w (rdecN h b) e w' := by
  have hN : rdecN h b = rMisc h b := by
    unfold rdecN
    simp [nbeq, nblt, nble, pick2, *]
  unfold Says
  rw [hN]
  clear hN
  have CW : Hid (∀ w, Calls Tryd.prog 12 #[.int .u16 h] w fun e w' => e = .returned (.bool false) ∧ w' = w) := fun w => by
    have := riswide_c h hh w
    rw [q1] at this
    exact this
  have e1 : (h : Int) / 2048 = 23 := by omega
  obtain ⟨k0_3, f0_3, k3_3, f3_3, k6_3, f6_3, k6_5, f6_5, k0_8, f0_8, k8_3, f8_3⟩ := keys6 h hh
  go_enter Tryd.func11, Tryd.ntmps11
  have S := SH.start w
  go_wp2_with (first
    | ((with_reducible refine wpl_isDst 4 ?_); refine SH.alloc (L := []) S rfl 31 rfl (Cel.iv IV.zero) zeroIV ?_; clear S; intro b1 w1 S)
    | ((with_reducible refine wpl_isStore ?_); refine S.storeAll rfl 31 _ _ rfl b1 (Cel.iv (rMisc h b).iv) rfl rfl 0 _ rfl rfl (one_iv _) (szIV _) ?_; clear S; intro w2 S; simp only [List.set_cons_zero, List.set_cons_succ] at S)
    | (go_at_call 12; with_reducible refine (CW.out _).mono ?_; rintro e wf ⟨rfl, rfl⟩)
    | (go_at_call 29; refine (rmisc_c h hh b _).mono ?_; rintro e wf ⟨rfl, hbf⟩; replace S := S.below hbf; clear hbf)
  )
  (try simp only [Exit.inBlock, Exit.then])
  refine bodyPost_ret (S.results rfl _ _ rfl 0 _ rfl _ Tryd.underlying31 rfl (szIV _)) rfl ⟨rfl, S.low⟩
end Go.Proofs.YtbbkiiabjhgpkaaDoor
