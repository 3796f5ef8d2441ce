/- Stage 8: the document's narrow words, walked. -/
import Derived.Test.YtbbkiiabjhgpkaaDoorRd1b
namespace Go.Proofs.YtbbkiiabjhgpkaaDoor
open Go.ChangeShapes Go.WideShapes Go.ChangeAt Go.RowKit
set_option linter.unusedVariables false
set_option linter.unusedSimpArgs false

theorem i64_bitv (x n : Nat) (hx : x < 65536) : bits .and .i64 ((x : Int) / 2 ^ n) 1 = ((fd x n 1 : Nat) : Int) := by
  have : x / 2 ^ n ≤ x := Nat.div_le_self _ _
  rw [show ((x : Int) / 2 ^ n) = ((x / 2 ^ n : Nat) : Int) by simp, show (1 : Int) = ((2 ^ 1 - 1 : Nat) : Int) from rfl, (bits_nat .i64 33 (by decide) (fun n h1 h2 => by rw [IntKind.wrap_i64]; omega) _ _ (by omega) (by decide)).1, fd_land]
set_option maxHeartbeats 4000000 in
set_option maxRecDepth 100000 in
theorem rdr_24z (h : Nat) (hh : h < 65536) (q1 : h / 2048 = 24) (q2 : fd h 0 8 = 0) (b : Bool) (w : World) : Calls Tryd.prog 11 #[.int .u16 h, .bool b] w fun e w' => Says w (rdecN h b) e w' := by
  have hx1 : fd (fd h 0 8) (fd h 8 3) 1 = 0 := by rw [q2]; simp [fd]
  have hH : heldN h = false := by
    unfold heldN
    simp [nbeq, hx1]
  have hN : rdecN h b = (nNone 65 h) := by
    unfold rdecN
    simp [nbeq, nblt, nble, pick2, *]
  unfold Says
  rw [hN]
  clear hN
  have CW : Hid (∀ w, Calls Tryd.prog 12 #[.int .u16 h] w fun e w' => e = .returned (.bool false) ∧ w' = w) := fun w => by
    have := riswide_c h hh w
    rw [q1] at this
    exact this
  have e1 : (h : Int) / 2048 = 24 := by omega
  obtain ⟨k0_3, f0_3, k3_3, f3_3, k6_3, f6_3, k6_5, f6_5, k0_8, f0_8, k8_3, f8_3⟩ := keys6 h hh
  generalize fd h 8 3 = n at *
  have n0 : (0 : Int) ≤ (n : Int) := by omega
  have hb1 := i64_bitv (fd h 0 8) n (by omega)
  have t1 : (((fd h 0 8 : Nat) : Int) == 0) = true := by simp; omega
  have th : (((fd (fd h 0 8) n 1 : Nat) : Int) == 1) = false := by simp; omega
  clear hx1 hH q2
  go_enter Tryd.func11, Tryd.ntmps11
  have S := SH.start w
  go_wp2_with (first
    | ((with_reducible refine wpl_isDst 4 ?_); refine SH.alloc (L := []) S rfl 31 rfl (Cel.iv IV.zero) zeroIV ?_; clear S; intro b1 w1 S)
    | ((with_reducible refine wpl_isDst 15 ?_); refine S.alloc rfl 31 rfl (Cel.iv IV.zero) zeroIV ?_; clear S; intro b2 w1 S)
    | ((with_reducible refine wpl_isLoad ?_); first
      | (refine S.ld 3 _ rfl g 0 rfl 0 (Cel.any [.int .i64 53, .int .i64 52]) rfl _ rfl _ Tryd.underlying3 rfl rfl ?_)
      | (refine S.ld 3 _ rfl b2 12 rfl 0 (Cel.iv (iZ 53 ((n : Nat) : Int) 0 ((fd h 0 8 : Nat) : Int) 14 false false)) rfl _ rfl _ Tryd.underlying3 rfl rfl ?_)
      | (refine S.ld 3 _ rfl b2 0 rfl 0 (Cel.iv (iZ 53 ((n : Nat) : Int) 0 ((fd h 0 8 : Nat) : Int) 14 false false)) rfl _ rfl _ Tryd.underlying3 rfl rfl ?_)
      | (refine S.ldAll 31 _ rfl b2 rfl 0 (Cel.iv (iZ 53 ((n : Nat) : Int) 0 ((fd h 0 8 : Nat) : Int) 14 true false)) rfl _ Tryd.underlying31 rfl (szIV _) rfl ?_))
    | ((with_reducible refine wpl_isStore ?_); first
      | (refine S.store1 rfl 3 _ _ rfl b2 5 _ rfl rfl 0 (Cel.iv (iZ 53 0 0 0 14 false false)) rfl rfl (by simp [Cel.cells, IV.cellsL]) (Cel.iv (iZ 53 ((n : Nat) : Int) 0 0 14 false false)) rfl (by kernel_rfl) ?_; clear S; intro w2 S; simp only [List.set_cons_zero, List.set_cons_succ] at S)
      | (refine S.store1 rfl 3 _ _ rfl b2 12 _ rfl rfl 0 (Cel.iv (iZ 53 ((n : Nat) : Int) 0 0 14 false false)) rfl rfl (by simp [Cel.cells, IV.cellsL]) (Cel.iv (iZ 53 ((n : Nat) : Int) 0 ((fd h 0 8 : Nat) : Int) 14 false false)) rfl (by kernel_rfl) ?_; clear S; intro w2 S; simp only [List.set_cons_zero, List.set_cons_succ] at S)
      | (refine S.store1 rfl 4 _ _ rfl b2 13 _ rfl rfl 0 (Cel.iv (iZ 53 ((n : Nat) : Int) 0 ((fd h 0 8 : Nat) : Int) 14 false false)) rfl rfl (by simp [Cel.cells, IV.cellsL]) (Cel.iv (iZ 53 ((n : Nat) : Int) 0 ((fd h 0 8 : Nat) : Int) 14 true false)) rfl (by kernel_rfl) ?_; clear S; intro w2 S; simp only [List.set_cons_zero, List.set_cons_succ] at S)
      | (refine S.storeAll rfl 31 _ _ rfl b2 (Cel.iv (iZ 53 0 0 0 14 false false)) rfl rfl 0 _ rfl rfl (one_iv _) (szIV _) ?_; clear S; intro w2 S; simp only [List.set_cons_zero, List.set_cons_succ] at S)
      | (refine S.storeAll rfl 31 _ _ rfl b1 (Cel.iv (nNone 65 h).iv) rfl rfl 2 _ rfl rfl (one_iv _) (szIV _) ?_; clear S; intro w2 S; simp only [List.set_cons_zero, List.set_cons_succ] at S))
    | (go_at_call 12; with_reducible refine (CW.out _).mono ?_; rintro e wf ⟨rfl, rfl⟩)
    | (go_at_call 30; refine (plain_c _ _).mono ?_; rintro e wf ⟨rfl, hbf⟩; replace S := S.below hbf; clear hbf)
    | (go_at_call 25; refine (rbad_c _ _).mono ?_; rintro e wf ⟨rfl, hbf⟩; replace S := S.below hbf; clear hbf)
    | ((with_reducible refine wpl_is ?_); refine S.sliceA rfl 23 2 _ rfl [.int .i64 53, .int .i64 52] 3 (by kernel_rfl) ?_; clear S; intro g w1 S))
  (try simp only [Exit.inBlock, Exit.then])
  refine bodyPost_ret (S.results rfl _ _ rfl 2 _ rfl _ Tryd.underlying31 rfl (szIV _)) rfl ⟨rfl, S.low⟩
set_option maxHeartbeats 4000000 in
set_option maxRecDepth 100000 in
theorem rdr_24h (h : Nat) (hh : h < 65536) (q1 : h / 2048 = 24) (q2 : fd h 0 8 ≠ 0 ∧ fd (fd h 0 8) (fd h 8 3) 1 = 1) (b : Bool) (w : World) : Calls Tryd.prog 11 #[.int .u16 h, .bool b] w fun e w' => Says w (rdecN h b) e w' := by
  have hx1 : fd (fd h 0 8) (fd h 8 3) 1 = 1 := q2.2
  have hH : heldN h = true := by
    unfold heldN
    simp [nbeq, hx1]
  have hN : rdecN h b = (nNone 65 h) := by
    unfold rdecN
    simp [nbeq, nblt, nble, pick2, *]
  unfold Says
  rw [hN]
  clear hN
  have CW : Hid (∀ w, Calls Tryd.prog 12 #[.int .u16 h] w fun e w' => e = .returned (.bool false) ∧ w' = w) := fun w => by
    have := riswide_c h hh w
    rw [q1] at this
    exact this
  have e1 : (h : Int) / 2048 = 24 := by omega
  obtain ⟨k0_3, f0_3, k3_3, f3_3, k6_3, f6_3, k6_5, f6_5, k0_8, f0_8, k8_3, f8_3⟩ := keys6 h hh
  generalize fd h 8 3 = n at *
  have n0 : (0 : Int) ≤ (n : Int) := by omega
  have hb1 := i64_bitv (fd h 0 8) n (by omega)
  have t2 : (((fd h 0 8 : Nat) : Int) == 0) = false := by simp; omega
  have th : (((fd (fd h 0 8) n 1 : Nat) : Int) == 1) = true := by simp; omega
  clear hx1 hH q2
  go_enter Tryd.func11, Tryd.ntmps11
  have S := SH.start w
  go_wp2_with (first
    | ((with_reducible refine wpl_isDst 4 ?_); refine SH.alloc (L := []) S rfl 31 rfl (Cel.iv IV.zero) zeroIV ?_; clear S; intro b1 w1 S)
    | ((with_reducible refine wpl_isDst 15 ?_); refine S.alloc rfl 31 rfl (Cel.iv IV.zero) zeroIV ?_; clear S; intro b2 w1 S)
    | ((with_reducible refine wpl_isLoad ?_); first
      | (refine S.ld 3 _ rfl g 0 rfl 0 (Cel.any [.int .i64 53, .int .i64 52]) rfl _ rfl _ Tryd.underlying3 rfl rfl ?_)
      | (refine S.ld 3 _ rfl b2 12 rfl 0 (Cel.iv (iZ 53 ((n : Nat) : Int) 0 ((fd h 0 8 : Nat) : Int) 14 false false)) rfl _ rfl _ Tryd.underlying3 rfl rfl ?_)
      | (refine S.ld 3 _ rfl b2 0 rfl 0 (Cel.iv (iZ 53 ((n : Nat) : Int) 0 ((fd h 0 8 : Nat) : Int) 14 false false)) rfl _ rfl _ Tryd.underlying3 rfl rfl ?_)
      | (refine S.ldAll 31 _ rfl b2 rfl 0 (Cel.iv (iZ 53 ((n : Nat) : Int) 0 ((fd h 0 8 : Nat) : Int) 14 false false)) rfl _ Tryd.underlying31 rfl (szIV _) rfl ?_))
    | ((with_reducible refine wpl_isStore ?_); first
      | (refine S.store1 rfl 3 _ _ rfl b2 5 _ rfl rfl 0 (Cel.iv (iZ 53 0 0 0 14 false false)) rfl rfl (by simp [Cel.cells, IV.cellsL]) (Cel.iv (iZ 53 ((n : Nat) : Int) 0 0 14 false false)) rfl (by kernel_rfl) ?_; clear S; intro w2 S; simp only [List.set_cons_zero, List.set_cons_succ] at S)
      | (refine S.store1 rfl 3 _ _ rfl b2 12 _ rfl rfl 0 (Cel.iv (iZ 53 ((n : Nat) : Int) 0 0 14 false false)) rfl rfl (by simp [Cel.cells, IV.cellsL]) (Cel.iv (iZ 53 ((n : Nat) : Int) 0 ((fd h 0 8 : Nat) : Int) 14 false false)) rfl (by kernel_rfl) ?_; clear S; intro w2 S; simp only [List.set_cons_zero, List.set_cons_succ] at S)
      | (refine S.store1 rfl 4 _ _ rfl b2 13 _ rfl rfl 0 (Cel.iv (iZ 53 ((n : Nat) : Int) 0 ((fd h 0 8 : Nat) : Int) 14 false false)) rfl rfl (by simp [Cel.cells, IV.cellsL]) (Cel.iv (iZ 53 ((n : Nat) : Int) 0 ((fd h 0 8 : Nat) : Int) 14 false false)) rfl (by kernel_rfl) ?_; clear S; intro w2 S; simp only [List.set_cons_zero, List.set_cons_succ] at S)
      | (refine S.storeAll rfl 31 _ _ rfl b2 (Cel.iv (iZ 53 0 0 0 14 false false)) rfl rfl 0 _ rfl rfl (one_iv _) (szIV _) ?_; clear S; intro w2 S; simp only [List.set_cons_zero, List.set_cons_succ] at S)
      | (refine S.storeAll rfl 31 _ _ rfl b1 (Cel.iv (nNone 65 h).iv) rfl rfl 2 _ rfl rfl (one_iv _) (szIV _) ?_; clear S; intro w2 S; simp only [List.set_cons_zero, List.set_cons_succ] at S))
    | (go_at_call 12; with_reducible refine (CW.out _).mono ?_; rintro e wf ⟨rfl, rfl⟩)
    | (go_at_call 30; refine (plain_c _ _).mono ?_; rintro e wf ⟨rfl, hbf⟩; replace S := S.below hbf; clear hbf)
    | (go_at_call 25; refine (rbad_c _ _).mono ?_; rintro e wf ⟨rfl, hbf⟩; replace S := S.below hbf; clear hbf)
    | ((with_reducible refine wpl_is ?_); refine S.sliceA rfl 23 2 _ rfl [.int .i64 53, .int .i64 52] 3 (by kernel_rfl) ?_; clear S; intro g w1 S))
  (try simp only [Exit.inBlock, Exit.then])
  refine bodyPost_ret (S.results rfl _ _ rfl 2 _ rfl _ Tryd.underlying31 rfl (szIV _)) rfl ⟨rfl, S.low⟩
set_option maxHeartbeats 4000000 in
set_option maxRecDepth 100000 in
theorem rdr_24n (h : Nat) (hh : h < 65536) (q1 : h / 2048 = 24) (q2 : fd h 0 8 ≠ 0 ∧ fd (fd h 0 8) (fd h 8 3) 1 = 0) (b : Bool) (w : World) : Calls Tryd.prog 11 #[.int .u16 h, .bool b] w fun e w' => Says w (rdecN h b) e w' := by
  have hx1 : fd (fd h 0 8) (fd h 8 3) 1 = 0 := q2.2
  have hH : heldN h = false := by
    unfold heldN
    simp [nbeq, hx1]
  have hN : rdecN h b = (NV.mk 53 false 14 0 (fd h 8 3) 0 0 false (fd h 0 8) true false) := by
    unfold rdecN
    simp [nbeq, nblt, nble, pick2, *]
  unfold Says
  rw [hN]
  clear hN
  have CW : Hid (∀ w, Calls Tryd.prog 12 #[.int .u16 h] w fun e w' => e = .returned (.bool false) ∧ w' = w) := fun w => by
    have := riswide_c h hh w
    rw [q1] at this
    exact this
  have e1 : (h : Int) / 2048 = 24 := by omega
  obtain ⟨k0_3, f0_3, k3_3, f3_3, k6_3, f6_3, k6_5, f6_5, k0_8, f0_8, k8_3, f8_3⟩ := keys6 h hh
  generalize fd h 8 3 = n at *
  have n0 : (0 : Int) ≤ (n : Int) := by omega
  have hb1 := i64_bitv (fd h 0 8) n (by omega)
  have t3 : (((fd h 0 8 : Nat) : Int) == 0) = false := by simp; omega
  have th : (((fd (fd h 0 8) n 1 : Nat) : Int) == 1) = false := by simp; omega
  clear hx1 hH q2
  go_enter Tryd.func11, Tryd.ntmps11
  have S := SH.start w
  go_wp2_with (first
    | ((with_reducible refine wpl_isDst 4 ?_); refine SH.alloc (L := []) S rfl 31 rfl (Cel.iv IV.zero) zeroIV ?_; clear S; intro b1 w1 S)
    | ((with_reducible refine wpl_isDst 15 ?_); refine S.alloc rfl 31 rfl (Cel.iv IV.zero) zeroIV ?_; clear S; intro b2 w1 S)
    | ((with_reducible refine wpl_isLoad ?_); first
      | (refine S.ld 3 _ rfl g 0 rfl 0 (Cel.any [.int .i64 53, .int .i64 52]) rfl _ rfl _ Tryd.underlying3 rfl rfl ?_)
      | (refine S.ld 3 _ rfl b2 12 rfl 0 (Cel.iv (iZ 53 ((n : Nat) : Int) 0 ((fd h 0 8 : Nat) : Int) 14 false false)) rfl _ rfl _ Tryd.underlying3 rfl rfl ?_)
      | (refine S.ld 3 _ rfl b2 0 rfl 0 (Cel.iv (iZ 53 ((n : Nat) : Int) 0 ((fd h 0 8 : Nat) : Int) 14 false false)) rfl _ rfl _ Tryd.underlying3 rfl rfl ?_)
      | (refine S.ldAll 31 _ rfl b2 rfl 0 (Cel.iv (iZ 53 ((n : Nat) : Int) 0 ((fd h 0 8 : Nat) : Int) 14 true false)) rfl _ Tryd.underlying31 rfl (szIV _) rfl ?_))
    | ((with_reducible refine wpl_isStore ?_); first
      | (refine S.store1 rfl 3 _ _ rfl b2 5 _ rfl rfl 0 (Cel.iv (iZ 53 0 0 0 14 false false)) rfl rfl (by simp [Cel.cells, IV.cellsL]) (Cel.iv (iZ 53 ((n : Nat) : Int) 0 0 14 false false)) rfl (by kernel_rfl) ?_; clear S; intro w2 S; simp only [List.set_cons_zero, List.set_cons_succ] at S)
      | (refine S.store1 rfl 3 _ _ rfl b2 12 _ rfl rfl 0 (Cel.iv (iZ 53 ((n : Nat) : Int) 0 0 14 false false)) rfl rfl (by simp [Cel.cells, IV.cellsL]) (Cel.iv (iZ 53 ((n : Nat) : Int) 0 ((fd h 0 8 : Nat) : Int) 14 false false)) rfl (by kernel_rfl) ?_; clear S; intro w2 S; simp only [List.set_cons_zero, List.set_cons_succ] at S)
      | (refine S.store1 rfl 4 _ _ rfl b2 13 _ rfl rfl 0 (Cel.iv (iZ 53 ((n : Nat) : Int) 0 ((fd h 0 8 : Nat) : Int) 14 false false)) rfl rfl (by simp [Cel.cells, IV.cellsL]) (Cel.iv (iZ 53 ((n : Nat) : Int) 0 ((fd h 0 8 : Nat) : Int) 14 true false)) rfl (by kernel_rfl) ?_; clear S; intro w2 S; simp only [List.set_cons_zero, List.set_cons_succ] at S)
      | (refine S.storeAll rfl 31 _ _ rfl b2 (Cel.iv (iZ 53 0 0 0 14 false false)) rfl rfl 0 _ rfl rfl (one_iv _) (szIV _) ?_; clear S; intro w2 S; simp only [List.set_cons_zero, List.set_cons_succ] at S)
      | (refine S.storeAll rfl 31 _ _ rfl b1 (Cel.iv (NV.mk 53 false 14 0 (n) 0 0 false (fd h 0 8) true false).iv) rfl rfl 2 _ rfl rfl (one_iv _) (szIV _) ?_; clear S; intro w2 S; simp only [List.set_cons_zero, List.set_cons_succ] at S))
    | (go_at_call 12; with_reducible refine (CW.out _).mono ?_; rintro e wf ⟨rfl, rfl⟩)
    | (go_at_call 30; refine (plain_c _ _).mono ?_; rintro e wf ⟨rfl, hbf⟩; replace S := S.below hbf; clear hbf)
    | ((with_reducible refine wpl_is ?_); refine S.sliceA rfl 23 2 _ rfl [.int .i64 53, .int .i64 52] 3 (by kernel_rfl) ?_; clear S; intro g w1 S))
  (try simp only [Exit.inBlock, Exit.then])
  refine bodyPost_ret (S.results rfl _ _ rfl 2 _ rfl _ Tryd.underlying31 rfl (szIV _)) rfl ⟨rfl, S.low⟩
set_option maxHeartbeats 4000000 in
set_option maxRecDepth 100000 in
theorem rdr_25z (h : Nat) (hh : h < 65536) (q1 : h / 2048 = 25) (q2 : fd h 0 8 = 0) (b : Bool) (w : World) : Calls Tryd.prog 11 #[.int .u16 h, .bool b] w fun e w' => Says w (rdecN h b) e w' := by
  have hx1 : fd (fd h 0 8) (fd h 8 3) 1 = 0 := by rw [q2]; simp [fd]
  have hH : heldN h = false := by
    unfold heldN
    simp [nbeq, hx1]
  have hN : rdecN h b = (nNone 65 h) := by
    unfold rdecN
    simp [nbeq, nblt, nble, pick2, *]
  unfold Says
  rw [hN]
  clear hN
  have CW : Hid (∀ w, Calls Tryd.prog 12 #[.int .u16 h] w fun e w' => e = .returned (.bool false) ∧ w' = w) := fun w => by
    have := riswide_c h hh w
    rw [q1] at this
    exact this
  have e1 : (h : Int) / 2048 = 25 := by omega
  obtain ⟨k0_3, f0_3, k3_3, f3_3, k6_3, f6_3, k6_5, f6_5, k0_8, f0_8, k8_3, f8_3⟩ := keys6 h hh
  generalize fd h 8 3 = n at *
  have n0 : (0 : Int) ≤ (n : Int) := by omega
  have hb1 := i64_bitv (fd h 0 8) n (by omega)
  have t4 : (((fd h 0 8 : Nat) : Int) == 0) = true := by simp; omega
  have th : (((fd (fd h 0 8) n 1 : Nat) : Int) == 1) = false := by simp; omega
  clear hx1 hH q2
  go_enter Tryd.func11, Tryd.ntmps11
  have S := SH.start w
  go_wp2_with (first
    | ((with_reducible refine wpl_isDst 4 ?_); refine SH.alloc (L := []) S rfl 31 rfl (Cel.iv IV.zero) zeroIV ?_; clear S; intro b1 w1 S)
    | ((with_reducible refine wpl_isDst 15 ?_); refine S.alloc rfl 31 rfl (Cel.iv IV.zero) zeroIV ?_; clear S; intro b2 w1 S)
    | ((with_reducible refine wpl_isLoad ?_); first
      | (refine S.ld 3 _ rfl g 1 rfl 0 (Cel.any [.int .i64 53, .int .i64 52]) rfl _ rfl _ Tryd.underlying3 rfl rfl ?_)
      | (refine S.ld 3 _ rfl b2 12 rfl 0 (Cel.iv (iZ 52 ((n : Nat) : Int) 0 ((fd h 0 8 : Nat) : Int) 14 false false)) rfl _ rfl _ Tryd.underlying3 rfl rfl ?_)
      | (refine S.ld 3 _ rfl b2 0 rfl 0 (Cel.iv (iZ 52 ((n : Nat) : Int) 0 ((fd h 0 8 : Nat) : Int) 14 false false)) rfl _ rfl _ Tryd.underlying3 rfl rfl ?_)
      | (refine S.ldAll 31 _ rfl b2 rfl 0 (Cel.iv (iZ 52 ((n : Nat) : Int) 0 ((fd h 0 8 : Nat) : Int) 14 true false)) rfl _ Tryd.underlying31 rfl (szIV _) rfl ?_))
    | ((with_reducible refine wpl_isStore ?_); first
      | (refine S.store1 rfl 3 _ _ rfl b2 5 _ rfl rfl 0 (Cel.iv (iZ 52 0 0 0 14 false false)) rfl rfl (by simp [Cel.cells, IV.cellsL]) (Cel.iv (iZ 52 ((n : Nat) : Int) 0 0 14 false false)) rfl (by kernel_rfl) ?_; clear S; intro w2 S; simp only [List.set_cons_zero, List.set_cons_succ] at S)
      | (refine S.store1 rfl 3 _ _ rfl b2 12 _ rfl rfl 0 (Cel.iv (iZ 52 ((n : Nat) : Int) 0 0 14 false false)) rfl rfl (by simp [Cel.cells, IV.cellsL]) (Cel.iv (iZ 52 ((n : Nat) : Int) 0 ((fd h 0 8 : Nat) : Int) 14 false false)) rfl (by kernel_rfl) ?_; clear S; intro w2 S; simp only [List.set_cons_zero, List.set_cons_succ] at S)
      | (refine S.store1 rfl 4 _ _ rfl b2 13 _ rfl rfl 0 (Cel.iv (iZ 52 ((n : Nat) : Int) 0 ((fd h 0 8 : Nat) : Int) 14 false false)) rfl rfl (by simp [Cel.cells, IV.cellsL]) (Cel.iv (iZ 52 ((n : Nat) : Int) 0 ((fd h 0 8 : Nat) : Int) 14 true false)) rfl (by kernel_rfl) ?_; clear S; intro w2 S; simp only [List.set_cons_zero, List.set_cons_succ] at S)
      | (refine S.storeAll rfl 31 _ _ rfl b2 (Cel.iv (iZ 52 0 0 0 14 false false)) rfl rfl 0 _ rfl rfl (one_iv _) (szIV _) ?_; clear S; intro w2 S; simp only [List.set_cons_zero, List.set_cons_succ] at S)
      | (refine S.storeAll rfl 31 _ _ rfl b1 (Cel.iv (nNone 65 h).iv) rfl rfl 2 _ rfl rfl (one_iv _) (szIV _) ?_; clear S; intro w2 S; simp only [List.set_cons_zero, List.set_cons_succ] at S))
    | (go_at_call 12; with_reducible refine (CW.out _).mono ?_; rintro e wf ⟨rfl, rfl⟩)
    | (go_at_call 30; refine (plain_c _ _).mono ?_; rintro e wf ⟨rfl, hbf⟩; replace S := S.below hbf; clear hbf)
    | (go_at_call 25; refine (rbad_c _ _).mono ?_; rintro e wf ⟨rfl, hbf⟩; replace S := S.below hbf; clear hbf)
    | ((with_reducible refine wpl_is ?_); refine S.sliceA rfl 23 2 _ rfl [.int .i64 53, .int .i64 52] 3 (by kernel_rfl) ?_; clear S; intro g w1 S))
  (try simp only [Exit.inBlock, Exit.then])
  refine bodyPost_ret (S.results rfl _ _ rfl 2 _ rfl _ Tryd.underlying31 rfl (szIV _)) rfl ⟨rfl, S.low⟩
set_option maxHeartbeats 4000000 in
set_option maxRecDepth 100000 in
theorem rdr_25h (h : Nat) (hh : h < 65536) (q1 : h / 2048 = 25) (q2 : fd h 0 8 ≠ 0 ∧ fd (fd h 0 8) (fd h 8 3) 1 = 1) (b : Bool) (w : World) : Calls Tryd.prog 11 #[.int .u16 h, .bool b] w fun e w' => Says w (rdecN h b) e w' := by
  have hx1 : fd (fd h 0 8) (fd h 8 3) 1 = 1 := q2.2
  have hH : heldN h = true := by
    unfold heldN
    simp [nbeq, hx1]
  have hN : rdecN h b = (NV.mk 52 false 14 0 (fd h 8 3) 0 0 false (fd h 0 8) false false) := by
    unfold rdecN
    simp [nbeq, nblt, nble, pick2, *]
  unfold Says
  rw [hN]
  clear hN
  have CW : Hid (∀ w, Calls Tryd.prog 12 #[.int .u16 h] w fun e w' => e = .returned (.bool false) ∧ w' = w) := fun w => by
    have := riswide_c h hh w
    rw [q1] at this
    exact this
  have e1 : (h : Int) / 2048 = 25 := by omega
  obtain ⟨k0_3, f0_3, k3_3, f3_3, k6_3, f6_3, k6_5, f6_5, k0_8, f0_8, k8_3, f8_3⟩ := keys6 h hh
  generalize fd h 8 3 = n at *
  have n0 : (0 : Int) ≤ (n : Int) := by omega
  have hb1 := i64_bitv (fd h 0 8) n (by omega)
  have t5 : (((fd h 0 8 : Nat) : Int) == 0) = false := by simp; omega
  have th : (((fd (fd h 0 8) n 1 : Nat) : Int) == 1) = true := by simp; omega
  clear hx1 hH q2
  go_enter Tryd.func11, Tryd.ntmps11
  have S := SH.start w
  go_wp2_with (first
    | ((with_reducible refine wpl_isDst 4 ?_); refine SH.alloc (L := []) S rfl 31 rfl (Cel.iv IV.zero) zeroIV ?_; clear S; intro b1 w1 S)
    | ((with_reducible refine wpl_isDst 15 ?_); refine S.alloc rfl 31 rfl (Cel.iv IV.zero) zeroIV ?_; clear S; intro b2 w1 S)
    | ((with_reducible refine wpl_isLoad ?_); first
      | (refine S.ld 3 _ rfl g 1 rfl 0 (Cel.any [.int .i64 53, .int .i64 52]) rfl _ rfl _ Tryd.underlying3 rfl rfl ?_)
      | (refine S.ld 3 _ rfl b2 12 rfl 0 (Cel.iv (iZ 52 ((n : Nat) : Int) 0 ((fd h 0 8 : Nat) : Int) 14 false false)) rfl _ rfl _ Tryd.underlying3 rfl rfl ?_)
      | (refine S.ld 3 _ rfl b2 0 rfl 0 (Cel.iv (iZ 52 ((n : Nat) : Int) 0 ((fd h 0 8 : Nat) : Int) 14 false false)) rfl _ rfl _ Tryd.underlying3 rfl rfl ?_)
      | (refine S.ldAll 31 _ rfl b2 rfl 0 (Cel.iv (iZ 52 ((n : Nat) : Int) 0 ((fd h 0 8 : Nat) : Int) 14 false false)) rfl _ Tryd.underlying31 rfl (szIV _) rfl ?_))
    | ((with_reducible refine wpl_isStore ?_); first
      | (refine S.store1 rfl 3 _ _ rfl b2 5 _ rfl rfl 0 (Cel.iv (iZ 52 0 0 0 14 false false)) rfl rfl (by simp [Cel.cells, IV.cellsL]) (Cel.iv (iZ 52 ((n : Nat) : Int) 0 0 14 false false)) rfl (by kernel_rfl) ?_; clear S; intro w2 S; simp only [List.set_cons_zero, List.set_cons_succ] at S)
      | (refine S.store1 rfl 3 _ _ rfl b2 12 _ rfl rfl 0 (Cel.iv (iZ 52 ((n : Nat) : Int) 0 0 14 false false)) rfl rfl (by simp [Cel.cells, IV.cellsL]) (Cel.iv (iZ 52 ((n : Nat) : Int) 0 ((fd h 0 8 : Nat) : Int) 14 false false)) rfl (by kernel_rfl) ?_; clear S; intro w2 S; simp only [List.set_cons_zero, List.set_cons_succ] at S)
      | (refine S.store1 rfl 4 _ _ rfl b2 13 _ rfl rfl 0 (Cel.iv (iZ 52 ((n : Nat) : Int) 0 ((fd h 0 8 : Nat) : Int) 14 false false)) rfl rfl (by simp [Cel.cells, IV.cellsL]) (Cel.iv (iZ 52 ((n : Nat) : Int) 0 ((fd h 0 8 : Nat) : Int) 14 false false)) rfl (by kernel_rfl) ?_; clear S; intro w2 S; simp only [List.set_cons_zero, List.set_cons_succ] at S)
      | (refine S.storeAll rfl 31 _ _ rfl b2 (Cel.iv (iZ 52 0 0 0 14 false false)) rfl rfl 0 _ rfl rfl (one_iv _) (szIV _) ?_; clear S; intro w2 S; simp only [List.set_cons_zero, List.set_cons_succ] at S)
      | (refine S.storeAll rfl 31 _ _ rfl b1 (Cel.iv (NV.mk 52 false 14 0 (n) 0 0 false (fd h 0 8) false false).iv) rfl rfl 2 _ rfl rfl (one_iv _) (szIV _) ?_; clear S; intro w2 S; simp only [List.set_cons_zero, List.set_cons_succ] at S))
    | (go_at_call 12; with_reducible refine (CW.out _).mono ?_; rintro e wf ⟨rfl, rfl⟩)
    | (go_at_call 30; refine (plain_c _ _).mono ?_; rintro e wf ⟨rfl, hbf⟩; replace S := S.below hbf; clear hbf)
    | ((with_reducible refine wpl_is ?_); refine S.sliceA rfl 23 2 _ rfl [.int .i64 53, .int .i64 52] 3 (by kernel_rfl) ?_; clear S; intro g w1 S))
  (try simp only [Exit.inBlock, Exit.then])
  refine bodyPost_ret (S.results rfl _ _ rfl 2 _ rfl _ Tryd.underlying31 rfl (szIV _)) rfl ⟨rfl, S.low⟩
set_option maxHeartbeats 4000000 in
set_option maxRecDepth 100000 in
theorem rdr_25n (h : Nat) (hh : h < 65536) (q1 : h / 2048 = 25) (q2 : fd h 0 8 ≠ 0 ∧ fd (fd h 0 8) (fd h 8 3) 1 = 0) (b : Bool) (w : World) : Calls Tryd.prog 11 #[.int .u16 h, .bool b] w fun e w' => Says w (rdecN h b) e w' := by
  have hx1 : fd (fd h 0 8) (fd h 8 3) 1 = 0 := q2.2
  have hH : heldN h = false := by
    unfold heldN
    simp [nbeq, hx1]
  have hN : rdecN h b = (NV.mk 52 false 14 0 (fd h 8 3) 0 0 false (fd h 0 8) true false) := by
    unfold rdecN
    simp [nbeq, nblt, nble, pick2, *]
  unfold Says
  rw [hN]
  clear hN
  have CW : Hid (∀ w, Calls Tryd.prog 12 #[.int .u16 h] w fun e w' => e = .returned (.bool false) ∧ w' = w) := fun w => by
    have := riswide_c h hh w
    rw [q1] at this
    exact this
  have e1 : (h : Int) / 2048 = 25 := by omega
  obtain ⟨k0_3, f0_3, k3_3, f3_3, k6_3, f6_3, k6_5, f6_5, k0_8, f0_8, k8_3, f8_3⟩ := keys6 h hh
  generalize fd h 8 3 = n at *
  have n0 : (0 : Int) ≤ (n : Int) := by omega
  have hb1 := i64_bitv (fd h 0 8) n (by omega)
  have t6 : (((fd h 0 8 : Nat) : Int) == 0) = false := by simp; omega
  have th : (((fd (fd h 0 8) n 1 : Nat) : Int) == 1) = false := by simp; omega
  clear hx1 hH q2
  go_enter Tryd.func11, Tryd.ntmps11
  have S := SH.start w
  go_wp2_with (first
    | ((with_reducible refine wpl_isDst 4 ?_); refine SH.alloc (L := []) S rfl 31 rfl (Cel.iv IV.zero) zeroIV ?_; clear S; intro b1 w1 S)
    | ((with_reducible refine wpl_isDst 15 ?_); refine S.alloc rfl 31 rfl (Cel.iv IV.zero) zeroIV ?_; clear S; intro b2 w1 S)
    | ((with_reducible refine wpl_isLoad ?_); first
      | (refine S.ld 3 _ rfl g 1 rfl 0 (Cel.any [.int .i64 53, .int .i64 52]) rfl _ rfl _ Tryd.underlying3 rfl rfl ?_)
      | (refine S.ld 3 _ rfl b2 12 rfl 0 (Cel.iv (iZ 52 ((n : Nat) : Int) 0 ((fd h 0 8 : Nat) : Int) 14 false false)) rfl _ rfl _ Tryd.underlying3 rfl rfl ?_)
      | (refine S.ld 3 _ rfl b2 0 rfl 0 (Cel.iv (iZ 52 ((n : Nat) : Int) 0 ((fd h 0 8 : Nat) : Int) 14 false false)) rfl _ rfl _ Tryd.underlying3 rfl rfl ?_)
      | (refine S.ldAll 31 _ rfl b2 rfl 0 (Cel.iv (iZ 52 ((n : Nat) : Int) 0 ((fd h 0 8 : Nat) : Int) 14 true false)) rfl _ Tryd.underlying31 rfl (szIV _) rfl ?_))
    | ((with_reducible refine wpl_isStore ?_); first
      | (refine S.store1 rfl 3 _ _ rfl b2 5 _ rfl rfl 0 (Cel.iv (iZ 52 0 0 0 14 false false)) rfl rfl (by simp [Cel.cells, IV.cellsL]) (Cel.iv (iZ 52 ((n : Nat) : Int) 0 0 14 false false)) rfl (by kernel_rfl) ?_; clear S; intro w2 S; simp only [List.set_cons_zero, List.set_cons_succ] at S)
      | (refine S.store1 rfl 3 _ _ rfl b2 12 _ rfl rfl 0 (Cel.iv (iZ 52 ((n : Nat) : Int) 0 0 14 false false)) rfl rfl (by simp [Cel.cells, IV.cellsL]) (Cel.iv (iZ 52 ((n : Nat) : Int) 0 ((fd h 0 8 : Nat) : Int) 14 false false)) rfl (by kernel_rfl) ?_; clear S; intro w2 S; simp only [List.set_cons_zero, List.set_cons_succ] at S)
      | (refine S.store1 rfl 4 _ _ rfl b2 13 _ rfl rfl 0 (Cel.iv (iZ 52 ((n : Nat) : Int) 0 ((fd h 0 8 : Nat) : Int) 14 false false)) rfl rfl (by simp [Cel.cells, IV.cellsL]) (Cel.iv (iZ 52 ((n : Nat) : Int) 0 ((fd h 0 8 : Nat) : Int) 14 true false)) rfl (by kernel_rfl) ?_; clear S; intro w2 S; simp only [List.set_cons_zero, List.set_cons_succ] at S)
      | (refine S.storeAll rfl 31 _ _ rfl b2 (Cel.iv (iZ 52 0 0 0 14 false false)) rfl rfl 0 _ rfl rfl (one_iv _) (szIV _) ?_; clear S; intro w2 S; simp only [List.set_cons_zero, List.set_cons_succ] at S)
      | (refine S.storeAll rfl 31 _ _ rfl b1 (Cel.iv (NV.mk 52 false 14 0 (n) 0 0 false (fd h 0 8) true false).iv) rfl rfl 2 _ rfl rfl (one_iv _) (szIV _) ?_; clear S; intro w2 S; simp only [List.set_cons_zero, List.set_cons_succ] at S))
    | (go_at_call 12; with_reducible refine (CW.out _).mono ?_; rintro e wf ⟨rfl, rfl⟩)
    | (go_at_call 30; refine (plain_c _ _).mono ?_; rintro e wf ⟨rfl, hbf⟩; replace S := S.below hbf; clear hbf)
    | ((with_reducible refine wpl_is ?_); refine S.sliceA rfl 23 2 _ rfl [.int .i64 53, .int .i64 52] 3 (by kernel_rfl) ?_; clear S; intro g w1 S))
  (try simp only [Exit.inBlock, Exit.then])
  refine bodyPost_ret (S.results rfl _ _ rfl 2 _ rfl _ Tryd.underlying31 rfl (szIV _)) rfl ⟨rfl, S.low⟩
end Go.Proofs.YtbbkiiabjhgpkaaDoor
