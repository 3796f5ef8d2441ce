/- The document: narrow words, all of them. -/
import Derived.Test.YtplhblhopaheeaaGreatDoorRgA
import Derived.Test.YtplhblhopaheeaaGreatDoorRgB
import Derived.Test.YtplhblhopaheeaaGreatDoorRgC
import Derived.Test.YtplhblhopaheeaaGreatDoorYf
import Derived.Test.YtplhblhopaheeaaGreatDoorRd0z
namespace Go.Proofs.YtplhblhopaheeaaGreatDoor
open Go.ChangeShapes Go.WideShapes Go.ChangeAt Go.RowKit
set_option linter.unusedVariables false
set_option linter.unusedSimpArgs false
set_option maxHeartbeats 20000000
set_option maxRecDepth 100000

theorem e1n (n : Nat) (h : n < 2) : (n = 1 ∧ ((n : Int) == 1) = true) ∨ (n = 0 ∧ ((n : Int) == 1) = false) := by
  rcases (show n = 1 ∨ n = 0 by omega) with q | q
  · exact .inl ⟨q, by simp [q]⟩
  · exact .inr ⟨q, by simp [q]⟩
theorem i64_bitv (x n : Nat) (hx : x < 65536) : bits .and .i64 ((x : Int) / 2 ^ n) 1 = ((fd x n 1 : Nat) : Int) := by
  have : x / 2 ^ n ≤ x := Nat.div_le_self _ _
  rw [show ((x : Int) / 2 ^ n) = ((x / 2 ^ n : Nat) : Int) by simp, show (1 : Int) = ((2 ^ 1 - 1 : Nat) : Int) from rfl, (bits_nat .i64 33 (by decide) (fun n h1 h2 => by rw [IntKind.wrap_i64]; omega) _ _ (by omega) (by decide)).1, fd_land]
theorem rjump_c (h : Nat) (hh : h < 65536) (b : Bool) (w : World) : Calls Tryz.prog 37 #[.int .i64 h, .bool b] w fun e w' => Says w (rJump h b) e w' := by
  have k8_4 := i64_fd h 8 4 hh (by decide) ((h : Int) / 256) 15 (by simp) rfl
  have f8_4 : fd h 8 4 < 16 := fd_lt h 8 4
  have u8 := u32_255 h hh
  have f08 : fd h 0 8 < 256 := fd_lt h 0 8
  obtain ⟨g1, g2, g3⟩ := sgn8 h hh
  have CS : Hid (∀ w, Calls Tryz.prog 38 #[.int .u32 (fd h 0 8 : Nat), .int .i64 8] w fun e w' => e = .returned (.int .u32 (signS ((fd h 0 8 : Nat) : Int) 8)) ∧ w' = w) := fun w => rsign_8 h hh w
  generalize signS ((fd h 0 8 : Nat) : Int) 8 = SG at g1 g2 g3 CS
  have C := fd_lt h 8 4
  unfold Says
  generalize hN : rJump h b = N
  unfold rJump at hN
  generalize fd h 8 4 = c at k8_4 f8_4 hN C
  rcases (show (c = 14 ∧ ((c : Int) == 14) = true) ∨ (c = 15 ∧ ((c : Int) == 14) = false ∧ ((c : Int) == 15) = true) ∨ (c ≠ 14 ∧ c ≠ 15 ∧ ((c : Int) == 14) = false ∧ ((c : Int) == 15) = false) by simp; omega) with ⟨q, t⟩ | ⟨q, t, t'⟩ | ⟨q, q', t, t'⟩
  rotate_left 2
  cases b
  all_goals
    simp [nbeq, nblt, nble, pick2, *] at hN
    subst hN
    (try clear q)
    (try clear q')
    clear C
    go_enter Tryz.func37, Tryz.ntmps37
    have S := SH.start w
    go_wp2_with (first
     | ((with_reducible refine g_al 28 ?_); refine S.gal zI ?_; clear S; intro b w1 S)
     | ((with_reducible refine g_st 28 ?_); refine S.gst (i := ?_) (c := ?_) rfl rfl ?_ ?_ ?_ ?_ ?_; rotate_left 2; (with_reducible first | exact gi0 | exact gi1 | exact gi2 | exact gi3 | exact gi4 | exact gi5); rfl; rfl; exact sI rfl; clear S; intro w1 S; (try simp only [Cel.cells, zL, List.set_cons_zero, List.set_cons_succ] at S))
     | ((with_reducible refine g_ld 28 ?_); (refine S.gla (i := ?_) (c := ?_) Tryz.underlying28 rfl rfl rfl ?_ ?_ ?_; rotate_left 2; (with_reducible first | exact gi0 | exact gi1 | exact gi2 | exact gi3 | exact gi4 | exact gi5); exact sI rfl))
     | ((with_reducible refine g_st 3 ?_); refine S.gs1 (i := ?_) (c := ?_) (cs := ?_) (.int _ _) s_int rfl rfl rfl ?_ ?_ ?_ ?_; rotate_left 3; (with_reducible first | exact gi0 | exact gi1 | exact gi2 | exact gi3 | exact gi4 | exact gi5); exact of_decide_eq_true rfl; exact rfl; clear S; intro w1 S; (try simp only [Cel.cells, zL, List.set_cons_zero, List.set_cons_succ] at S))
     | ((with_reducible refine g_st 26 ?_); refine S.gs1 (i := ?_) (c := ?_) (cs := ?_) (.int _ _) s_u32 rfl rfl rfl ?_ ?_ ?_ ?_; rotate_left 3; (with_reducible first | exact gi0 | exact gi1 | exact gi2 | exact gi3 | exact gi4 | exact gi5); exact of_decide_eq_true rfl; exact rfl; clear S; intro w1 S; (try simp only [Cel.cells, zL, List.set_cons_zero, List.set_cons_succ] at S))
     | (go_at_call 36; refine (plain_c _ _).mono ?_; rintro e wf ⟨rfl, hbf⟩; replace S := S.below hbf; clear hbf)
     | (go_at_call 31; refine (rbad_c _ _).mono ?_; rintro e wf ⟨rfl, hbf⟩; replace S := S.below hbf; clear hbf)
     | (go_at_call 30; refine (rundef_c _ _).mono ?_; rintro e wf ⟨rfl, hbf⟩; replace S := S.below hbf; clear hbf)
     | (go_at_call 38; refine (CS.out _).mono ?_; rintro e wf ⟨rfl, rfl⟩))
    (try simp only [Exit.inBlock, Exit.then])
    apply bodyPost_ret
    refine S.gR (i := ?_) (c := ?_) Tryz.underlying28 rfl rfl rfl ?_ ?_
    rotate_left 2
    (with_reducible first | exact gi0 | exact gi1 | exact gi2 | exact gi3 | exact gi4 | exact gi5)
    exact sI rfl
    rfl
    exact ⟨rfl, S.low⟩
theorem rrest_c (h : Nat) (hh : h < 65536) (b : Bool) (hr : h / 2048 = 8 ∨ 22 ≤ h / 2048) (w : World) : Calls Tryz.prog 7 #[.int .u16 h, .bool b] w fun e w' => Says w (rdecN h b) e w' := by
  obtain ⟨k0_3, f0_3, k3_3, f3_3, k6_3, f6_3, k6_5, f6_5, k0_8, f0_8, k8_3, f8_3⟩ := keys6 h hh
  have k0_11 := i64_fd h 0 11 hh (by decide) (h : Int) 2047 (by simp) rfl
  have f0_11 : fd h 0 11 < 2048 := fd_lt h 0 11
  obtain ⟨W, hW⟩ : ∃ W, Nat.blt 28 (h / 2048) = W := ⟨_, rfl⟩
  have CW : Hid (∀ w, Calls Tryz.prog 11 #[.int .u16 h] w fun e w' => e = .returned (.bool W) ∧ w' = w) := fun w => hW ▸ riswide_c h hh w
  rw [nblt] at hW
  have CR : Hid _ := fun w => rregister_c h hh b w
  have CM : Hid _ := fun w => rmisc_c h hh b w
  have CJ : Hid _ := fun w => rjump_c h hh b w
  obtain ⟨g1, g2, g3⟩ := sgn11 h hh
  have CS : Hid (∀ w, Calls Tryz.prog 38 #[.int .u32 (fd h 0 11 : Nat), .int .i64 11] w fun e w' => e = .returned (.int .u32 (signS ((fd h 0 11 : Nat) : Int) 11)) ∧ w' = w) := fun w => rsign_11 h hh w
  generalize signS ((fd h 0 11 : Nat) : Int) 11 = SG at g1 g2 g3 CS
  have z0 := nz (fd h 0 8)
  unfold Says
  generalize hN : rdecN h b = N
  unfold rdecN heldN at hN
  dsimp only at hN
  have hb1 := i64_bitv (fd h 0 8) (fd h 8 3) (by omega)
  have x1 := e1n (fd (fd h 0 8) (fd h 8 3) 1) (fd_lt _ _ 1)
  have e1 : (h : Int) / 2048 = ((h / 2048 : Nat) : Int) := by omega
  have n0 : (0 : Int) ≤ ((fd h 8 3 : Nat) : Int) := by omega
  generalize fd (fd h 0 8) (fd h 8 3) 1 = X at hb1 x1 hN
  generalize fd h 8 3 = n at k8_3 f8_3 hb1 hN n0
  rcases (show h / 2048 = 24 ∨ h / 2048 = 25 ∨ h / 2048 = 8 ∨ h / 2048 = 22 ∨ h / 2048 = 23 ∨ h / 2048 = 26 ∨ h / 2048 = 27 ∨ h / 2048 = 28 ∨ h / 2048 = 29 ∨ h / 2048 = 30 ∨ h / 2048 = 31 by omega) with q | q | q | q | q | q | q | q | q | q | q
  iterate 2 (rcases z0 with ⟨z, z'⟩ | ⟨z, z'⟩; rotate_left 1; rcases x1 with ⟨x, x'⟩ | ⟨x, x'⟩; rotate_left 2)
  rotate_left 9
  all_goals try (rcases x1 with ⟨x, x'⟩ | ⟨x, x'⟩)
  all_goals
    (try clear z0)
    rw [q] at e1 hW
    (try simp only [Int.cast_ofNat_Int] at e1)
    simp at hW
    subst hW
    simp [nbeq, nblt, nble, pick2, q, *] at hN
    subst hN
    clear hr q
    (try clear x)
    (try clear z)
    go_enter Tryz.func7, Tryz.ntmps7
    have S := SH.start w
    go_wp2_with (first
     | ((with_reducible refine g_al 28 ?_); refine S.gal zI ?_; clear S; intro b w1 S)
     | ((with_reducible refine g_st 28 ?_); refine S.gst (i := ?_) (c := ?_) rfl rfl ?_ ?_ ?_ ?_ ?_; rotate_left 2; (with_reducible first | exact gi0 | exact gi1 | exact gi2 | exact gi3 | exact gi4 | exact gi5); rfl; rfl; exact sI rfl; clear S; intro w1 S; (try simp only [Cel.cells, zL, List.set_cons_zero, List.set_cons_succ] at S))
     | ((with_reducible refine g_ld 28 ?_); (refine S.gla (i := ?_) (c := ?_) Tryz.underlying28 rfl rfl rfl ?_ ?_ ?_; rotate_left 2; (with_reducible first | exact gi0 | exact gi1 | exact gi2 | exact gi3 | exact gi4 | exact gi5); exact sI rfl))
     | ((with_reducible refine g_st 3 ?_); refine S.gs1 (i := ?_) (c := ?_) (cs := ?_) (.int _ _) s_int rfl rfl rfl ?_ ?_ ?_ ?_; rotate_left 3; (with_reducible first | exact gi0 | exact gi1 | exact gi2 | exact gi3 | exact gi4 | exact gi5); exact of_decide_eq_true rfl; exact rfl; clear S; intro w1 S; (try simp only [Cel.cells, zL, List.set_cons_zero, List.set_cons_succ] at S))
     | ((with_reducible refine g_st 26 ?_); refine S.gs1 (i := ?_) (c := ?_) (cs := ?_) (.int _ _) s_u32 rfl rfl rfl ?_ ?_ ?_ ?_; rotate_left 3; (with_reducible first | exact gi0 | exact gi1 | exact gi2 | exact gi3 | exact gi4 | exact gi5); exact of_decide_eq_true rfl; exact rfl; clear S; intro w1 S; (try simp only [Cel.cells, zL, List.set_cons_zero, List.set_cons_succ] at S))
     | ((with_reducible refine g_st 4 ?_); refine S.gs1 (i := ?_) (c := ?_) (cs := ?_) (.bool _) s_bool rfl rfl rfl ?_ ?_ ?_ ?_; rotate_left 3; (with_reducible first | exact gi0 | exact gi1 | exact gi2 | exact gi3 | exact gi4 | exact gi5); exact of_decide_eq_true rfl; exact rfl; clear S; intro w1 S; (try simp only [Cel.cells, zL, List.set_cons_zero, List.set_cons_succ] at S))
     | ((with_reducible refine g_ld 3 ?_); (refine S.gld (i := ?_) (c := ?_) (v := ?_) Tryz.underlying3 rfl rfl rfl ?_ ?_ ?_; rotate_left 3; (with_reducible first | exact gi0 | exact gi1 | exact gi2 | exact gi3 | exact gi4 | exact gi5); exact rfl))
     | (go_at_call 11; refine (CW.out _).mono ?_; rintro e wf ⟨rfl, rfl⟩)
     | (go_at_call 34; refine (CR.out _).mono ?_; rintro e wf ⟨rfl, hbf⟩; replace S := S.below hbf; clear hbf)
     | (go_at_call 35; refine (CM.out _).mono ?_; rintro e wf ⟨rfl, hbf⟩; replace S := S.below hbf; clear hbf)
     | (go_at_call 37; refine (CJ.out _).mono ?_; rintro e wf ⟨rfl, hbf⟩; replace S := S.below hbf; clear hbf)
     | (go_at_call 36; refine (plain_c _ _).mono ?_; rintro e wf ⟨rfl, hbf⟩; replace S := S.below hbf; clear hbf)
     | (go_at_call 31; refine (rbad_c _ _).mono ?_; rintro e wf ⟨rfl, hbf⟩; replace S := S.below hbf; clear hbf)
     | (go_at_call 30; refine (rundef_c _ _).mono ?_; rintro e wf ⟨rfl, hbf⟩; replace S := S.below hbf; clear hbf)
     | (go_at_call 38; refine (CS.out _).mono ?_; rintro e wf ⟨rfl, rfl⟩)
     | ((with_reducible refine wpl_isDst 229 ?_); refine S.gsl [.int .i64 53, .int .i64 52] 3 (by kernel_rfl) ?_; clear S; intro g w1 S)
     | ((with_reducible refine wpl_isDst 276 ?_); refine wpl_dst 276 rfl (.int .u32 ((farN h 11 : Nat) : Int)) (by go_simp; rw [IntKind.wrap_u32]; exact g1) rfl ?_))
    (try simp only [Exit.inBlock, Exit.then])
    apply bodyPost_ret
    refine S.gR (i := ?_) (c := ?_) Tryz.underlying28 rfl rfl rfl ?_ ?_
    rotate_left 2
    (with_reducible first | exact gi0 | exact gi1 | exact gi2 | exact gi3 | exact gi4 | exact gi5)
    exact sI rfl
    rfl
    exact ⟨rfl, S.low⟩
theorem rdecode_c (h : Nat) (hh : h < 65536) (b : Bool) (w : World) : Calls Tryz.prog 7 #[.int .u16 h, .bool b] w fun e w' => Says w (decN h b) e w' := by
  have : Calls Tryz.prog 7 #[.int .u16 h, .bool b] w fun e w' => Says w (rdecN h b) e w' := by
    by_cases q : h / 2048 = 8 ∨ 22 ≤ h / 2048
    · exact rrest_c h hh b q w
    · exact rrows_c h hh b (by omega) (by omega) w
  cases b
  · rwa [rdec_false h hh] at this
  · rwa [rdec_true h hh] at this
end Go.Proofs.YtplhblhopaheeaaGreatDoor
