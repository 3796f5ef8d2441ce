/- The document: rows of narrow words, walked at once. -/
import Derived.Test.YtplhblhopaheeaaGreatDoorYf
namespace Go.Proofs.YtplhblhopaheeaaGreatDoor
open Go.ChangeShapes Go.WideShapes Go.ChangeAt Go.RowKit
set_option linter.unusedVariables false
set_option linter.unusedSimpArgs false
set_option maxHeartbeats 20000000
set_option maxRecDepth 100000

theorem rrows_c (h : Nat) (hh : h < 65536) (b : Bool) (hr : h / 2048 < 22) (h8 : h / 2048 ≠ 8) (w : World) : Calls Tryz.prog 7 #[.int .u16 h, .bool b] w fun e w' => Says w (rdecN h b) e w' := by
  have CW : Hid (∀ w, Calls Tryz.prog 11 #[.int .u16 h] w fun e w' => e = .returned (.bool false) ∧ w' = w) := fun w => by
    have := riswide_c h hh w
    rwa [show Nat.blt 28 (h / 2048) = false by rw [nblt]; simp; omega] at this
  obtain ⟨k0_3, f0_3, k3_3, f3_3, k6_3, f6_3, k6_5, f6_5, k0_8, f0_8, k8_3, f8_3⟩ := keys6 h hh
  have b9 := fd01 h 9 hh ((h : Int) / 512) (by simp)
  have b10 := fd01 h 10 hh ((h : Int) / 1024) (by simp)
  have k9 := i64_fd h 9 3 hh (by decide) ((h : Int) / 512) 7 (by simp) rfl
  have e9 : fd h 9 3 = h / 512 % 8 := by simp [fd]
  have e1 : (h : Int) / 2048 = ((h / 2048 : Nat) : Int) := by omega
  have z5 := nz (fd h 6 5)
  unfold Says
  generalize hN : rdecN h b = N
  unfold rdecN at hN
  rcases (show h / 2048 = 0 ∨ h / 2048 = 1 ∨ h / 2048 = 2 ∨ h / 2048 = 3 ∨ h / 2048 = 4 ∨ h / 2048 = 5 ∨ h / 2048 = 6 ∨ h / 2048 = 7 ∨ h / 2048 = 9 ∨ h / 2048 = 10 ∨ h / 2048 = 11 ∨ h / 2048 = 12 ∨ h / 2048 = 13 ∨ h / 2048 = 14 ∨ h / 2048 = 15 ∨ h / 2048 = 16 ∨ h / 2048 = 17 ∨ h / 2048 = 18 ∨ h / 2048 = 19 ∨ h / 2048 = 20 ∨ h / 2048 = 21 by omega) with q | q | q | q | q | q | q | q | q | q | q | q | q | q | q | q | q | q | q | q | q
  iterate 3 (rcases z5 with ⟨z, tz⟩ | ⟨z, tz⟩; rotate_left 2)
  rcases b9 with ⟨z, y9⟩ | ⟨z, y9⟩
  iterate 2 (rcases b10 with ⟨y, y10⟩ | ⟨y, y10⟩; rotate_left 2)
  rotate_left 5
  rcases (show fd h 9 3 = 0 ∨ fd h 9 3 = 1 ∨ fd h 9 3 = 2 ∨ fd h 9 3 = 3 by omega) with z | z | z | z
  rotate_left 4
  rcases (show fd h 9 3 = 4 ∨ fd h 9 3 = 5 ∨ fd h 9 3 = 6 ∨ fd h 9 3 = 7 by omega) with z | z | z | z
  all_goals
    clear e9
    (try clear b9)
    (try clear b10)
    (try clear z5)
    rw [q] at e1
    (try rw [z] at k9)
    (try simp only [Int.cast_ofNat_Int] at e1 k9)
    cases b
    all_goals
      simp [nbeq, nblt, nble, pick2, memOp, q, *] at hN
      subst hN
      clear hr h8 q
      go_enter Tryz.func7, Tryz.ntmps7
      have S := SH.start w
      go_wp2_with (first
       | ((with_reducible refine g_al 28 ?_); refine S.gal zI ?_; clear S; intro b w1 S)
       | ((with_reducible refine g_st 28 ?_); refine S.gst (i := ?_) (c := ?_) rfl rfl ?_ ?_ ?_ ?_ ?_; rotate_left 2; (with_reducible first | exact gi0 | exact gi1 | exact gi2 | exact gi3 | exact gi4 | exact gi5); rfl; rfl; exact sI rfl; clear S; intro w1 S; (try simp only [Cel.cells, zL, List.set_cons_zero, List.set_cons_succ] at S))
       | ((with_reducible refine g_ld 3 ?_); (refine S.gld (i := ?_) (c := ?_) (v := ?_) Tryz.underlying3 rfl rfl rfl ?_ ?_ ?_; rotate_left 3; (with_reducible first | exact gi0 | exact gi1 | exact gi2 | exact gi3 | exact gi4 | exact gi5); exact rfl))
       | (go_at_call 11; refine (CW.out _).mono ?_; rintro e wf ⟨rfl, rfl⟩)
       | (go_at_call 32; refine (rdata_c _ _ _ _ _ _).mono ?_; rintro e wf ⟨rfl, hbf⟩; replace S := S.below hbf; clear hbf)
       | (go_at_call 33; refine (rimm_c _ _ _ _ _ _).mono ?_; rintro e wf ⟨rfl, hbf⟩; replace S := S.below hbf; clear hbf)
       | (go_at_call 31; refine (rbad_c _ _).mono ?_; rintro e wf ⟨rfl, hbf⟩; replace S := S.below hbf; clear hbf)
       | ((with_reducible refine wpl_isDst 68 ?_); refine S.gsl [.int .i64 18, .int .i64 19] 3 (by kernel_rfl) ?_; clear S; intro g w1 S)
       | ((with_reducible refine wpl_isDst 81 ?_); refine S.gsl [.int .i64 5, .int .i64 3] 3 (by kernel_rfl) ?_; clear S; intro g w1 S)
       | ((with_reducible refine wpl_isDst 118 ?_); refine S.gsl [.int .i64 5, .int .i64 3] 3 (by kernel_rfl) ?_; clear S; intro g w1 S)
       | ((with_reducible refine wpl_isDst 143 ?_); refine S.gsl [.int .i64 49, .int .i64 51, .int .i64 50, .int .i64 47, .int .i64 44, .int .i64 46, .int .i64 45, .int .i64 48] 3 (by kernel_rfl) ?_; clear S; intro g w1 S)
       | ((with_reducible refine wpl_isDst 157 ?_); refine S.gsl [.int .i64 49, .int .i64 44] 3 (by kernel_rfl) ?_; clear S; intro g w1 S)
       | ((with_reducible refine wpl_isDst 171 ?_); refine S.gsl [.int .i64 50, .int .i64 45] 3 (by kernel_rfl) ?_; clear S; intro g w1 S)
       | ((with_reducible refine wpl_isDst 184 ?_); refine S.gsl [.int .i64 51, .int .i64 46] 3 (by kernel_rfl) ?_; clear S; intro g w1 S)
       | ((with_reducible refine wpl_isDst 198 ?_); refine S.gsl [.int .i64 49, .int .i64 44] 3 (by kernel_rfl) ?_; clear S; intro g w1 S))
      (try simp only [Exit.inBlock, Exit.then])
      apply bodyPost_ret
      refine S.gR (i := ?_) (c := ?_) Tryz.underlying28 rfl rfl rfl ?_ ?_
      rotate_left 2
      (with_reducible first | exact gi0 | exact gi1 | exact gi2 | exact gi3 | exact gi4 | exact gi5)
      exact sI rfl
      rfl
      exact ⟨rfl, S.low⟩
end Go.Proofs.YtplhblhopaheeaaGreatDoor
