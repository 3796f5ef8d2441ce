/- The document: words on registers, walked at once. -/
import Derived.Test.YtplhblhopaheeaaGreatDoorYf
namespace Go.Proofs.YtplhblhopaheeaaGreatDoor
open Go.ChangeShapes Go.WideShapes Go.ChangeAt Go.RowKit
set_option linter.unusedVariables false
set_option linter.unusedSimpArgs false
set_option maxHeartbeats 20000000
set_option maxRecDepth 100000

theorem rregister_c (h : Nat) (hh : h < 65536) (b : Bool) (w : World) : Calls Tryz.prog 34 #[.int .i64 h, .bool b] w fun e w' => Says w (rRegister h b) e w' := by
  have k0_3 := i64_fd h 0 3 hh (by decide) (h : Int) 7 (by simp) rfl
  have f0_3 : fd h 0 3 < 8 := fd_lt h 0 3
  have k3_3 := i64_fd h 3 3 hh (by decide) ((h : Int) / 8) 7 (by simp) rfl
  have f3_3 : fd h 3 3 < 8 := fd_lt h 3 3
  have k3_4 := i64_fd h 3 4 hh (by decide) ((h : Int) / 8) 15 (by simp) rfl
  have f3_4 : fd h 3 4 < 16 := fd_lt h 3 4
  have k6_4 := i64_fd h 6 4 hh (by decide) ((h : Int) / 64) 15 (by simp) rfl
  have f6_4 : fd h 6 4 < 16 := fd_lt h 6 4
  have k8_2 := i64_fd h 8 2 hh (by decide) ((h : Int) / 256) 3 (by simp) rfl
  have f8_2 : fd h 8 2 < 4 := fd_lt h 8 2
  have b10 := fd01 h 10 hh ((h : Int) / 1024) (by simp)
  have b7 := fd01 h 7 hh ((h : Int) / 128) (by simp)
  have hd16 : highD h < 16 := by unfold highD; have := fd_lt h 7 1; omega
  have e8 := eight_bits h hh
  have eR := highR_bits h
  generalize fd h 7 1 * 8 = E8 at e8 eR
  have eD := e15 (highD h)
  have eM := e15 (fd h 3 4)
  have lD := l8 (highD h)
  have lM := l8 (fd h 3 4)
  have e0 := nzn (fd h 0 3)
  unfold Says
  generalize hN : rRegister h b = N
  unfold rRegister at hN
  rcases b10 with ⟨y, y10⟩ | ⟨y, y10⟩
  rcases (show fd h 6 4 = 0 ∨ fd h 6 4 = 1 ∨ fd h 6 4 = 2 ∨ fd h 6 4 = 3 ∨ fd h 6 4 = 4 ∨ fd h 6 4 = 5 ∨ fd h 6 4 = 6 ∨ fd h 6 4 = 7 ∨ fd h 6 4 = 8 ∨ fd h 6 4 = 9 ∨ fd h 6 4 = 10 ∨ fd h 6 4 = 11 ∨ fd h 6 4 = 12 ∨ fd h 6 4 = 13 ∨ fd h 6 4 = 14 ∨ fd h 6 4 = 15 by omega) with z | z | z | z | z | z | z | z | z | z | z | z | z | z | z | z
  rotate_left 16
  rcases (show fd h 8 2 = 0 ∨ fd h 8 2 = 2 ∨ fd h 8 2 = 1 ∨ fd h 8 2 = 3 by omega) with p | p | p | p
  iterate 2 (rcases eD with ⟨d, d'⟩ | ⟨d, d'⟩; rotate_left 1; rcases eM with ⟨m, m'⟩ | ⟨m, m'⟩; rotate_left 2)
  rcases eD with ⟨d, d'⟩ | ⟨d, d'⟩
  rotate_left 1
  rcases eM with ⟨m, m'⟩ | ⟨m, m'⟩
  rotate_left 1
  rcases lD with ⟨x, x'⟩ | ⟨x, x'⟩
  rcases lM with ⟨v, v'⟩ | ⟨v, v'⟩
  rotate_left 3
  rcases e0 with ⟨x, x'⟩ | ⟨x, x'⟩
  rcases eM with ⟨m, m'⟩ | ⟨m, m'⟩
  rotate_left 1
  rcases b7 with ⟨v, v'⟩ | ⟨v, v'⟩
  all_goals
    (try clear eD)
    (try clear eM)
    (try clear lD)
    (try clear lM)
    (try clear e0)
    (try clear b7)
    (try rw [z] at k6_4)
    (try rw [p] at k8_2)
    (try simp only [Int.cast_ofNat_Int] at k6_4 k8_2)
    simp [nbeq, nblt, nble, pick2, lowOp, *] at hN
    subst hN
    (try clear m)
    (try clear d)
    (try clear x)
    (try clear v)
    go_enter Tryz.func34, Tryz.ntmps34
    have S := SH.start w
    go_wp2_with (first
     | ((with_reducible refine g_al 28 ?_); refine S.gal zI ?_; clear S; intro b w1 S)
     | ((with_reducible refine g_st 28 ?_); refine S.gst (i := ?_) (c := ?_) rfl rfl ?_ ?_ ?_ ?_ ?_; rotate_left 2; (with_reducible first | exact gi0 | exact gi1 | exact gi2 | exact gi3 | exact gi4 | exact gi5); rfl; rfl; exact sI rfl; clear S; intro w1 S; (try simp only [Cel.cells, zL, List.set_cons_zero, List.set_cons_succ] at S))
     | ((with_reducible refine g_ld 3 ?_); (refine S.gld (i := ?_) (c := ?_) (v := ?_) Tryz.underlying3 rfl rfl rfl ?_ ?_ ?_; rotate_left 3; (with_reducible first | exact gi0 | exact gi1 | exact gi2 | exact gi3 | exact gi4 | exact gi5); exact rfl))
     | (go_at_call 32; refine (rdata_c _ _ _ _ _ _).mono ?_; rintro e wf ⟨rfl, hbf⟩; replace S := S.below hbf; clear hbf)
     | (go_at_call 33; refine (rimm_c _ _ _ _ _ _).mono ?_; rintro e wf ⟨rfl, hbf⟩; replace S := S.below hbf; clear hbf)
     | (go_at_call 31; refine (rbad_c _ _).mono ?_; rintro e wf ⟨rfl, hbf⟩; replace S := S.below hbf; clear hbf)
     | ((with_reducible refine wpl_isDst 17 ?_); refine S.gsl [.int .i64 1, .int .i64 2, .int .i64 17, .int .i64 18, .int .i64 19, .int .i64 6, .int .i64 7, .int .i64 20, .int .i64 8, .int .i64 4, .int .i64 10, .int .i64 11, .int .i64 12, .int .i64 21, .int .i64 14, .int .i64 15] 3 (by kernel_rfl) ?_; clear S; intro g w1 S)
     | ((with_reducible refine wpl_isDst 137 ?_); refine S.gsl [.int .i64 56, .int .i64 57] 3 (by kernel_rfl) ?_; clear S; intro g w1 S))
    (try simp only [Exit.inBlock, Exit.then])
    apply bodyPost_ret
    refine S.gR (i := ?_) (c := ?_) Tryz.underlying28 rfl rfl rfl ?_ ?_
    rotate_left 2
    (with_reducible first | exact gi0 | exact gi1 | exact gi2 | exact gi3 | exact gi4 | exact gi5)
    exact sI rfl
    rfl
    exact ⟨rfl, S.low⟩
end Go.Proofs.YtplhblhopaheeaaGreatDoor
