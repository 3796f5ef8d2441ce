/- The document: the words of class 1011, walked at once. -/
import Derived.Test.YtplhblhopaheeaaGreatDoorYf
import Derived.Test.YtplhblhopaheeaaGreatDoorYg
namespace Go.Proofs.YtplhblhopaheeaaGreatDoor
open Go.ChangeShapes Go.WideShapes Go.ChangeAt Go.RowKit
set_option linter.unusedVariables false
set_option linter.unusedSimpArgs false
set_option maxHeartbeats 20000000
set_option maxRecDepth 100000

theorem rmisc_c (h : Nat) (hh : h < 65536) (b : Bool) (w : World) : Calls Tryz.prog 35 #[.int .i64 h, .bool b] w fun e w' => Says w (rMisc h b) e w' := by
  have k0_3 := i64_fd h 0 3 hh (by decide) (h : Int) 7 (by simp) rfl
  have f0_3 : fd h 0 3 < 8 := fd_lt h 0 3
  have k3_3 := i64_fd h 3 3 hh (by decide) ((h : Int) / 8) 7 (by simp) rfl
  have f3_3 : fd h 3 3 < 8 := fd_lt h 3 3
  have k0_8 := i64_fd h 0 8 hh (by decide) (h : Int) 255 (by simp) rfl
  have f0_8 : fd h 0 8 < 256 := fd_lt h 0 8
  have k8_1 := i64_fd h 8 1 hh (by decide) ((h : Int) / 256) 1 (by simp) rfl
  have f8_1 : fd h 8 1 < 2 := fd_lt h 8 1
  have k0_4 := i64_fd h 0 4 hh (by decide) (h : Int) 15 (by simp) rfl
  have f0_4 : fd h 0 4 < 16 := fd_lt h 0 4
  have k4_4 := i64_fd h 4 4 hh (by decide) ((h : Int) / 16) 15 (by simp) rfl
  have f4_4 : fd h 4 4 < 16 := fd_lt h 4 4
  have k8_4 := i64_fd h 8 4 hh (by decide) ((h : Int) / 256) 15 (by simp) rfl
  have f8_4 : fd h 8 4 < 16 := fd_lt h 8 4
  have k6_2 := i64_fd h 6 2 hh (by decide) ((h : Int) / 64) 3 (by simp) rfl
  have f6_2 : fd h 6 2 < 4 := fd_lt h 6 2
  have k11_1 := i64_fd h 11 1 hh (by decide) ((h : Int) / 2048) 1 (by simp) rfl
  have f11_1 : fd h 11 1 < 2 := fd_lt h 11 1
  have u0_7 := u32_fd h 0 7 hh (by decide) (h : Int) 127 (by simp) rfl
  have g0_7 : fd h 0 7 < 128 := fd_lt h 0 7
  have u3_5 := u32_fd h 3 5 hh (by decide) ((h : Int) / 8) 31 (by simp) rfl
  have g3_5 : fd h 3 5 < 32 := fd_lt h 3 5
  have u9_1 := u32_fd h 9 1 hh (by decide) ((h : Int) / 512) 1 (by simp) rfl
  have g9_1 : fd h 9 1 < 2 := fd_lt h 9 1
  have u0_8 := u32_fd h 0 8 hh (by decide) (h : Int) 255 (by simp) rfl
  have g0_8 : fd h 0 8 < 256 := fd_lt h 0 8
  have u4_4 := u32_fd h 4 4 hh (by decide) ((h : Int) / 16) 15 (by simp) rfl
  have g4_4 : fd h 4 4 < 16 := fd_lt h 4 4
  have b7 := fd01 h 7 hh ((h : Int) / 128) (by simp)
  have q11 : fd h 11 1 = fd h 8 4 / 8 := by unfold fd; omega
  obtain ⟨JO, hjo, jb, jo⟩ := cbj h
  obtain ⟨LL, hLL⟩ : ∃ LL, fd h 0 8 + fd h 8 1 * pick2 16384 32768 (fd h 11 1) = LL := ⟨_, rfl⟩
  have l14 := list14 h
  have l15 := list15 h
  have eL := nz LL
  have e4 := nzn (fd h 0 4)
  have CI : Hid (fd h 0 4 ≠ 0 → ∀ w, Calls Tryz.prog 68 #[.int .i64 (fd h 4 4 : Nat), .int .i64 (fd h 0 4 : Nat)] w fun e w' => (∃ v, e = .returned (.tuple #[v, .bool (itOk (fd h 4 4) (fd h 0 4))])) ∧ Below w.heap.size w w') := fun q w => rit_c (fd h 4 4) (fd h 0 4) (by omega) (by omega) (by omega) w
  unfold Says
  generalize hN : rMisc h b = N
  unfold rMisc at hN
  dsimp only at hN
  rw [hLL, hjo] at hN
  generalize itOk (fd h 4 4) (fd h 0 4) = ok at CI hN
  clear hjo
  rcases (show fd h 8 4 = 0 ∨ fd h 8 4 = 1 ∨ fd h 8 4 = 3 ∨ fd h 8 4 = 9 ∨ fd h 8 4 = 11 ∨ fd h 8 4 = 2 ∨ fd h 8 4 = 10 ∨ fd h 8 4 = 4 ∨ fd h 8 4 = 5 ∨ fd h 8 4 = 12 ∨ fd h 8 4 = 13 ∨ fd h 8 4 = 6 ∨ fd h 8 4 = 7 ∨ fd h 8 4 = 8 ∨ fd h 8 4 = 14 ∨ fd h 8 4 = 15 by omega) with q | q | q | q | q | q | q | q | q | q | q | q | q | q | q | q
  rcases b7 with ⟨y, y'⟩ | ⟨y, y'⟩
  rotate_left 2
  iterate 4 (cases b; rotate_left 2)
  iterate 2 (rcases (show fd h 6 2 = 0 ∨ fd h 6 2 = 1 ∨ fd h 6 2 = 2 ∨ fd h 6 2 = 3 by omega) with z | z | z | z; rotate_left 4)
  iterate 4 (rcases eL with ⟨x, x'⟩ | ⟨x, x'⟩; rotate_left 2)
  rotate_left 4
  rcases e4 with ⟨v, v'⟩ | ⟨v, v'⟩
  rotate_left 1
  replace CI : Hid _ := CI.out v
  cases ok
  rotate_left 1
  cases b
  all_goals
    (try clear b7)
    (try clear eL)
    (try clear e4)
    rw [q] at k8_4 q11
    simp only [Nat.reduceDiv] at q11
    rw [q11] at k11_1 hLL
    (try rw [z] at k6_2)
    (try simp only [Int.cast_ofNat_Int] at k8_4 k11_1 k6_2)
    simp only [pick2, nbeq, decide_true, decide_false, cond_true, cond_false, reduceCtorEq, Nat.reduceEqDiff] at hLL
    (try rw [hLL] at l14)
    (try rw [hLL] at l15)
    clear hLL
    simp [nbeq, nblt, nble, pick2, extOp, revOp, q, *] at hN
    subst hN
    (try clear v)
    (try clear x)
    go_enter Tryz.func35, Tryz.ntmps35
    have S := SH.start w
    go_wp2_with (first
     | ((with_reducible refine g_al 28 ?_); refine S.gal zI ?_; clear S; intro b w1 S)
     | ((with_reducible refine g_st 28 ?_); refine S.gst (i := ?_) (c := ?_) rfl rfl ?_ ?_ ?_ ?_ ?_; rotate_left 2; (with_reducible first | exact gi0 | exact gi1 | exact gi2 | exact gi3 | exact gi4 | exact gi5); rfl; rfl; exact sI rfl; clear S; intro w1 S; (try simp only [Cel.cells, zL, List.set_cons_zero, List.set_cons_succ] at S))
     | ((with_reducible refine g_ld 28 ?_); (refine S.gla (i := ?_) (c := ?_) Tryz.underlying28 rfl rfl rfl ?_ ?_ ?_; rotate_left 2; (with_reducible first | exact gi0 | exact gi1 | exact gi2 | exact gi3 | exact gi4 | exact gi5); exact sI rfl))
     | ((with_reducible refine g_st 3 ?_); refine S.gs1 (i := ?_) (c := ?_) (cs := ?_) (.int _ _) s_int rfl rfl rfl ?_ ?_ ?_ ?_; rotate_left 3; (with_reducible first | exact gi0 | exact gi1 | exact gi2 | exact gi3 | exact gi4 | exact gi5); exact of_decide_eq_true rfl; exact rfl; clear S; intro w1 S; (try simp only [Cel.cells, zL, List.set_cons_zero, List.set_cons_succ] at S))
     | ((with_reducible refine g_st 26 ?_); refine S.gs1 (i := ?_) (c := ?_) (cs := ?_) (.int _ _) s_u32 rfl rfl rfl ?_ ?_ ?_ ?_; rotate_left 3; (with_reducible first | exact gi0 | exact gi1 | exact gi2 | exact gi3 | exact gi4 | exact gi5); exact of_decide_eq_true rfl; exact rfl; clear S; intro w1 S; (try simp only [Cel.cells, zL, List.set_cons_zero, List.set_cons_succ] at S))
     | ((with_reducible refine g_st 4 ?_); refine S.gs1 (i := ?_) (c := ?_) (cs := ?_) (.bool _) s_bool rfl rfl rfl ?_ ?_ ?_ ?_; rotate_left 3; (with_reducible first | exact gi0 | exact gi1 | exact gi2 | exact gi3 | exact gi4 | exact gi5); exact of_decide_eq_true rfl; exact rfl; clear S; intro w1 S; (try simp only [Cel.cells, zL, List.set_cons_zero, List.set_cons_succ] at S))
     | ((with_reducible refine g_ld 3 ?_); (refine S.gld (i := ?_) (c := ?_) (v := ?_) Tryz.underlying3 rfl rfl rfl ?_ ?_ ?_; rotate_left 3; (with_reducible first | exact gi0 | exact gi1 | exact gi2 | exact gi3 | exact gi4 | exact gi5); exact rfl))
     | (go_at_call 32; refine (rdata_c _ _ _ _ _ _).mono ?_; rintro e wf ⟨rfl, hbf⟩; replace S := S.below hbf; clear hbf)
     | (go_at_call 33; refine (rimm_c _ _ _ _ _ _).mono ?_; rintro e wf ⟨rfl, hbf⟩; replace S := S.below hbf; clear hbf)
     | (go_at_call 31; refine (rbad_c _ _).mono ?_; rintro e wf ⟨rfl, hbf⟩; replace S := S.below hbf; clear hbf)
     | (go_at_call 30; refine (rundef_c _ _).mono ?_; rintro e wf ⟨rfl, hbf⟩; replace S := S.below hbf; clear hbf)
     | (go_at_call 36; refine (plain_c _ _).mono ?_; rintro e wf ⟨rfl, hbf⟩; replace S := S.below hbf; clear hbf)
     | (go_at_call 68; refine (CI.out _).mono ?_; rintro e wf ⟨⟨vv, rfl⟩, hbf⟩; replace S := S.below hbf; clear hbf)
     | ((with_reducible refine wpl_isDst 26 ?_); refine S.gsl [.int .i64 5, .int .i64 3] 3 (by kernel_rfl) ?_; clear S; intro g w1 S)
     | ((with_reducible refine wpl_isDst 41 ?_); refine S.gsl [.int .i64 58, .int .i64 59] 3 (by kernel_rfl) ?_; clear S; intro g w1 S)
     | ((with_reducible refine wpl_isDst 66 ?_); refine S.gsl [.int .i64 40, .int .i64 39, .int .i64 42, .int .i64 41] 3 (by kernel_rfl) ?_; clear S; intro g w1 S)
     | ((with_reducible refine wpl_isDst 80 ?_); refine S.gsl [.int .i64 53, .int .i64 52] 3 (by kernel_rfl) ?_; clear S; intro g w1 S)
     | ((with_reducible refine wpl_isDst 98 ?_); refine S.gsl [.int .i64 14, .int .i64 15] 3 (by kernel_rfl) ?_; clear S; intro g w1 S)
     | ((with_reducible refine wpl_isDst 121 ?_); refine S.gsl [.int .i64 36, .int .i64 37, .int .i64 0, .int .i64 38] 3 (by kernel_rfl) ?_; clear S; intro g w1 S))
    (try simp only [Exit.inBlock, Exit.then])
    apply bodyPost_ret
    refine S.gR (i := ?_) (c := ?_) Tryz.underlying28 rfl rfl rfl ?_ ?_
    rotate_left 2
    (with_reducible first | exact gi0 | exact gi1 | exact gi2 | exact gi3 | exact gi4 | exact gi5)
    exact sI rfl
    rfl
    exact ⟨rfl, S.low⟩
end Go.Proofs.YtplhblhopaheeaaGreatDoor
