/- Stage 8: rows of narrow words, the program's, walked. -/
import Derived.Test.YtblcklknlfofgaaDoorTh2b
namespace Go.Proofs.YtblcklknlfofgaaDoor
open Go.ChangeShapes Go.WideShapes Go.ChangeAt Go.RowKit
set_option linter.unusedVariables false
set_option linter.unusedSimpArgs false

set_option maxHeartbeats 4000000 in
set_option maxRecDepth 100000 in
theorem shifted_c (h : Nat) (hh : h < 65536) (hr : h / 2048 < 3) (w : World) : Calls Tryd.prog 30 #[.int .u16 h] w fun e w' => Says w (shiftedN h) e w' := by
  have rb := row_bits h hh
  have f_6_5 : fd h 6 5 < 32 := fd_lt h 6 5
  have f_3_3 : fd h 3 3 < 8 := fd_lt h 3 3
  have f_0_3 : fd h 0 3 < 8 := fd_lt h 0 3
  rcases (show (h / 2048 = 0 ∧ fd h 6 5 = 0) ∨ (h / 2048 = 0 ∧ fd h 6 5 ≠ 0) ∨ (h / 2048 = 1 ∧ fd h 6 5 = 0) ∨ (h / 2048 = 1 ∧ fd h 6 5 ≠ 0) ∨ (h / 2048 = 2 ∧ fd h 6 5 = 0) ∨ (h / 2048 = 2 ∧ fd h 6 5 ≠ 0) by omega) with ⟨q1, q2⟩ | ⟨q1, q2⟩ | ⟨q1, q2⟩ | ⟨q1, q2⟩ | ⟨q1, q2⟩ | ⟨q1, q2⟩
  · rw [q1] at rb
    have rb2 : bits .and .u16 (h : Int) 63488 = 0 := rb
    clear rb
    have hN : shiftedN h = (nReg 13 (fd h 0 3) 0 (fd h 3 3) true) := by
      unfold shiftedN
      simp [nbeq, nblt, nble, *]
    unfold Says
    rw [hN]
    clear hN
    go_enter Tryd.func30, Tryd.ntmps30
    have S := SH.start w
    go_wp2_with (first
      | (go_at_call 36; (first | with_reducible refine (field_6_5 h hh _).mono ?_ | with_reducible refine (field_3_3 h hh _).mono ?_ | with_reducible refine (field_0_3 h hh _).mono ?_); rintro e wf ⟨rfl, hbf⟩; replace S := S.below hbf; clear hbf)
      | (go_at_call 35; refine (reg_c _ _ _ _ _ _).mono ?_; rintro e wf ⟨rfl, hbf⟩; replace S := S.below hbf; clear hbf)
      | ((with_reducible refine wpl_is ?_); first
        | (refine S.alloc rfl 29 rfl (Cel.iv IV.zero) zeroIV ?_; clear S; intro b1 w1 S)
        | (refine S.storeAll rfl 29 _ _ rfl _ (Cel.iv (nReg 13 (fd h 0 3) 0 (fd h 3 3) true).iv) rfl rfl 0 _ rfl rfl (one_iv _) (szIV _) ?_; clear S; intro w2 S; simp only [List.set_cons_zero] at S)))
    (try simp only [Exit.inBlock, Exit.then])
    refine bodyPost_ret (S.results rfl _ _ rfl 0 _ rfl _ Tryd.underlying29 rfl (szIV _)) rfl ⟨rfl, S.low⟩
  · rw [q1] at rb
    have rb2 : bits .and .u16 (h : Int) 63488 = 0 := rb
    clear rb
    have hN : shiftedN h = (nImm 17 (fd h 0 3) (fd h 3 3) (fd h 6 5) true) := by
      unfold shiftedN
      simp [nbeq, nblt, nble, *]
    unfold Says
    rw [hN]
    clear hN
    go_enter Tryd.func30, Tryd.ntmps30
    have S := SH.start w
    go_wp2_with (first
      | (go_at_call 36; (first | with_reducible refine (field_6_5 h hh _).mono ?_ | with_reducible refine (field_3_3 h hh _).mono ?_ | with_reducible refine (field_0_3 h hh _).mono ?_); rintro e wf ⟨rfl, hbf⟩; replace S := S.below hbf; clear hbf)
      | (go_at_call 54; refine (imm_c _ _ _ _ _ (by omega) (by omega) _).mono ?_; rintro e wf ⟨rfl, hbf⟩; replace S := S.below hbf; clear hbf)
      | ((with_reducible refine wpl_is ?_); first
        | (refine S.alloc rfl 29 rfl (Cel.iv IV.zero) zeroIV ?_; clear S; intro b1 w1 S)
        | (refine S.storeAll rfl 29 _ _ rfl _ (Cel.iv (nImm 17 (fd h 0 3) (fd h 3 3) (fd h 6 5) true).iv) rfl rfl 0 _ rfl rfl (one_iv _) (szIV _) ?_; clear S; intro w2 S; simp only [List.set_cons_zero] at S)))
    (try simp only [Exit.inBlock, Exit.then])
    refine bodyPost_ret (S.results rfl _ _ rfl 0 _ rfl _ Tryd.underlying29 rfl (szIV _)) rfl ⟨rfl, S.low⟩
  · rw [q1] at rb
    have rb2 : bits .and .u16 (h : Int) 63488 = 2048 := rb
    clear rb
    have hN : shiftedN h = (nImm 18 (fd h 0 3) (fd h 3 3) 32 true) := by
      unfold shiftedN
      simp [nbeq, nblt, nble, *]
    unfold Says
    rw [hN]
    clear hN
    go_enter Tryd.func30, Tryd.ntmps30
    have S := SH.start w
    go_wp2_with (first
      | (go_at_call 36; (first | with_reducible refine (field_6_5 h hh _).mono ?_ | with_reducible refine (field_3_3 h hh _).mono ?_ | with_reducible refine (field_0_3 h hh _).mono ?_); rintro e wf ⟨rfl, hbf⟩; replace S := S.below hbf; clear hbf)
      | (go_at_call 54; refine (imm_c _ _ _ _ _ (by omega) (by omega) _).mono ?_; rintro e wf ⟨rfl, hbf⟩; replace S := S.below hbf; clear hbf)
      | ((with_reducible refine wpl_is ?_); first
        | (refine S.alloc rfl 29 rfl (Cel.iv IV.zero) zeroIV ?_; clear S; intro b1 w1 S)
        | (refine S.storeAll rfl 29 _ _ rfl _ (Cel.iv (nImm 18 (fd h 0 3) (fd h 3 3) 32 true).iv) rfl rfl 0 _ rfl rfl (one_iv _) (szIV _) ?_; clear S; intro w2 S; simp only [List.set_cons_zero] at S)))
    (try simp only [Exit.inBlock, Exit.then])
    refine bodyPost_ret (S.results rfl _ _ rfl 0 _ rfl _ Tryd.underlying29 rfl (szIV _)) rfl ⟨rfl, S.low⟩
  · rw [q1] at rb
    have rb2 : bits .and .u16 (h : Int) 63488 = 2048 := rb
    clear rb
    have hN : shiftedN h = (nImm 18 (fd h 0 3) (fd h 3 3) (fd h 6 5) true) := by
      unfold shiftedN
      simp [nbeq, nblt, nble, *]
    unfold Says
    rw [hN]
    clear hN
    go_enter Tryd.func30, Tryd.ntmps30
    have S := SH.start w
    go_wp2_with (first
      | (go_at_call 36; (first | with_reducible refine (field_6_5 h hh _).mono ?_ | with_reducible refine (field_3_3 h hh _).mono ?_ | with_reducible refine (field_0_3 h hh _).mono ?_); rintro e wf ⟨rfl, hbf⟩; replace S := S.below hbf; clear hbf)
      | (go_at_call 54; refine (imm_c _ _ _ _ _ (by omega) (by omega) _).mono ?_; rintro e wf ⟨rfl, hbf⟩; replace S := S.below hbf; clear hbf)
      | ((with_reducible refine wpl_is ?_); first
        | (refine S.alloc rfl 29 rfl (Cel.iv IV.zero) zeroIV ?_; clear S; intro b1 w1 S)
        | (refine S.storeAll rfl 29 _ _ rfl _ (Cel.iv (nImm 18 (fd h 0 3) (fd h 3 3) (fd h 6 5) true).iv) rfl rfl 0 _ rfl rfl (one_iv _) (szIV _) ?_; clear S; intro w2 S; simp only [List.set_cons_zero] at S)))
    (try simp only [Exit.inBlock, Exit.then])
    refine bodyPost_ret (S.results rfl _ _ rfl 0 _ rfl _ Tryd.underlying29 rfl (szIV _)) rfl ⟨rfl, S.low⟩
  · rw [q1] at rb
    have rb2 : bits .and .u16 (h : Int) 63488 = 4096 := rb
    clear rb
    have hN : shiftedN h = (nImm 19 (fd h 0 3) (fd h 3 3) 32 true) := by
      unfold shiftedN
      simp [nbeq, nblt, nble, *]
    unfold Says
    rw [hN]
    clear hN
    go_enter Tryd.func30, Tryd.ntmps30
    have S := SH.start w
    go_wp2_with (first
      | (go_at_call 36; (first | with_reducible refine (field_6_5 h hh _).mono ?_ | with_reducible refine (field_3_3 h hh _).mono ?_ | with_reducible refine (field_0_3 h hh _).mono ?_); rintro e wf ⟨rfl, hbf⟩; replace S := S.below hbf; clear hbf)
      | (go_at_call 54; refine (imm_c _ _ _ _ _ (by omega) (by omega) _).mono ?_; rintro e wf ⟨rfl, hbf⟩; replace S := S.below hbf; clear hbf)
      | ((with_reducible refine wpl_is ?_); first
        | (refine S.alloc rfl 29 rfl (Cel.iv IV.zero) zeroIV ?_; clear S; intro b1 w1 S)
        | (refine S.storeAll rfl 29 _ _ rfl _ (Cel.iv (nImm 19 (fd h 0 3) (fd h 3 3) 32 true).iv) rfl rfl 0 _ rfl rfl (one_iv _) (szIV _) ?_; clear S; intro w2 S; simp only [List.set_cons_zero] at S)))
    (try simp only [Exit.inBlock, Exit.then])
    refine bodyPost_ret (S.results rfl _ _ rfl 0 _ rfl _ Tryd.underlying29 rfl (szIV _)) rfl ⟨rfl, S.low⟩
  · rw [q1] at rb
    have rb2 : bits .and .u16 (h : Int) 63488 = 4096 := rb
    clear rb
    have hN : shiftedN h = (nImm 19 (fd h 0 3) (fd h 3 3) (fd h 6 5) true) := by
      unfold shiftedN
      simp [nbeq, nblt, nble, *]
    unfold Says
    rw [hN]
    clear hN
    go_enter Tryd.func30, Tryd.ntmps30
    have S := SH.start w
    go_wp2_with (first
      | (go_at_call 36; (first | with_reducible refine (field_6_5 h hh _).mono ?_ | with_reducible refine (field_3_3 h hh _).mono ?_ | with_reducible refine (field_0_3 h hh _).mono ?_); rintro e wf ⟨rfl, hbf⟩; replace S := S.below hbf; clear hbf)
      | (go_at_call 54; refine (imm_c _ _ _ _ _ (by omega) (by omega) _).mono ?_; rintro e wf ⟨rfl, hbf⟩; replace S := S.below hbf; clear hbf)
      | ((with_reducible refine wpl_is ?_); first
        | (refine S.alloc rfl 29 rfl (Cel.iv IV.zero) zeroIV ?_; clear S; intro b1 w1 S)
        | (refine S.storeAll rfl 29 _ _ rfl _ (Cel.iv (nImm 19 (fd h 0 3) (fd h 3 3) (fd h 6 5) true).iv) rfl rfl 0 _ rfl rfl (one_iv _) (szIV _) ?_; clear S; intro w2 S; simp only [List.set_cons_zero] at S)))
    (try simp only [Exit.inBlock, Exit.then])
    refine bodyPost_ret (S.results rfl _ _ rfl 0 _ rfl _ Tryd.underlying29 rfl (szIV _)) rfl ⟨rfl, S.low⟩
set_option maxHeartbeats 4000000 in
set_option maxRecDepth 100000 in
theorem sum_c (h : Nat) (hh : h < 65536) (w : World) : Calls Tryd.prog 31 #[.int .u16 h] w fun e w' => Says w (sumN h) e w' := by
  have bb9 := bit9_bits h hh
  have bb10 := bit10_bits h hh
  have f_6_3 : fd h 6 3 < 8 := fd_lt h 6 3
  have f_3_3 : fd h 3 3 < 8 := fd_lt h 3 3
  have f_0_3 : fd h 0 3 < 8 := fd_lt h 0 3
  have g9 : fd h 9 1 < 2 := fd_lt h 9 1
  have g10 : fd h 10 1 < 2 := fd_lt h 10 1
  rcases (show (fd h 10 1 = 0 ∧ fd h 9 1 = 0) ∨ (fd h 10 1 = 0 ∧ fd h 9 1 = 1) ∨ (fd h 10 1 = 1 ∧ fd h 9 1 = 0) ∨ (fd h 10 1 = 1 ∧ fd h 9 1 = 1) by omega) with ⟨q1, q2⟩ | ⟨q1, q2⟩ | ⟨q1, q2⟩ | ⟨q1, q2⟩
  · rw [q1] at bb10
    have bc10 : bits .and .u16 (h : Int) 1024 = 0 := bb10
    clear bb10
    rw [q2] at bb9
    have bc9 : bits .and .u16 (h : Int) 512 = 0 := bb9
    clear bb9
    have hN : sumN h = (nReg 5 (fd h 0 3) (fd h 3 3) (fd h 6 3) true) := by
      unfold sumN
      simp [nbeq, nblt, nble, *]
    unfold Says
    rw [hN]
    clear hN
    go_enter Tryd.func31, Tryd.ntmps31
    have S := SH.start w
    go_wp2_with (first
      | (go_at_call 36; (first | with_reducible refine (field_6_3 h hh _).mono ?_ | with_reducible refine (field_3_3 h hh _).mono ?_ | with_reducible refine (field_0_3 h hh _).mono ?_); rintro e wf ⟨rfl, hbf⟩; replace S := S.below hbf; clear hbf)
      | (go_at_call 35; refine (reg_c _ _ _ _ _ _).mono ?_; rintro e wf ⟨rfl, hbf⟩; replace S := S.below hbf; clear hbf)
      | ((with_reducible refine wpl_is ?_); first
        | (refine S.alloc rfl 29 rfl (Cel.iv IV.zero) zeroIV ?_; clear S; intro b1 w1 S)
        | (refine S.storeAll rfl 29 _ _ rfl _ (Cel.iv (nReg 5 (fd h 0 3) (fd h 3 3) (fd h 6 3) true).iv) rfl rfl 0 _ rfl rfl (one_iv _) (szIV _) ?_; clear S; intro w2 S; simp only [List.set_cons_zero] at S)))
    (try simp only [Exit.inBlock, Exit.then])
    refine bodyPost_ret (S.results rfl _ _ rfl 0 _ rfl _ Tryd.underlying29 rfl (szIV _)) rfl ⟨rfl, S.low⟩
  · rw [q1] at bb10
    have bc10 : bits .and .u16 (h : Int) 1024 = 0 := bb10
    clear bb10
    rw [q2] at bb9
    have bc9 : bits .and .u16 (h : Int) 512 = 512 := bb9
    clear bb9
    have hN : sumN h = (nReg 3 (fd h 0 3) (fd h 3 3) (fd h 6 3) true) := by
      unfold sumN
      simp [nbeq, nblt, nble, *]
    unfold Says
    rw [hN]
    clear hN
    go_enter Tryd.func31, Tryd.ntmps31
    have S := SH.start w
    go_wp2_with (first
      | (go_at_call 36; (first | with_reducible refine (field_6_3 h hh _).mono ?_ | with_reducible refine (field_3_3 h hh _).mono ?_ | with_reducible refine (field_0_3 h hh _).mono ?_); rintro e wf ⟨rfl, hbf⟩; replace S := S.below hbf; clear hbf)
      | (go_at_call 35; refine (reg_c _ _ _ _ _ _).mono ?_; rintro e wf ⟨rfl, hbf⟩; replace S := S.below hbf; clear hbf)
      | ((with_reducible refine wpl_is ?_); first
        | (refine S.alloc rfl 29 rfl (Cel.iv IV.zero) zeroIV ?_; clear S; intro b1 w1 S)
        | (refine S.storeAll rfl 29 _ _ rfl _ (Cel.iv (nReg 3 (fd h 0 3) (fd h 3 3) (fd h 6 3) true).iv) rfl rfl 0 _ rfl rfl (one_iv _) (szIV _) ?_; clear S; intro w2 S; simp only [List.set_cons_zero] at S)))
    (try simp only [Exit.inBlock, Exit.then])
    refine bodyPost_ret (S.results rfl _ _ rfl 0 _ rfl _ Tryd.underlying29 rfl (szIV _)) rfl ⟨rfl, S.low⟩
  · rw [q1] at bb10
    have bc10 : bits .and .u16 (h : Int) 1024 = 1024 := bb10
    clear bb10
    rw [q2] at bb9
    have bc9 : bits .and .u16 (h : Int) 512 = 0 := bb9
    clear bb9
    have hN : sumN h = (nImm 5 (fd h 0 3) (fd h 3 3) (fd h 6 3) true) := by
      unfold sumN
      simp [nbeq, nblt, nble, *]
    unfold Says
    rw [hN]
    clear hN
    go_enter Tryd.func31, Tryd.ntmps31
    have S := SH.start w
    go_wp2_with (first
      | (go_at_call 36; (first | with_reducible refine (field_6_3 h hh _).mono ?_ | with_reducible refine (field_3_3 h hh _).mono ?_ | with_reducible refine (field_0_3 h hh _).mono ?_); rintro e wf ⟨rfl, hbf⟩; replace S := S.below hbf; clear hbf)
      | (go_at_call 54; refine (imm_c _ _ _ _ _ (by omega) (by omega) _).mono ?_; rintro e wf ⟨rfl, hbf⟩; replace S := S.below hbf; clear hbf)
      | ((with_reducible refine wpl_is ?_); first
        | (refine S.alloc rfl 29 rfl (Cel.iv IV.zero) zeroIV ?_; clear S; intro b1 w1 S)
        | (refine S.storeAll rfl 29 _ _ rfl _ (Cel.iv (nImm 5 (fd h 0 3) (fd h 3 3) (fd h 6 3) true).iv) rfl rfl 0 _ rfl rfl (one_iv _) (szIV _) ?_; clear S; intro w2 S; simp only [List.set_cons_zero] at S)))
    (try simp only [Exit.inBlock, Exit.then])
    refine bodyPost_ret (S.results rfl _ _ rfl 0 _ rfl _ Tryd.underlying29 rfl (szIV _)) rfl ⟨rfl, S.low⟩
  · rw [q1] at bb10
    have bc10 : bits .and .u16 (h : Int) 1024 = 1024 := bb10
    clear bb10
    rw [q2] at bb9
    have bc9 : bits .and .u16 (h : Int) 512 = 512 := bb9
    clear bb9
    have hN : sumN h = (nImm 3 (fd h 0 3) (fd h 3 3) (fd h 6 3) true) := by
      unfold sumN
      simp [nbeq, nblt, nble, *]
    unfold Says
    rw [hN]
    clear hN
    go_enter Tryd.func31, Tryd.ntmps31
    have S := SH.start w
    go_wp2_with (first
      | (go_at_call 36; (first | with_reducible refine (field_6_3 h hh _).mono ?_ | with_reducible refine (field_3_3 h hh _).mono ?_ | with_reducible refine (field_0_3 h hh _).mono ?_); rintro e wf ⟨rfl, hbf⟩; replace S := S.below hbf; clear hbf)
      | (go_at_call 54; refine (imm_c _ _ _ _ _ (by omega) (by omega) _).mono ?_; rintro e wf ⟨rfl, hbf⟩; replace S := S.below hbf; clear hbf)
      | ((with_reducible refine wpl_is ?_); first
        | (refine S.alloc rfl 29 rfl (Cel.iv IV.zero) zeroIV ?_; clear S; intro b1 w1 S)
        | (refine S.storeAll rfl 29 _ _ rfl _ (Cel.iv (nImm 3 (fd h 0 3) (fd h 3 3) (fd h 6 3) true).iv) rfl rfl 0 _ rfl rfl (one_iv _) (szIV _) ?_; clear S; intro w2 S; simp only [List.set_cons_zero] at S)))
    (try simp only [Exit.inBlock, Exit.then])
    refine bodyPost_ret (S.results rfl _ _ rfl 0 _ rfl _ Tryd.underlying29 rfl (szIV _)) rfl ⟨rfl, S.low⟩
set_option maxHeartbeats 4000000 in
set_option maxRecDepth 100000 in
theorem eight_c (h : Nat) (hh : h < 65536) (hr : 4 ≤ h / 2048) (hr2 : h / 2048 < 8) (w : World) : Calls Tryd.prog 32 #[.int .u16 h] w fun e w' => Says w (eightN h) e w' := by
  have rb := row_bits h hh
  have f_8_3 : fd h 8 3 < 8 := fd_lt h 8 3
  have f_0_8 : fd h 0 8 < 256 := fd_lt h 0 8
  rcases (show h / 2048 = 4 ∨ h / 2048 = 5 ∨ h / 2048 = 6 ∨ h / 2048 = 7 by omega) with q1 | q1 | q1 | q1
  · rw [q1] at rb
    have rb2 : bits .and .u16 (h : Int) 63488 = 8192 := rb
    clear rb
    have hN : eightN h = (nImm 13 (fd h 8 3) 0 (fd h 0 8) true) := by
      unfold eightN
      simp [nbeq, nblt, nble, *]
    unfold Says
    rw [hN]
    clear hN
    go_enter Tryd.func32, Tryd.ntmps32
    have S := SH.start w
    go_wp2_with (first
      | (go_at_call 36; (first | with_reducible refine (field_8_3 h hh _).mono ?_ | with_reducible refine (field_0_8 h hh _).mono ?_); rintro e wf ⟨rfl, hbf⟩; replace S := S.below hbf; clear hbf)
      | (go_at_call 54; refine (imm_c _ _ _ _ _ (by omega) (by omega) _).mono ?_; rintro e wf ⟨rfl, hbf⟩; replace S := S.below hbf; clear hbf)
      | ((with_reducible refine wpl_is ?_); first
        | (refine S.alloc rfl 29 rfl (Cel.iv IV.zero) zeroIV ?_; clear S; intro b1 w1 S)
        | (refine S.storeAll rfl 29 _ _ rfl _ (Cel.iv (nImm 13 (fd h 8 3) 0 (fd h 0 8) true).iv) rfl rfl 0 _ rfl rfl (one_iv _) (szIV _) ?_; clear S; intro w2 S; simp only [List.set_cons_zero] at S)))
    (try simp only [Exit.inBlock, Exit.then])
    refine bodyPost_ret (S.results rfl _ _ rfl 0 _ rfl _ Tryd.underlying29 rfl (szIV _)) rfl ⟨rfl, S.low⟩
  · rw [q1] at rb
    have rb2 : bits .and .u16 (h : Int) 63488 = 10240 := rb
    clear rb
    have hN : eightN h = (nImm 10 0 (fd h 8 3) (fd h 0 8) true) := by
      unfold eightN
      simp [nbeq, nblt, nble, *]
    unfold Says
    rw [hN]
    clear hN
    go_enter Tryd.func32, Tryd.ntmps32
    have S := SH.start w
    go_wp2_with (first
      | (go_at_call 36; (first | with_reducible refine (field_8_3 h hh _).mono ?_ | with_reducible refine (field_0_8 h hh _).mono ?_); rintro e wf ⟨rfl, hbf⟩; replace S := S.below hbf; clear hbf)
      | (go_at_call 54; refine (imm_c _ _ _ _ _ (by omega) (by omega) _).mono ?_; rintro e wf ⟨rfl, hbf⟩; replace S := S.below hbf; clear hbf)
      | ((with_reducible refine wpl_is ?_); first
        | (refine S.alloc rfl 29 rfl (Cel.iv IV.zero) zeroIV ?_; clear S; intro b1 w1 S)
        | (refine S.storeAll rfl 29 _ _ rfl _ (Cel.iv (nImm 10 0 (fd h 8 3) (fd h 0 8) true).iv) rfl rfl 0 _ rfl rfl (one_iv _) (szIV _) ?_; clear S; intro w2 S; simp only [List.set_cons_zero] at S)))
    (try simp only [Exit.inBlock, Exit.then])
    refine bodyPost_ret (S.results rfl _ _ rfl 0 _ rfl _ Tryd.underlying29 rfl (szIV _)) rfl ⟨rfl, S.low⟩
  · rw [q1] at rb
    have rb2 : bits .and .u16 (h : Int) 63488 = 12288 := rb
    clear rb
    have hN : eightN h = (nImm 5 (fd h 8 3) (fd h 8 3) (fd h 0 8) true) := by
      unfold eightN
      simp [nbeq, nblt, nble, *]
    unfold Says
    rw [hN]
    clear hN
    go_enter Tryd.func32, Tryd.ntmps32
    have S := SH.start w
    go_wp2_with (first
      | (go_at_call 36; (first | with_reducible refine (field_8_3 h hh _).mono ?_ | with_reducible refine (field_0_8 h hh _).mono ?_); rintro e wf ⟨rfl, hbf⟩; replace S := S.below hbf; clear hbf)
      | (go_at_call 54; refine (imm_c _ _ _ _ _ (by omega) (by omega) _).mono ?_; rintro e wf ⟨rfl, hbf⟩; replace S := S.below hbf; clear hbf)
      | ((with_reducible refine wpl_is ?_); first
        | (refine S.alloc rfl 29 rfl (Cel.iv IV.zero) zeroIV ?_; clear S; intro b1 w1 S)
        | (refine S.storeAll rfl 29 _ _ rfl _ (Cel.iv (nImm 5 (fd h 8 3) (fd h 8 3) (fd h 0 8) true).iv) rfl rfl 0 _ rfl rfl (one_iv _) (szIV _) ?_; clear S; intro w2 S; simp only [List.set_cons_zero] at S)))
    (try simp only [Exit.inBlock, Exit.then])
    refine bodyPost_ret (S.results rfl _ _ rfl 0 _ rfl _ Tryd.underlying29 rfl (szIV _)) rfl ⟨rfl, S.low⟩
  · rw [q1] at rb
    have rb2 : bits .and .u16 (h : Int) 63488 = 14336 := rb
    clear rb
    have hN : eightN h = (nImm 3 (fd h 8 3) (fd h 8 3) (fd h 0 8) true) := by
      unfold eightN
      simp [nbeq, nblt, nble, *]
    unfold Says
    rw [hN]
    clear hN
    go_enter Tryd.func32, Tryd.ntmps32
    have S := SH.start w
    go_wp2_with (first
      | (go_at_call 36; (first | with_reducible refine (field_8_3 h hh _).mono ?_ | with_reducible refine (field_0_8 h hh _).mono ?_); rintro e wf ⟨rfl, hbf⟩; replace S := S.below hbf; clear hbf)
      | (go_at_call 54; refine (imm_c _ _ _ _ _ (by omega) (by omega) _).mono ?_; rintro e wf ⟨rfl, hbf⟩; replace S := S.below hbf; clear hbf)
      | ((with_reducible refine wpl_is ?_); first
        | (refine S.alloc rfl 29 rfl (Cel.iv IV.zero) zeroIV ?_; clear S; intro b1 w1 S)
        | (refine S.storeAll rfl 29 _ _ rfl _ (Cel.iv (nImm 3 (fd h 8 3) (fd h 8 3) (fd h 0 8) true).iv) rfl rfl 0 _ rfl rfl (one_iv _) (szIV _) ?_; clear S; intro w2 S; simp only [List.set_cons_zero] at S)))
    (try simp only [Exit.inBlock, Exit.then])
    refine bodyPost_ret (S.results rfl _ _ rfl 0 _ rfl _ Tryd.underlying29 rfl (szIV _)) rfl ⟨rfl, S.low⟩
end Go.Proofs.YtblcklknlfofgaaDoor
