/- Stage 8: rows of narrow words, the program's, walked. -/
import Derived.Test.YtblcklknlfofgaaDoorTh2b
namespace Go.Proofs.YtblcklknlfofgaaDoor
open Go.ChangeShapes Go.WideShapes Go.ChangeAt Go.RowKit
set_option linter.unusedVariables false
set_option linter.unusedSimpArgs false

set_option maxHeartbeats 4000000 in
set_option maxRecDepth 100000 in
theorem words_c (h : Nat) (hh : h < 65536) (hr : h / 2048 = 9 ∨ h / 2048 = 18 ∨ h / 2048 = 19 ∨ h / 2048 = 20 ∨ h / 2048 = 21) (w : World) : Calls Tryd.prog 34 #[.int .u16 h] w fun e w' => Says w (wordsN h) e w' := by
  have rb := row_bits h hh
  have f_8_3 : fd h 8 3 < 8 := fd_lt h 8 3
  have f_0_8 : fd h 0 8 < 256 := fd_lt h 0 8
  rcases hr with q1 | q1 | q1 | q1 | q1
  · rw [q1] at rb
    have rb2 : bits .and .u16 (h : Int) 63488 = 18432 := rb
    clear rb
    have hN : wordsN h = (nImm 44 (fd h 8 3) 15 ((fd h 0 8) * 4) false) := by
      unfold wordsN
      simp [nbeq, nblt, nble, *]
    unfold Says
    rw [hN]
    clear hN
    go_enter Tryd.func34, Tryd.ntmps34
    have S := SH.start w
    go_wp2_with (first
      | (go_at_call 36; (first | with_reducible refine (field_8_3 h hh _).mono ?_ | with_reducible refine (field_0_8 h hh _).mono ?_); rintro e wf ⟨rfl, hbf⟩; replace S := S.below hbf; clear hbf)
      | (go_at_call 54; refine (imm_c _ _ _ _ _ (by omega) (by omega) _).mono ?_; rintro e wf ⟨rfl, hbf⟩; replace S := S.below hbf; clear hbf)
      | ((with_reducible refine wpl_is ?_); first
        | (refine S.alloc rfl 29 rfl (Cel.iv IV.zero) zeroIV ?_; clear S; intro b1 w1 S)
        | (refine S.storeAll rfl 29 _ _ rfl _ (Cel.iv (nImm 44 (fd h 8 3) 15 ((fd h 0 8) * 4) false).iv) rfl rfl 0 _ rfl rfl (one_iv _) (szIV _) ?_; clear S; intro w2 S; simp only [List.set_cons_zero] at S)))
    (try simp only [Exit.inBlock, Exit.then])
    refine bodyPost_ret (S.results rfl _ _ rfl 0 _ rfl _ Tryd.underlying29 rfl (szIV _)) rfl ⟨rfl, S.low⟩
  · rw [q1] at rb
    have rb2 : bits .and .u16 (h : Int) 63488 = 36864 := rb
    clear rb
    have hN : wordsN h = (nImm 49 (fd h 8 3) 13 ((fd h 0 8) * 4) false) := by
      unfold wordsN
      simp [nbeq, nblt, nble, *]
    unfold Says
    rw [hN]
    clear hN
    go_enter Tryd.func34, Tryd.ntmps34
    have S := SH.start w
    go_wp2_with (first
      | (go_at_call 36; (first | with_reducible refine (field_8_3 h hh _).mono ?_ | with_reducible refine (field_0_8 h hh _).mono ?_); rintro e wf ⟨rfl, hbf⟩; replace S := S.below hbf; clear hbf)
      | (go_at_call 54; refine (imm_c _ _ _ _ _ (by omega) (by omega) _).mono ?_; rintro e wf ⟨rfl, hbf⟩; replace S := S.below hbf; clear hbf)
      | ((with_reducible refine wpl_is ?_); first
        | (refine S.alloc rfl 29 rfl (Cel.iv IV.zero) zeroIV ?_; clear S; intro b1 w1 S)
        | (refine S.storeAll rfl 29 _ _ rfl _ (Cel.iv (nImm 49 (fd h 8 3) 13 ((fd h 0 8) * 4) false).iv) rfl rfl 0 _ rfl rfl (one_iv _) (szIV _) ?_; clear S; intro w2 S; simp only [List.set_cons_zero] at S)))
    (try simp only [Exit.inBlock, Exit.then])
    refine bodyPost_ret (S.results rfl _ _ rfl 0 _ rfl _ Tryd.underlying29 rfl (szIV _)) rfl ⟨rfl, S.low⟩
  · rw [q1] at rb
    have rb2 : bits .and .u16 (h : Int) 63488 = 38912 := rb
    clear rb
    have hN : wordsN h = (nImm 44 (fd h 8 3) 13 ((fd h 0 8) * 4) false) := by
      unfold wordsN
      simp [nbeq, nblt, nble, *]
    unfold Says
    rw [hN]
    clear hN
    go_enter Tryd.func34, Tryd.ntmps34
    have S := SH.start w
    go_wp2_with (first
      | (go_at_call 36; (first | with_reducible refine (field_8_3 h hh _).mono ?_ | with_reducible refine (field_0_8 h hh _).mono ?_); rintro e wf ⟨rfl, hbf⟩; replace S := S.below hbf; clear hbf)
      | (go_at_call 54; refine (imm_c _ _ _ _ _ (by omega) (by omega) _).mono ?_; rintro e wf ⟨rfl, hbf⟩; replace S := S.below hbf; clear hbf)
      | ((with_reducible refine wpl_is ?_); first
        | (refine S.alloc rfl 29 rfl (Cel.iv IV.zero) zeroIV ?_; clear S; intro b1 w1 S)
        | (refine S.storeAll rfl 29 _ _ rfl _ (Cel.iv (nImm 44 (fd h 8 3) 13 ((fd h 0 8) * 4) false).iv) rfl rfl 0 _ rfl rfl (one_iv _) (szIV _) ?_; clear S; intro w2 S; simp only [List.set_cons_zero] at S)))
    (try simp only [Exit.inBlock, Exit.then])
    refine bodyPost_ret (S.results rfl _ _ rfl 0 _ rfl _ Tryd.underlying29 rfl (szIV _)) rfl ⟨rfl, S.low⟩
  · rw [q1] at rb
    have rb2 : bits .and .u16 (h : Int) 63488 = 40960 := rb
    clear rb
    have hN : wordsN h = (nImm 43 (fd h 8 3) 0 ((fd h 0 8) * 4) false) := by
      unfold wordsN
      simp [nbeq, nblt, nble, *]
    unfold Says
    rw [hN]
    clear hN
    go_enter Tryd.func34, Tryd.ntmps34
    have S := SH.start w
    go_wp2_with (first
      | (go_at_call 36; (first | with_reducible refine (field_8_3 h hh _).mono ?_ | with_reducible refine (field_0_8 h hh _).mono ?_); rintro e wf ⟨rfl, hbf⟩; replace S := S.below hbf; clear hbf)
      | (go_at_call 54; refine (imm_c _ _ _ _ _ (by omega) (by omega) _).mono ?_; rintro e wf ⟨rfl, hbf⟩; replace S := S.below hbf; clear hbf)
      | ((with_reducible refine wpl_is ?_); first
        | (refine S.alloc rfl 29 rfl (Cel.iv IV.zero) zeroIV ?_; clear S; intro b1 w1 S)
        | (refine S.storeAll rfl 29 _ _ rfl _ (Cel.iv (nImm 43 (fd h 8 3) 0 ((fd h 0 8) * 4) false).iv) rfl rfl 0 _ rfl rfl (one_iv _) (szIV _) ?_; clear S; intro w2 S; simp only [List.set_cons_zero] at S)))
    (try simp only [Exit.inBlock, Exit.then])
    refine bodyPost_ret (S.results rfl _ _ rfl 0 _ rfl _ Tryd.underlying29 rfl (szIV _)) rfl ⟨rfl, S.low⟩
  · rw [q1] at rb
    have rb2 : bits .and .u16 (h : Int) 63488 = 43008 := rb
    clear rb
    have hN : wordsN h = (nImm 5 (fd h 8 3) 13 ((fd h 0 8) * 4) false) := by
      unfold wordsN
      simp [nbeq, nblt, nble, *]
    unfold Says
    rw [hN]
    clear hN
    go_enter Tryd.func34, Tryd.ntmps34
    have S := SH.start w
    go_wp2_with (first
      | (go_at_call 36; (first | with_reducible refine (field_8_3 h hh _).mono ?_ | with_reducible refine (field_0_8 h hh _).mono ?_); rintro e wf ⟨rfl, hbf⟩; replace S := S.below hbf; clear hbf)
      | (go_at_call 54; refine (imm_c _ _ _ _ _ (by omega) (by omega) _).mono ?_; rintro e wf ⟨rfl, hbf⟩; replace S := S.below hbf; clear hbf)
      | ((with_reducible refine wpl_is ?_); first
        | (refine S.alloc rfl 29 rfl (Cel.iv IV.zero) zeroIV ?_; clear S; intro b1 w1 S)
        | (refine S.storeAll rfl 29 _ _ rfl _ (Cel.iv (nImm 5 (fd h 8 3) 13 ((fd h 0 8) * 4) false).iv) rfl rfl 0 _ rfl rfl (one_iv _) (szIV _) ?_; clear S; intro w2 S; simp only [List.set_cons_zero] at S)))
    (try simp only [Exit.inBlock, Exit.then])
    refine bodyPost_ret (S.results rfl _ _ rfl 0 _ rfl _ Tryd.underlying29 rfl (szIV _)) rfl ⟨rfl, S.low⟩
set_option maxHeartbeats 4000000 in
set_option maxRecDepth 100000 in
theorem memory_c (h : Nat) (hh : h < 65536) (hr : 12 ≤ h / 2048) (hr2 : h / 2048 < 18) (w : World) : Calls Tryd.prog 37 #[.int .u16 h] w fun e w' => Says w (memoryN h) e w' := by
  have rb := row_bits h hh
  have f_6_5 : fd h 6 5 < 32 := fd_lt h 6 5
  have f_3_3 : fd h 3 3 < 8 := fd_lt h 3 3
  have f_0_3 : fd h 0 3 < 8 := fd_lt h 0 3
  rcases (show h / 2048 = 12 ∨ h / 2048 = 13 ∨ h / 2048 = 14 ∨ h / 2048 = 15 ∨ h / 2048 = 16 ∨ h / 2048 = 17 by omega) with q1 | q1 | q1 | q1 | q1 | q1
  · rw [q1] at rb
    have rb2 : bits .and .u16 (h : Int) 63488 = 24576 := rb
    clear rb
    have hN : memoryN h = (nImm 49 (fd h 0 3) (fd h 3 3) ((fd h 6 5) * 4) false) := by
      unfold memoryN
      simp [nbeq, nblt, nble, *]
    unfold Says
    rw [hN]
    clear hN
    go_enter Tryd.func37, Tryd.ntmps37
    have S := SH.start w
    go_wp2_with (first
      | (go_at_call 36; (first | with_reducible refine (field_6_5 h hh _).mono ?_ | with_reducible refine (field_3_3 h hh _).mono ?_ | with_reducible refine (field_0_3 h hh _).mono ?_); rintro e wf ⟨rfl, hbf⟩; replace S := S.below hbf; clear hbf)
      | (go_at_call 54; refine (imm_c _ _ _ _ _ (by omega) (by omega) _).mono ?_; rintro e wf ⟨rfl, hbf⟩; replace S := S.below hbf; clear hbf)
      | ((with_reducible refine wpl_is ?_); first
        | (refine S.alloc rfl 29 rfl (Cel.iv IV.zero) zeroIV ?_; clear S; intro b1 w1 S)
        | (refine S.storeAll rfl 29 _ _ rfl _ (Cel.iv (nImm 49 (fd h 0 3) (fd h 3 3) ((fd h 6 5) * 4) false).iv) rfl rfl 0 _ rfl rfl (one_iv _) (szIV _) ?_; clear S; intro w2 S; simp only [List.set_cons_zero] at S)))
    (try simp only [Exit.inBlock, Exit.then])
    refine bodyPost_ret (S.results rfl _ _ rfl 0 _ rfl _ Tryd.underlying29 rfl (szIV _)) rfl ⟨rfl, S.low⟩
  · rw [q1] at rb
    have rb2 : bits .and .u16 (h : Int) 63488 = 26624 := rb
    clear rb
    have hN : memoryN h = (nImm 44 (fd h 0 3) (fd h 3 3) ((fd h 6 5) * 4) false) := by
      unfold memoryN
      simp [nbeq, nblt, nble, *]
    unfold Says
    rw [hN]
    clear hN
    go_enter Tryd.func37, Tryd.ntmps37
    have S := SH.start w
    go_wp2_with (first
      | (go_at_call 36; (first | with_reducible refine (field_6_5 h hh _).mono ?_ | with_reducible refine (field_3_3 h hh _).mono ?_ | with_reducible refine (field_0_3 h hh _).mono ?_); rintro e wf ⟨rfl, hbf⟩; replace S := S.below hbf; clear hbf)
      | (go_at_call 54; refine (imm_c _ _ _ _ _ (by omega) (by omega) _).mono ?_; rintro e wf ⟨rfl, hbf⟩; replace S := S.below hbf; clear hbf)
      | ((with_reducible refine wpl_is ?_); first
        | (refine S.alloc rfl 29 rfl (Cel.iv IV.zero) zeroIV ?_; clear S; intro b1 w1 S)
        | (refine S.storeAll rfl 29 _ _ rfl _ (Cel.iv (nImm 44 (fd h 0 3) (fd h 3 3) ((fd h 6 5) * 4) false).iv) rfl rfl 0 _ rfl rfl (one_iv _) (szIV _) ?_; clear S; intro w2 S; simp only [List.set_cons_zero] at S)))
    (try simp only [Exit.inBlock, Exit.then])
    refine bodyPost_ret (S.results rfl _ _ rfl 0 _ rfl _ Tryd.underlying29 rfl (szIV _)) rfl ⟨rfl, S.low⟩
  · rw [q1] at rb
    have rb2 : bits .and .u16 (h : Int) 63488 = 28672 := rb
    clear rb
    have hN : memoryN h = (nImm 50 (fd h 0 3) (fd h 3 3) (fd h 6 5) false) := by
      unfold memoryN
      simp [nbeq, nblt, nble, *]
    unfold Says
    rw [hN]
    clear hN
    go_enter Tryd.func37, Tryd.ntmps37
    have S := SH.start w
    go_wp2_with (first
      | (go_at_call 36; (first | with_reducible refine (field_6_5 h hh _).mono ?_ | with_reducible refine (field_3_3 h hh _).mono ?_ | with_reducible refine (field_0_3 h hh _).mono ?_); rintro e wf ⟨rfl, hbf⟩; replace S := S.below hbf; clear hbf)
      | (go_at_call 54; refine (imm_c _ _ _ _ _ (by omega) (by omega) _).mono ?_; rintro e wf ⟨rfl, hbf⟩; replace S := S.below hbf; clear hbf)
      | ((with_reducible refine wpl_is ?_); first
        | (refine S.alloc rfl 29 rfl (Cel.iv IV.zero) zeroIV ?_; clear S; intro b1 w1 S)
        | (refine S.storeAll rfl 29 _ _ rfl _ (Cel.iv (nImm 50 (fd h 0 3) (fd h 3 3) (fd h 6 5) false).iv) rfl rfl 0 _ rfl rfl (one_iv _) (szIV _) ?_; clear S; intro w2 S; simp only [List.set_cons_zero] at S)))
    (try simp only [Exit.inBlock, Exit.then])
    refine bodyPost_ret (S.results rfl _ _ rfl 0 _ rfl _ Tryd.underlying29 rfl (szIV _)) rfl ⟨rfl, S.low⟩
  · rw [q1] at rb
    have rb2 : bits .and .u16 (h : Int) 63488 = 30720 := rb
    clear rb
    have hN : memoryN h = (nImm 45 (fd h 0 3) (fd h 3 3) (fd h 6 5) false) := by
      unfold memoryN
      simp [nbeq, nblt, nble, *]
    unfold Says
    rw [hN]
    clear hN
    go_enter Tryd.func37, Tryd.ntmps37
    have S := SH.start w
    go_wp2_with (first
      | (go_at_call 36; (first | with_reducible refine (field_6_5 h hh _).mono ?_ | with_reducible refine (field_3_3 h hh _).mono ?_ | with_reducible refine (field_0_3 h hh _).mono ?_); rintro e wf ⟨rfl, hbf⟩; replace S := S.below hbf; clear hbf)
      | (go_at_call 54; refine (imm_c _ _ _ _ _ (by omega) (by omega) _).mono ?_; rintro e wf ⟨rfl, hbf⟩; replace S := S.below hbf; clear hbf)
      | ((with_reducible refine wpl_is ?_); first
        | (refine S.alloc rfl 29 rfl (Cel.iv IV.zero) zeroIV ?_; clear S; intro b1 w1 S)
        | (refine S.storeAll rfl 29 _ _ rfl _ (Cel.iv (nImm 45 (fd h 0 3) (fd h 3 3) (fd h 6 5) false).iv) rfl rfl 0 _ rfl rfl (one_iv _) (szIV _) ?_; clear S; intro w2 S; simp only [List.set_cons_zero] at S)))
    (try simp only [Exit.inBlock, Exit.then])
    refine bodyPost_ret (S.results rfl _ _ rfl 0 _ rfl _ Tryd.underlying29 rfl (szIV _)) rfl ⟨rfl, S.low⟩
  · rw [q1] at rb
    have rb2 : bits .and .u16 (h : Int) 63488 = 32768 := rb
    clear rb
    have hN : memoryN h = (nImm 51 (fd h 0 3) (fd h 3 3) ((fd h 6 5) * 2) false) := by
      unfold memoryN
      simp [nbeq, nblt, nble, *]
    unfold Says
    rw [hN]
    clear hN
    go_enter Tryd.func37, Tryd.ntmps37
    have S := SH.start w
    go_wp2_with (first
      | (go_at_call 36; (first | with_reducible refine (field_6_5 h hh _).mono ?_ | with_reducible refine (field_3_3 h hh _).mono ?_ | with_reducible refine (field_0_3 h hh _).mono ?_); rintro e wf ⟨rfl, hbf⟩; replace S := S.below hbf; clear hbf)
      | (go_at_call 54; refine (imm_c _ _ _ _ _ (by omega) (by omega) _).mono ?_; rintro e wf ⟨rfl, hbf⟩; replace S := S.below hbf; clear hbf)
      | ((with_reducible refine wpl_is ?_); first
        | (refine S.alloc rfl 29 rfl (Cel.iv IV.zero) zeroIV ?_; clear S; intro b1 w1 S)
        | (refine S.storeAll rfl 29 _ _ rfl _ (Cel.iv (nImm 51 (fd h 0 3) (fd h 3 3) ((fd h 6 5) * 2) false).iv) rfl rfl 0 _ rfl rfl (one_iv _) (szIV _) ?_; clear S; intro w2 S; simp only [List.set_cons_zero] at S)))
    (try simp only [Exit.inBlock, Exit.then])
    refine bodyPost_ret (S.results rfl _ _ rfl 0 _ rfl _ Tryd.underlying29 rfl (szIV _)) rfl ⟨rfl, S.low⟩
  · rw [q1] at rb
    have rb2 : bits .and .u16 (h : Int) 63488 = 34816 := rb
    clear rb
    have hN : memoryN h = (nImm 46 (fd h 0 3) (fd h 3 3) ((fd h 6 5) * 2) false) := by
      unfold memoryN
      simp [nbeq, nblt, nble, *]
    unfold Says
    rw [hN]
    clear hN
    go_enter Tryd.func37, Tryd.ntmps37
    have S := SH.start w
    go_wp2_with (first
      | (go_at_call 36; (first | with_reducible refine (field_6_5 h hh _).mono ?_ | with_reducible refine (field_3_3 h hh _).mono ?_ | with_reducible refine (field_0_3 h hh _).mono ?_); rintro e wf ⟨rfl, hbf⟩; replace S := S.below hbf; clear hbf)
      | (go_at_call 54; refine (imm_c _ _ _ _ _ (by omega) (by omega) _).mono ?_; rintro e wf ⟨rfl, hbf⟩; replace S := S.below hbf; clear hbf)
      | ((with_reducible refine wpl_is ?_); first
        | (refine S.alloc rfl 29 rfl (Cel.iv IV.zero) zeroIV ?_; clear S; intro b1 w1 S)
        | (refine S.storeAll rfl 29 _ _ rfl _ (Cel.iv (nImm 46 (fd h 0 3) (fd h 3 3) ((fd h 6 5) * 2) false).iv) rfl rfl 0 _ rfl rfl (one_iv _) (szIV _) ?_; clear S; intro w2 S; simp only [List.set_cons_zero] at S)))
    (try simp only [Exit.inBlock, Exit.then])
    refine bodyPost_ret (S.results rfl _ _ rfl 0 _ rfl _ Tryd.underlying29 rfl (szIV _)) rfl ⟨rfl, S.low⟩
set_option maxHeartbeats 4000000 in
set_option maxRecDepth 100000 in
theorem move_c (h : Nat) (hh : h < 65536) (w : World) : Calls Tryd.prog 58 #[.int .u16 h] w fun e w' => Says w (moveN h) e w' := by
  have bb7 := bit7_bits h hh
  have f_0_7 : fd h 0 7 < 128 := fd_lt h 0 7
  have g7 : fd h 7 1 < 2 := fd_lt h 7 1
  rcases (show fd h 7 1 = 0 ∨ fd h 7 1 = 1 by omega) with q1 | q1
  · rw [q1] at bb7
    have bc7 : bits .and .u16 (h : Int) 128 = 0 := bb7
    clear bb7
    have hN : moveN h = (nImm 5 13 13 (fd h 0 7 * 4) false) := by
      unfold moveN
      simp [nbeq, nblt, nble, *]
    unfold Says
    rw [hN]
    clear hN
    go_enter Tryd.func58, Tryd.ntmps58
    have S := SH.start w
    go_wp2_with (first
      | (go_at_call 36; (first | with_reducible refine (field_0_7 h hh _).mono ?_); rintro e wf ⟨rfl, hbf⟩; replace S := S.below hbf; clear hbf)
      | (go_at_call 54; refine (imm_c _ _ _ _ _ (by omega) (by omega) _).mono ?_; rintro e wf ⟨rfl, hbf⟩; replace S := S.below hbf; clear hbf)
      | ((with_reducible refine wpl_is ?_); first
        | (refine S.alloc rfl 29 rfl (Cel.iv IV.zero) zeroIV ?_; clear S; intro b1 w1 S)
        | (refine S.storeAll rfl 29 _ _ rfl _ (Cel.iv (nImm 5 13 13 (fd h 0 7 * 4) false).iv) rfl rfl 0 _ rfl rfl (one_iv _) (szIV _) ?_; clear S; intro w2 S; simp only [List.set_cons_zero] at S)))
    (try simp only [Exit.inBlock, Exit.then])
    refine bodyPost_ret (S.results rfl _ _ rfl 0 _ rfl _ Tryd.underlying29 rfl (szIV _)) rfl ⟨rfl, S.low⟩
  · rw [q1] at bb7
    have bc7 : bits .and .u16 (h : Int) 128 = 128 := bb7
    clear bb7
    have hN : moveN h = (nImm 3 13 13 (fd h 0 7 * 4) false) := by
      unfold moveN
      simp [nbeq, nblt, nble, *]
    unfold Says
    rw [hN]
    clear hN
    go_enter Tryd.func58, Tryd.ntmps58
    have S := SH.start w
    go_wp2_with (first
      | (go_at_call 36; (first | with_reducible refine (field_0_7 h hh _).mono ?_); rintro e wf ⟨rfl, hbf⟩; replace S := S.below hbf; clear hbf)
      | (go_at_call 54; refine (imm_c _ _ _ _ _ (by omega) (by omega) _).mono ?_; rintro e wf ⟨rfl, hbf⟩; replace S := S.below hbf; clear hbf)
      | ((with_reducible refine wpl_is ?_); first
        | (refine S.alloc rfl 29 rfl (Cel.iv IV.zero) zeroIV ?_; clear S; intro b1 w1 S)
        | (refine S.storeAll rfl 29 _ _ rfl _ (Cel.iv (nImm 3 13 13 (fd h 0 7 * 4) false).iv) rfl rfl 0 _ rfl rfl (one_iv _) (szIV _) ?_; clear S; intro w2 S; simp only [List.set_cons_zero] at S)))
    (try simp only [Exit.inBlock, Exit.then])
    refine bodyPost_ret (S.results rfl _ _ rfl 0 _ rfl _ Tryd.underlying29 rfl (szIV _)) rfl ⟨rfl, S.low⟩
end Go.Proofs.YtblcklknlfofgaaDoor
