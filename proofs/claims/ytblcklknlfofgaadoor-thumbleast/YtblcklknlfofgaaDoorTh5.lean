/- Stage 8: rows of narrow words, the program's, walked. -/
import Derived.Test.YtblcklknlfofgaaDoorTh2b
namespace Go.Proofs.YtblcklknlfofgaaDoor
open Go.ChangeShapes Go.WideShapes Go.ChangeAt Go.RowKit
set_option linter.unusedVariables false
set_option linter.unusedSimpArgs false

theorem highD_bits (h : Nat) : bits .or .i64 ((fd h 7 1 : Nat) * 8 : Int) ((fd h 0 3 : Nat) : Int) = ((highD h : Nat) : Int) := by
  have f1 : fd h 7 1 < 2 := fd_lt h 7 1
  have f2 : fd h 0 3 < 8 := fd_lt h 0 3
  exact i64_join (fd h 7 1 * 8) (fd h 0 3) 3 (by omega) (by omega) (by omega) (by decide)
set_option maxHeartbeats 4000000 in
set_option maxRecDepth 100000 in
theorem high_c (h : Nat) (hh : h < 65536) (hr : h / 256 = 68 ∨ h / 256 = 69 ∨ h / 256 = 70) (w : World) : Calls Tryd.prog 55 #[.int .u16 h] w fun e w' => Says w (highN h) e w' := by
  have pb := page_bits h hh
  have hD := highD_bits h
  have f_3_4 : fd h 3 4 < 16 := fd_lt h 3 4
  have f_7_1 : fd h 7 1 < 2 := fd_lt h 7 1
  have f_0_3 : fd h 0 3 < 8 := fd_lt h 0 3
  have hd16 : highD h < 16 := by unfold highD; omega
  rcases (show fd h 3 4 = 15 ∨ (fd h 3 4 ≠ 15 ∧ highD h = 15) ∨ (h / 256 = 68 ∧ fd h 3 4 ≠ 15 ∧ highD h ≠ 15) ∨ (h / 256 = 70 ∧ fd h 3 4 ≠ 15 ∧ highD h ≠ 15) ∨ (h / 256 = 69 ∧ fd h 3 4 < 8 ∧ highD h < 8) ∨ (h / 256 = 69 ∧ fd h 3 4 < 8 ∧ 8 ≤ highD h ∧ highD h ≠ 15) ∨ (h / 256 = 69 ∧ 8 ≤ fd h 3 4 ∧ fd h 3 4 ≠ 15 ∧ highD h ≠ 15) by omega) with q2 | ⟨q2, q3⟩ | ⟨q1, q2, q3⟩ | ⟨q1, q2, q3⟩ | ⟨q1, q2, q3⟩ | ⟨q1, q2, q3, q4⟩ | ⟨q1, q2, q3, q4⟩
  · have t_6092 : (((fd h 3 4 : Nat) : Int) == 15) = true := by simp; omega
    have hN : highN h = (nNone 65 h) := by
      unfold highN
      simp [nbeq, nblt, nble, *]
    unfold Says
    rw [hN]
    clear hN
    go_enter Tryd.func55, Tryd.ntmps55
    have S := SH.start w
    go_wp2_with (first
      | (go_at_call 36; (first | with_reducible refine (field_3_4 h hh _).mono ?_ | with_reducible refine (field_7_1 h hh _).mono ?_ | with_reducible refine (field_0_3 h hh _).mono ?_); rintro e wf ⟨rfl, hbf⟩; replace S := S.below hbf; clear hbf)
      | (go_at_call 42; refine (none_c _ h hh _).mono ?_; rintro e wf ⟨rfl, hbf⟩; replace S := S.below hbf; clear hbf)
      | ((with_reducible refine wpl_is ?_); first
        | (refine S.alloc rfl 29 rfl (Cel.iv IV.zero) zeroIV ?_; clear S; intro b1 w1 S)
        | (refine S.storeAll rfl 29 _ _ rfl _ (Cel.iv (nNone 65 h).iv) rfl rfl 0 _ rfl rfl (one_iv _) (szIV _) ?_; clear S; intro w2 S; simp only [List.set_cons_zero] at S)))
    (try simp only [Exit.inBlock, Exit.then])
    refine bodyPost_ret (S.results rfl _ _ rfl 0 _ rfl _ Tryd.underlying29 rfl (szIV _)) rfl ⟨rfl, S.low⟩
  · have t_6092 : (((fd h 3 4 : Nat) : Int) == 15) = false := by simp; omega
    have t_8862 : (((highD h : Nat) : Int) == 15) = true := by simp; omega
    have hN : highN h = (nNone 65 h) := by
      unfold highN
      simp [nbeq, nblt, nble, *]
    unfold Says
    rw [hN]
    clear hN
    go_enter Tryd.func55, Tryd.ntmps55
    have S := SH.start w
    go_wp2_with (first
      | (go_at_call 36; (first | with_reducible refine (field_3_4 h hh _).mono ?_ | with_reducible refine (field_7_1 h hh _).mono ?_ | with_reducible refine (field_0_3 h hh _).mono ?_); rintro e wf ⟨rfl, hbf⟩; replace S := S.below hbf; clear hbf)
      | (go_at_call 42; refine (none_c _ h hh _).mono ?_; rintro e wf ⟨rfl, hbf⟩; replace S := S.below hbf; clear hbf)
      | ((with_reducible refine wpl_is ?_); first
        | (refine S.alloc rfl 29 rfl (Cel.iv IV.zero) zeroIV ?_; clear S; intro b1 w1 S)
        | (refine S.storeAll rfl 29 _ _ rfl _ (Cel.iv (nNone 65 h).iv) rfl rfl 0 _ rfl rfl (one_iv _) (szIV _) ?_; clear S; intro w2 S; simp only [List.set_cons_zero] at S)))
    (try simp only [Exit.inBlock, Exit.then])
    refine bodyPost_ret (S.results rfl _ _ rfl 0 _ rfl _ Tryd.underlying29 rfl (szIV _)) rfl ⟨rfl, S.low⟩
  · rw [q1] at pb
    have pb2 : bits .and .u16 (h : Int) 65280 = 17408 := pb
    clear pb
    have t_6092 : (((fd h 3 4 : Nat) : Int) == 15) = false := by simp; omega
    have t_8862 : (((highD h : Nat) : Int) == 15) = false := by simp; omega
    have hN : highN h = (nReg 5 (highD h) (highD h) (fd h 3 4) false) := by
      unfold highN
      simp [nbeq, nblt, nble, *]
    unfold Says
    rw [hN]
    clear hN
    go_enter Tryd.func55, Tryd.ntmps55
    have S := SH.start w
    go_wp2_with (first
      | (go_at_call 36; (first | with_reducible refine (field_3_4 h hh _).mono ?_ | with_reducible refine (field_7_1 h hh _).mono ?_ | with_reducible refine (field_0_3 h hh _).mono ?_); rintro e wf ⟨rfl, hbf⟩; replace S := S.below hbf; clear hbf)
      | (go_at_call 35; refine (reg_c _ _ _ _ _ _).mono ?_; rintro e wf ⟨rfl, hbf⟩; replace S := S.below hbf; clear hbf)
      | ((with_reducible refine wpl_is ?_); first
        | (refine S.alloc rfl 29 rfl (Cel.iv IV.zero) zeroIV ?_; clear S; intro b1 w1 S)
        | (refine S.storeAll rfl 29 _ _ rfl _ (Cel.iv (nReg 5 (highD h) (highD h) (fd h 3 4) false).iv) rfl rfl 0 _ rfl rfl (one_iv _) (szIV _) ?_; clear S; intro w2 S; simp only [List.set_cons_zero] at S)))
    (try simp only [Exit.inBlock, Exit.then])
    refine bodyPost_ret (S.results rfl _ _ rfl 0 _ rfl _ Tryd.underlying29 rfl (szIV _)) rfl ⟨rfl, S.low⟩
  · rw [q1] at pb
    have pb2 : bits .and .u16 (h : Int) 65280 = 17920 := pb
    clear pb
    have t_6092 : (((fd h 3 4 : Nat) : Int) == 15) = false := by simp; omega
    have t_8862 : (((highD h : Nat) : Int) == 15) = false := by simp; omega
    have hN : highN h = (nReg 13 (highD h) 0 (fd h 3 4) false) := by
      unfold highN
      simp [nbeq, nblt, nble, *]
    unfold Says
    rw [hN]
    clear hN
    go_enter Tryd.func55, Tryd.ntmps55
    have S := SH.start w
    go_wp2_with (first
      | (go_at_call 36; (first | with_reducible refine (field_3_4 h hh _).mono ?_ | with_reducible refine (field_7_1 h hh _).mono ?_ | with_reducible refine (field_0_3 h hh _).mono ?_); rintro e wf ⟨rfl, hbf⟩; replace S := S.below hbf; clear hbf)
      | (go_at_call 35; refine (reg_c _ _ _ _ _ _).mono ?_; rintro e wf ⟨rfl, hbf⟩; replace S := S.below hbf; clear hbf)
      | ((with_reducible refine wpl_is ?_); first
        | (refine S.alloc rfl 29 rfl (Cel.iv IV.zero) zeroIV ?_; clear S; intro b1 w1 S)
        | (refine S.storeAll rfl 29 _ _ rfl _ (Cel.iv (nReg 13 (highD h) 0 (fd h 3 4) false).iv) rfl rfl 0 _ rfl rfl (one_iv _) (szIV _) ?_; clear S; intro w2 S; simp only [List.set_cons_zero] at S)))
    (try simp only [Exit.inBlock, Exit.then])
    refine bodyPost_ret (S.results rfl _ _ rfl 0 _ rfl _ Tryd.underlying29 rfl (szIV _)) rfl ⟨rfl, S.low⟩
  · rw [q1] at pb
    have pb2 : bits .and .u16 (h : Int) 65280 = 17664 := pb
    clear pb
    have q5 : fd h 3 4 ≠ 15 := by omega
    have q6 : highD h ≠ 15 := by omega
    have t_6092 : (((fd h 3 4 : Nat) : Int) == 15) = false := by simp; omega
    have t_8862 : (((highD h : Nat) : Int) == 15) = false := by simp; omega
    have t_5821 : decide (((fd h 3 4 : Nat) : Int) < 8) = true := by simp; omega
    have t_419 : decide (((highD h : Nat) : Int) < 8) = true := by simp; omega
    have hN : highN h = (nNone 65 h) := by
      unfold highN
      simp [nbeq, nblt, nble, *]
    unfold Says
    rw [hN]
    clear hN
    go_enter Tryd.func55, Tryd.ntmps55
    have S := SH.start w
    go_wp2_with (first
      | (go_at_call 36; (first | with_reducible refine (field_3_4 h hh _).mono ?_ | with_reducible refine (field_7_1 h hh _).mono ?_ | with_reducible refine (field_0_3 h hh _).mono ?_); rintro e wf ⟨rfl, hbf⟩; replace S := S.below hbf; clear hbf)
      | (go_at_call 42; refine (none_c _ h hh _).mono ?_; rintro e wf ⟨rfl, hbf⟩; replace S := S.below hbf; clear hbf)
      | ((with_reducible refine wpl_is ?_); first
        | (refine S.alloc rfl 29 rfl (Cel.iv IV.zero) zeroIV ?_; clear S; intro b1 w1 S)
        | (refine S.storeAll rfl 29 _ _ rfl _ (Cel.iv (nNone 65 h).iv) rfl rfl 0 _ rfl rfl (one_iv _) (szIV _) ?_; clear S; intro w2 S; simp only [List.set_cons_zero] at S)))
    (try simp only [Exit.inBlock, Exit.then])
    refine bodyPost_ret (S.results rfl _ _ rfl 0 _ rfl _ Tryd.underlying29 rfl (szIV _)) rfl ⟨rfl, S.low⟩
  · rw [q1] at pb
    have pb2 : bits .and .u16 (h : Int) 65280 = 17664 := pb
    clear pb
    have q5 : ¬ highD h < 8 := by omega
    have q6 : fd h 3 4 ≠ 15 := by omega
    have t_6092 : (((fd h 3 4 : Nat) : Int) == 15) = false := by simp; omega
    have t_8862 : (((highD h : Nat) : Int) == 15) = false := by simp; omega
    have t_5821 : decide (((fd h 3 4 : Nat) : Int) < 8) = true := by simp; omega
    have t_419 : decide (((highD h : Nat) : Int) < 8) = false := by simp; omega
    have hN : highN h = (nReg 10 0 (highD h) (fd h 3 4) true) := by
      unfold highN
      simp [nbeq, nblt, nble, *]
    unfold Says
    rw [hN]
    clear hN
    go_enter Tryd.func55, Tryd.ntmps55
    have S := SH.start w
    go_wp2_with (first
      | (go_at_call 36; (first | with_reducible refine (field_3_4 h hh _).mono ?_ | with_reducible refine (field_7_1 h hh _).mono ?_ | with_reducible refine (field_0_3 h hh _).mono ?_); rintro e wf ⟨rfl, hbf⟩; replace S := S.below hbf; clear hbf)
      | (go_at_call 35; refine (reg_c _ _ _ _ _ _).mono ?_; rintro e wf ⟨rfl, hbf⟩; replace S := S.below hbf; clear hbf)
      | ((with_reducible refine wpl_is ?_); first
        | (refine S.alloc rfl 29 rfl (Cel.iv IV.zero) zeroIV ?_; clear S; intro b1 w1 S)
        | (refine S.storeAll rfl 29 _ _ rfl _ (Cel.iv (nReg 10 0 (highD h) (fd h 3 4) true).iv) rfl rfl 0 _ rfl rfl (one_iv _) (szIV _) ?_; clear S; intro w2 S; simp only [List.set_cons_zero] at S)))
    (try simp only [Exit.inBlock, Exit.then])
    refine bodyPost_ret (S.results rfl _ _ rfl 0 _ rfl _ Tryd.underlying29 rfl (szIV _)) rfl ⟨rfl, S.low⟩
  · rw [q1] at pb
    have pb2 : bits .and .u16 (h : Int) 65280 = 17664 := pb
    clear pb
    have q5 : ¬ fd h 3 4 < 8 := by omega
    have t_6092 : (((fd h 3 4 : Nat) : Int) == 15) = false := by simp; omega
    have t_8862 : (((highD h : Nat) : Int) == 15) = false := by simp; omega
    have t_5821 : decide (((fd h 3 4 : Nat) : Int) < 8) = false := by simp; omega
    have hN : highN h = (nReg 10 0 (highD h) (fd h 3 4) true) := by
      unfold highN
      simp [nbeq, nblt, nble, *]
    unfold Says
    rw [hN]
    clear hN
    go_enter Tryd.func55, Tryd.ntmps55
    have S := SH.start w
    go_wp2_with (first
      | (go_at_call 36; (first | with_reducible refine (field_3_4 h hh _).mono ?_ | with_reducible refine (field_7_1 h hh _).mono ?_ | with_reducible refine (field_0_3 h hh _).mono ?_); rintro e wf ⟨rfl, hbf⟩; replace S := S.below hbf; clear hbf)
      | (go_at_call 35; refine (reg_c _ _ _ _ _ _).mono ?_; rintro e wf ⟨rfl, hbf⟩; replace S := S.below hbf; clear hbf)
      | ((with_reducible refine wpl_is ?_); first
        | (refine S.alloc rfl 29 rfl (Cel.iv IV.zero) zeroIV ?_; clear S; intro b1 w1 S)
        | (refine S.storeAll rfl 29 _ _ rfl _ (Cel.iv (nReg 10 0 (highD h) (fd h 3 4) true).iv) rfl rfl 0 _ rfl rfl (one_iv _) (szIV _) ?_; clear S; intro w2 S; simp only [List.set_cons_zero] at S)))
    (try simp only [Exit.inBlock, Exit.then])
    refine bodyPost_ret (S.results rfl _ _ rfl 0 _ rfl _ Tryd.underlying29 rfl (szIV _)) rfl ⟨rfl, S.low⟩
set_option maxHeartbeats 4000000 in
set_option maxRecDepth 100000 in
theorem exchange_c (h : Nat) (hh : h < 65536) (w : World) : Calls Tryd.prog 56 #[.int .u16 h] w fun e w' => Says w (exchangeN h) e w' := by
  have bb7 := bit7_bits h hh
  have f_3_4 : fd h 3 4 < 16 := fd_lt h 3 4
  have f_0_3 : fd h 0 3 < 8 := fd_lt h 0 3
  have g7 : fd h 7 1 < 2 := fd_lt h 7 1
  rcases (show fd h 3 4 = 15 ∨ (fd h 3 4 ≠ 15 ∧ fd h 0 3 ≠ 0) ∨ (fd h 3 4 ≠ 15 ∧ fd h 0 3 = 0 ∧ fd h 7 1 = 0) ∨ (fd h 3 4 ≠ 15 ∧ fd h 0 3 = 0 ∧ fd h 7 1 = 1) by omega) with q2 | ⟨q2, q3⟩ | ⟨q2, q3, q4⟩ | ⟨q2, q3, q4⟩
  · have t_6092 : (((fd h 3 4 : Nat) : Int) == 15) = true := by simp; omega
    have hN : exchangeN h = (nNone 65 h) := by
      unfold exchangeN
      simp [nbeq, nblt, nble, *]
    unfold Says
    rw [hN]
    clear hN
    go_enter Tryd.func56, Tryd.ntmps56
    have S := SH.start w
    go_wp2_with (first
      | (go_at_call 36; (first | with_reducible refine (field_3_4 h hh _).mono ?_ | with_reducible refine (field_0_3 h hh _).mono ?_); rintro e wf ⟨rfl, hbf⟩; replace S := S.below hbf; clear hbf)
      | (go_at_call 42; refine (none_c _ h hh _).mono ?_; rintro e wf ⟨rfl, hbf⟩; replace S := S.below hbf; clear hbf)
      | ((with_reducible refine wpl_is ?_); first
        | (refine S.alloc rfl 29 rfl (Cel.iv IV.zero) zeroIV ?_; clear S; intro b1 w1 S)
        | (refine S.storeAll rfl 29 _ _ rfl _ (Cel.iv (nNone 65 h).iv) rfl rfl 0 _ rfl rfl (one_iv _) (szIV _) ?_; clear S; intro w2 S; simp only [List.set_cons_zero] at S)))
    (try simp only [Exit.inBlock, Exit.then])
    refine bodyPost_ret (S.results rfl _ _ rfl 0 _ rfl _ Tryd.underlying29 rfl (szIV _)) rfl ⟨rfl, S.low⟩
  · have t_6092 : (((fd h 3 4 : Nat) : Int) == 15) = false := by simp; omega
    have t_9906 : (((fd h 0 3 : Nat) : Int) == 0) = false := by simp; omega
    have tz : (((fd h 0 3 : Nat) : Int) != 0) = true := by simp; omega
    have hN : exchangeN h = (nNone 65 h) := by
      unfold exchangeN
      simp [nbeq, nblt, nble, *]
    unfold Says
    rw [hN]
    clear hN
    go_enter Tryd.func56, Tryd.ntmps56
    have S := SH.start w
    go_wp2_with (first
      | (go_at_call 36; (first | with_reducible refine (field_3_4 h hh _).mono ?_ | with_reducible refine (field_0_3 h hh _).mono ?_); rintro e wf ⟨rfl, hbf⟩; replace S := S.below hbf; clear hbf)
      | (go_at_call 42; refine (none_c _ h hh _).mono ?_; rintro e wf ⟨rfl, hbf⟩; replace S := S.below hbf; clear hbf)
      | ((with_reducible refine wpl_is ?_); first
        | (refine S.alloc rfl 29 rfl (Cel.iv IV.zero) zeroIV ?_; clear S; intro b1 w1 S)
        | (refine S.storeAll rfl 29 _ _ rfl _ (Cel.iv (nNone 65 h).iv) rfl rfl 0 _ rfl rfl (one_iv _) (szIV _) ?_; clear S; intro w2 S; simp only [List.set_cons_zero] at S)))
    (try simp only [Exit.inBlock, Exit.then])
    refine bodyPost_ret (S.results rfl _ _ rfl 0 _ rfl _ Tryd.underlying29 rfl (szIV _)) rfl ⟨rfl, S.low⟩
  · have t_6092 : (((fd h 3 4 : Nat) : Int) == 15) = false := by simp; omega
    have tz : (((fd h 0 3 : Nat) : Int) != 0) = false := by simp; omega
    rw [q4] at bb7
    have bc7 : bits .and .u16 (h : Int) 128 = 0 := bb7
    clear bb7
    have hN : exchangeN h = (nReg 56 0 0 (fd h 3 4) false) := by
      unfold exchangeN
      simp [nbeq, nblt, nble, *]
    unfold Says
    rw [hN]
    clear hN
    go_enter Tryd.func56, Tryd.ntmps56
    have S := SH.start w
    go_wp2_with (first
      | (go_at_call 36; (first | with_reducible refine (field_3_4 h hh _).mono ?_ | with_reducible refine (field_0_3 h hh _).mono ?_); rintro e wf ⟨rfl, hbf⟩; replace S := S.below hbf; clear hbf)
      | (go_at_call 35; refine (reg_c _ _ _ _ _ _).mono ?_; rintro e wf ⟨rfl, hbf⟩; replace S := S.below hbf; clear hbf)
      | ((with_reducible refine wpl_is ?_); first
        | (refine S.alloc rfl 29 rfl (Cel.iv IV.zero) zeroIV ?_; clear S; intro b1 w1 S)
        | (refine S.storeAll rfl 29 _ _ rfl _ (Cel.iv (nReg 56 0 0 (fd h 3 4) false).iv) rfl rfl 0 _ rfl rfl (one_iv _) (szIV _) ?_; clear S; intro w2 S; simp only [List.set_cons_zero] at S)))
    (try simp only [Exit.inBlock, Exit.then])
    refine bodyPost_ret (S.results rfl _ _ rfl 0 _ rfl _ Tryd.underlying29 rfl (szIV _)) rfl ⟨rfl, S.low⟩
  · have t_6092 : (((fd h 3 4 : Nat) : Int) == 15) = false := by simp; omega
    have tz : (((fd h 0 3 : Nat) : Int) != 0) = false := by simp; omega
    rw [q4] at bb7
    have bc7 : bits .and .u16 (h : Int) 128 = 128 := bb7
    clear bb7
    have hN : exchangeN h = (nReg 57 0 0 (fd h 3 4) false) := by
      unfold exchangeN
      simp [nbeq, nblt, nble, *]
    unfold Says
    rw [hN]
    clear hN
    go_enter Tryd.func56, Tryd.ntmps56
    have S := SH.start w
    go_wp2_with (first
      | (go_at_call 36; (first | with_reducible refine (field_3_4 h hh _).mono ?_ | with_reducible refine (field_0_3 h hh _).mono ?_); rintro e wf ⟨rfl, hbf⟩; replace S := S.below hbf; clear hbf)
      | (go_at_call 35; refine (reg_c _ _ _ _ _ _).mono ?_; rintro e wf ⟨rfl, hbf⟩; replace S := S.below hbf; clear hbf)
      | ((with_reducible refine wpl_is ?_); first
        | (refine S.alloc rfl 29 rfl (Cel.iv IV.zero) zeroIV ?_; clear S; intro b1 w1 S)
        | (refine S.storeAll rfl 29 _ _ rfl _ (Cel.iv (nReg 57 0 0 (fd h 3 4) false).iv) rfl rfl 0 _ rfl rfl (one_iv _) (szIV _) ?_; clear S; intro w2 S; simp only [List.set_cons_zero] at S)))
    (try simp only [Exit.inBlock, Exit.then])
    refine bodyPost_ret (S.results rfl _ _ rfl 0 _ rfl _ Tryd.underlying29 rfl (szIV _)) rfl ⟨rfl, S.low⟩
end Go.Proofs.YtblcklknlfofgaaDoor
