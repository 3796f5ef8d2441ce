/- Stage 8: rows of narrow words, the program's, walked. -/
import Derived.Test.YtblcklknlfofgaaDoorTh4
import Derived.Test.YtblcklknlfofgaaDoorTh5
import Derived.Test.YtblcklknlfofgaaDoorThB
import Derived.Test.YtblcklknlfofgaaDoorThJ
namespace Go.Proofs.YtblcklknlfofgaaDoor
open Go.ChangeShapes Go.WideShapes Go.ChangeAt Go.RowKit
set_option linter.unusedVariables false
set_option linter.unusedSimpArgs false

set_option maxHeartbeats 4000000 in
set_option maxRecDepth 100000 in
theorem registers_c (h : Nat) (hh : h < 65536) (hr : h / 2048 = 8) (w : World) (HT : LT w) : Calls Tryd.prog 33 #[.int .u16 h] w fun e w' => Says w (registersN h) e w' := by
  have pb := page_bits h hh
  rcases (show h / 256 = 64 ∨ h / 256 = 65 ∨ h / 256 = 66 ∨ h / 256 = 67 ∨ h / 256 = 68 ∨ h / 256 = 69 ∨ h / 256 = 70 ∨ h / 256 = 71 by omega) with q1 | q1 | q1 | q1 | q1 | q1 | q1 | q1
  · rw [q1] at pb
    have pb2 : bits .and .u16 (h : Int) 65280 = 16384 := pb
    clear pb
    have hN : registersN h = (lowN h) := by
      unfold registersN
      simp [nbeq, nblt, nble, *]
    unfold Says
    rw [hN]
    clear hN
    go_enter Tryd.func33, Tryd.ntmps33
    have S := SH.start w
    go_wp2_with (first
      | (go_at_call 57; refine (low_c h hh _ (HT.next S.low)).mono ?_; rintro e wf ⟨rfl, hbf⟩; replace S := S.below hbf; clear hbf)
      | (go_at_call 55; refine (high_c h hh (by omega) _).mono ?_; rintro e wf ⟨rfl, hbf⟩; replace S := S.below hbf; clear hbf)
      | (go_at_call 56; refine (exchange_c h hh _).mono ?_; rintro e wf ⟨rfl, hbf⟩; replace S := S.below hbf; clear hbf)
      | ((with_reducible refine wpl_is ?_); first
        | (refine S.alloc rfl 29 rfl (Cel.iv IV.zero) zeroIV ?_; clear S; intro b1 w1 S)
        | (refine S.storeAll rfl 29 _ _ rfl _ (Cel.iv (lowN h).iv) rfl rfl 0 _ rfl rfl (one_iv _) (szIV _) ?_; clear S; intro w2 S; simp only [List.set_cons_zero] at S)))
    (try simp only [Exit.inBlock, Exit.then])
    refine bodyPost_ret (S.results rfl _ _ rfl 0 _ rfl _ Tryd.underlying29 rfl (szIV _)) rfl ⟨rfl, S.low⟩
  · rw [q1] at pb
    have pb2 : bits .and .u16 (h : Int) 65280 = 16640 := pb
    clear pb
    have hN : registersN h = (lowN h) := by
      unfold registersN
      simp [nbeq, nblt, nble, *]
    unfold Says
    rw [hN]
    clear hN
    go_enter Tryd.func33, Tryd.ntmps33
    have S := SH.start w
    go_wp2_with (first
      | (go_at_call 57; refine (low_c h hh _ (HT.next S.low)).mono ?_; rintro e wf ⟨rfl, hbf⟩; replace S := S.below hbf; clear hbf)
      | (go_at_call 55; refine (high_c h hh (by omega) _).mono ?_; rintro e wf ⟨rfl, hbf⟩; replace S := S.below hbf; clear hbf)
      | (go_at_call 56; refine (exchange_c h hh _).mono ?_; rintro e wf ⟨rfl, hbf⟩; replace S := S.below hbf; clear hbf)
      | ((with_reducible refine wpl_is ?_); first
        | (refine S.alloc rfl 29 rfl (Cel.iv IV.zero) zeroIV ?_; clear S; intro b1 w1 S)
        | (refine S.storeAll rfl 29 _ _ rfl _ (Cel.iv (lowN h).iv) rfl rfl 0 _ rfl rfl (one_iv _) (szIV _) ?_; clear S; intro w2 S; simp only [List.set_cons_zero] at S)))
    (try simp only [Exit.inBlock, Exit.then])
    refine bodyPost_ret (S.results rfl _ _ rfl 0 _ rfl _ Tryd.underlying29 rfl (szIV _)) rfl ⟨rfl, S.low⟩
  · rw [q1] at pb
    have pb2 : bits .and .u16 (h : Int) 65280 = 16896 := pb
    clear pb
    have hN : registersN h = (lowN h) := by
      unfold registersN
      simp [nbeq, nblt, nble, *]
    unfold Says
    rw [hN]
    clear hN
    go_enter Tryd.func33, Tryd.ntmps33
    have S := SH.start w
    go_wp2_with (first
      | (go_at_call 57; refine (low_c h hh _ (HT.next S.low)).mono ?_; rintro e wf ⟨rfl, hbf⟩; replace S := S.below hbf; clear hbf)
      | (go_at_call 55; refine (high_c h hh (by omega) _).mono ?_; rintro e wf ⟨rfl, hbf⟩; replace S := S.below hbf; clear hbf)
      | (go_at_call 56; refine (exchange_c h hh _).mono ?_; rintro e wf ⟨rfl, hbf⟩; replace S := S.below hbf; clear hbf)
      | ((with_reducible refine wpl_is ?_); first
        | (refine S.alloc rfl 29 rfl (Cel.iv IV.zero) zeroIV ?_; clear S; intro b1 w1 S)
        | (refine S.storeAll rfl 29 _ _ rfl _ (Cel.iv (lowN h).iv) rfl rfl 0 _ rfl rfl (one_iv _) (szIV _) ?_; clear S; intro w2 S; simp only [List.set_cons_zero] at S)))
    (try simp only [Exit.inBlock, Exit.then])
    refine bodyPost_ret (S.results rfl _ _ rfl 0 _ rfl _ Tryd.underlying29 rfl (szIV _)) rfl ⟨rfl, S.low⟩
  · rw [q1] at pb
    have pb2 : bits .and .u16 (h : Int) 65280 = 17152 := pb
    clear pb
    have hN : registersN h = (lowN h) := by
      unfold registersN
      simp [nbeq, nblt, nble, *]
    unfold Says
    rw [hN]
    clear hN
    go_enter Tryd.func33, Tryd.ntmps33
    have S := SH.start w
    go_wp2_with (first
      | (go_at_call 57; refine (low_c h hh _ (HT.next S.low)).mono ?_; rintro e wf ⟨rfl, hbf⟩; replace S := S.below hbf; clear hbf)
      | (go_at_call 55; refine (high_c h hh (by omega) _).mono ?_; rintro e wf ⟨rfl, hbf⟩; replace S := S.below hbf; clear hbf)
      | (go_at_call 56; refine (exchange_c h hh _).mono ?_; rintro e wf ⟨rfl, hbf⟩; replace S := S.below hbf; clear hbf)
      | ((with_reducible refine wpl_is ?_); first
        | (refine S.alloc rfl 29 rfl (Cel.iv IV.zero) zeroIV ?_; clear S; intro b1 w1 S)
        | (refine S.storeAll rfl 29 _ _ rfl _ (Cel.iv (lowN h).iv) rfl rfl 0 _ rfl rfl (one_iv _) (szIV _) ?_; clear S; intro w2 S; simp only [List.set_cons_zero] at S)))
    (try simp only [Exit.inBlock, Exit.then])
    refine bodyPost_ret (S.results rfl _ _ rfl 0 _ rfl _ Tryd.underlying29 rfl (szIV _)) rfl ⟨rfl, S.low⟩
  · rw [q1] at pb
    have pb2 : bits .and .u16 (h : Int) 65280 = 17408 := pb
    clear pb
    have hN : registersN h = (highN h) := by
      unfold registersN
      simp [nbeq, nblt, nble, *]
    unfold Says
    rw [hN]
    clear hN
    go_enter Tryd.func33, Tryd.ntmps33
    have S := SH.start w
    go_wp2_with (first
      | (go_at_call 57; refine (low_c h hh _ (HT.next S.low)).mono ?_; rintro e wf ⟨rfl, hbf⟩; replace S := S.below hbf; clear hbf)
      | (go_at_call 55; refine (high_c h hh (by omega) _).mono ?_; rintro e wf ⟨rfl, hbf⟩; replace S := S.below hbf; clear hbf)
      | (go_at_call 56; refine (exchange_c h hh _).mono ?_; rintro e wf ⟨rfl, hbf⟩; replace S := S.below hbf; clear hbf)
      | ((with_reducible refine wpl_is ?_); first
        | (refine S.alloc rfl 29 rfl (Cel.iv IV.zero) zeroIV ?_; clear S; intro b1 w1 S)
        | (refine S.storeAll rfl 29 _ _ rfl _ (Cel.iv (highN h).iv) rfl rfl 0 _ rfl rfl (one_iv _) (szIV _) ?_; clear S; intro w2 S; simp only [List.set_cons_zero] at S)))
    (try simp only [Exit.inBlock, Exit.then])
    refine bodyPost_ret (S.results rfl _ _ rfl 0 _ rfl _ Tryd.underlying29 rfl (szIV _)) rfl ⟨rfl, S.low⟩
  · rw [q1] at pb
    have pb2 : bits .and .u16 (h : Int) 65280 = 17664 := pb
    clear pb
    have hN : registersN h = (highN h) := by
      unfold registersN
      simp [nbeq, nblt, nble, *]
    unfold Says
    rw [hN]
    clear hN
    go_enter Tryd.func33, Tryd.ntmps33
    have S := SH.start w
    go_wp2_with (first
      | (go_at_call 57; refine (low_c h hh _ (HT.next S.low)).mono ?_; rintro e wf ⟨rfl, hbf⟩; replace S := S.below hbf; clear hbf)
      | (go_at_call 55; refine (high_c h hh (by omega) _).mono ?_; rintro e wf ⟨rfl, hbf⟩; replace S := S.below hbf; clear hbf)
      | (go_at_call 56; refine (exchange_c h hh _).mono ?_; rintro e wf ⟨rfl, hbf⟩; replace S := S.below hbf; clear hbf)
      | ((with_reducible refine wpl_is ?_); first
        | (refine S.alloc rfl 29 rfl (Cel.iv IV.zero) zeroIV ?_; clear S; intro b1 w1 S)
        | (refine S.storeAll rfl 29 _ _ rfl _ (Cel.iv (highN h).iv) rfl rfl 0 _ rfl rfl (one_iv _) (szIV _) ?_; clear S; intro w2 S; simp only [List.set_cons_zero] at S)))
    (try simp only [Exit.inBlock, Exit.then])
    refine bodyPost_ret (S.results rfl _ _ rfl 0 _ rfl _ Tryd.underlying29 rfl (szIV _)) rfl ⟨rfl, S.low⟩
  · rw [q1] at pb
    have pb2 : bits .and .u16 (h : Int) 65280 = 17920 := pb
    clear pb
    have hN : registersN h = (highN h) := by
      unfold registersN
      simp [nbeq, nblt, nble, *]
    unfold Says
    rw [hN]
    clear hN
    go_enter Tryd.func33, Tryd.ntmps33
    have S := SH.start w
    go_wp2_with (first
      | (go_at_call 57; refine (low_c h hh _ (HT.next S.low)).mono ?_; rintro e wf ⟨rfl, hbf⟩; replace S := S.below hbf; clear hbf)
      | (go_at_call 55; refine (high_c h hh (by omega) _).mono ?_; rintro e wf ⟨rfl, hbf⟩; replace S := S.below hbf; clear hbf)
      | (go_at_call 56; refine (exchange_c h hh _).mono ?_; rintro e wf ⟨rfl, hbf⟩; replace S := S.below hbf; clear hbf)
      | ((with_reducible refine wpl_is ?_); first
        | (refine S.alloc rfl 29 rfl (Cel.iv IV.zero) zeroIV ?_; clear S; intro b1 w1 S)
        | (refine S.storeAll rfl 29 _ _ rfl _ (Cel.iv (highN h).iv) rfl rfl 0 _ rfl rfl (one_iv _) (szIV _) ?_; clear S; intro w2 S; simp only [List.set_cons_zero] at S)))
    (try simp only [Exit.inBlock, Exit.then])
    refine bodyPost_ret (S.results rfl _ _ rfl 0 _ rfl _ Tryd.underlying29 rfl (szIV _)) rfl ⟨rfl, S.low⟩
  · rw [q1] at pb
    have pb2 : bits .and .u16 (h : Int) 65280 = 18176 := pb
    clear pb
    have hN : registersN h = (exchangeN h) := by
      unfold registersN
      simp [nbeq, nblt, nble, *]
    unfold Says
    rw [hN]
    clear hN
    go_enter Tryd.func33, Tryd.ntmps33
    have S := SH.start w
    go_wp2_with (first
      | (go_at_call 57; refine (low_c h hh _ (HT.next S.low)).mono ?_; rintro e wf ⟨rfl, hbf⟩; replace S := S.below hbf; clear hbf)
      | (go_at_call 55; refine (high_c h hh (by omega) _).mono ?_; rintro e wf ⟨rfl, hbf⟩; replace S := S.below hbf; clear hbf)
      | (go_at_call 56; refine (exchange_c h hh _).mono ?_; rintro e wf ⟨rfl, hbf⟩; replace S := S.below hbf; clear hbf)
      | ((with_reducible refine wpl_is ?_); first
        | (refine S.alloc rfl 29 rfl (Cel.iv IV.zero) zeroIV ?_; clear S; intro b1 w1 S)
        | (refine S.storeAll rfl 29 _ _ rfl _ (Cel.iv (exchangeN h).iv) rfl rfl 0 _ rfl rfl (one_iv _) (szIV _) ?_; clear S; intro w2 S; simp only [List.set_cons_zero] at S)))
    (try simp only [Exit.inBlock, Exit.then])
    refine bodyPost_ret (S.results rfl _ _ rfl 0 _ rfl _ Tryd.underlying29 rfl (szIV _)) rfl ⟨rfl, S.low⟩
set_option maxHeartbeats 4000000 in
set_option maxRecDepth 100000 in
theorem conditional_c (h : Nat) (hh : h < 65536) (hr : h / 2048 = 26 ∨ h / 2048 = 27) (w : World) : Calls Tryd.prog 40 #[.int .u16 h] w fun e w' => Says w (conditionalN h) e w' := by
  have pb := page_bits h hh
  have f_8_4 : fd h 8 4 < 16 := fd_lt h 8 4
  have f_0_8 : fd h 0 8 < 256 := fd_lt h 0 8
  have fe : fd h 8 4 = h / 256 % 16 := by simp [fd]
  rcases (show fd h 8 4 < 14 ∨ h / 256 = 223 ∨ h / 256 = 222 by omega) with q1 | q1 | q1
  · clear fe
    have t_7019 : decide (((fd h 8 4 : Nat) : Int) < 14) = true := by simp; omega
    have hN : conditionalN h = (branchN (fd h 8 4) h 8) := by
      unfold conditionalN
      simp [nbeq, nblt, nble, *]
    unfold Says
    rw [hN]
    clear hN
    go_enter Tryd.func40, Tryd.ntmps40
    have S := SH.start w
    go_wp2_with (first
      | (go_at_call 36; (first | with_reducible refine (field_8_4 h hh _).mono ?_ | with_reducible refine (field_0_8 h hh _).mono ?_); rintro e wf ⟨rfl, hbf⟩; replace S := S.below hbf; clear hbf)
      | (go_at_call 41; refine (branch_8 h hh _ (fd h 8 4) rfl _).mono ?_; rintro e wf ⟨rfl, hbf⟩; replace S := S.below hbf; clear hbf)
      | ((with_reducible refine wpl_is ?_); first
        | (refine S.alloc rfl 29 rfl (Cel.iv IV.zero) zeroIV ?_; clear S; intro b1 w1 S)
        | (refine S.storeAll rfl 29 _ _ rfl _ (Cel.iv (branchN (fd h 8 4) h 8).iv) rfl rfl 0 _ rfl rfl (one_iv _) (szIV _) ?_; clear S; intro w2 S; simp only [List.set_cons_zero] at S)))
    (try simp only [Exit.inBlock, Exit.then])
    refine bodyPost_ret (S.results rfl _ _ rfl 0 _ rfl _ Tryd.underlying29 rfl (szIV _)) rfl ⟨rfl, S.low⟩
  · have q2 : ¬ fd h 8 4 < 14 := by omega
    rw [q1] at pb
    have pb2 : bits .and .u16 (h : Int) 65280 = 57088 := pb
    clear pb
    have t_7019 : decide (((fd h 8 4 : Nat) : Int) < 14) = false := by simp; omega
    have hN : conditionalN h = (nNum 62 (fd h 0 8)) := by
      unfold conditionalN
      simp [nbeq, nblt, nble, *]
    unfold Says
    rw [hN]
    clear hN
    go_enter Tryd.func40, Tryd.ntmps40
    have S := SH.start w
    go_wp2_with (first
      | (go_at_call 36; (first | with_reducible refine (field_8_4 h hh _).mono ?_ | with_reducible refine (field_0_8 h hh _).mono ?_); rintro e wf ⟨rfl, hbf⟩; replace S := S.below hbf; clear hbf)
      | (go_at_call 62; refine (num_c _ _ (by omega) (by omega) _).mono ?_; rintro e wf ⟨rfl, hbf⟩; replace S := S.below hbf; clear hbf)
      | ((with_reducible refine wpl_is ?_); first
        | (refine S.alloc rfl 29 rfl (Cel.iv IV.zero) zeroIV ?_; clear S; intro b1 w1 S)
        | (refine S.storeAll rfl 29 _ _ rfl _ (Cel.iv (nNum 62 (fd h 0 8)).iv) rfl rfl 0 _ rfl rfl (one_iv _) (szIV _) ?_; clear S; intro w2 S; simp only [List.set_cons_zero] at S)))
    (try simp only [Exit.inBlock, Exit.then])
    refine bodyPost_ret (S.results rfl _ _ rfl 0 _ rfl _ Tryd.underlying29 rfl (szIV _)) rfl ⟨rfl, S.low⟩
  · have q2 : ¬ fd h 8 4 < 14 := by omega
    rw [q1] at pb
    have pb2 : bits .and .u16 (h : Int) 65280 = 56832 := pb
    clear pb
    have t_7019 : decide (((fd h 8 4 : Nat) : Int) < 14) = false := by simp; omega
    have hN : conditionalN h = (nNone 64 h) := by
      unfold conditionalN
      simp [nbeq, nblt, nble, *]
    unfold Says
    rw [hN]
    clear hN
    go_enter Tryd.func40, Tryd.ntmps40
    have S := SH.start w
    go_wp2_with (first
      | (go_at_call 36; (first | with_reducible refine (field_8_4 h hh _).mono ?_ | with_reducible refine (field_0_8 h hh _).mono ?_); rintro e wf ⟨rfl, hbf⟩; replace S := S.below hbf; clear hbf)
      | (go_at_call 42; refine (none_c _ h hh _).mono ?_; rintro e wf ⟨rfl, hbf⟩; replace S := S.below hbf; clear hbf)
      | ((with_reducible refine wpl_is ?_); first
        | (refine S.alloc rfl 29 rfl (Cel.iv IV.zero) zeroIV ?_; clear S; intro b1 w1 S)
        | (refine S.storeAll rfl 29 _ _ rfl _ (Cel.iv (nNone 64 h).iv) rfl rfl 0 _ rfl rfl (one_iv _) (szIV _) ?_; clear S; intro w2 S; simp only [List.set_cons_zero] at S)))
    (try simp only [Exit.inBlock, Exit.then])
    refine bodyPost_ret (S.results rfl _ _ rfl 0 _ rfl _ Tryd.underlying29 rfl (szIV _)) rfl ⟨rfl, S.low⟩
set_option maxHeartbeats 4000000 in
set_option maxRecDepth 100000 in
theorem hint_c (h : Nat) (hh : h < 65536) (w : World) (HT : LT w) : Calls Tryd.prog 63 #[.int .u16 h] w fun e w' => Says w (hintN h) e w' := by
  have f_4_4 : fd h 4 4 < 16 := fd_lt h 4 4
  have f_0_4 : fd h 0 4 < 16 := fd_lt h 0 4
  have hj : bits .or .i64 ((fd h 4 4 : Nat) * 16 : Int) ((fd h 0 4 : Nat) : Int) = ((fd h 4 4 * 16 + fd h 0 4 : Nat) : Int) := i64_join (fd h 4 4 * 16) (fd h 0 4) 4 (by omega) (by omega) (by omega) (by decide)
  rcases (show fd h 0 4 = 0 ∨ fd h 0 4 ≠ 0 by omega) with q2 | q2
  rotate_left 1
  rcases (Bool.eq_false_or_eq_true (itOk (fd h 4 4) (fd h 0 4))) with q3 | q3
  rotate_left 2
  · have t_6601 : (((fd h 0 4 : Nat) : Int) == 0) = true := by simp; omega
    have hN : hintN h = (nNum 61 (fd h 4 4)) := by
      unfold hintN
      simp [nbeq, nblt, nble, *]
    unfold Says
    rw [hN]
    clear hN
    go_enter Tryd.func63, Tryd.ntmps63
    have S := SH.start w
    go_wp2_with (first
      | (go_at_call 36; (first | with_reducible refine (field_4_4 h hh _).mono ?_ | with_reducible refine (field_0_4 h hh _).mono ?_); rintro e wf ⟨rfl, hbf⟩; replace S := S.below hbf; clear hbf)
      | (go_at_call 62; refine (num_c _ _ (by omega) (by omega) _).mono ?_; rintro e wf ⟨rfl, hbf⟩; replace S := S.below hbf; clear hbf)
      | ((with_reducible refine wpl_is ?_); first
        | (refine S.alloc rfl 29 rfl (Cel.iv IV.zero) zeroIV ?_; clear S; intro b1 w1 S)
        | (refine S.storeAll rfl 29 _ _ rfl _ (Cel.iv (nNum 61 (fd h 4 4)).iv) rfl rfl 0 _ rfl rfl (one_iv _) (szIV _) ?_; clear S; intro w2 S; simp only [List.set_cons_zero] at S)))
    (try simp only [Exit.inBlock, Exit.then])
    refine bodyPost_ret (S.results rfl _ _ rfl 0 _ rfl _ Tryd.underlying29 rfl (szIV _)) rfl ⟨rfl, S.low⟩
  · have t_6601 : (((fd h 0 4 : Nat) : Int) == 0) = false := by simp; omega
    have hN : hintN h = (nNum 60 (fd h 4 4 * 16 + fd h 0 4)) := by
      unfold hintN
      simp [nbeq, nblt, nble, *]
    unfold Says
    rw [hN]
    clear hN
    go_enter Tryd.func63, Tryd.ntmps63
    have S := SH.start w
    go_wp2_with (first
      | (go_at_call 36; (first | with_reducible refine (field_4_4 h hh _).mono ?_ | with_reducible refine (field_0_4 h hh _).mono ?_); rintro e wf ⟨rfl, hbf⟩; replace S := S.below hbf; clear hbf)
      | (go_at_call 71; refine (it_c (fd h 4 4) (fd h 0 4) (by omega) (by omega) (by omega) _ (HT.next S.low)).mono ?_; rw [q3]; rintro e wf ⟨⟨vv, rfl⟩, hbf⟩; replace S := S.below hbf; clear hbf)
      | (go_at_call 62; refine (num_c _ _ (by omega) (by omega) _).mono ?_; rintro e wf ⟨rfl, hbf⟩; replace S := S.below hbf; clear hbf)
      | ((with_reducible refine wpl_is ?_); first
        | (refine S.alloc rfl 29 rfl (Cel.iv IV.zero) zeroIV ?_; clear S; intro b1 w1 S)
        | (refine S.storeAll rfl 29 _ _ rfl _ (Cel.iv (nNum 60 (fd h 4 4 * 16 + fd h 0 4)).iv) rfl rfl 0 _ rfl rfl (one_iv _) (szIV _) ?_; clear S; intro w2 S; simp only [List.set_cons_zero] at S)))
    (try simp only [Exit.inBlock, Exit.then])
    refine bodyPost_ret (S.results rfl _ _ rfl 0 _ rfl _ Tryd.underlying29 rfl (szIV _)) rfl ⟨rfl, S.low⟩
  · have t_6601 : (((fd h 0 4 : Nat) : Int) == 0) = false := by simp; omega
    have hN : hintN h = (nNone 65 h) := by
      unfold hintN
      simp [nbeq, nblt, nble, *]
    unfold Says
    rw [hN]
    clear hN
    go_enter Tryd.func63, Tryd.ntmps63
    have S := SH.start w
    go_wp2_with (first
      | (go_at_call 36; (first | with_reducible refine (field_4_4 h hh _).mono ?_ | with_reducible refine (field_0_4 h hh _).mono ?_); rintro e wf ⟨rfl, hbf⟩; replace S := S.below hbf; clear hbf)
      | (go_at_call 71; refine (it_c (fd h 4 4) (fd h 0 4) (by omega) (by omega) (by omega) _ (HT.next S.low)).mono ?_; rw [q3]; rintro e wf ⟨⟨vv, rfl⟩, hbf⟩; replace S := S.below hbf; clear hbf)
      | (go_at_call 42; refine (none_c _ h hh _).mono ?_; rintro e wf ⟨rfl, hbf⟩; replace S := S.below hbf; clear hbf)
      | ((with_reducible refine wpl_is ?_); first
        | (refine S.alloc rfl 29 rfl (Cel.iv IV.zero) zeroIV ?_; clear S; intro b1 w1 S)
        | (refine S.storeAll rfl 29 _ _ rfl _ (Cel.iv (nNone 65 h).iv) rfl rfl 0 _ rfl rfl (one_iv _) (szIV _) ?_; clear S; intro w2 S; simp only [List.set_cons_zero] at S)))
    (try simp only [Exit.inBlock, Exit.then])
    refine bodyPost_ret (S.results rfl _ _ rfl 0 _ rfl _ Tryd.underlying29 rfl (szIV _)) rfl ⟨rfl, S.low⟩
end Go.Proofs.YtblcklknlfofgaaDoor
