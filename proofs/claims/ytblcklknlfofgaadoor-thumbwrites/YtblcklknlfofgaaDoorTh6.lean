/- Stage 8: rows of narrow words, the program's, walked. -/
import Derived.Test.YtblcklknlfofgaaDoorTh2b
namespace Go.Proofs.YtblcklknlfofgaaDoor
open Go.ChangeShapes Go.WideShapes Go.ChangeAt Go.RowKit
set_option linter.unusedVariables false
set_option linter.unusedSimpArgs false

theorem i64_joinr (x y i : Nat) (hx : x % 2 ^ i = 0) (hx1 : x < 2 ^ 32) (hy : y < 2 ^ i) (hi : i ≤ 32) : bits .or .i64 (y : Int) (x : Int) = ((y + x : Nat) : Int) := by
  have h2 : 2 ^ i ≤ 2 ^ 32 := Nat.pow_le_pow_right (by decide) hi
  rw [(bits_nat .i64 33 (by decide) (fun n h1 h2 => by rw [IntKind.wrap_i64]; omega) y x (by omega) (by omega)).2]
  have hq : x = 2 ^ i * (x / 2 ^ i) := by
    have := Nat.div_add_mod x (2 ^ i)
    omega
  rw [Nat.or_comm, hq, ← Nat.two_pow_add_eq_or_of_lt hy (x / 2 ^ i), Nat.add_comm]
theorem list15 (h : Nat) : bits .or .i64 ((fd h 0 8 : Nat) : Int) ((fd h 8 1 : Nat) * 32768 : Int) = ((fd h 0 8 + fd h 8 1 * 32768 : Nat) : Int) := by
  have f1 : fd h 0 8 < 256 := fd_lt h 0 8
  have f2 : fd h 8 1 < 2 := fd_lt h 8 1
  exact i64_joinr (fd h 8 1 * 32768) (fd h 0 8) 8 (by omega) (by omega) (by omega) (by decide)
theorem list14 (h : Nat) : bits .or .i64 ((fd h 0 8 : Nat) : Int) ((fd h 8 1 : Nat) * 16384 : Int) = ((fd h 0 8 + fd h 8 1 * 16384 : Nat) : Int) := by
  have f1 : fd h 0 8 < 256 := fd_lt h 0 8
  have f2 : fd h 8 1 < 2 := fd_lt h 8 1
  exact i64_joinr (fd h 8 1 * 16384) (fd h 0 8) 8 (by omega) (by omega) (by omega) (by decide)
set_option maxHeartbeats 4000000 in
set_option maxRecDepth 100000 in
theorem unary_c (h : Nat) (hh : h < 65536) (op : Nat) (w : World) : Calls Tryd.prog 60 #[.int .i64 op, .int .u16 h] w fun e w' => Says w (unaryN op h) e w' := by
  have f_0_3 : fd h 0 3 < 8 := fd_lt h 0 3
  have f_3_3 : fd h 3 3 < 8 := fd_lt h 3 3
  rcases (show op = 0 ∨ op ≠ 0 by omega) with q1 | q1
  · have t1 : ((op : Int) == 0) = true := by simp; omega
    have hN : unaryN op h = (nNone 64 h) := by
      unfold unaryN
      simp [nbeq, nblt, nble, *]
    unfold Says
    rw [hN]
    clear hN
    go_enter Tryd.func60, Tryd.ntmps60
    have S := SH.start w
    go_wp2_with (first
      | (go_at_call 36; (first | with_reducible refine (field_0_3 h hh _).mono ?_ | with_reducible refine (field_3_3 h hh _).mono ?_); rintro e wf ⟨rfl, hbf⟩; replace S := S.below hbf; clear hbf)
      | (go_at_call 42; refine (none_c _ h hh _).mono ?_; rintro e wf ⟨rfl, hbf⟩; replace S := S.below hbf; clear hbf)
      | ((with_reducible refine wpl_is ?_); first
        | (refine S.alloc rfl 29 rfl (Cel.iv IV.zero) zeroIV ?_; clear S; intro b1 w1 S)
        | (refine S.storeAll rfl 29 _ _ rfl _ (Cel.iv (nNone 64 h).iv) rfl rfl 0 _ rfl rfl (one_iv _) (szIV _) ?_; clear S; intro w2 S; simp only [List.set_cons_zero] at S)))
    (try simp only [Exit.inBlock, Exit.then])
    refine bodyPost_ret (S.results rfl _ _ rfl 0 _ rfl _ Tryd.underlying29 rfl (szIV _)) rfl ⟨rfl, S.low⟩
  · have t1 : ((op : Int) == 0) = false := by simp; omega
    have hN : unaryN op h = (nReg op (fd h 0 3) 0 (fd h 3 3) false) := by
      unfold unaryN
      simp [nbeq, nblt, nble, *]
    unfold Says
    rw [hN]
    clear hN
    go_enter Tryd.func60, Tryd.ntmps60
    have S := SH.start w
    go_wp2_with (first
      | (go_at_call 36; (first | with_reducible refine (field_0_3 h hh _).mono ?_ | with_reducible refine (field_3_3 h hh _).mono ?_); rintro e wf ⟨rfl, hbf⟩; replace S := S.below hbf; clear hbf)
      | (go_at_call 35; refine (reg_c _ _ _ _ _ _).mono ?_; rintro e wf ⟨rfl, hbf⟩; replace S := S.below hbf; clear hbf)
      | ((with_reducible refine wpl_is ?_); first
        | (refine S.alloc rfl 29 rfl (Cel.iv IV.zero) zeroIV ?_; clear S; intro b1 w1 S)
        | (refine S.storeAll rfl 29 _ _ rfl _ (Cel.iv (nReg op (fd h 0 3) 0 (fd h 3 3) false).iv) rfl rfl 0 _ rfl rfl (one_iv _) (szIV _) ?_; clear S; intro w2 S; simp only [List.set_cons_zero] at S)))
    (try simp only [Exit.inBlock, Exit.then])
    refine bodyPost_ret (S.results rfl _ _ rfl 0 _ rfl _ Tryd.underlying29 rfl (szIV _)) rfl ⟨rfl, S.low⟩
set_option maxHeartbeats 4000000 in
set_option maxRecDepth 100000 in
theorem stacked_c (h : Nat) (hh : h < 65536) (hr : h / 512 = 90 ∨ h / 512 = 94) (w : World) : Calls Tryd.prog 61 #[.int .u16 h] w fun e w' => Says w (stackedN h) e w' := by
  have pp := pair_bits h hh
  have l15 := list15 h
  have l14 := list14 h
  have f_0_8 : fd h 0 8 < 256 := fd_lt h 0 8
  have f_8_1 : fd h 8 1 < 2 := fd_lt h 8 1
  rcases (show (fd h 0 8 = 0 ∧ fd h 8 1 = 0) ∨ (fd h 0 8 ≠ 0 ∧ h / 512 = 90) ∨ (fd h 0 8 ≠ 0 ∧ h / 512 = 94) ∨ (fd h 0 8 = 0 ∧ fd h 8 1 ≠ 0 ∧ h / 512 = 90) ∨ (fd h 0 8 = 0 ∧ fd h 8 1 ≠ 0 ∧ h / 512 = 94) by omega) with ⟨q2, q3⟩ | ⟨q2, q4⟩ | ⟨q2, q4⟩ | ⟨q2, q3, q4⟩ | ⟨q2, q3, q4⟩
  · have t_5400 : (((fd h 0 8 : Nat) : Int) == 0) = true := by simp; omega
    have t_8259 : (((fd h 8 1 : Nat) : Int) == 0) = true := by simp; omega
    have hN : stackedN h = (nNone 65 h) := by
      unfold stackedN
      simp [nbeq, nblt, nble, *]
    unfold Says
    rw [hN]
    clear hN
    go_enter Tryd.func61, Tryd.ntmps61
    have S := SH.start w
    go_wp2_with (first
      | (go_at_call 36; (first | with_reducible refine (field_0_8 h hh _).mono ?_ | with_reducible refine (field_8_1 h hh _).mono ?_); rintro e wf ⟨rfl, hbf⟩; replace S := S.below hbf; clear hbf)
      | (go_at_call 42; refine (none_c _ h hh _).mono ?_; rintro e wf ⟨rfl, hbf⟩; replace S := S.below hbf; clear hbf)
      | ((with_reducible refine wpl_is ?_); first
        | (refine S.alloc rfl 29 rfl (Cel.iv IV.zero) zeroIV ?_; clear S; intro b1 w1 S)
        | (refine S.storeAll rfl 29 _ _ rfl _ (Cel.iv (nNone 65 h).iv) rfl rfl 0 _ rfl rfl (one_iv _) (szIV _) ?_; clear S; intro w2 S; simp only [List.set_cons_zero] at S)))
    (try simp only [Exit.inBlock, Exit.then])
    refine bodyPost_ret (S.results rfl _ _ rfl 0 _ rfl _ Tryd.underlying29 rfl (szIV _)) rfl ⟨rfl, S.low⟩
  · have t_5400 : (((fd h 0 8 : Nat) : Int) == 0) = false := by simp; omega
    rw [q4] at pp
    have pp2 : bits .and .u16 (bits .andNot .u16 (h : Int) 256) 65280 = 46080 := pp
    clear pp
    have hN : stackedN h = (NV.mk 53 false 14 0 13 0 0 false (fd h 0 8 + fd h 8 1 * 16384) true true) := by
      unfold stackedN
      simp [nbeq, nblt, nble, *]
    unfold Says
    rw [hN]
    clear hN
    go_enter Tryd.func61, Tryd.ntmps61
    have S := SH.start w
    go_wp2_with (first
      | (go_at_call 36; (first | with_reducible refine (field_0_8 h hh _).mono ?_ | with_reducible refine (field_8_1 h hh _).mono ?_); rintro e wf ⟨rfl, hbf⟩; replace S := S.below hbf; clear hbf)
      | ((with_reducible refine wpl_is ?_); first
        | (refine S.alloc rfl 29 rfl (Cel.iv IV.zero) zeroIV ?_; clear S; intro b1 w1 S)
        | (refine S.storeAll rfl 29 _ _ rfl _ (Cel.iv (NV.mk 53 false 14 0 13 0 0 false (fd h 0 8 + fd h 8 1 * 16384) true true).iv) rfl rfl 0 _ rfl rfl (one_iv _) (szIV _) ?_; clear S; intro w2 S; simp only [List.set_cons_zero] at S)))
    (try simp only [Exit.inBlock, Exit.then])
    refine bodyPost_ret (S.results rfl _ _ rfl 0 _ rfl _ Tryd.underlying29 rfl (szIV _)) rfl ⟨rfl, S.low⟩
  · have t_5400 : (((fd h 0 8 : Nat) : Int) == 0) = false := by simp; omega
    rw [q4] at pp
    have pp2 : bits .and .u16 (bits .andNot .u16 (h : Int) 256) 65280 = 48128 := pp
    clear pp
    have hN : stackedN h = (NV.mk 52 false 14 0 13 0 0 false (fd h 0 8 + fd h 8 1 * 32768) true false) := by
      unfold stackedN
      simp [nbeq, nblt, nble, *]
    unfold Says
    rw [hN]
    clear hN
    go_enter Tryd.func61, Tryd.ntmps61
    have S := SH.start w
    go_wp2_with (first
      | (go_at_call 36; (first | with_reducible refine (field_0_8 h hh _).mono ?_ | with_reducible refine (field_8_1 h hh _).mono ?_); rintro e wf ⟨rfl, hbf⟩; replace S := S.below hbf; clear hbf)
      | ((with_reducible refine wpl_is ?_); first
        | (refine S.alloc rfl 29 rfl (Cel.iv IV.zero) zeroIV ?_; clear S; intro b1 w1 S)
        | (refine S.storeAll rfl 29 _ _ rfl _ (Cel.iv (NV.mk 52 false 14 0 13 0 0 false (fd h 0 8 + fd h 8 1 * 32768) true false).iv) rfl rfl 0 _ rfl rfl (one_iv _) (szIV _) ?_; clear S; intro w2 S; simp only [List.set_cons_zero] at S)))
    (try simp only [Exit.inBlock, Exit.then])
    refine bodyPost_ret (S.results rfl _ _ rfl 0 _ rfl _ Tryd.underlying29 rfl (szIV _)) rfl ⟨rfl, S.low⟩
  · have t_5400 : (((fd h 0 8 : Nat) : Int) == 0) = true := by simp; omega
    have t_8259 : (((fd h 8 1 : Nat) : Int) == 0) = false := by simp; omega
    rw [q4] at pp
    have pp2 : bits .and .u16 (bits .andNot .u16 (h : Int) 256) 65280 = 46080 := pp
    clear pp
    have hN : stackedN h = (NV.mk 53 false 14 0 13 0 0 false (fd h 0 8 + fd h 8 1 * 16384) true true) := by
      unfold stackedN
      simp [nbeq, nblt, nble, *]
    unfold Says
    rw [hN]
    clear hN
    clear q2 q3
    go_enter Tryd.func61, Tryd.ntmps61
    have S := SH.start w
    go_wp2_with (first
      | (go_at_call 36; (first | with_reducible refine (field_0_8 h hh _).mono ?_ | with_reducible refine (field_8_1 h hh _).mono ?_); rintro e wf ⟨rfl, hbf⟩; replace S := S.below hbf; clear hbf)
      | ((with_reducible refine wpl_is ?_); first
        | (refine S.alloc rfl 29 rfl (Cel.iv IV.zero) zeroIV ?_; clear S; intro b1 w1 S)
        | (refine S.storeAll rfl 29 _ _ rfl _ (Cel.iv (NV.mk 53 false 14 0 13 0 0 false (fd h 0 8 + fd h 8 1 * 16384) true true).iv) rfl rfl 0 _ rfl rfl (one_iv _) (szIV _) ?_; clear S; intro w2 S; simp only [List.set_cons_zero] at S)))
    (try simp only [Exit.inBlock, Exit.then])
    refine bodyPost_ret (S.results rfl _ _ rfl 0 _ rfl _ Tryd.underlying29 rfl (szIV _)) rfl ⟨rfl, S.low⟩
  · have t_5400 : (((fd h 0 8 : Nat) : Int) == 0) = true := by simp; omega
    have t_8259 : (((fd h 8 1 : Nat) : Int) == 0) = false := by simp; omega
    rw [q4] at pp
    have pp2 : bits .and .u16 (bits .andNot .u16 (h : Int) 256) 65280 = 48128 := pp
    clear pp
    have hN : stackedN h = (NV.mk 52 false 14 0 13 0 0 false (fd h 0 8 + fd h 8 1 * 32768) true false) := by
      unfold stackedN
      simp [nbeq, nblt, nble, *]
    unfold Says
    rw [hN]
    clear hN
    clear q2 q3
    go_enter Tryd.func61, Tryd.ntmps61
    have S := SH.start w
    go_wp2_with (first
      | (go_at_call 36; (first | with_reducible refine (field_0_8 h hh _).mono ?_ | with_reducible refine (field_8_1 h hh _).mono ?_); rintro e wf ⟨rfl, hbf⟩; replace S := S.below hbf; clear hbf)
      | ((with_reducible refine wpl_is ?_); first
        | (refine S.alloc rfl 29 rfl (Cel.iv IV.zero) zeroIV ?_; clear S; intro b1 w1 S)
        | (refine S.storeAll rfl 29 _ _ rfl _ (Cel.iv (NV.mk 52 false 14 0 13 0 0 false (fd h 0 8 + fd h 8 1 * 32768) true false).iv) rfl rfl 0 _ rfl rfl (one_iv _) (szIV _) ?_; clear S; intro w2 S; simp only [List.set_cons_zero] at S)))
    (try simp only [Exit.inBlock, Exit.then])
    refine bodyPost_ret (S.results rfl _ _ rfl 0 _ rfl _ Tryd.underlying29 rfl (szIV _)) rfl ⟨rfl, S.low⟩
end Go.Proofs.YtblcklknlfofgaaDoor
