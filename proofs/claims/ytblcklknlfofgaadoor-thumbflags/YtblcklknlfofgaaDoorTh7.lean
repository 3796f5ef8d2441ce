/- Stage 8: rows of narrow words, the program's, walked. -/
import Derived.Test.YtblcklknlfofgaaDoorTh2b
namespace Go.Proofs.YtblcklknlfofgaaDoor
open Go.ChangeShapes Go.WideShapes Go.ChangeAt Go.RowKit
set_option linter.unusedVariables false
set_option linter.unusedSimpArgs false

set_option maxHeartbeats 4000000 in
set_option maxRecDepth 100000 in
theorem many_0 (h : Nat) (hh : h < 65536) (q0 : fd h 8 3 = 0) (hr : h / 2048 = 24 ∨ h / 2048 = 25) (w : World) : Calls Tryd.prog 39 #[.int .u16 h] w fun e w' => Says w (manyN h) e w' := by
  have rb := row_bits h hh
  have f_0_8 : fd h 0 8 < 256 := fd_lt h 0 8
  have g1 : fd (fd h 0 8) 0 1 < 2 := fd_lt _ _ 1
  rcases (show fd h 0 8 = 0 ∨ fd h 0 8 ≠ 0 by omega) with q2 | q2
  · have CO : Hid (∀ w1, Calls Tryd.prog 36 #[.int .u16 (h : Int), .int .i64 8, .int .i64 3] w1 fun e w' => e = .returned (.int .i64 0) ∧ Below w1.heap.size w1 w') := fun w1 => by
      have := field_8_3 h hh w1
      rw [q0] at this
      exact this
    have hb1 : bits .and .i64 (((fd h 0 8 : Nat) : Int)) 1 = ((fd (fd h 0 8) 0 1 : Nat) : Int) := by
      have := i64_bit (fd h 0 8) 0 (by omega)
      simpa using this
    have t_5400 : (((fd h 0 8 : Nat) : Int) == 0) = true := by simp; omega
    have hx1 : fd (fd h 0 8) 0 1 = 0 := by rw [q2]; simp [fd]
    have t_1915 : (((fd (fd h 0 8) 0 1 : Nat) : Int) != 0) = false := by simp; omega
    have hN : manyN h = (nNone 65 h) := by
      unfold manyN
      simp [nbeq, nblt, nble, *]
    unfold Says
    rw [hN]
    clear hN
    clear hx1
    clear q2
    go_enter Tryd.func39, Tryd.ntmps39
    have S := SH.start w
    go_wp2_with (first
      | (go_at_call 36; (first | with_reducible refine (field_0_8 h hh _).mono ?_); rintro e wf ⟨rfl, hbf⟩; replace S := S.below hbf; clear hbf)
      | (go_at_call 36; with_reducible refine (CO.out _).mono ?_; rintro e wf ⟨rfl, hbf⟩; replace S := S.below hbf; clear hbf)
      | (go_at_call 35; refine (reg_c _ _ _ _ _ _).mono ?_; rintro e wf ⟨rfl, hbf⟩; replace S := S.below hbf; clear hbf)
      | (go_at_call 54; refine (imm_c _ _ _ _ _ (by omega) (by omega) _).mono ?_; rintro e wf ⟨rfl, hbf⟩; replace S := S.below hbf; clear hbf)
      | (go_at_call 42; refine (none_c _ h hh _).mono ?_; rintro e wf ⟨rfl, hbf⟩; replace S := S.below hbf; clear hbf)
      | (go_at_call 62; refine (num_c _ _ (by omega) (by omega) _).mono ?_; rintro e wf ⟨rfl, hbf⟩; replace S := S.below hbf; clear hbf)
      | ((with_reducible refine wpl_is ?_); first
        | (refine S.alloc rfl 29 rfl (Cel.iv IV.zero) zeroIV ?_; clear S; intro b1 w1 S)
        | (refine S.storeAll rfl 29 _ _ rfl _ (Cel.iv (nNone 65 h).iv) rfl rfl 0 _ rfl rfl (one_iv _) (szIV _) ?_; clear S; intro w2 S; simp only [List.set_cons_zero] at S)))
    (try simp only [Exit.inBlock, Exit.then])
    refine bodyPost_ret (S.results rfl _ _ rfl 0 _ rfl _ Tryd.underlying29 rfl (szIV _)) rfl ⟨rfl, S.low⟩
  · rcases hr with q1 | q1
    · rcases (show fd (fd h 0 8) 0 1 = 1 ∨ fd (fd h 0 8) 0 1 = 0 by omega) with q3 | q3
      · have CO : Hid (∀ w1, Calls Tryd.prog 36 #[.int .u16 (h : Int), .int .i64 8, .int .i64 3] w1 fun e w' => e = .returned (.int .i64 0) ∧ Below w1.heap.size w1 w') := fun w1 => by
          have := field_8_3 h hh w1
          rw [q0] at this
          exact this
        have hb1 : bits .and .i64 (((fd h 0 8 : Nat) : Int)) 1 = ((fd (fd h 0 8) 0 1 : Nat) : Int) := by
          have := i64_bit (fd h 0 8) 0 (by omega)
          simpa using this
        have t_5400 : (((fd h 0 8 : Nat) : Int) == 0) = false := by simp; omega
        rw [q1] at rb
        have rb2 : bits .and .u16 (h : Int) 63488 = 49152 := rb
        clear rb
        have hx1 : fd (fd h 0 8) 0 1 = 1 := q3
        have t_1915 : (((fd (fd h 0 8) 0 1 : Nat) : Int) != 0) = true := by simp; omega
        have hH : heldN h = true := by
          unfold heldN
          rw [q0]
          simp [nbeq, hx1]
        have hN : manyN h = (nNone 65 h) := by
          unfold manyN
          simp [nbeq, nblt, nble, *]
        unfold Says
        rw [hN]
        clear hN
        clear hx1
        clear q3 hH
        go_enter Tryd.func39, Tryd.ntmps39
        have S := SH.start w
        go_wp2_with (first
          | (go_at_call 36; (first | with_reducible refine (field_0_8 h hh _).mono ?_); rintro e wf ⟨rfl, hbf⟩; replace S := S.below hbf; clear hbf)
          | (go_at_call 36; with_reducible refine (CO.out _).mono ?_; rintro e wf ⟨rfl, hbf⟩; replace S := S.below hbf; clear hbf)
          | (go_at_call 35; refine (reg_c _ _ _ _ _ _).mono ?_; rintro e wf ⟨rfl, hbf⟩; replace S := S.below hbf; clear hbf)
          | (go_at_call 54; refine (imm_c _ _ _ _ _ (by omega) (by omega) _).mono ?_; rintro e wf ⟨rfl, hbf⟩; replace S := S.below hbf; clear hbf)
          | (go_at_call 42; refine (none_c _ h hh _).mono ?_; rintro e wf ⟨rfl, hbf⟩; replace S := S.below hbf; clear hbf)
          | (go_at_call 62; refine (num_c _ _ (by omega) (by omega) _).mono ?_; rintro e wf ⟨rfl, hbf⟩; replace S := S.below hbf; clear hbf)
          | ((with_reducible refine wpl_is ?_); first
            | (refine S.alloc rfl 29 rfl (Cel.iv IV.zero) zeroIV ?_; clear S; intro b1 w1 S)
            | (refine S.storeAll rfl 29 _ _ rfl _ (Cel.iv (nNone 65 h).iv) rfl rfl 0 _ rfl rfl (one_iv _) (szIV _) ?_; clear S; intro w2 S; simp only [List.set_cons_zero] at S)))
        (try simp only [Exit.inBlock, Exit.then])
        refine bodyPost_ret (S.results rfl _ _ rfl 0 _ rfl _ Tryd.underlying29 rfl (szIV _)) rfl ⟨rfl, S.low⟩
      · have CO : Hid (∀ w1, Calls Tryd.prog 36 #[.int .u16 (h : Int), .int .i64 8, .int .i64 3] w1 fun e w' => e = .returned (.int .i64 0) ∧ Below w1.heap.size w1 w') := fun w1 => by
          have := field_8_3 h hh w1
          rw [q0] at this
          exact this
        have hb1 : bits .and .i64 (((fd h 0 8 : Nat) : Int)) 1 = ((fd (fd h 0 8) 0 1 : Nat) : Int) := by
          have := i64_bit (fd h 0 8) 0 (by omega)
          simpa using this
        have t_5400 : (((fd h 0 8 : Nat) : Int) == 0) = false := by simp; omega
        rw [q1] at rb
        have rb2 : bits .and .u16 (h : Int) 63488 = 49152 := rb
        clear rb
        have hx1 : fd (fd h 0 8) 0 1 = 0 := q3
        have t_1915 : (((fd (fd h 0 8) 0 1 : Nat) : Int) != 0) = false := by simp; omega
        have hH : heldN h = false := by
          unfold heldN
          rw [q0]
          simp [nbeq, hx1]
        have hN : manyN h = (NV.mk 53 false 14 0 0 0 0 false (fd h 0 8) true false) := by
          unfold manyN
          simp [nbeq, nblt, nble, *]
        unfold Says
        rw [hN]
        clear hN
        clear hx1
        clear q3 hH
        go_enter Tryd.func39, Tryd.ntmps39
        have S := SH.start w
        go_wp2_with (first
          | (go_at_call 36; (first | with_reducible refine (field_0_8 h hh _).mono ?_); rintro e wf ⟨rfl, hbf⟩; replace S := S.below hbf; clear hbf)
          | (go_at_call 36; with_reducible refine (CO.out _).mono ?_; rintro e wf ⟨rfl, hbf⟩; replace S := S.below hbf; clear hbf)
          | (go_at_call 35; refine (reg_c _ _ _ _ _ _).mono ?_; rintro e wf ⟨rfl, hbf⟩; replace S := S.below hbf; clear hbf)
          | (go_at_call 54; refine (imm_c _ _ _ _ _ (by omega) (by omega) _).mono ?_; rintro e wf ⟨rfl, hbf⟩; replace S := S.below hbf; clear hbf)
          | (go_at_call 42; refine (none_c _ h hh _).mono ?_; rintro e wf ⟨rfl, hbf⟩; replace S := S.below hbf; clear hbf)
          | (go_at_call 62; refine (num_c _ _ (by omega) (by omega) _).mono ?_; rintro e wf ⟨rfl, hbf⟩; replace S := S.below hbf; clear hbf)
          | ((with_reducible refine wpl_is ?_); first
            | (refine S.alloc rfl 29 rfl (Cel.iv IV.zero) zeroIV ?_; clear S; intro b1 w1 S)
            | (refine S.storeAll rfl 29 _ _ rfl _ (Cel.iv (NV.mk 53 false 14 0 0 0 0 false (fd h 0 8) true false).iv) rfl rfl 0 _ rfl rfl (one_iv _) (szIV _) ?_; clear S; intro w2 S; simp only [List.set_cons_zero] at S)))
        (try simp only [Exit.inBlock, Exit.then])
        refine bodyPost_ret (S.results rfl _ _ rfl 0 _ rfl _ Tryd.underlying29 rfl (szIV _)) rfl ⟨rfl, S.low⟩
    · rcases (show fd (fd h 0 8) 0 1 = 1 ∨ fd (fd h 0 8) 0 1 = 0 by omega) with q3 | q3
      · have CO : Hid (∀ w1, Calls Tryd.prog 36 #[.int .u16 (h : Int), .int .i64 8, .int .i64 3] w1 fun e w' => e = .returned (.int .i64 0) ∧ Below w1.heap.size w1 w') := fun w1 => by
          have := field_8_3 h hh w1
          rw [q0] at this
          exact this
        have hb1 : bits .and .i64 (((fd h 0 8 : Nat) : Int)) 1 = ((fd (fd h 0 8) 0 1 : Nat) : Int) := by
          have := i64_bit (fd h 0 8) 0 (by omega)
          simpa using this
        have t_5400 : (((fd h 0 8 : Nat) : Int) == 0) = false := by simp; omega
        rw [q1] at rb
        have rb2 : bits .and .u16 (h : Int) 63488 = 51200 := rb
        clear rb
        have hx1 : fd (fd h 0 8) 0 1 = 1 := q3
        have t_1915 : (((fd (fd h 0 8) 0 1 : Nat) : Int) != 0) = true := by simp; omega
        have hH : heldN h = true := by
          unfold heldN
          rw [q0]
          simp [nbeq, hx1]
        have hN : manyN h = (NV.mk 52 false 14 0 0 0 0 false (fd h 0 8) false false) := by
          unfold manyN
          simp [nbeq, nblt, nble, *]
        unfold Says
        rw [hN]
        clear hN
        clear hx1
        clear q3 hH
        go_enter Tryd.func39, Tryd.ntmps39
        have S := SH.start w
        go_wp2_with (first
          | (go_at_call 36; (first | with_reducible refine (field_0_8 h hh _).mono ?_); rintro e wf ⟨rfl, hbf⟩; replace S := S.below hbf; clear hbf)
          | (go_at_call 36; with_reducible refine (CO.out _).mono ?_; rintro e wf ⟨rfl, hbf⟩; replace S := S.below hbf; clear hbf)
          | (go_at_call 35; refine (reg_c _ _ _ _ _ _).mono ?_; rintro e wf ⟨rfl, hbf⟩; replace S := S.below hbf; clear hbf)
          | (go_at_call 54; refine (imm_c _ _ _ _ _ (by omega) (by omega) _).mono ?_; rintro e wf ⟨rfl, hbf⟩; replace S := S.below hbf; clear hbf)
          | (go_at_call 42; refine (none_c _ h hh _).mono ?_; rintro e wf ⟨rfl, hbf⟩; replace S := S.below hbf; clear hbf)
          | (go_at_call 62; refine (num_c _ _ (by omega) (by omega) _).mono ?_; rintro e wf ⟨rfl, hbf⟩; replace S := S.below hbf; clear hbf)
          | ((with_reducible refine wpl_is ?_); first
            | (refine S.alloc rfl 29 rfl (Cel.iv IV.zero) zeroIV ?_; clear S; intro b1 w1 S)
            | (refine S.storeAll rfl 29 _ _ rfl _ (Cel.iv (NV.mk 52 false 14 0 0 0 0 false (fd h 0 8) false false).iv) rfl rfl 0 _ rfl rfl (one_iv _) (szIV _) ?_; clear S; intro w2 S; simp only [List.set_cons_zero] at S)))
        (try simp only [Exit.inBlock, Exit.then])
        refine bodyPost_ret (S.results rfl _ _ rfl 0 _ rfl _ Tryd.underlying29 rfl (szIV _)) rfl ⟨rfl, S.low⟩
      · have CO : Hid (∀ w1, Calls Tryd.prog 36 #[.int .u16 (h : Int), .int .i64 8, .int .i64 3] w1 fun e w' => e = .returned (.int .i64 0) ∧ Below w1.heap.size w1 w') := fun w1 => by
          have := field_8_3 h hh w1
          rw [q0] at this
          exact this
        have hb1 : bits .and .i64 (((fd h 0 8 : Nat) : Int)) 1 = ((fd (fd h 0 8) 0 1 : Nat) : Int) := by
          have := i64_bit (fd h 0 8) 0 (by omega)
          simpa using this
        have t_5400 : (((fd h 0 8 : Nat) : Int) == 0) = false := by simp; omega
        rw [q1] at rb
        have rb2 : bits .and .u16 (h : Int) 63488 = 51200 := rb
        clear rb
        have hx1 : fd (fd h 0 8) 0 1 = 0 := q3
        have t_1915 : (((fd (fd h 0 8) 0 1 : Nat) : Int) != 0) = false := by simp; omega
        have hH : heldN h = false := by
          unfold heldN
          rw [q0]
          simp [nbeq, hx1]
        have hN : manyN h = (NV.mk 52 false 14 0 0 0 0 false (fd h 0 8) true false) := by
          unfold manyN
          simp [nbeq, nblt, nble, *]
        unfold Says
        rw [hN]
        clear hN
        clear hx1
        clear q3 hH
        go_enter Tryd.func39, Tryd.ntmps39
        have S := SH.start w
        go_wp2_with (first
          | (go_at_call 36; (first | with_reducible refine (field_0_8 h hh _).mono ?_); rintro e wf ⟨rfl, hbf⟩; replace S := S.below hbf; clear hbf)
          | (go_at_call 36; with_reducible refine (CO.out _).mono ?_; rintro e wf ⟨rfl, hbf⟩; replace S := S.below hbf; clear hbf)
          | (go_at_call 35; refine (reg_c _ _ _ _ _ _).mono ?_; rintro e wf ⟨rfl, hbf⟩; replace S := S.below hbf; clear hbf)
          | (go_at_call 54; refine (imm_c _ _ _ _ _ (by omega) (by omega) _).mono ?_; rintro e wf ⟨rfl, hbf⟩; replace S := S.below hbf; clear hbf)
          | (go_at_call 42; refine (none_c _ h hh _).mono ?_; rintro e wf ⟨rfl, hbf⟩; replace S := S.below hbf; clear hbf)
          | (go_at_call 62; refine (num_c _ _ (by omega) (by omega) _).mono ?_; rintro e wf ⟨rfl, hbf⟩; replace S := S.below hbf; clear hbf)
          | ((with_reducible refine wpl_is ?_); first
            | (refine S.alloc rfl 29 rfl (Cel.iv IV.zero) zeroIV ?_; clear S; intro b1 w1 S)
            | (refine S.storeAll rfl 29 _ _ rfl _ (Cel.iv (NV.mk 52 false 14 0 0 0 0 false (fd h 0 8) true false).iv) rfl rfl 0 _ rfl rfl (one_iv _) (szIV _) ?_; clear S; intro w2 S; simp only [List.set_cons_zero] at S)))
        (try simp only [Exit.inBlock, Exit.then])
        refine bodyPost_ret (S.results rfl _ _ rfl 0 _ rfl _ Tryd.underlying29 rfl (szIV _)) rfl ⟨rfl, S.low⟩
set_option maxHeartbeats 4000000 in
set_option maxRecDepth 100000 in
theorem many_1 (h : Nat) (hh : h < 65536) (q0 : fd h 8 3 = 1) (hr : h / 2048 = 24 ∨ h / 2048 = 25) (w : World) : Calls Tryd.prog 39 #[.int .u16 h] w fun e w' => Says w (manyN h) e w' := by
  have rb := row_bits h hh
  have f_0_8 : fd h 0 8 < 256 := fd_lt h 0 8
  have g1 : fd (fd h 0 8) 1 1 < 2 := fd_lt _ _ 1
  rcases (show fd h 0 8 = 0 ∨ fd h 0 8 ≠ 0 by omega) with q2 | q2
  · have CO : Hid (∀ w1, Calls Tryd.prog 36 #[.int .u16 (h : Int), .int .i64 8, .int .i64 3] w1 fun e w' => e = .returned (.int .i64 1) ∧ Below w1.heap.size w1 w') := fun w1 => by
      have := field_8_3 h hh w1
      rw [q0] at this
      exact this
    have hb1 : bits .and .i64 (((fd h 0 8 : Nat) : Int) / 2) 1 = ((fd (fd h 0 8) 1 1 : Nat) : Int) := i64_bit (fd h 0 8) 1 (by omega)
    have t_5400 : (((fd h 0 8 : Nat) : Int) == 0) = true := by simp; omega
    have hx1 : fd (fd h 0 8) 1 1 = 0 := by rw [q2]; simp [fd]
    have t_6239 : (((fd (fd h 0 8) 1 1 : Nat) : Int) != 0) = false := by simp; omega
    have hN : manyN h = (nNone 65 h) := by
      unfold manyN
      simp [nbeq, nblt, nble, *]
    unfold Says
    rw [hN]
    clear hN
    clear hx1
    clear q2
    go_enter Tryd.func39, Tryd.ntmps39
    have S := SH.start w
    go_wp2_with (first
      | (go_at_call 36; (first | with_reducible refine (field_0_8 h hh _).mono ?_); rintro e wf ⟨rfl, hbf⟩; replace S := S.below hbf; clear hbf)
      | (go_at_call 36; with_reducible refine (CO.out _).mono ?_; rintro e wf ⟨rfl, hbf⟩; replace S := S.below hbf; clear hbf)
      | (go_at_call 35; refine (reg_c _ _ _ _ _ _).mono ?_; rintro e wf ⟨rfl, hbf⟩; replace S := S.below hbf; clear hbf)
      | (go_at_call 54; refine (imm_c _ _ _ _ _ (by omega) (by omega) _).mono ?_; rintro e wf ⟨rfl, hbf⟩; replace S := S.below hbf; clear hbf)
      | (go_at_call 42; refine (none_c _ h hh _).mono ?_; rintro e wf ⟨rfl, hbf⟩; replace S := S.below hbf; clear hbf)
      | (go_at_call 62; refine (num_c _ _ (by omega) (by omega) _).mono ?_; rintro e wf ⟨rfl, hbf⟩; replace S := S.below hbf; clear hbf)
      | ((with_reducible refine wpl_is ?_); first
        | (refine S.alloc rfl 29 rfl (Cel.iv IV.zero) zeroIV ?_; clear S; intro b1 w1 S)
        | (refine S.storeAll rfl 29 _ _ rfl _ (Cel.iv (nNone 65 h).iv) rfl rfl 0 _ rfl rfl (one_iv _) (szIV _) ?_; clear S; intro w2 S; simp only [List.set_cons_zero] at S)))
    (try simp only [Exit.inBlock, Exit.then])
    refine bodyPost_ret (S.results rfl _ _ rfl 0 _ rfl _ Tryd.underlying29 rfl (szIV _)) rfl ⟨rfl, S.low⟩
  · rcases hr with q1 | q1
    · rcases (show fd (fd h 0 8) 1 1 = 1 ∨ fd (fd h 0 8) 1 1 = 0 by omega) with q3 | q3
      · have CO : Hid (∀ w1, Calls Tryd.prog 36 #[.int .u16 (h : Int), .int .i64 8, .int .i64 3] w1 fun e w' => e = .returned (.int .i64 1) ∧ Below w1.heap.size w1 w') := fun w1 => by
          have := field_8_3 h hh w1
          rw [q0] at this
          exact this
        have hb1 : bits .and .i64 (((fd h 0 8 : Nat) : Int) / 2) 1 = ((fd (fd h 0 8) 1 1 : Nat) : Int) := i64_bit (fd h 0 8) 1 (by omega)
        have t_5400 : (((fd h 0 8 : Nat) : Int) == 0) = false := by simp; omega
        rw [q1] at rb
        have rb2 : bits .and .u16 (h : Int) 63488 = 49152 := rb
        clear rb
        have hx1 : fd (fd h 0 8) 1 1 = 1 := q3
        have t_6239 : (((fd (fd h 0 8) 1 1 : Nat) : Int) != 0) = true := by simp; omega
        have hH : heldN h = true := by
          unfold heldN
          rw [q0]
          simp [nbeq, hx1]
        have hN : manyN h = (nNone 65 h) := by
          unfold manyN
          simp [nbeq, nblt, nble, *]
        unfold Says
        rw [hN]
        clear hN
        clear hx1
        clear q3 hH
        go_enter Tryd.func39, Tryd.ntmps39
        have S := SH.start w
        go_wp2_with (first
          | (go_at_call 36; (first | with_reducible refine (field_0_8 h hh _).mono ?_); rintro e wf ⟨rfl, hbf⟩; replace S := S.below hbf; clear hbf)
          | (go_at_call 36; with_reducible refine (CO.out _).mono ?_; rintro e wf ⟨rfl, hbf⟩; replace S := S.below hbf; clear hbf)
          | (go_at_call 35; refine (reg_c _ _ _ _ _ _).mono ?_; rintro e wf ⟨rfl, hbf⟩; replace S := S.below hbf; clear hbf)
          | (go_at_call 54; refine (imm_c _ _ _ _ _ (by omega) (by omega) _).mono ?_; rintro e wf ⟨rfl, hbf⟩; replace S := S.below hbf; clear hbf)
          | (go_at_call 42; refine (none_c _ h hh _).mono ?_; rintro e wf ⟨rfl, hbf⟩; replace S := S.below hbf; clear hbf)
          | (go_at_call 62; refine (num_c _ _ (by omega) (by omega) _).mono ?_; rintro e wf ⟨rfl, hbf⟩; replace S := S.below hbf; clear hbf)
          | ((with_reducible refine wpl_is ?_); first
            | (refine S.alloc rfl 29 rfl (Cel.iv IV.zero) zeroIV ?_; clear S; intro b1 w1 S)
            | (refine S.storeAll rfl 29 _ _ rfl _ (Cel.iv (nNone 65 h).iv) rfl rfl 0 _ rfl rfl (one_iv _) (szIV _) ?_; clear S; intro w2 S; simp only [List.set_cons_zero] at S)))
        (try simp only [Exit.inBlock, Exit.then])
        refine bodyPost_ret (S.results rfl _ _ rfl 0 _ rfl _ Tryd.underlying29 rfl (szIV _)) rfl ⟨rfl, S.low⟩
      · have CO : Hid (∀ w1, Calls Tryd.prog 36 #[.int .u16 (h : Int), .int .i64 8, .int .i64 3] w1 fun e w' => e = .returned (.int .i64 1) ∧ Below w1.heap.size w1 w') := fun w1 => by
          have := field_8_3 h hh w1
          rw [q0] at this
          exact this
        have hb1 : bits .and .i64 (((fd h 0 8 : Nat) : Int) / 2) 1 = ((fd (fd h 0 8) 1 1 : Nat) : Int) := i64_bit (fd h 0 8) 1 (by omega)
        have t_5400 : (((fd h 0 8 : Nat) : Int) == 0) = false := by simp; omega
        rw [q1] at rb
        have rb2 : bits .and .u16 (h : Int) 63488 = 49152 := rb
        clear rb
        have hx1 : fd (fd h 0 8) 1 1 = 0 := q3
        have t_6239 : (((fd (fd h 0 8) 1 1 : Nat) : Int) != 0) = false := by simp; omega
        have hH : heldN h = false := by
          unfold heldN
          rw [q0]
          simp [nbeq, hx1]
        have hN : manyN h = (NV.mk 53 false 14 0 1 0 0 false (fd h 0 8) true false) := by
          unfold manyN
          simp [nbeq, nblt, nble, *]
        unfold Says
        rw [hN]
        clear hN
        clear hx1
        clear q3 hH
        go_enter Tryd.func39, Tryd.ntmps39
        have S := SH.start w
        go_wp2_with (first
          | (go_at_call 36; (first | with_reducible refine (field_0_8 h hh _).mono ?_); rintro e wf ⟨rfl, hbf⟩; replace S := S.below hbf; clear hbf)
          | (go_at_call 36; with_reducible refine (CO.out _).mono ?_; rintro e wf ⟨rfl, hbf⟩; replace S := S.below hbf; clear hbf)
          | (go_at_call 35; refine (reg_c _ _ _ _ _ _).mono ?_; rintro e wf ⟨rfl, hbf⟩; replace S := S.below hbf; clear hbf)
          | (go_at_call 54; refine (imm_c _ _ _ _ _ (by omega) (by omega) _).mono ?_; rintro e wf ⟨rfl, hbf⟩; replace S := S.below hbf; clear hbf)
          | (go_at_call 42; refine (none_c _ h hh _).mono ?_; rintro e wf ⟨rfl, hbf⟩; replace S := S.below hbf; clear hbf)
          | (go_at_call 62; refine (num_c _ _ (by omega) (by omega) _).mono ?_; rintro e wf ⟨rfl, hbf⟩; replace S := S.below hbf; clear hbf)
          | ((with_reducible refine wpl_is ?_); first
            | (refine S.alloc rfl 29 rfl (Cel.iv IV.zero) zeroIV ?_; clear S; intro b1 w1 S)
            | (refine S.storeAll rfl 29 _ _ rfl _ (Cel.iv (NV.mk 53 false 14 0 1 0 0 false (fd h 0 8) true false).iv) rfl rfl 0 _ rfl rfl (one_iv _) (szIV _) ?_; clear S; intro w2 S; simp only [List.set_cons_zero] at S)))
        (try simp only [Exit.inBlock, Exit.then])
        refine bodyPost_ret (S.results rfl _ _ rfl 0 _ rfl _ Tryd.underlying29 rfl (szIV _)) rfl ⟨rfl, S.low⟩
    · rcases (show fd (fd h 0 8) 1 1 = 1 ∨ fd (fd h 0 8) 1 1 = 0 by omega) with q3 | q3
      · have CO : Hid (∀ w1, Calls Tryd.prog 36 #[.int .u16 (h : Int), .int .i64 8, .int .i64 3] w1 fun e w' => e = .returned (.int .i64 1) ∧ Below w1.heap.size w1 w') := fun w1 => by
          have := field_8_3 h hh w1
          rw [q0] at this
          exact this
        have hb1 : bits .and .i64 (((fd h 0 8 : Nat) : Int) / 2) 1 = ((fd (fd h 0 8) 1 1 : Nat) : Int) := i64_bit (fd h 0 8) 1 (by omega)
        have t_5400 : (((fd h 0 8 : Nat) : Int) == 0) = false := by simp; omega
        rw [q1] at rb
        have rb2 : bits .and .u16 (h : Int) 63488 = 51200 := rb
        clear rb
        have hx1 : fd (fd h 0 8) 1 1 = 1 := q3
        have t_6239 : (((fd (fd h 0 8) 1 1 : Nat) : Int) != 0) = true := by simp; omega
        have hH : heldN h = true := by
          unfold heldN
          rw [q0]
          simp [nbeq, hx1]
        have hN : manyN h = (NV.mk 52 false 14 0 1 0 0 false (fd h 0 8) false false) := by
          unfold manyN
          simp [nbeq, nblt, nble, *]
        unfold Says
        rw [hN]
        clear hN
        clear hx1
        clear q3 hH
        go_enter Tryd.func39, Tryd.ntmps39
        have S := SH.start w
        go_wp2_with (first
          | (go_at_call 36; (first | with_reducible refine (field_0_8 h hh _).mono ?_); rintro e wf ⟨rfl, hbf⟩; replace S := S.below hbf; clear hbf)
          | (go_at_call 36; with_reducible refine (CO.out _).mono ?_; rintro e wf ⟨rfl, hbf⟩; replace S := S.below hbf; clear hbf)
          | (go_at_call 35; refine (reg_c _ _ _ _ _ _).mono ?_; rintro e wf ⟨rfl, hbf⟩; replace S := S.below hbf; clear hbf)
          | (go_at_call 54; refine (imm_c _ _ _ _ _ (by omega) (by omega) _).mono ?_; rintro e wf ⟨rfl, hbf⟩; replace S := S.below hbf; clear hbf)
          | (go_at_call 42; refine (none_c _ h hh _).mono ?_; rintro e wf ⟨rfl, hbf⟩; replace S := S.below hbf; clear hbf)
          | (go_at_call 62; refine (num_c _ _ (by omega) (by omega) _).mono ?_; rintro e wf ⟨rfl, hbf⟩; replace S := S.below hbf; clear hbf)
          | ((with_reducible refine wpl_is ?_); first
            | (refine S.alloc rfl 29 rfl (Cel.iv IV.zero) zeroIV ?_; clear S; intro b1 w1 S)
            | (refine S.storeAll rfl 29 _ _ rfl _ (Cel.iv (NV.mk 52 false 14 0 1 0 0 false (fd h 0 8) false false).iv) rfl rfl 0 _ rfl rfl (one_iv _) (szIV _) ?_; clear S; intro w2 S; simp only [List.set_cons_zero] at S)))
        (try simp only [Exit.inBlock, Exit.then])
        refine bodyPost_ret (S.results rfl _ _ rfl 0 _ rfl _ Tryd.underlying29 rfl (szIV _)) rfl ⟨rfl, S.low⟩
      · have CO : Hid (∀ w1, Calls Tryd.prog 36 #[.int .u16 (h : Int), .int .i64 8, .int .i64 3] w1 fun e w' => e = .returned (.int .i64 1) ∧ Below w1.heap.size w1 w') := fun w1 => by
          have := field_8_3 h hh w1
          rw [q0] at this
          exact this
        have hb1 : bits .and .i64 (((fd h 0 8 : Nat) : Int) / 2) 1 = ((fd (fd h 0 8) 1 1 : Nat) : Int) := i64_bit (fd h 0 8) 1 (by omega)
        have t_5400 : (((fd h 0 8 : Nat) : Int) == 0) = false := by simp; omega
        rw [q1] at rb
        have rb2 : bits .and .u16 (h : Int) 63488 = 51200 := rb
        clear rb
        have hx1 : fd (fd h 0 8) 1 1 = 0 := q3
        have t_6239 : (((fd (fd h 0 8) 1 1 : Nat) : Int) != 0) = false := by simp; omega
        have hH : heldN h = false := by
          unfold heldN
          rw [q0]
          simp [nbeq, hx1]
        have hN : manyN h = (NV.mk 52 false 14 0 1 0 0 false (fd h 0 8) true false) := by
          unfold manyN
          simp [nbeq, nblt, nble, *]
        unfold Says
        rw [hN]
        clear hN
        clear hx1
        clear q3 hH
        go_enter Tryd.func39, Tryd.ntmps39
        have S := SH.start w
        go_wp2_with (first
          | (go_at_call 36; (first | with_reducible refine (field_0_8 h hh _).mono ?_); rintro e wf ⟨rfl, hbf⟩; replace S := S.below hbf; clear hbf)
          | (go_at_call 36; with_reducible refine (CO.out _).mono ?_; rintro e wf ⟨rfl, hbf⟩; replace S := S.below hbf; clear hbf)
          | (go_at_call 35; refine (reg_c _ _ _ _ _ _).mono ?_; rintro e wf ⟨rfl, hbf⟩; replace S := S.below hbf; clear hbf)
          | (go_at_call 54; refine (imm_c _ _ _ _ _ (by omega) (by omega) _).mono ?_; rintro e wf ⟨rfl, hbf⟩; replace S := S.below hbf; clear hbf)
          | (go_at_call 42; refine (none_c _ h hh _).mono ?_; rintro e wf ⟨rfl, hbf⟩; replace S := S.below hbf; clear hbf)
          | (go_at_call 62; refine (num_c _ _ (by omega) (by omega) _).mono ?_; rintro e wf ⟨rfl, hbf⟩; replace S := S.below hbf; clear hbf)
          | ((with_reducible refine wpl_is ?_); first
            | (refine S.alloc rfl 29 rfl (Cel.iv IV.zero) zeroIV ?_; clear S; intro b1 w1 S)
            | (refine S.storeAll rfl 29 _ _ rfl _ (Cel.iv (NV.mk 52 false 14 0 1 0 0 false (fd h 0 8) true false).iv) rfl rfl 0 _ rfl rfl (one_iv _) (szIV _) ?_; clear S; intro w2 S; simp only [List.set_cons_zero] at S)))
        (try simp only [Exit.inBlock, Exit.then])
        refine bodyPost_ret (S.results rfl _ _ rfl 0 _ rfl _ Tryd.underlying29 rfl (szIV _)) rfl ⟨rfl, S.low⟩
set_option maxHeartbeats 4000000 in
set_option maxRecDepth 100000 in
theorem many_2 (h : Nat) (hh : h < 65536) (q0 : fd h 8 3 = 2) (hr : h / 2048 = 24 ∨ h / 2048 = 25) (w : World) : Calls Tryd.prog 39 #[.int .u16 h] w fun e w' => Says w (manyN h) e w' := by
  have rb := row_bits h hh
  have f_0_8 : fd h 0 8 < 256 := fd_lt h 0 8
  have g1 : fd (fd h 0 8) 2 1 < 2 := fd_lt _ _ 1
  rcases (show fd h 0 8 = 0 ∨ fd h 0 8 ≠ 0 by omega) with q2 | q2
  · have CO : Hid (∀ w1, Calls Tryd.prog 36 #[.int .u16 (h : Int), .int .i64 8, .int .i64 3] w1 fun e w' => e = .returned (.int .i64 2) ∧ Below w1.heap.size w1 w') := fun w1 => by
      have := field_8_3 h hh w1
      rw [q0] at this
      exact this
    have hb1 : bits .and .i64 (((fd h 0 8 : Nat) : Int) / 4) 1 = ((fd (fd h 0 8) 2 1 : Nat) : Int) := i64_bit (fd h 0 8) 2 (by omega)
    have t_5400 : (((fd h 0 8 : Nat) : Int) == 0) = true := by simp; omega
    have hx1 : fd (fd h 0 8) 2 1 = 0 := by rw [q2]; simp [fd]
    have t_4217 : (((fd (fd h 0 8) 2 1 : Nat) : Int) != 0) = false := by simp; omega
    have hN : manyN h = (nNone 65 h) := by
      unfold manyN
      simp [nbeq, nblt, nble, *]
    unfold Says
    rw [hN]
    clear hN
    clear hx1
    clear q2
    go_enter Tryd.func39, Tryd.ntmps39
    have S := SH.start w
    go_wp2_with (first
      | (go_at_call 36; (first | with_reducible refine (field_0_8 h hh _).mono ?_); rintro e wf ⟨rfl, hbf⟩; replace S := S.below hbf; clear hbf)
      | (go_at_call 36; with_reducible refine (CO.out _).mono ?_; rintro e wf ⟨rfl, hbf⟩; replace S := S.below hbf; clear hbf)
      | (go_at_call 35; refine (reg_c _ _ _ _ _ _).mono ?_; rintro e wf ⟨rfl, hbf⟩; replace S := S.below hbf; clear hbf)
      | (go_at_call 54; refine (imm_c _ _ _ _ _ (by omega) (by omega) _).mono ?_; rintro e wf ⟨rfl, hbf⟩; replace S := S.below hbf; clear hbf)
      | (go_at_call 42; refine (none_c _ h hh _).mono ?_; rintro e wf ⟨rfl, hbf⟩; replace S := S.below hbf; clear hbf)
      | (go_at_call 62; refine (num_c _ _ (by omega) (by omega) _).mono ?_; rintro e wf ⟨rfl, hbf⟩; replace S := S.below hbf; clear hbf)
      | ((with_reducible refine wpl_is ?_); first
        | (refine S.alloc rfl 29 rfl (Cel.iv IV.zero) zeroIV ?_; clear S; intro b1 w1 S)
        | (refine S.storeAll rfl 29 _ _ rfl _ (Cel.iv (nNone 65 h).iv) rfl rfl 0 _ rfl rfl (one_iv _) (szIV _) ?_; clear S; intro w2 S; simp only [List.set_cons_zero] at S)))
    (try simp only [Exit.inBlock, Exit.then])
    refine bodyPost_ret (S.results rfl _ _ rfl 0 _ rfl _ Tryd.underlying29 rfl (szIV _)) rfl ⟨rfl, S.low⟩
  · rcases hr with q1 | q1
    · rcases (show fd (fd h 0 8) 2 1 = 1 ∨ fd (fd h 0 8) 2 1 = 0 by omega) with q3 | q3
      · have CO : Hid (∀ w1, Calls Tryd.prog 36 #[.int .u16 (h : Int), .int .i64 8, .int .i64 3] w1 fun e w' => e = .returned (.int .i64 2) ∧ Below w1.heap.size w1 w') := fun w1 => by
          have := field_8_3 h hh w1
          rw [q0] at this
          exact this
        have hb1 : bits .and .i64 (((fd h 0 8 : Nat) : Int) / 4) 1 = ((fd (fd h 0 8) 2 1 : Nat) : Int) := i64_bit (fd h 0 8) 2 (by omega)
        have t_5400 : (((fd h 0 8 : Nat) : Int) == 0) = false := by simp; omega
        rw [q1] at rb
        have rb2 : bits .and .u16 (h : Int) 63488 = 49152 := rb
        clear rb
        have hx1 : fd (fd h 0 8) 2 1 = 1 := q3
        have t_4217 : (((fd (fd h 0 8) 2 1 : Nat) : Int) != 0) = true := by simp; omega
        have hH : heldN h = true := by
          unfold heldN
          rw [q0]
          simp [nbeq, hx1]
        have hN : manyN h = (nNone 65 h) := by
          unfold manyN
          simp [nbeq, nblt, nble, *]
        unfold Says
        rw [hN]
        clear hN
        clear hx1
        clear q3 hH
        go_enter Tryd.func39, Tryd.ntmps39
        have S := SH.start w
        go_wp2_with (first
          | (go_at_call 36; (first | with_reducible refine (field_0_8 h hh _).mono ?_); rintro e wf ⟨rfl, hbf⟩; replace S := S.below hbf; clear hbf)
          | (go_at_call 36; with_reducible refine (CO.out _).mono ?_; rintro e wf ⟨rfl, hbf⟩; replace S := S.below hbf; clear hbf)
          | (go_at_call 35; refine (reg_c _ _ _ _ _ _).mono ?_; rintro e wf ⟨rfl, hbf⟩; replace S := S.below hbf; clear hbf)
          | (go_at_call 54; refine (imm_c _ _ _ _ _ (by omega) (by omega) _).mono ?_; rintro e wf ⟨rfl, hbf⟩; replace S := S.below hbf; clear hbf)
          | (go_at_call 42; refine (none_c _ h hh _).mono ?_; rintro e wf ⟨rfl, hbf⟩; replace S := S.below hbf; clear hbf)
          | (go_at_call 62; refine (num_c _ _ (by omega) (by omega) _).mono ?_; rintro e wf ⟨rfl, hbf⟩; replace S := S.below hbf; clear hbf)
          | ((with_reducible refine wpl_is ?_); first
            | (refine S.alloc rfl 29 rfl (Cel.iv IV.zero) zeroIV ?_; clear S; intro b1 w1 S)
            | (refine S.storeAll rfl 29 _ _ rfl _ (Cel.iv (nNone 65 h).iv) rfl rfl 0 _ rfl rfl (one_iv _) (szIV _) ?_; clear S; intro w2 S; simp only [List.set_cons_zero] at S)))
        (try simp only [Exit.inBlock, Exit.then])
        refine bodyPost_ret (S.results rfl _ _ rfl 0 _ rfl _ Tryd.underlying29 rfl (szIV _)) rfl ⟨rfl, S.low⟩
      · have CO : Hid (∀ w1, Calls Tryd.prog 36 #[.int .u16 (h : Int), .int .i64 8, .int .i64 3] w1 fun e w' => e = .returned (.int .i64 2) ∧ Below w1.heap.size w1 w') := fun w1 => by
          have := field_8_3 h hh w1
          rw [q0] at this
          exact this
        have hb1 : bits .and .i64 (((fd h 0 8 : Nat) : Int) / 4) 1 = ((fd (fd h 0 8) 2 1 : Nat) : Int) := i64_bit (fd h 0 8) 2 (by omega)
        have t_5400 : (((fd h 0 8 : Nat) : Int) == 0) = false := by simp; omega
        rw [q1] at rb
        have rb2 : bits .and .u16 (h : Int) 63488 = 49152 := rb
        clear rb
        have hx1 : fd (fd h 0 8) 2 1 = 0 := q3
        have t_4217 : (((fd (fd h 0 8) 2 1 : Nat) : Int) != 0) = false := by simp; omega
        have hH : heldN h = false := by
          unfold heldN
          rw [q0]
          simp [nbeq, hx1]
        have hN : manyN h = (NV.mk 53 false 14 0 2 0 0 false (fd h 0 8) true false) := by
          unfold manyN
          simp [nbeq, nblt, nble, *]
        unfold Says
        rw [hN]
        clear hN
        clear hx1
        clear q3 hH
        go_enter Tryd.func39, Tryd.ntmps39
        have S := SH.start w
        go_wp2_with (first
          | (go_at_call 36; (first | with_reducible refine (field_0_8 h hh _).mono ?_); rintro e wf ⟨rfl, hbf⟩; replace S := S.below hbf; clear hbf)
          | (go_at_call 36; with_reducible refine (CO.out _).mono ?_; rintro e wf ⟨rfl, hbf⟩; replace S := S.below hbf; clear hbf)
          | (go_at_call 35; refine (reg_c _ _ _ _ _ _).mono ?_; rintro e wf ⟨rfl, hbf⟩; replace S := S.below hbf; clear hbf)
          | (go_at_call 54; refine (imm_c _ _ _ _ _ (by omega) (by omega) _).mono ?_; rintro e wf ⟨rfl, hbf⟩; replace S := S.below hbf; clear hbf)
          | (go_at_call 42; refine (none_c _ h hh _).mono ?_; rintro e wf ⟨rfl, hbf⟩; replace S := S.below hbf; clear hbf)
          | (go_at_call 62; refine (num_c _ _ (by omega) (by omega) _).mono ?_; rintro e wf ⟨rfl, hbf⟩; replace S := S.below hbf; clear hbf)
          | ((with_reducible refine wpl_is ?_); first
            | (refine S.alloc rfl 29 rfl (Cel.iv IV.zero) zeroIV ?_; clear S; intro b1 w1 S)
            | (refine S.storeAll rfl 29 _ _ rfl _ (Cel.iv (NV.mk 53 false 14 0 2 0 0 false (fd h 0 8) true false).iv) rfl rfl 0 _ rfl rfl (one_iv _) (szIV _) ?_; clear S; intro w2 S; simp only [List.set_cons_zero] at S)))
        (try simp only [Exit.inBlock, Exit.then])
        refine bodyPost_ret (S.results rfl _ _ rfl 0 _ rfl _ Tryd.underlying29 rfl (szIV _)) rfl ⟨rfl, S.low⟩
    · rcases (show fd (fd h 0 8) 2 1 = 1 ∨ fd (fd h 0 8) 2 1 = 0 by omega) with q3 | q3
      · have CO : Hid (∀ w1, Calls Tryd.prog 36 #[.int .u16 (h : Int), .int .i64 8, .int .i64 3] w1 fun e w' => e = .returned (.int .i64 2) ∧ Below w1.heap.size w1 w') := fun w1 => by
          have := field_8_3 h hh w1
          rw [q0] at this
          exact this
        have hb1 : bits .and .i64 (((fd h 0 8 : Nat) : Int) / 4) 1 = ((fd (fd h 0 8) 2 1 : Nat) : Int) := i64_bit (fd h 0 8) 2 (by omega)
        have t_5400 : (((fd h 0 8 : Nat) : Int) == 0) = false := by simp; omega
        rw [q1] at rb
        have rb2 : bits .and .u16 (h : Int) 63488 = 51200 := rb
        clear rb
        have hx1 : fd (fd h 0 8) 2 1 = 1 := q3
        have t_4217 : (((fd (fd h 0 8) 2 1 : Nat) : Int) != 0) = true := by simp; omega
        have hH : heldN h = true := by
          unfold heldN
          rw [q0]
          simp [nbeq, hx1]
        have hN : manyN h = (NV.mk 52 false 14 0 2 0 0 false (fd h 0 8) false false) := by
          unfold manyN
          simp [nbeq, nblt, nble, *]
        unfold Says
        rw [hN]
        clear hN
        clear hx1
        clear q3 hH
        go_enter Tryd.func39, Tryd.ntmps39
        have S := SH.start w
        go_wp2_with (first
          | (go_at_call 36; (first | with_reducible refine (field_0_8 h hh _).mono ?_); rintro e wf ⟨rfl, hbf⟩; replace S := S.below hbf; clear hbf)
          | (go_at_call 36; with_reducible refine (CO.out _).mono ?_; rintro e wf ⟨rfl, hbf⟩; replace S := S.below hbf; clear hbf)
          | (go_at_call 35; refine (reg_c _ _ _ _ _ _).mono ?_; rintro e wf ⟨rfl, hbf⟩; replace S := S.below hbf; clear hbf)
          | (go_at_call 54; refine (imm_c _ _ _ _ _ (by omega) (by omega) _).mono ?_; rintro e wf ⟨rfl, hbf⟩; replace S := S.below hbf; clear hbf)
          | (go_at_call 42; refine (none_c _ h hh _).mono ?_; rintro e wf ⟨rfl, hbf⟩; replace S := S.below hbf; clear hbf)
          | (go_at_call 62; refine (num_c _ _ (by omega) (by omega) _).mono ?_; rintro e wf ⟨rfl, hbf⟩; replace S := S.below hbf; clear hbf)
          | ((with_reducible refine wpl_is ?_); first
            | (refine S.alloc rfl 29 rfl (Cel.iv IV.zero) zeroIV ?_; clear S; intro b1 w1 S)
            | (refine S.storeAll rfl 29 _ _ rfl _ (Cel.iv (NV.mk 52 false 14 0 2 0 0 false (fd h 0 8) false false).iv) rfl rfl 0 _ rfl rfl (one_iv _) (szIV _) ?_; clear S; intro w2 S; simp only [List.set_cons_zero] at S)))
        (try simp only [Exit.inBlock, Exit.then])
        refine bodyPost_ret (S.results rfl _ _ rfl 0 _ rfl _ Tryd.underlying29 rfl (szIV _)) rfl ⟨rfl, S.low⟩
      · have CO : Hid (∀ w1, Calls Tryd.prog 36 #[.int .u16 (h : Int), .int .i64 8, .int .i64 3] w1 fun e w' => e = .returned (.int .i64 2) ∧ Below w1.heap.size w1 w') := fun w1 => by
          have := field_8_3 h hh w1
          rw [q0] at this
          exact this
        have hb1 : bits .and .i64 (((fd h 0 8 : Nat) : Int) / 4) 1 = ((fd (fd h 0 8) 2 1 : Nat) : Int) := i64_bit (fd h 0 8) 2 (by omega)
        have t_5400 : (((fd h 0 8 : Nat) : Int) == 0) = false := by simp; omega
        rw [q1] at rb
        have rb2 : bits .and .u16 (h : Int) 63488 = 51200 := rb
        clear rb
        have hx1 : fd (fd h 0 8) 2 1 = 0 := q3
        have t_4217 : (((fd (fd h 0 8) 2 1 : Nat) : Int) != 0) = false := by simp; omega
        have hH : heldN h = false := by
          unfold heldN
          rw [q0]
          simp [nbeq, hx1]
        have hN : manyN h = (NV.mk 52 false 14 0 2 0 0 false (fd h 0 8) true false) := by
          unfold manyN
          simp [nbeq, nblt, nble, *]
        unfold Says
        rw [hN]
        clear hN
        clear hx1
        clear q3 hH
        go_enter Tryd.func39, Tryd.ntmps39
        have S := SH.start w
        go_wp2_with (first
          | (go_at_call 36; (first | with_reducible refine (field_0_8 h hh _).mono ?_); rintro e wf ⟨rfl, hbf⟩; replace S := S.below hbf; clear hbf)
          | (go_at_call 36; with_reducible refine (CO.out _).mono ?_; rintro e wf ⟨rfl, hbf⟩; replace S := S.below hbf; clear hbf)
          | (go_at_call 35; refine (reg_c _ _ _ _ _ _).mono ?_; rintro e wf ⟨rfl, hbf⟩; replace S := S.below hbf; clear hbf)
          | (go_at_call 54; refine (imm_c _ _ _ _ _ (by omega) (by omega) _).mono ?_; rintro e wf ⟨rfl, hbf⟩; replace S := S.below hbf; clear hbf)
          | (go_at_call 42; refine (none_c _ h hh _).mono ?_; rintro e wf ⟨rfl, hbf⟩; replace S := S.below hbf; clear hbf)
          | (go_at_call 62; refine (num_c _ _ (by omega) (by omega) _).mono ?_; rintro e wf ⟨rfl, hbf⟩; replace S := S.below hbf; clear hbf)
          | ((with_reducible refine wpl_is ?_); first
            | (refine S.alloc rfl 29 rfl (Cel.iv IV.zero) zeroIV ?_; clear S; intro b1 w1 S)
            | (refine S.storeAll rfl 29 _ _ rfl _ (Cel.iv (NV.mk 52 false 14 0 2 0 0 false (fd h 0 8) true false).iv) rfl rfl 0 _ rfl rfl (one_iv _) (szIV _) ?_; clear S; intro w2 S; simp only [List.set_cons_zero] at S)))
        (try simp only [Exit.inBlock, Exit.then])
        refine bodyPost_ret (S.results rfl _ _ rfl 0 _ rfl _ Tryd.underlying29 rfl (szIV _)) rfl ⟨rfl, S.low⟩
set_option maxHeartbeats 4000000 in
set_option maxRecDepth 100000 in
theorem many_3 (h : Nat) (hh : h < 65536) (q0 : fd h 8 3 = 3) (hr : h / 2048 = 24 ∨ h / 2048 = 25) (w : World) : Calls Tryd.prog 39 #[.int .u16 h] w fun e w' => Says w (manyN h) e w' := by
  have rb := row_bits h hh
  have f_0_8 : fd h 0 8 < 256 := fd_lt h 0 8
  have g1 : fd (fd h 0 8) 3 1 < 2 := fd_lt _ _ 1
  rcases (show fd h 0 8 = 0 ∨ fd h 0 8 ≠ 0 by omega) with q2 | q2
  · have CO : Hid (∀ w1, Calls Tryd.prog 36 #[.int .u16 (h : Int), .int .i64 8, .int .i64 3] w1 fun e w' => e = .returned (.int .i64 3) ∧ Below w1.heap.size w1 w') := fun w1 => by
      have := field_8_3 h hh w1
      rw [q0] at this
      exact this
    have hb1 : bits .and .i64 (((fd h 0 8 : Nat) : Int) / 8) 1 = ((fd (fd h 0 8) 3 1 : Nat) : Int) := i64_bit (fd h 0 8) 3 (by omega)
    have t_5400 : (((fd h 0 8 : Nat) : Int) == 0) = true := by simp; omega
    have hx1 : fd (fd h 0 8) 3 1 = 0 := by rw [q2]; simp [fd]
    have t_5796 : (((fd (fd h 0 8) 3 1 : Nat) : Int) != 0) = false := by simp; omega
    have hN : manyN h = (nNone 65 h) := by
      unfold manyN
      simp [nbeq, nblt, nble, *]
    unfold Says
    rw [hN]
    clear hN
    clear hx1
    clear q2
    go_enter Tryd.func39, Tryd.ntmps39
    have S := SH.start w
    go_wp2_with (first
      | (go_at_call 36; (first | with_reducible refine (field_0_8 h hh _).mono ?_); rintro e wf ⟨rfl, hbf⟩; replace S := S.below hbf; clear hbf)
      | (go_at_call 36; with_reducible refine (CO.out _).mono ?_; rintro e wf ⟨rfl, hbf⟩; replace S := S.below hbf; clear hbf)
      | (go_at_call 35; refine (reg_c _ _ _ _ _ _).mono ?_; rintro e wf ⟨rfl, hbf⟩; replace S := S.below hbf; clear hbf)
      | (go_at_call 54; refine (imm_c _ _ _ _ _ (by omega) (by omega) _).mono ?_; rintro e wf ⟨rfl, hbf⟩; replace S := S.below hbf; clear hbf)
      | (go_at_call 42; refine (none_c _ h hh _).mono ?_; rintro e wf ⟨rfl, hbf⟩; replace S := S.below hbf; clear hbf)
      | (go_at_call 62; refine (num_c _ _ (by omega) (by omega) _).mono ?_; rintro e wf ⟨rfl, hbf⟩; replace S := S.below hbf; clear hbf)
      | ((with_reducible refine wpl_is ?_); first
        | (refine S.alloc rfl 29 rfl (Cel.iv IV.zero) zeroIV ?_; clear S; intro b1 w1 S)
        | (refine S.storeAll rfl 29 _ _ rfl _ (Cel.iv (nNone 65 h).iv) rfl rfl 0 _ rfl rfl (one_iv _) (szIV _) ?_; clear S; intro w2 S; simp only [List.set_cons_zero] at S)))
    (try simp only [Exit.inBlock, Exit.then])
    refine bodyPost_ret (S.results rfl _ _ rfl 0 _ rfl _ Tryd.underlying29 rfl (szIV _)) rfl ⟨rfl, S.low⟩
  · rcases hr with q1 | q1
    · rcases (show fd (fd h 0 8) 3 1 = 1 ∨ fd (fd h 0 8) 3 1 = 0 by omega) with q3 | q3
      · have CO : Hid (∀ w1, Calls Tryd.prog 36 #[.int .u16 (h : Int), .int .i64 8, .int .i64 3] w1 fun e w' => e = .returned (.int .i64 3) ∧ Below w1.heap.size w1 w') := fun w1 => by
          have := field_8_3 h hh w1
          rw [q0] at this
          exact this
        have hb1 : bits .and .i64 (((fd h 0 8 : Nat) : Int) / 8) 1 = ((fd (fd h 0 8) 3 1 : Nat) : Int) := i64_bit (fd h 0 8) 3 (by omega)
        have t_5400 : (((fd h 0 8 : Nat) : Int) == 0) = false := by simp; omega
        rw [q1] at rb
        have rb2 : bits .and .u16 (h : Int) 63488 = 49152 := rb
        clear rb
        have hx1 : fd (fd h 0 8) 3 1 = 1 := q3
        have t_5796 : (((fd (fd h 0 8) 3 1 : Nat) : Int) != 0) = true := by simp; omega
        have hH : heldN h = true := by
          unfold heldN
          rw [q0]
          simp [nbeq, hx1]
        have hN : manyN h = (nNone 65 h) := by
          unfold manyN
          simp [nbeq, nblt, nble, *]
        unfold Says
        rw [hN]
        clear hN
        clear hx1
        clear q3 hH
        go_enter Tryd.func39, Tryd.ntmps39
        have S := SH.start w
        go_wp2_with (first
          | (go_at_call 36; (first | with_reducible refine (field_0_8 h hh _).mono ?_); rintro e wf ⟨rfl, hbf⟩; replace S := S.below hbf; clear hbf)
          | (go_at_call 36; with_reducible refine (CO.out _).mono ?_; rintro e wf ⟨rfl, hbf⟩; replace S := S.below hbf; clear hbf)
          | (go_at_call 35; refine (reg_c _ _ _ _ _ _).mono ?_; rintro e wf ⟨rfl, hbf⟩; replace S := S.below hbf; clear hbf)
          | (go_at_call 54; refine (imm_c _ _ _ _ _ (by omega) (by omega) _).mono ?_; rintro e wf ⟨rfl, hbf⟩; replace S := S.below hbf; clear hbf)
          | (go_at_call 42; refine (none_c _ h hh _).mono ?_; rintro e wf ⟨rfl, hbf⟩; replace S := S.below hbf; clear hbf)
          | (go_at_call 62; refine (num_c _ _ (by omega) (by omega) _).mono ?_; rintro e wf ⟨rfl, hbf⟩; replace S := S.below hbf; clear hbf)
          | ((with_reducible refine wpl_is ?_); first
            | (refine S.alloc rfl 29 rfl (Cel.iv IV.zero) zeroIV ?_; clear S; intro b1 w1 S)
            | (refine S.storeAll rfl 29 _ _ rfl _ (Cel.iv (nNone 65 h).iv) rfl rfl 0 _ rfl rfl (one_iv _) (szIV _) ?_; clear S; intro w2 S; simp only [List.set_cons_zero] at S)))
        (try simp only [Exit.inBlock, Exit.then])
        refine bodyPost_ret (S.results rfl _ _ rfl 0 _ rfl _ Tryd.underlying29 rfl (szIV _)) rfl ⟨rfl, S.low⟩
      · have CO : Hid (∀ w1, Calls Tryd.prog 36 #[.int .u16 (h : Int), .int .i64 8, .int .i64 3] w1 fun e w' => e = .returned (.int .i64 3) ∧ Below w1.heap.size w1 w') := fun w1 => by
          have := field_8_3 h hh w1
          rw [q0] at this
          exact this
        have hb1 : bits .and .i64 (((fd h 0 8 : Nat) : Int) / 8) 1 = ((fd (fd h 0 8) 3 1 : Nat) : Int) := i64_bit (fd h 0 8) 3 (by omega)
        have t_5400 : (((fd h 0 8 : Nat) : Int) == 0) = false := by simp; omega
        rw [q1] at rb
        have rb2 : bits .and .u16 (h : Int) 63488 = 49152 := rb
        clear rb
        have hx1 : fd (fd h 0 8) 3 1 = 0 := q3
        have t_5796 : (((fd (fd h 0 8) 3 1 : Nat) : Int) != 0) = false := by simp; omega
        have hH : heldN h = false := by
          unfold heldN
          rw [q0]
          simp [nbeq, hx1]
        have hN : manyN h = (NV.mk 53 false 14 0 3 0 0 false (fd h 0 8) true false) := by
          unfold manyN
          simp [nbeq, nblt, nble, *]
        unfold Says
        rw [hN]
        clear hN
        clear hx1
        clear q3 hH
        go_enter Tryd.func39, Tryd.ntmps39
        have S := SH.start w
        go_wp2_with (first
          | (go_at_call 36; (first | with_reducible refine (field_0_8 h hh _).mono ?_); rintro e wf ⟨rfl, hbf⟩; replace S := S.below hbf; clear hbf)
          | (go_at_call 36; with_reducible refine (CO.out _).mono ?_; rintro e wf ⟨rfl, hbf⟩; replace S := S.below hbf; clear hbf)
          | (go_at_call 35; refine (reg_c _ _ _ _ _ _).mono ?_; rintro e wf ⟨rfl, hbf⟩; replace S := S.below hbf; clear hbf)
          | (go_at_call 54; refine (imm_c _ _ _ _ _ (by omega) (by omega) _).mono ?_; rintro e wf ⟨rfl, hbf⟩; replace S := S.below hbf; clear hbf)
          | (go_at_call 42; refine (none_c _ h hh _).mono ?_; rintro e wf ⟨rfl, hbf⟩; replace S := S.below hbf; clear hbf)
          | (go_at_call 62; refine (num_c _ _ (by omega) (by omega) _).mono ?_; rintro e wf ⟨rfl, hbf⟩; replace S := S.below hbf; clear hbf)
          | ((with_reducible refine wpl_is ?_); first
            | (refine S.alloc rfl 29 rfl (Cel.iv IV.zero) zeroIV ?_; clear S; intro b1 w1 S)
            | (refine S.storeAll rfl 29 _ _ rfl _ (Cel.iv (NV.mk 53 false 14 0 3 0 0 false (fd h 0 8) true false).iv) rfl rfl 0 _ rfl rfl (one_iv _) (szIV _) ?_; clear S; intro w2 S; simp only [List.set_cons_zero] at S)))
        (try simp only [Exit.inBlock, Exit.then])
        refine bodyPost_ret (S.results rfl _ _ rfl 0 _ rfl _ Tryd.underlying29 rfl (szIV _)) rfl ⟨rfl, S.low⟩
    · rcases (show fd (fd h 0 8) 3 1 = 1 ∨ fd (fd h 0 8) 3 1 = 0 by omega) with q3 | q3
      · have CO : Hid (∀ w1, Calls Tryd.prog 36 #[.int .u16 (h : Int), .int .i64 8, .int .i64 3] w1 fun e w' => e = .returned (.int .i64 3) ∧ Below w1.heap.size w1 w') := fun w1 => by
          have := field_8_3 h hh w1
          rw [q0] at this
          exact this
        have hb1 : bits .and .i64 (((fd h 0 8 : Nat) : Int) / 8) 1 = ((fd (fd h 0 8) 3 1 : Nat) : Int) := i64_bit (fd h 0 8) 3 (by omega)
        have t_5400 : (((fd h 0 8 : Nat) : Int) == 0) = false := by simp; omega
        rw [q1] at rb
        have rb2 : bits .and .u16 (h : Int) 63488 = 51200 := rb
        clear rb
        have hx1 : fd (fd h 0 8) 3 1 = 1 := q3
        have t_5796 : (((fd (fd h 0 8) 3 1 : Nat) : Int) != 0) = true := by simp; omega
        have hH : heldN h = true := by
          unfold heldN
          rw [q0]
          simp [nbeq, hx1]
        have hN : manyN h = (NV.mk 52 false 14 0 3 0 0 false (fd h 0 8) false false) := by
          unfold manyN
          simp [nbeq, nblt, nble, *]
        unfold Says
        rw [hN]
        clear hN
        clear hx1
        clear q3 hH
        go_enter Tryd.func39, Tryd.ntmps39
        have S := SH.start w
        go_wp2_with (first
          | (go_at_call 36; (first | with_reducible refine (field_0_8 h hh _).mono ?_); rintro e wf ⟨rfl, hbf⟩; replace S := S.below hbf; clear hbf)
          | (go_at_call 36; with_reducible refine (CO.out _).mono ?_; rintro e wf ⟨rfl, hbf⟩; replace S := S.below hbf; clear hbf)
          | (go_at_call 35; refine (reg_c _ _ _ _ _ _).mono ?_; rintro e wf ⟨rfl, hbf⟩; replace S := S.below hbf; clear hbf)
          | (go_at_call 54; refine (imm_c _ _ _ _ _ (by omega) (by omega) _).mono ?_; rintro e wf ⟨rfl, hbf⟩; replace S := S.below hbf; clear hbf)
          | (go_at_call 42; refine (none_c _ h hh _).mono ?_; rintro e wf ⟨rfl, hbf⟩; replace S := S.below hbf; clear hbf)
          | (go_at_call 62; refine (num_c _ _ (by omega) (by omega) _).mono ?_; rintro e wf ⟨rfl, hbf⟩; replace S := S.below hbf; clear hbf)
          | ((with_reducible refine wpl_is ?_); first
            | (refine S.alloc rfl 29 rfl (Cel.iv IV.zero) zeroIV ?_; clear S; intro b1 w1 S)
            | (refine S.storeAll rfl 29 _ _ rfl _ (Cel.iv (NV.mk 52 false 14 0 3 0 0 false (fd h 0 8) false false).iv) rfl rfl 0 _ rfl rfl (one_iv _) (szIV _) ?_; clear S; intro w2 S; simp only [List.set_cons_zero] at S)))
        (try simp only [Exit.inBlock, Exit.then])
        refine bodyPost_ret (S.results rfl _ _ rfl 0 _ rfl _ Tryd.underlying29 rfl (szIV _)) rfl ⟨rfl, S.low⟩
      · have CO : Hid (∀ w1, Calls Tryd.prog 36 #[.int .u16 (h : Int), .int .i64 8, .int .i64 3] w1 fun e w' => e = .returned (.int .i64 3) ∧ Below w1.heap.size w1 w') := fun w1 => by
          have := field_8_3 h hh w1
          rw [q0] at this
          exact this
        have hb1 : bits .and .i64 (((fd h 0 8 : Nat) : Int) / 8) 1 = ((fd (fd h 0 8) 3 1 : Nat) : Int) := i64_bit (fd h 0 8) 3 (by omega)
        have t_5400 : (((fd h 0 8 : Nat) : Int) == 0) = false := by simp; omega
        rw [q1] at rb
        have rb2 : bits .and .u16 (h : Int) 63488 = 51200 := rb
        clear rb
        have hx1 : fd (fd h 0 8) 3 1 = 0 := q3
        have t_5796 : (((fd (fd h 0 8) 3 1 : Nat) : Int) != 0) = false := by simp; omega
        have hH : heldN h = false := by
          unfold heldN
          rw [q0]
          simp [nbeq, hx1]
        have hN : manyN h = (NV.mk 52 false 14 0 3 0 0 false (fd h 0 8) true false) := by
          unfold manyN
          simp [nbeq, nblt, nble, *]
        unfold Says
        rw [hN]
        clear hN
        clear hx1
        clear q3 hH
        go_enter Tryd.func39, Tryd.ntmps39
        have S := SH.start w
        go_wp2_with (first
          | (go_at_call 36; (first | with_reducible refine (field_0_8 h hh _).mono ?_); rintro e wf ⟨rfl, hbf⟩; replace S := S.below hbf; clear hbf)
          | (go_at_call 36; with_reducible refine (CO.out _).mono ?_; rintro e wf ⟨rfl, hbf⟩; replace S := S.below hbf; clear hbf)
          | (go_at_call 35; refine (reg_c _ _ _ _ _ _).mono ?_; rintro e wf ⟨rfl, hbf⟩; replace S := S.below hbf; clear hbf)
          | (go_at_call 54; refine (imm_c _ _ _ _ _ (by omega) (by omega) _).mono ?_; rintro e wf ⟨rfl, hbf⟩; replace S := S.below hbf; clear hbf)
          | (go_at_call 42; refine (none_c _ h hh _).mono ?_; rintro e wf ⟨rfl, hbf⟩; replace S := S.below hbf; clear hbf)
          | (go_at_call 62; refine (num_c _ _ (by omega) (by omega) _).mono ?_; rintro e wf ⟨rfl, hbf⟩; replace S := S.below hbf; clear hbf)
          | ((with_reducible refine wpl_is ?_); first
            | (refine S.alloc rfl 29 rfl (Cel.iv IV.zero) zeroIV ?_; clear S; intro b1 w1 S)
            | (refine S.storeAll rfl 29 _ _ rfl _ (Cel.iv (NV.mk 52 false 14 0 3 0 0 false (fd h 0 8) true false).iv) rfl rfl 0 _ rfl rfl (one_iv _) (szIV _) ?_; clear S; intro w2 S; simp only [List.set_cons_zero] at S)))
        (try simp only [Exit.inBlock, Exit.then])
        refine bodyPost_ret (S.results rfl _ _ rfl 0 _ rfl _ Tryd.underlying29 rfl (szIV _)) rfl ⟨rfl, S.low⟩
set_option maxHeartbeats 4000000 in
set_option maxRecDepth 100000 in
theorem many_4 (h : Nat) (hh : h < 65536) (q0 : fd h 8 3 = 4) (hr : h / 2048 = 24 ∨ h / 2048 = 25) (w : World) : Calls Tryd.prog 39 #[.int .u16 h] w fun e w' => Says w (manyN h) e w' := by
  have rb := row_bits h hh
  have f_0_8 : fd h 0 8 < 256 := fd_lt h 0 8
  have g1 : fd (fd h 0 8) 4 1 < 2 := fd_lt _ _ 1
  rcases (show fd h 0 8 = 0 ∨ fd h 0 8 ≠ 0 by omega) with q2 | q2
  · have CO : Hid (∀ w1, Calls Tryd.prog 36 #[.int .u16 (h : Int), .int .i64 8, .int .i64 3] w1 fun e w' => e = .returned (.int .i64 4) ∧ Below w1.heap.size w1 w') := fun w1 => by
      have := field_8_3 h hh w1
      rw [q0] at this
      exact this
    have hb1 : bits .and .i64 (((fd h 0 8 : Nat) : Int) / 16) 1 = ((fd (fd h 0 8) 4 1 : Nat) : Int) := i64_bit (fd h 0 8) 4 (by omega)
    have t_5400 : (((fd h 0 8 : Nat) : Int) == 0) = true := by simp; omega
    have hx1 : fd (fd h 0 8) 4 1 = 0 := by rw [q2]; simp [fd]
    have t_4588 : (((fd (fd h 0 8) 4 1 : Nat) : Int) != 0) = false := by simp; omega
    have hN : manyN h = (nNone 65 h) := by
      unfold manyN
      simp [nbeq, nblt, nble, *]
    unfold Says
    rw [hN]
    clear hN
    clear hx1
    clear q2
    go_enter Tryd.func39, Tryd.ntmps39
    have S := SH.start w
    go_wp2_with (first
      | (go_at_call 36; (first | with_reducible refine (field_0_8 h hh _).mono ?_); rintro e wf ⟨rfl, hbf⟩; replace S := S.below hbf; clear hbf)
      | (go_at_call 36; with_reducible refine (CO.out _).mono ?_; rintro e wf ⟨rfl, hbf⟩; replace S := S.below hbf; clear hbf)
      | (go_at_call 35; refine (reg_c _ _ _ _ _ _).mono ?_; rintro e wf ⟨rfl, hbf⟩; replace S := S.below hbf; clear hbf)
      | (go_at_call 54; refine (imm_c _ _ _ _ _ (by omega) (by omega) _).mono ?_; rintro e wf ⟨rfl, hbf⟩; replace S := S.below hbf; clear hbf)
      | (go_at_call 42; refine (none_c _ h hh _).mono ?_; rintro e wf ⟨rfl, hbf⟩; replace S := S.below hbf; clear hbf)
      | (go_at_call 62; refine (num_c _ _ (by omega) (by omega) _).mono ?_; rintro e wf ⟨rfl, hbf⟩; replace S := S.below hbf; clear hbf)
      | ((with_reducible refine wpl_is ?_); first
        | (refine S.alloc rfl 29 rfl (Cel.iv IV.zero) zeroIV ?_; clear S; intro b1 w1 S)
        | (refine S.storeAll rfl 29 _ _ rfl _ (Cel.iv (nNone 65 h).iv) rfl rfl 0 _ rfl rfl (one_iv _) (szIV _) ?_; clear S; intro w2 S; simp only [List.set_cons_zero] at S)))
    (try simp only [Exit.inBlock, Exit.then])
    refine bodyPost_ret (S.results rfl _ _ rfl 0 _ rfl _ Tryd.underlying29 rfl (szIV _)) rfl ⟨rfl, S.low⟩
  · rcases hr with q1 | q1
    · rcases (show fd (fd h 0 8) 4 1 = 1 ∨ fd (fd h 0 8) 4 1 = 0 by omega) with q3 | q3
      · have CO : Hid (∀ w1, Calls Tryd.prog 36 #[.int .u16 (h : Int), .int .i64 8, .int .i64 3] w1 fun e w' => e = .returned (.int .i64 4) ∧ Below w1.heap.size w1 w') := fun w1 => by
          have := field_8_3 h hh w1
          rw [q0] at this
          exact this
        have hb1 : bits .and .i64 (((fd h 0 8 : Nat) : Int) / 16) 1 = ((fd (fd h 0 8) 4 1 : Nat) : Int) := i64_bit (fd h 0 8) 4 (by omega)
        have t_5400 : (((fd h 0 8 : Nat) : Int) == 0) = false := by simp; omega
        rw [q1] at rb
        have rb2 : bits .and .u16 (h : Int) 63488 = 49152 := rb
        clear rb
        have hx1 : fd (fd h 0 8) 4 1 = 1 := q3
        have t_4588 : (((fd (fd h 0 8) 4 1 : Nat) : Int) != 0) = true := by simp; omega
        have hH : heldN h = true := by
          unfold heldN
          rw [q0]
          simp [nbeq, hx1]
        have hN : manyN h = (nNone 65 h) := by
          unfold manyN
          simp [nbeq, nblt, nble, *]
        unfold Says
        rw [hN]
        clear hN
        clear hx1
        clear q3 hH
        go_enter Tryd.func39, Tryd.ntmps39
        have S := SH.start w
        go_wp2_with (first
          | (go_at_call 36; (first | with_reducible refine (field_0_8 h hh _).mono ?_); rintro e wf ⟨rfl, hbf⟩; replace S := S.below hbf; clear hbf)
          | (go_at_call 36; with_reducible refine (CO.out _).mono ?_; rintro e wf ⟨rfl, hbf⟩; replace S := S.below hbf; clear hbf)
          | (go_at_call 35; refine (reg_c _ _ _ _ _ _).mono ?_; rintro e wf ⟨rfl, hbf⟩; replace S := S.below hbf; clear hbf)
          | (go_at_call 54; refine (imm_c _ _ _ _ _ (by omega) (by omega) _).mono ?_; rintro e wf ⟨rfl, hbf⟩; replace S := S.below hbf; clear hbf)
          | (go_at_call 42; refine (none_c _ h hh _).mono ?_; rintro e wf ⟨rfl, hbf⟩; replace S := S.below hbf; clear hbf)
          | (go_at_call 62; refine (num_c _ _ (by omega) (by omega) _).mono ?_; rintro e wf ⟨rfl, hbf⟩; replace S := S.below hbf; clear hbf)
          | ((with_reducible refine wpl_is ?_); first
            | (refine S.alloc rfl 29 rfl (Cel.iv IV.zero) zeroIV ?_; clear S; intro b1 w1 S)
            | (refine S.storeAll rfl 29 _ _ rfl _ (Cel.iv (nNone 65 h).iv) rfl rfl 0 _ rfl rfl (one_iv _) (szIV _) ?_; clear S; intro w2 S; simp only [List.set_cons_zero] at S)))
        (try simp only [Exit.inBlock, Exit.then])
        refine bodyPost_ret (S.results rfl _ _ rfl 0 _ rfl _ Tryd.underlying29 rfl (szIV _)) rfl ⟨rfl, S.low⟩
      · have CO : Hid (∀ w1, Calls Tryd.prog 36 #[.int .u16 (h : Int), .int .i64 8, .int .i64 3] w1 fun e w' => e = .returned (.int .i64 4) ∧ Below w1.heap.size w1 w') := fun w1 => by
          have := field_8_3 h hh w1
          rw [q0] at this
          exact this
        have hb1 : bits .and .i64 (((fd h 0 8 : Nat) : Int) / 16) 1 = ((fd (fd h 0 8) 4 1 : Nat) : Int) := i64_bit (fd h 0 8) 4 (by omega)
        have t_5400 : (((fd h 0 8 : Nat) : Int) == 0) = false := by simp; omega
        rw [q1] at rb
        have rb2 : bits .and .u16 (h : Int) 63488 = 49152 := rb
        clear rb
        have hx1 : fd (fd h 0 8) 4 1 = 0 := q3
        have t_4588 : (((fd (fd h 0 8) 4 1 : Nat) : Int) != 0) = false := by simp; omega
        have hH : heldN h = false := by
          unfold heldN
          rw [q0]
          simp [nbeq, hx1]
        have hN : manyN h = (NV.mk 53 false 14 0 4 0 0 false (fd h 0 8) true false) := by
          unfold manyN
          simp [nbeq, nblt, nble, *]
        unfold Says
        rw [hN]
        clear hN
        clear hx1
        clear q3 hH
        go_enter Tryd.func39, Tryd.ntmps39
        have S := SH.start w
        go_wp2_with (first
          | (go_at_call 36; (first | with_reducible refine (field_0_8 h hh _).mono ?_); rintro e wf ⟨rfl, hbf⟩; replace S := S.below hbf; clear hbf)
          | (go_at_call 36; with_reducible refine (CO.out _).mono ?_; rintro e wf ⟨rfl, hbf⟩; replace S := S.below hbf; clear hbf)
          | (go_at_call 35; refine (reg_c _ _ _ _ _ _).mono ?_; rintro e wf ⟨rfl, hbf⟩; replace S := S.below hbf; clear hbf)
          | (go_at_call 54; refine (imm_c _ _ _ _ _ (by omega) (by omega) _).mono ?_; rintro e wf ⟨rfl, hbf⟩; replace S := S.below hbf; clear hbf)
          | (go_at_call 42; refine (none_c _ h hh _).mono ?_; rintro e wf ⟨rfl, hbf⟩; replace S := S.below hbf; clear hbf)
          | (go_at_call 62; refine (num_c _ _ (by omega) (by omega) _).mono ?_; rintro e wf ⟨rfl, hbf⟩; replace S := S.below hbf; clear hbf)
          | ((with_reducible refine wpl_is ?_); first
            | (refine S.alloc rfl 29 rfl (Cel.iv IV.zero) zeroIV ?_; clear S; intro b1 w1 S)
            | (refine S.storeAll rfl 29 _ _ rfl _ (Cel.iv (NV.mk 53 false 14 0 4 0 0 false (fd h 0 8) true false).iv) rfl rfl 0 _ rfl rfl (one_iv _) (szIV _) ?_; clear S; intro w2 S; simp only [List.set_cons_zero] at S)))
        (try simp only [Exit.inBlock, Exit.then])
        refine bodyPost_ret (S.results rfl _ _ rfl 0 _ rfl _ Tryd.underlying29 rfl (szIV _)) rfl ⟨rfl, S.low⟩
    · rcases (show fd (fd h 0 8) 4 1 = 1 ∨ fd (fd h 0 8) 4 1 = 0 by omega) with q3 | q3
      · have CO : Hid (∀ w1, Calls Tryd.prog 36 #[.int .u16 (h : Int), .int .i64 8, .int .i64 3] w1 fun e w' => e = .returned (.int .i64 4) ∧ Below w1.heap.size w1 w') := fun w1 => by
          have := field_8_3 h hh w1
          rw [q0] at this
          exact this
        have hb1 : bits .and .i64 (((fd h 0 8 : Nat) : Int) / 16) 1 = ((fd (fd h 0 8) 4 1 : Nat) : Int) := i64_bit (fd h 0 8) 4 (by omega)
        have t_5400 : (((fd h 0 8 : Nat) : Int) == 0) = false := by simp; omega
        rw [q1] at rb
        have rb2 : bits .and .u16 (h : Int) 63488 = 51200 := rb
        clear rb
        have hx1 : fd (fd h 0 8) 4 1 = 1 := q3
        have t_4588 : (((fd (fd h 0 8) 4 1 : Nat) : Int) != 0) = true := by simp; omega
        have hH : heldN h = true := by
          unfold heldN
          rw [q0]
          simp [nbeq, hx1]
        have hN : manyN h = (NV.mk 52 false 14 0 4 0 0 false (fd h 0 8) false false) := by
          unfold manyN
          simp [nbeq, nblt, nble, *]
        unfold Says
        rw [hN]
        clear hN
        clear hx1
        clear q3 hH
        go_enter Tryd.func39, Tryd.ntmps39
        have S := SH.start w
        go_wp2_with (first
          | (go_at_call 36; (first | with_reducible refine (field_0_8 h hh _).mono ?_); rintro e wf ⟨rfl, hbf⟩; replace S := S.below hbf; clear hbf)
          | (go_at_call 36; with_reducible refine (CO.out _).mono ?_; rintro e wf ⟨rfl, hbf⟩; replace S := S.below hbf; clear hbf)
          | (go_at_call 35; refine (reg_c _ _ _ _ _ _).mono ?_; rintro e wf ⟨rfl, hbf⟩; replace S := S.below hbf; clear hbf)
          | (go_at_call 54; refine (imm_c _ _ _ _ _ (by omega) (by omega) _).mono ?_; rintro e wf ⟨rfl, hbf⟩; replace S := S.below hbf; clear hbf)
          | (go_at_call 42; refine (none_c _ h hh _).mono ?_; rintro e wf ⟨rfl, hbf⟩; replace S := S.below hbf; clear hbf)
          | (go_at_call 62; refine (num_c _ _ (by omega) (by omega) _).mono ?_; rintro e wf ⟨rfl, hbf⟩; replace S := S.below hbf; clear hbf)
          | ((with_reducible refine wpl_is ?_); first
            | (refine S.alloc rfl 29 rfl (Cel.iv IV.zero) zeroIV ?_; clear S; intro b1 w1 S)
            | (refine S.storeAll rfl 29 _ _ rfl _ (Cel.iv (NV.mk 52 false 14 0 4 0 0 false (fd h 0 8) false false).iv) rfl rfl 0 _ rfl rfl (one_iv _) (szIV _) ?_; clear S; intro w2 S; simp only [List.set_cons_zero] at S)))
        (try simp only [Exit.inBlock, Exit.then])
        refine bodyPost_ret (S.results rfl _ _ rfl 0 _ rfl _ Tryd.underlying29 rfl (szIV _)) rfl ⟨rfl, S.low⟩
      · have CO : Hid (∀ w1, Calls Tryd.prog 36 #[.int .u16 (h : Int), .int .i64 8, .int .i64 3] w1 fun e w' => e = .returned (.int .i64 4) ∧ Below w1.heap.size w1 w') := fun w1 => by
          have := field_8_3 h hh w1
          rw [q0] at this
          exact this
        have hb1 : bits .and .i64 (((fd h 0 8 : Nat) : Int) / 16) 1 = ((fd (fd h 0 8) 4 1 : Nat) : Int) := i64_bit (fd h 0 8) 4 (by omega)
        have t_5400 : (((fd h 0 8 : Nat) : Int) == 0) = false := by simp; omega
        rw [q1] at rb
        have rb2 : bits .and .u16 (h : Int) 63488 = 51200 := rb
        clear rb
        have hx1 : fd (fd h 0 8) 4 1 = 0 := q3
        have t_4588 : (((fd (fd h 0 8) 4 1 : Nat) : Int) != 0) = false := by simp; omega
        have hH : heldN h = false := by
          unfold heldN
          rw [q0]
          simp [nbeq, hx1]
        have hN : manyN h = (NV.mk 52 false 14 0 4 0 0 false (fd h 0 8) true false) := by
          unfold manyN
          simp [nbeq, nblt, nble, *]
        unfold Says
        rw [hN]
        clear hN
        clear hx1
        clear q3 hH
        go_enter Tryd.func39, Tryd.ntmps39
        have S := SH.start w
        go_wp2_with (first
          | (go_at_call 36; (first | with_reducible refine (field_0_8 h hh _).mono ?_); rintro e wf ⟨rfl, hbf⟩; replace S := S.below hbf; clear hbf)
          | (go_at_call 36; with_reducible refine (CO.out _).mono ?_; rintro e wf ⟨rfl, hbf⟩; replace S := S.below hbf; clear hbf)
          | (go_at_call 35; refine (reg_c _ _ _ _ _ _).mono ?_; rintro e wf ⟨rfl, hbf⟩; replace S := S.below hbf; clear hbf)
          | (go_at_call 54; refine (imm_c _ _ _ _ _ (by omega) (by omega) _).mono ?_; rintro e wf ⟨rfl, hbf⟩; replace S := S.below hbf; clear hbf)
          | (go_at_call 42; refine (none_c _ h hh _).mono ?_; rintro e wf ⟨rfl, hbf⟩; replace S := S.below hbf; clear hbf)
          | (go_at_call 62; refine (num_c _ _ (by omega) (by omega) _).mono ?_; rintro e wf ⟨rfl, hbf⟩; replace S := S.below hbf; clear hbf)
          | ((with_reducible refine wpl_is ?_); first
            | (refine S.alloc rfl 29 rfl (Cel.iv IV.zero) zeroIV ?_; clear S; intro b1 w1 S)
            | (refine S.storeAll rfl 29 _ _ rfl _ (Cel.iv (NV.mk 52 false 14 0 4 0 0 false (fd h 0 8) true false).iv) rfl rfl 0 _ rfl rfl (one_iv _) (szIV _) ?_; clear S; intro w2 S; simp only [List.set_cons_zero] at S)))
        (try simp only [Exit.inBlock, Exit.then])
        refine bodyPost_ret (S.results rfl _ _ rfl 0 _ rfl _ Tryd.underlying29 rfl (szIV _)) rfl ⟨rfl, S.low⟩
set_option maxHeartbeats 4000000 in
set_option maxRecDepth 100000 in
theorem many_5 (h : Nat) (hh : h < 65536) (q0 : fd h 8 3 = 5) (hr : h / 2048 = 24 ∨ h / 2048 = 25) (w : World) : Calls Tryd.prog 39 #[.int .u16 h] w fun e w' => Says w (manyN h) e w' := by
  have rb := row_bits h hh
  have f_0_8 : fd h 0 8 < 256 := fd_lt h 0 8
  have g1 : fd (fd h 0 8) 5 1 < 2 := fd_lt _ _ 1
  rcases (show fd h 0 8 = 0 ∨ fd h 0 8 ≠ 0 by omega) with q2 | q2
  · have CO : Hid (∀ w1, Calls Tryd.prog 36 #[.int .u16 (h : Int), .int .i64 8, .int .i64 3] w1 fun e w' => e = .returned (.int .i64 5) ∧ Below w1.heap.size w1 w') := fun w1 => by
      have := field_8_3 h hh w1
      rw [q0] at this
      exact this
    have hb1 : bits .and .i64 (((fd h 0 8 : Nat) : Int) / 32) 1 = ((fd (fd h 0 8) 5 1 : Nat) : Int) := i64_bit (fd h 0 8) 5 (by omega)
    have t_5400 : (((fd h 0 8 : Nat) : Int) == 0) = true := by simp; omega
    have hx1 : fd (fd h 0 8) 5 1 = 0 := by rw [q2]; simp [fd]
    have t_3584 : (((fd (fd h 0 8) 5 1 : Nat) : Int) != 0) = false := by simp; omega
    have hN : manyN h = (nNone 65 h) := by
      unfold manyN
      simp [nbeq, nblt, nble, *]
    unfold Says
    rw [hN]
    clear hN
    clear hx1
    clear q2
    go_enter Tryd.func39, Tryd.ntmps39
    have S := SH.start w
    go_wp2_with (first
      | (go_at_call 36; (first | with_reducible refine (field_0_8 h hh _).mono ?_); rintro e wf ⟨rfl, hbf⟩; replace S := S.below hbf; clear hbf)
      | (go_at_call 36; with_reducible refine (CO.out _).mono ?_; rintro e wf ⟨rfl, hbf⟩; replace S := S.below hbf; clear hbf)
      | (go_at_call 35; refine (reg_c _ _ _ _ _ _).mono ?_; rintro e wf ⟨rfl, hbf⟩; replace S := S.below hbf; clear hbf)
      | (go_at_call 54; refine (imm_c _ _ _ _ _ (by omega) (by omega) _).mono ?_; rintro e wf ⟨rfl, hbf⟩; replace S := S.below hbf; clear hbf)
      | (go_at_call 42; refine (none_c _ h hh _).mono ?_; rintro e wf ⟨rfl, hbf⟩; replace S := S.below hbf; clear hbf)
      | (go_at_call 62; refine (num_c _ _ (by omega) (by omega) _).mono ?_; rintro e wf ⟨rfl, hbf⟩; replace S := S.below hbf; clear hbf)
      | ((with_reducible refine wpl_is ?_); first
        | (refine S.alloc rfl 29 rfl (Cel.iv IV.zero) zeroIV ?_; clear S; intro b1 w1 S)
        | (refine S.storeAll rfl 29 _ _ rfl _ (Cel.iv (nNone 65 h).iv) rfl rfl 0 _ rfl rfl (one_iv _) (szIV _) ?_; clear S; intro w2 S; simp only [List.set_cons_zero] at S)))
    (try simp only [Exit.inBlock, Exit.then])
    refine bodyPost_ret (S.results rfl _ _ rfl 0 _ rfl _ Tryd.underlying29 rfl (szIV _)) rfl ⟨rfl, S.low⟩
  · rcases hr with q1 | q1
    · rcases (show fd (fd h 0 8) 5 1 = 1 ∨ fd (fd h 0 8) 5 1 = 0 by omega) with q3 | q3
      · have CO : Hid (∀ w1, Calls Tryd.prog 36 #[.int .u16 (h : Int), .int .i64 8, .int .i64 3] w1 fun e w' => e = .returned (.int .i64 5) ∧ Below w1.heap.size w1 w') := fun w1 => by
          have := field_8_3 h hh w1
          rw [q0] at this
          exact this
        have hb1 : bits .and .i64 (((fd h 0 8 : Nat) : Int) / 32) 1 = ((fd (fd h 0 8) 5 1 : Nat) : Int) := i64_bit (fd h 0 8) 5 (by omega)
        have t_5400 : (((fd h 0 8 : Nat) : Int) == 0) = false := by simp; omega
        rw [q1] at rb
        have rb2 : bits .and .u16 (h : Int) 63488 = 49152 := rb
        clear rb
        have hx1 : fd (fd h 0 8) 5 1 = 1 := q3
        have t_3584 : (((fd (fd h 0 8) 5 1 : Nat) : Int) != 0) = true := by simp; omega
        have hH : heldN h = true := by
          unfold heldN
          rw [q0]
          simp [nbeq, hx1]
        have hN : manyN h = (nNone 65 h) := by
          unfold manyN
          simp [nbeq, nblt, nble, *]
        unfold Says
        rw [hN]
        clear hN
        clear hx1
        clear q3 hH
        go_enter Tryd.func39, Tryd.ntmps39
        have S := SH.start w
        go_wp2_with (first
          | (go_at_call 36; (first | with_reducible refine (field_0_8 h hh _).mono ?_); rintro e wf ⟨rfl, hbf⟩; replace S := S.below hbf; clear hbf)
          | (go_at_call 36; with_reducible refine (CO.out _).mono ?_; rintro e wf ⟨rfl, hbf⟩; replace S := S.below hbf; clear hbf)
          | (go_at_call 35; refine (reg_c _ _ _ _ _ _).mono ?_; rintro e wf ⟨rfl, hbf⟩; replace S := S.below hbf; clear hbf)
          | (go_at_call 54; refine (imm_c _ _ _ _ _ (by omega) (by omega) _).mono ?_; rintro e wf ⟨rfl, hbf⟩; replace S := S.below hbf; clear hbf)
          | (go_at_call 42; refine (none_c _ h hh _).mono ?_; rintro e wf ⟨rfl, hbf⟩; replace S := S.below hbf; clear hbf)
          | (go_at_call 62; refine (num_c _ _ (by omega) (by omega) _).mono ?_; rintro e wf ⟨rfl, hbf⟩; replace S := S.below hbf; clear hbf)
          | ((with_reducible refine wpl_is ?_); first
            | (refine S.alloc rfl 29 rfl (Cel.iv IV.zero) zeroIV ?_; clear S; intro b1 w1 S)
            | (refine S.storeAll rfl 29 _ _ rfl _ (Cel.iv (nNone 65 h).iv) rfl rfl 0 _ rfl rfl (one_iv _) (szIV _) ?_; clear S; intro w2 S; simp only [List.set_cons_zero] at S)))
        (try simp only [Exit.inBlock, Exit.then])
        refine bodyPost_ret (S.results rfl _ _ rfl 0 _ rfl _ Tryd.underlying29 rfl (szIV _)) rfl ⟨rfl, S.low⟩
      · have CO : Hid (∀ w1, Calls Tryd.prog 36 #[.int .u16 (h : Int), .int .i64 8, .int .i64 3] w1 fun e w' => e = .returned (.int .i64 5) ∧ Below w1.heap.size w1 w') := fun w1 => by
          have := field_8_3 h hh w1
          rw [q0] at this
          exact this
        have hb1 : bits .and .i64 (((fd h 0 8 : Nat) : Int) / 32) 1 = ((fd (fd h 0 8) 5 1 : Nat) : Int) := i64_bit (fd h 0 8) 5 (by omega)
        have t_5400 : (((fd h 0 8 : Nat) : Int) == 0) = false := by simp; omega
        rw [q1] at rb
        have rb2 : bits .and .u16 (h : Int) 63488 = 49152 := rb
        clear rb
        have hx1 : fd (fd h 0 8) 5 1 = 0 := q3
        have t_3584 : (((fd (fd h 0 8) 5 1 : Nat) : Int) != 0) = false := by simp; omega
        have hH : heldN h = false := by
          unfold heldN
          rw [q0]
          simp [nbeq, hx1]
        have hN : manyN h = (NV.mk 53 false 14 0 5 0 0 false (fd h 0 8) true false) := by
          unfold manyN
          simp [nbeq, nblt, nble, *]
        unfold Says
        rw [hN]
        clear hN
        clear hx1
        clear q3 hH
        go_enter Tryd.func39, Tryd.ntmps39
        have S := SH.start w
        go_wp2_with (first
          | (go_at_call 36; (first | with_reducible refine (field_0_8 h hh _).mono ?_); rintro e wf ⟨rfl, hbf⟩; replace S := S.below hbf; clear hbf)
          | (go_at_call 36; with_reducible refine (CO.out _).mono ?_; rintro e wf ⟨rfl, hbf⟩; replace S := S.below hbf; clear hbf)
          | (go_at_call 35; refine (reg_c _ _ _ _ _ _).mono ?_; rintro e wf ⟨rfl, hbf⟩; replace S := S.below hbf; clear hbf)
          | (go_at_call 54; refine (imm_c _ _ _ _ _ (by omega) (by omega) _).mono ?_; rintro e wf ⟨rfl, hbf⟩; replace S := S.below hbf; clear hbf)
          | (go_at_call 42; refine (none_c _ h hh _).mono ?_; rintro e wf ⟨rfl, hbf⟩; replace S := S.below hbf; clear hbf)
          | (go_at_call 62; refine (num_c _ _ (by omega) (by omega) _).mono ?_; rintro e wf ⟨rfl, hbf⟩; replace S := S.below hbf; clear hbf)
          | ((with_reducible refine wpl_is ?_); first
            | (refine S.alloc rfl 29 rfl (Cel.iv IV.zero) zeroIV ?_; clear S; intro b1 w1 S)
            | (refine S.storeAll rfl 29 _ _ rfl _ (Cel.iv (NV.mk 53 false 14 0 5 0 0 false (fd h 0 8) true false).iv) rfl rfl 0 _ rfl rfl (one_iv _) (szIV _) ?_; clear S; intro w2 S; simp only [List.set_cons_zero] at S)))
        (try simp only [Exit.inBlock, Exit.then])
        refine bodyPost_ret (S.results rfl _ _ rfl 0 _ rfl _ Tryd.underlying29 rfl (szIV _)) rfl ⟨rfl, S.low⟩
    · rcases (show fd (fd h 0 8) 5 1 = 1 ∨ fd (fd h 0 8) 5 1 = 0 by omega) with q3 | q3
      · have CO : Hid (∀ w1, Calls Tryd.prog 36 #[.int .u16 (h : Int), .int .i64 8, .int .i64 3] w1 fun e w' => e = .returned (.int .i64 5) ∧ Below w1.heap.size w1 w') := fun w1 => by
          have := field_8_3 h hh w1
          rw [q0] at this
          exact this
        have hb1 : bits .and .i64 (((fd h 0 8 : Nat) : Int) / 32) 1 = ((fd (fd h 0 8) 5 1 : Nat) : Int) := i64_bit (fd h 0 8) 5 (by omega)
        have t_5400 : (((fd h 0 8 : Nat) : Int) == 0) = false := by simp; omega
        rw [q1] at rb
        have rb2 : bits .and .u16 (h : Int) 63488 = 51200 := rb
        clear rb
        have hx1 : fd (fd h 0 8) 5 1 = 1 := q3
        have t_3584 : (((fd (fd h 0 8) 5 1 : Nat) : Int) != 0) = true := by simp; omega
        have hH : heldN h = true := by
          unfold heldN
          rw [q0]
          simp [nbeq, hx1]
        have hN : manyN h = (NV.mk 52 false 14 0 5 0 0 false (fd h 0 8) false false) := by
          unfold manyN
          simp [nbeq, nblt, nble, *]
        unfold Says
        rw [hN]
        clear hN
        clear hx1
        clear q3 hH
        go_enter Tryd.func39, Tryd.ntmps39
        have S := SH.start w
        go_wp2_with (first
          | (go_at_call 36; (first | with_reducible refine (field_0_8 h hh _).mono ?_); rintro e wf ⟨rfl, hbf⟩; replace S := S.below hbf; clear hbf)
          | (go_at_call 36; with_reducible refine (CO.out _).mono ?_; rintro e wf ⟨rfl, hbf⟩; replace S := S.below hbf; clear hbf)
          | (go_at_call 35; refine (reg_c _ _ _ _ _ _).mono ?_; rintro e wf ⟨rfl, hbf⟩; replace S := S.below hbf; clear hbf)
          | (go_at_call 54; refine (imm_c _ _ _ _ _ (by omega) (by omega) _).mono ?_; rintro e wf ⟨rfl, hbf⟩; replace S := S.below hbf; clear hbf)
          | (go_at_call 42; refine (none_c _ h hh _).mono ?_; rintro e wf ⟨rfl, hbf⟩; replace S := S.below hbf; clear hbf)
          | (go_at_call 62; refine (num_c _ _ (by omega) (by omega) _).mono ?_; rintro e wf ⟨rfl, hbf⟩; replace S := S.below hbf; clear hbf)
          | ((with_reducible refine wpl_is ?_); first
            | (refine S.alloc rfl 29 rfl (Cel.iv IV.zero) zeroIV ?_; clear S; intro b1 w1 S)
            | (refine S.storeAll rfl 29 _ _ rfl _ (Cel.iv (NV.mk 52 false 14 0 5 0 0 false (fd h 0 8) false false).iv) rfl rfl 0 _ rfl rfl (one_iv _) (szIV _) ?_; clear S; intro w2 S; simp only [List.set_cons_zero] at S)))
        (try simp only [Exit.inBlock, Exit.then])
        refine bodyPost_ret (S.results rfl _ _ rfl 0 _ rfl _ Tryd.underlying29 rfl (szIV _)) rfl ⟨rfl, S.low⟩
      · have CO : Hid (∀ w1, Calls Tryd.prog 36 #[.int .u16 (h : Int), .int .i64 8, .int .i64 3] w1 fun e w' => e = .returned (.int .i64 5) ∧ Below w1.heap.size w1 w') := fun w1 => by
          have := field_8_3 h hh w1
          rw [q0] at this
          exact this
        have hb1 : bits .and .i64 (((fd h 0 8 : Nat) : Int) / 32) 1 = ((fd (fd h 0 8) 5 1 : Nat) : Int) := i64_bit (fd h 0 8) 5 (by omega)
        have t_5400 : (((fd h 0 8 : Nat) : Int) == 0) = false := by simp; omega
        rw [q1] at rb
        have rb2 : bits .and .u16 (h : Int) 63488 = 51200 := rb
        clear rb
        have hx1 : fd (fd h 0 8) 5 1 = 0 := q3
        have t_3584 : (((fd (fd h 0 8) 5 1 : Nat) : Int) != 0) = false := by simp; omega
        have hH : heldN h = false := by
          unfold heldN
          rw [q0]
          simp [nbeq, hx1]
        have hN : manyN h = (NV.mk 52 false 14 0 5 0 0 false (fd h 0 8) true false) := by
          unfold manyN
          simp [nbeq, nblt, nble, *]
        unfold Says
        rw [hN]
        clear hN
        clear hx1
        clear q3 hH
        go_enter Tryd.func39, Tryd.ntmps39
        have S := SH.start w
        go_wp2_with (first
          | (go_at_call 36; (first | with_reducible refine (field_0_8 h hh _).mono ?_); rintro e wf ⟨rfl, hbf⟩; replace S := S.below hbf; clear hbf)
          | (go_at_call 36; with_reducible refine (CO.out _).mono ?_; rintro e wf ⟨rfl, hbf⟩; replace S := S.below hbf; clear hbf)
          | (go_at_call 35; refine (reg_c _ _ _ _ _ _).mono ?_; rintro e wf ⟨rfl, hbf⟩; replace S := S.below hbf; clear hbf)
          | (go_at_call 54; refine (imm_c _ _ _ _ _ (by omega) (by omega) _).mono ?_; rintro e wf ⟨rfl, hbf⟩; replace S := S.below hbf; clear hbf)
          | (go_at_call 42; refine (none_c _ h hh _).mono ?_; rintro e wf ⟨rfl, hbf⟩; replace S := S.below hbf; clear hbf)
          | (go_at_call 62; refine (num_c _ _ (by omega) (by omega) _).mono ?_; rintro e wf ⟨rfl, hbf⟩; replace S := S.below hbf; clear hbf)
          | ((with_reducible refine wpl_is ?_); first
            | (refine S.alloc rfl 29 rfl (Cel.iv IV.zero) zeroIV ?_; clear S; intro b1 w1 S)
            | (refine S.storeAll rfl 29 _ _ rfl _ (Cel.iv (NV.mk 52 false 14 0 5 0 0 false (fd h 0 8) true false).iv) rfl rfl 0 _ rfl rfl (one_iv _) (szIV _) ?_; clear S; intro w2 S; simp only [List.set_cons_zero] at S)))
        (try simp only [Exit.inBlock, Exit.then])
        refine bodyPost_ret (S.results rfl _ _ rfl 0 _ rfl _ Tryd.underlying29 rfl (szIV _)) rfl ⟨rfl, S.low⟩
set_option maxHeartbeats 4000000 in
set_option maxRecDepth 100000 in
theorem many_6 (h : Nat) (hh : h < 65536) (q0 : fd h 8 3 = 6) (hr : h / 2048 = 24 ∨ h / 2048 = 25) (w : World) : Calls Tryd.prog 39 #[.int .u16 h] w fun e w' => Says w (manyN h) e w' := by
  have rb := row_bits h hh
  have f_0_8 : fd h 0 8 < 256 := fd_lt h 0 8
  have g1 : fd (fd h 0 8) 6 1 < 2 := fd_lt _ _ 1
  rcases (show fd h 0 8 = 0 ∨ fd h 0 8 ≠ 0 by omega) with q2 | q2
  · have CO : Hid (∀ w1, Calls Tryd.prog 36 #[.int .u16 (h : Int), .int .i64 8, .int .i64 3] w1 fun e w' => e = .returned (.int .i64 6) ∧ Below w1.heap.size w1 w') := fun w1 => by
      have := field_8_3 h hh w1
      rw [q0] at this
      exact this
    have hb1 : bits .and .i64 (((fd h 0 8 : Nat) : Int) / 64) 1 = ((fd (fd h 0 8) 6 1 : Nat) : Int) := i64_bit (fd h 0 8) 6 (by omega)
    have t_5400 : (((fd h 0 8 : Nat) : Int) == 0) = true := by simp; omega
    have hx1 : fd (fd h 0 8) 6 1 = 0 := by rw [q2]; simp [fd]
    have t_1206 : (((fd (fd h 0 8) 6 1 : Nat) : Int) != 0) = false := by simp; omega
    have hN : manyN h = (nNone 65 h) := by
      unfold manyN
      simp [nbeq, nblt, nble, *]
    unfold Says
    rw [hN]
    clear hN
    clear hx1
    clear q2
    go_enter Tryd.func39, Tryd.ntmps39
    have S := SH.start w
    go_wp2_with (first
      | (go_at_call 36; (first | with_reducible refine (field_0_8 h hh _).mono ?_); rintro e wf ⟨rfl, hbf⟩; replace S := S.below hbf; clear hbf)
      | (go_at_call 36; with_reducible refine (CO.out _).mono ?_; rintro e wf ⟨rfl, hbf⟩; replace S := S.below hbf; clear hbf)
      | (go_at_call 35; refine (reg_c _ _ _ _ _ _).mono ?_; rintro e wf ⟨rfl, hbf⟩; replace S := S.below hbf; clear hbf)
      | (go_at_call 54; refine (imm_c _ _ _ _ _ (by omega) (by omega) _).mono ?_; rintro e wf ⟨rfl, hbf⟩; replace S := S.below hbf; clear hbf)
      | (go_at_call 42; refine (none_c _ h hh _).mono ?_; rintro e wf ⟨rfl, hbf⟩; replace S := S.below hbf; clear hbf)
      | (go_at_call 62; refine (num_c _ _ (by omega) (by omega) _).mono ?_; rintro e wf ⟨rfl, hbf⟩; replace S := S.below hbf; clear hbf)
      | ((with_reducible refine wpl_is ?_); first
        | (refine S.alloc rfl 29 rfl (Cel.iv IV.zero) zeroIV ?_; clear S; intro b1 w1 S)
        | (refine S.storeAll rfl 29 _ _ rfl _ (Cel.iv (nNone 65 h).iv) rfl rfl 0 _ rfl rfl (one_iv _) (szIV _) ?_; clear S; intro w2 S; simp only [List.set_cons_zero] at S)))
    (try simp only [Exit.inBlock, Exit.then])
    refine bodyPost_ret (S.results rfl _ _ rfl 0 _ rfl _ Tryd.underlying29 rfl (szIV _)) rfl ⟨rfl, S.low⟩
  · rcases hr with q1 | q1
    · rcases (show fd (fd h 0 8) 6 1 = 1 ∨ fd (fd h 0 8) 6 1 = 0 by omega) with q3 | q3
      · have CO : Hid (∀ w1, Calls Tryd.prog 36 #[.int .u16 (h : Int), .int .i64 8, .int .i64 3] w1 fun e w' => e = .returned (.int .i64 6) ∧ Below w1.heap.size w1 w') := fun w1 => by
          have := field_8_3 h hh w1
          rw [q0] at this
          exact this
        have hb1 : bits .and .i64 (((fd h 0 8 : Nat) : Int) / 64) 1 = ((fd (fd h 0 8) 6 1 : Nat) : Int) := i64_bit (fd h 0 8) 6 (by omega)
        have t_5400 : (((fd h 0 8 : Nat) : Int) == 0) = false := by simp; omega
        rw [q1] at rb
        have rb2 : bits .and .u16 (h : Int) 63488 = 49152 := rb
        clear rb
        have hx1 : fd (fd h 0 8) 6 1 = 1 := q3
        have t_1206 : (((fd (fd h 0 8) 6 1 : Nat) : Int) != 0) = true := by simp; omega
        have hH : heldN h = true := by
          unfold heldN
          rw [q0]
          simp [nbeq, hx1]
        have hN : manyN h = (nNone 65 h) := by
          unfold manyN
          simp [nbeq, nblt, nble, *]
        unfold Says
        rw [hN]
        clear hN
        clear hx1
        clear q3 hH
        go_enter Tryd.func39, Tryd.ntmps39
        have S := SH.start w
        go_wp2_with (first
          | (go_at_call 36; (first | with_reducible refine (field_0_8 h hh _).mono ?_); rintro e wf ⟨rfl, hbf⟩; replace S := S.below hbf; clear hbf)
          | (go_at_call 36; with_reducible refine (CO.out _).mono ?_; rintro e wf ⟨rfl, hbf⟩; replace S := S.below hbf; clear hbf)
          | (go_at_call 35; refine (reg_c _ _ _ _ _ _).mono ?_; rintro e wf ⟨rfl, hbf⟩; replace S := S.below hbf; clear hbf)
          | (go_at_call 54; refine (imm_c _ _ _ _ _ (by omega) (by omega) _).mono ?_; rintro e wf ⟨rfl, hbf⟩; replace S := S.below hbf; clear hbf)
          | (go_at_call 42; refine (none_c _ h hh _).mono ?_; rintro e wf ⟨rfl, hbf⟩; replace S := S.below hbf; clear hbf)
          | (go_at_call 62; refine (num_c _ _ (by omega) (by omega) _).mono ?_; rintro e wf ⟨rfl, hbf⟩; replace S := S.below hbf; clear hbf)
          | ((with_reducible refine wpl_is ?_); first
            | (refine S.alloc rfl 29 rfl (Cel.iv IV.zero) zeroIV ?_; clear S; intro b1 w1 S)
            | (refine S.storeAll rfl 29 _ _ rfl _ (Cel.iv (nNone 65 h).iv) rfl rfl 0 _ rfl rfl (one_iv _) (szIV _) ?_; clear S; intro w2 S; simp only [List.set_cons_zero] at S)))
        (try simp only [Exit.inBlock, Exit.then])
        refine bodyPost_ret (S.results rfl _ _ rfl 0 _ rfl _ Tryd.underlying29 rfl (szIV _)) rfl ⟨rfl, S.low⟩
      · have CO : Hid (∀ w1, Calls Tryd.prog 36 #[.int .u16 (h : Int), .int .i64 8, .int .i64 3] w1 fun e w' => e = .returned (.int .i64 6) ∧ Below w1.heap.size w1 w') := fun w1 => by
          have := field_8_3 h hh w1
          rw [q0] at this
          exact this
        have hb1 : bits .and .i64 (((fd h 0 8 : Nat) : Int) / 64) 1 = ((fd (fd h 0 8) 6 1 : Nat) : Int) := i64_bit (fd h 0 8) 6 (by omega)
        have t_5400 : (((fd h 0 8 : Nat) : Int) == 0) = false := by simp; omega
        rw [q1] at rb
        have rb2 : bits .and .u16 (h : Int) 63488 = 49152 := rb
        clear rb
        have hx1 : fd (fd h 0 8) 6 1 = 0 := q3
        have t_1206 : (((fd (fd h 0 8) 6 1 : Nat) : Int) != 0) = false := by simp; omega
        have hH : heldN h = false := by
          unfold heldN
          rw [q0]
          simp [nbeq, hx1]
        have hN : manyN h = (NV.mk 53 false 14 0 6 0 0 false (fd h 0 8) true false) := by
          unfold manyN
          simp [nbeq, nblt, nble, *]
        unfold Says
        rw [hN]
        clear hN
        clear hx1
        clear q3 hH
        go_enter Tryd.func39, Tryd.ntmps39
        have S := SH.start w
        go_wp2_with (first
          | (go_at_call 36; (first | with_reducible refine (field_0_8 h hh _).mono ?_); rintro e wf ⟨rfl, hbf⟩; replace S := S.below hbf; clear hbf)
          | (go_at_call 36; with_reducible refine (CO.out _).mono ?_; rintro e wf ⟨rfl, hbf⟩; replace S := S.below hbf; clear hbf)
          | (go_at_call 35; refine (reg_c _ _ _ _ _ _).mono ?_; rintro e wf ⟨rfl, hbf⟩; replace S := S.below hbf; clear hbf)
          | (go_at_call 54; refine (imm_c _ _ _ _ _ (by omega) (by omega) _).mono ?_; rintro e wf ⟨rfl, hbf⟩; replace S := S.below hbf; clear hbf)
          | (go_at_call 42; refine (none_c _ h hh _).mono ?_; rintro e wf ⟨rfl, hbf⟩; replace S := S.below hbf; clear hbf)
          | (go_at_call 62; refine (num_c _ _ (by omega) (by omega) _).mono ?_; rintro e wf ⟨rfl, hbf⟩; replace S := S.below hbf; clear hbf)
          | ((with_reducible refine wpl_is ?_); first
            | (refine S.alloc rfl 29 rfl (Cel.iv IV.zero) zeroIV ?_; clear S; intro b1 w1 S)
            | (refine S.storeAll rfl 29 _ _ rfl _ (Cel.iv (NV.mk 53 false 14 0 6 0 0 false (fd h 0 8) true false).iv) rfl rfl 0 _ rfl rfl (one_iv _) (szIV _) ?_; clear S; intro w2 S; simp only [List.set_cons_zero] at S)))
        (try simp only [Exit.inBlock, Exit.then])
        refine bodyPost_ret (S.results rfl _ _ rfl 0 _ rfl _ Tryd.underlying29 rfl (szIV _)) rfl ⟨rfl, S.low⟩
    · rcases (show fd (fd h 0 8) 6 1 = 1 ∨ fd (fd h 0 8) 6 1 = 0 by omega) with q3 | q3
      · have CO : Hid (∀ w1, Calls Tryd.prog 36 #[.int .u16 (h : Int), .int .i64 8, .int .i64 3] w1 fun e w' => e = .returned (.int .i64 6) ∧ Below w1.heap.size w1 w') := fun w1 => by
          have := field_8_3 h hh w1
          rw [q0] at this
          exact this
        have hb1 : bits .and .i64 (((fd h 0 8 : Nat) : Int) / 64) 1 = ((fd (fd h 0 8) 6 1 : Nat) : Int) := i64_bit (fd h 0 8) 6 (by omega)
        have t_5400 : (((fd h 0 8 : Nat) : Int) == 0) = false := by simp; omega
        rw [q1] at rb
        have rb2 : bits .and .u16 (h : Int) 63488 = 51200 := rb
        clear rb
        have hx1 : fd (fd h 0 8) 6 1 = 1 := q3
        have t_1206 : (((fd (fd h 0 8) 6 1 : Nat) : Int) != 0) = true := by simp; omega
        have hH : heldN h = true := by
          unfold heldN
          rw [q0]
          simp [nbeq, hx1]
        have hN : manyN h = (NV.mk 52 false 14 0 6 0 0 false (fd h 0 8) false false) := by
          unfold manyN
          simp [nbeq, nblt, nble, *]
        unfold Says
        rw [hN]
        clear hN
        clear hx1
        clear q3 hH
        go_enter Tryd.func39, Tryd.ntmps39
        have S := SH.start w
        go_wp2_with (first
          | (go_at_call 36; (first | with_reducible refine (field_0_8 h hh _).mono ?_); rintro e wf ⟨rfl, hbf⟩; replace S := S.below hbf; clear hbf)
          | (go_at_call 36; with_reducible refine (CO.out _).mono ?_; rintro e wf ⟨rfl, hbf⟩; replace S := S.below hbf; clear hbf)
          | (go_at_call 35; refine (reg_c _ _ _ _ _ _).mono ?_; rintro e wf ⟨rfl, hbf⟩; replace S := S.below hbf; clear hbf)
          | (go_at_call 54; refine (imm_c _ _ _ _ _ (by omega) (by omega) _).mono ?_; rintro e wf ⟨rfl, hbf⟩; replace S := S.below hbf; clear hbf)
          | (go_at_call 42; refine (none_c _ h hh _).mono ?_; rintro e wf ⟨rfl, hbf⟩; replace S := S.below hbf; clear hbf)
          | (go_at_call 62; refine (num_c _ _ (by omega) (by omega) _).mono ?_; rintro e wf ⟨rfl, hbf⟩; replace S := S.below hbf; clear hbf)
          | ((with_reducible refine wpl_is ?_); first
            | (refine S.alloc rfl 29 rfl (Cel.iv IV.zero) zeroIV ?_; clear S; intro b1 w1 S)
            | (refine S.storeAll rfl 29 _ _ rfl _ (Cel.iv (NV.mk 52 false 14 0 6 0 0 false (fd h 0 8) false false).iv) rfl rfl 0 _ rfl rfl (one_iv _) (szIV _) ?_; clear S; intro w2 S; simp only [List.set_cons_zero] at S)))
        (try simp only [Exit.inBlock, Exit.then])
        refine bodyPost_ret (S.results rfl _ _ rfl 0 _ rfl _ Tryd.underlying29 rfl (szIV _)) rfl ⟨rfl, S.low⟩
      · have CO : Hid (∀ w1, Calls Tryd.prog 36 #[.int .u16 (h : Int), .int .i64 8, .int .i64 3] w1 fun e w' => e = .returned (.int .i64 6) ∧ Below w1.heap.size w1 w') := fun w1 => by
          have := field_8_3 h hh w1
          rw [q0] at this
          exact this
        have hb1 : bits .and .i64 (((fd h 0 8 : Nat) : Int) / 64) 1 = ((fd (fd h 0 8) 6 1 : Nat) : Int) := i64_bit (fd h 0 8) 6 (by omega)
        have t_5400 : (((fd h 0 8 : Nat) : Int) == 0) = false := by simp; omega
        rw [q1] at rb
        have rb2 : bits .and .u16 (h : Int) 63488 = 51200 := rb
        clear rb
        have hx1 : fd (fd h 0 8) 6 1 = 0 := q3
        have t_1206 : (((fd (fd h 0 8) 6 1 : Nat) : Int) != 0) = false := by simp; omega
        have hH : heldN h = false := by
          unfold heldN
          rw [q0]
          simp [nbeq, hx1]
        have hN : manyN h = (NV.mk 52 false 14 0 6 0 0 false (fd h 0 8) true false) := by
          unfold manyN
          simp [nbeq, nblt, nble, *]
        unfold Says
        rw [hN]
        clear hN
        clear hx1
        clear q3 hH
        go_enter Tryd.func39, Tryd.ntmps39
        have S := SH.start w
        go_wp2_with (first
          | (go_at_call 36; (first | with_reducible refine (field_0_8 h hh _).mono ?_); rintro e wf ⟨rfl, hbf⟩; replace S := S.below hbf; clear hbf)
          | (go_at_call 36; with_reducible refine (CO.out _).mono ?_; rintro e wf ⟨rfl, hbf⟩; replace S := S.below hbf; clear hbf)
          | (go_at_call 35; refine (reg_c _ _ _ _ _ _).mono ?_; rintro e wf ⟨rfl, hbf⟩; replace S := S.below hbf; clear hbf)
          | (go_at_call 54; refine (imm_c _ _ _ _ _ (by omega) (by omega) _).mono ?_; rintro e wf ⟨rfl, hbf⟩; replace S := S.below hbf; clear hbf)
          | (go_at_call 42; refine (none_c _ h hh _).mono ?_; rintro e wf ⟨rfl, hbf⟩; replace S := S.below hbf; clear hbf)
          | (go_at_call 62; refine (num_c _ _ (by omega) (by omega) _).mono ?_; rintro e wf ⟨rfl, hbf⟩; replace S := S.below hbf; clear hbf)
          | ((with_reducible refine wpl_is ?_); first
            | (refine S.alloc rfl 29 rfl (Cel.iv IV.zero) zeroIV ?_; clear S; intro b1 w1 S)
            | (refine S.storeAll rfl 29 _ _ rfl _ (Cel.iv (NV.mk 52 false 14 0 6 0 0 false (fd h 0 8) true false).iv) rfl rfl 0 _ rfl rfl (one_iv _) (szIV _) ?_; clear S; intro w2 S; simp only [List.set_cons_zero] at S)))
        (try simp only [Exit.inBlock, Exit.then])
        refine bodyPost_ret (S.results rfl _ _ rfl 0 _ rfl _ Tryd.underlying29 rfl (szIV _)) rfl ⟨rfl, S.low⟩
set_option maxHeartbeats 4000000 in
set_option maxRecDepth 100000 in
theorem many_7 (h : Nat) (hh : h < 65536) (q0 : fd h 8 3 = 7) (hr : h / 2048 = 24 ∨ h / 2048 = 25) (w : World) : Calls Tryd.prog 39 #[.int .u16 h] w fun e w' => Says w (manyN h) e w' := by
  have rb := row_bits h hh
  have f_0_8 : fd h 0 8 < 256 := fd_lt h 0 8
  have g1 : fd (fd h 0 8) 7 1 < 2 := fd_lt _ _ 1
  rcases (show fd h 0 8 = 0 ∨ fd h 0 8 ≠ 0 by omega) with q2 | q2
  · have CO : Hid (∀ w1, Calls Tryd.prog 36 #[.int .u16 (h : Int), .int .i64 8, .int .i64 3] w1 fun e w' => e = .returned (.int .i64 7) ∧ Below w1.heap.size w1 w') := fun w1 => by
      have := field_8_3 h hh w1
      rw [q0] at this
      exact this
    have hb1 : bits .and .i64 (((fd h 0 8 : Nat) : Int) / 128) 1 = ((fd (fd h 0 8) 7 1 : Nat) : Int) := i64_bit (fd h 0 8) 7 (by omega)
    have t_5400 : (((fd h 0 8 : Nat) : Int) == 0) = true := by simp; omega
    have hx1 : fd (fd h 0 8) 7 1 = 0 := by rw [q2]; simp [fd]
    have t_1938 : (((fd (fd h 0 8) 7 1 : Nat) : Int) != 0) = false := by simp; omega
    have hN : manyN h = (nNone 65 h) := by
      unfold manyN
      simp [nbeq, nblt, nble, *]
    unfold Says
    rw [hN]
    clear hN
    clear hx1
    clear q2
    go_enter Tryd.func39, Tryd.ntmps39
    have S := SH.start w
    go_wp2_with (first
      | (go_at_call 36; (first | with_reducible refine (field_0_8 h hh _).mono ?_); rintro e wf ⟨rfl, hbf⟩; replace S := S.below hbf; clear hbf)
      | (go_at_call 36; with_reducible refine (CO.out _).mono ?_; rintro e wf ⟨rfl, hbf⟩; replace S := S.below hbf; clear hbf)
      | (go_at_call 35; refine (reg_c _ _ _ _ _ _).mono ?_; rintro e wf ⟨rfl, hbf⟩; replace S := S.below hbf; clear hbf)
      | (go_at_call 54; refine (imm_c _ _ _ _ _ (by omega) (by omega) _).mono ?_; rintro e wf ⟨rfl, hbf⟩; replace S := S.below hbf; clear hbf)
      | (go_at_call 42; refine (none_c _ h hh _).mono ?_; rintro e wf ⟨rfl, hbf⟩; replace S := S.below hbf; clear hbf)
      | (go_at_call 62; refine (num_c _ _ (by omega) (by omega) _).mono ?_; rintro e wf ⟨rfl, hbf⟩; replace S := S.below hbf; clear hbf)
      | ((with_reducible refine wpl_is ?_); first
        | (refine S.alloc rfl 29 rfl (Cel.iv IV.zero) zeroIV ?_; clear S; intro b1 w1 S)
        | (refine S.storeAll rfl 29 _ _ rfl _ (Cel.iv (nNone 65 h).iv) rfl rfl 0 _ rfl rfl (one_iv _) (szIV _) ?_; clear S; intro w2 S; simp only [List.set_cons_zero] at S)))
    (try simp only [Exit.inBlock, Exit.then])
    refine bodyPost_ret (S.results rfl _ _ rfl 0 _ rfl _ Tryd.underlying29 rfl (szIV _)) rfl ⟨rfl, S.low⟩
  · rcases hr with q1 | q1
    · rcases (show fd (fd h 0 8) 7 1 = 1 ∨ fd (fd h 0 8) 7 1 = 0 by omega) with q3 | q3
      · have CO : Hid (∀ w1, Calls Tryd.prog 36 #[.int .u16 (h : Int), .int .i64 8, .int .i64 3] w1 fun e w' => e = .returned (.int .i64 7) ∧ Below w1.heap.size w1 w') := fun w1 => by
          have := field_8_3 h hh w1
          rw [q0] at this
          exact this
        have hb1 : bits .and .i64 (((fd h 0 8 : Nat) : Int) / 128) 1 = ((fd (fd h 0 8) 7 1 : Nat) : Int) := i64_bit (fd h 0 8) 7 (by omega)
        have t_5400 : (((fd h 0 8 : Nat) : Int) == 0) = false := by simp; omega
        rw [q1] at rb
        have rb2 : bits .and .u16 (h : Int) 63488 = 49152 := rb
        clear rb
        have hx1 : fd (fd h 0 8) 7 1 = 1 := q3
        have t_1938 : (((fd (fd h 0 8) 7 1 : Nat) : Int) != 0) = true := by simp; omega
        have hH : heldN h = true := by
          unfold heldN
          rw [q0]
          simp [nbeq, hx1]
        have hN : manyN h = (nNone 65 h) := by
          unfold manyN
          simp [nbeq, nblt, nble, *]
        unfold Says
        rw [hN]
        clear hN
        clear hx1
        clear q3 hH
        go_enter Tryd.func39, Tryd.ntmps39
        have S := SH.start w
        go_wp2_with (first
          | (go_at_call 36; (first | with_reducible refine (field_0_8 h hh _).mono ?_); rintro e wf ⟨rfl, hbf⟩; replace S := S.below hbf; clear hbf)
          | (go_at_call 36; with_reducible refine (CO.out _).mono ?_; rintro e wf ⟨rfl, hbf⟩; replace S := S.below hbf; clear hbf)
          | (go_at_call 35; refine (reg_c _ _ _ _ _ _).mono ?_; rintro e wf ⟨rfl, hbf⟩; replace S := S.below hbf; clear hbf)
          | (go_at_call 54; refine (imm_c _ _ _ _ _ (by omega) (by omega) _).mono ?_; rintro e wf ⟨rfl, hbf⟩; replace S := S.below hbf; clear hbf)
          | (go_at_call 42; refine (none_c _ h hh _).mono ?_; rintro e wf ⟨rfl, hbf⟩; replace S := S.below hbf; clear hbf)
          | (go_at_call 62; refine (num_c _ _ (by omega) (by omega) _).mono ?_; rintro e wf ⟨rfl, hbf⟩; replace S := S.below hbf; clear hbf)
          | ((with_reducible refine wpl_is ?_); first
            | (refine S.alloc rfl 29 rfl (Cel.iv IV.zero) zeroIV ?_; clear S; intro b1 w1 S)
            | (refine S.storeAll rfl 29 _ _ rfl _ (Cel.iv (nNone 65 h).iv) rfl rfl 0 _ rfl rfl (one_iv _) (szIV _) ?_; clear S; intro w2 S; simp only [List.set_cons_zero] at S)))
        (try simp only [Exit.inBlock, Exit.then])
        refine bodyPost_ret (S.results rfl _ _ rfl 0 _ rfl _ Tryd.underlying29 rfl (szIV _)) rfl ⟨rfl, S.low⟩
      · have CO : Hid (∀ w1, Calls Tryd.prog 36 #[.int .u16 (h : Int), .int .i64 8, .int .i64 3] w1 fun e w' => e = .returned (.int .i64 7) ∧ Below w1.heap.size w1 w') := fun w1 => by
          have := field_8_3 h hh w1
          rw [q0] at this
          exact this
        have hb1 : bits .and .i64 (((fd h 0 8 : Nat) : Int) / 128) 1 = ((fd (fd h 0 8) 7 1 : Nat) : Int) := i64_bit (fd h 0 8) 7 (by omega)
        have t_5400 : (((fd h 0 8 : Nat) : Int) == 0) = false := by simp; omega
        rw [q1] at rb
        have rb2 : bits .and .u16 (h : Int) 63488 = 49152 := rb
        clear rb
        have hx1 : fd (fd h 0 8) 7 1 = 0 := q3
        have t_1938 : (((fd (fd h 0 8) 7 1 : Nat) : Int) != 0) = false := by simp; omega
        have hH : heldN h = false := by
          unfold heldN
          rw [q0]
          simp [nbeq, hx1]
        have hN : manyN h = (NV.mk 53 false 14 0 7 0 0 false (fd h 0 8) true false) := by
          unfold manyN
          simp [nbeq, nblt, nble, *]
        unfold Says
        rw [hN]
        clear hN
        clear hx1
        clear q3 hH
        go_enter Tryd.func39, Tryd.ntmps39
        have S := SH.start w
        go_wp2_with (first
          | (go_at_call 36; (first | with_reducible refine (field_0_8 h hh _).mono ?_); rintro e wf ⟨rfl, hbf⟩; replace S := S.below hbf; clear hbf)
          | (go_at_call 36; with_reducible refine (CO.out _).mono ?_; rintro e wf ⟨rfl, hbf⟩; replace S := S.below hbf; clear hbf)
          | (go_at_call 35; refine (reg_c _ _ _ _ _ _).mono ?_; rintro e wf ⟨rfl, hbf⟩; replace S := S.below hbf; clear hbf)
          | (go_at_call 54; refine (imm_c _ _ _ _ _ (by omega) (by omega) _).mono ?_; rintro e wf ⟨rfl, hbf⟩; replace S := S.below hbf; clear hbf)
          | (go_at_call 42; refine (none_c _ h hh _).mono ?_; rintro e wf ⟨rfl, hbf⟩; replace S := S.below hbf; clear hbf)
          | (go_at_call 62; refine (num_c _ _ (by omega) (by omega) _).mono ?_; rintro e wf ⟨rfl, hbf⟩; replace S := S.below hbf; clear hbf)
          | ((with_reducible refine wpl_is ?_); first
            | (refine S.alloc rfl 29 rfl (Cel.iv IV.zero) zeroIV ?_; clear S; intro b1 w1 S)
            | (refine S.storeAll rfl 29 _ _ rfl _ (Cel.iv (NV.mk 53 false 14 0 7 0 0 false (fd h 0 8) true false).iv) rfl rfl 0 _ rfl rfl (one_iv _) (szIV _) ?_; clear S; intro w2 S; simp only [List.set_cons_zero] at S)))
        (try simp only [Exit.inBlock, Exit.then])
        refine bodyPost_ret (S.results rfl _ _ rfl 0 _ rfl _ Tryd.underlying29 rfl (szIV _)) rfl ⟨rfl, S.low⟩
    · rcases (show fd (fd h 0 8) 7 1 = 1 ∨ fd (fd h 0 8) 7 1 = 0 by omega) with q3 | q3
      · have CO : Hid (∀ w1, Calls Tryd.prog 36 #[.int .u16 (h : Int), .int .i64 8, .int .i64 3] w1 fun e w' => e = .returned (.int .i64 7) ∧ Below w1.heap.size w1 w') := fun w1 => by
          have := field_8_3 h hh w1
          rw [q0] at this
          exact this
        have hb1 : bits .and .i64 (((fd h 0 8 : Nat) : Int) / 128) 1 = ((fd (fd h 0 8) 7 1 : Nat) : Int) := i64_bit (fd h 0 8) 7 (by omega)
        have t_5400 : (((fd h 0 8 : Nat) : Int) == 0) = false := by simp; omega
        rw [q1] at rb
        have rb2 : bits .and .u16 (h : Int) 63488 = 51200 := rb
        clear rb
        have hx1 : fd (fd h 0 8) 7 1 = 1 := q3
        have t_1938 : (((fd (fd h 0 8) 7 1 : Nat) : Int) != 0) = true := by simp; omega
        have hH : heldN h = true := by
          unfold heldN
          rw [q0]
          simp [nbeq, hx1]
        have hN : manyN h = (NV.mk 52 false 14 0 7 0 0 false (fd h 0 8) false false) := by
          unfold manyN
          simp [nbeq, nblt, nble, *]
        unfold Says
        rw [hN]
        clear hN
        clear hx1
        clear q3 hH
        go_enter Tryd.func39, Tryd.ntmps39
        have S := SH.start w
        go_wp2_with (first
          | (go_at_call 36; (first | with_reducible refine (field_0_8 h hh _).mono ?_); rintro e wf ⟨rfl, hbf⟩; replace S := S.below hbf; clear hbf)
          | (go_at_call 36; with_reducible refine (CO.out _).mono ?_; rintro e wf ⟨rfl, hbf⟩; replace S := S.below hbf; clear hbf)
          | (go_at_call 35; refine (reg_c _ _ _ _ _ _).mono ?_; rintro e wf ⟨rfl, hbf⟩; replace S := S.below hbf; clear hbf)
          | (go_at_call 54; refine (imm_c _ _ _ _ _ (by omega) (by omega) _).mono ?_; rintro e wf ⟨rfl, hbf⟩; replace S := S.below hbf; clear hbf)
          | (go_at_call 42; refine (none_c _ h hh _).mono ?_; rintro e wf ⟨rfl, hbf⟩; replace S := S.below hbf; clear hbf)
          | (go_at_call 62; refine (num_c _ _ (by omega) (by omega) _).mono ?_; rintro e wf ⟨rfl, hbf⟩; replace S := S.below hbf; clear hbf)
          | ((with_reducible refine wpl_is ?_); first
            | (refine S.alloc rfl 29 rfl (Cel.iv IV.zero) zeroIV ?_; clear S; intro b1 w1 S)
            | (refine S.storeAll rfl 29 _ _ rfl _ (Cel.iv (NV.mk 52 false 14 0 7 0 0 false (fd h 0 8) false false).iv) rfl rfl 0 _ rfl rfl (one_iv _) (szIV _) ?_; clear S; intro w2 S; simp only [List.set_cons_zero] at S)))
        (try simp only [Exit.inBlock, Exit.then])
        refine bodyPost_ret (S.results rfl _ _ rfl 0 _ rfl _ Tryd.underlying29 rfl (szIV _)) rfl ⟨rfl, S.low⟩
      · have CO : Hid (∀ w1, Calls Tryd.prog 36 #[.int .u16 (h : Int), .int .i64 8, .int .i64 3] w1 fun e w' => e = .returned (.int .i64 7) ∧ Below w1.heap.size w1 w') := fun w1 => by
          have := field_8_3 h hh w1
          rw [q0] at this
          exact this
        have hb1 : bits .and .i64 (((fd h 0 8 : Nat) : Int) / 128) 1 = ((fd (fd h 0 8) 7 1 : Nat) : Int) := i64_bit (fd h 0 8) 7 (by omega)
        have t_5400 : (((fd h 0 8 : Nat) : Int) == 0) = false := by simp; omega
        rw [q1] at rb
        have rb2 : bits .and .u16 (h : Int) 63488 = 51200 := rb
        clear rb
        have hx1 : fd (fd h 0 8) 7 1 = 0 := q3
        have t_1938 : (((fd (fd h 0 8) 7 1 : Nat) : Int) != 0) = false := by simp; omega
        have hH : heldN h = false := by
          unfold heldN
          rw [q0]
          simp [nbeq, hx1]
        have hN : manyN h = (NV.mk 52 false 14 0 7 0 0 false (fd h 0 8) true false) := by
          unfold manyN
          simp [nbeq, nblt, nble, *]
        unfold Says
        rw [hN]
        clear hN
        clear hx1
        clear q3 hH
        go_enter Tryd.func39, Tryd.ntmps39
        have S := SH.start w
        go_wp2_with (first
          | (go_at_call 36; (first | with_reducible refine (field_0_8 h hh _).mono ?_); rintro e wf ⟨rfl, hbf⟩; replace S := S.below hbf; clear hbf)
          | (go_at_call 36; with_reducible refine (CO.out _).mono ?_; rintro e wf ⟨rfl, hbf⟩; replace S := S.below hbf; clear hbf)
          | (go_at_call 35; refine (reg_c _ _ _ _ _ _).mono ?_; rintro e wf ⟨rfl, hbf⟩; replace S := S.below hbf; clear hbf)
          | (go_at_call 54; refine (imm_c _ _ _ _ _ (by omega) (by omega) _).mono ?_; rintro e wf ⟨rfl, hbf⟩; replace S := S.below hbf; clear hbf)
          | (go_at_call 42; refine (none_c _ h hh _).mono ?_; rintro e wf ⟨rfl, hbf⟩; replace S := S.below hbf; clear hbf)
          | (go_at_call 62; refine (num_c _ _ (by omega) (by omega) _).mono ?_; rintro e wf ⟨rfl, hbf⟩; replace S := S.below hbf; clear hbf)
          | ((with_reducible refine wpl_is ?_); first
            | (refine S.alloc rfl 29 rfl (Cel.iv IV.zero) zeroIV ?_; clear S; intro b1 w1 S)
            | (refine S.storeAll rfl 29 _ _ rfl _ (Cel.iv (NV.mk 52 false 14 0 7 0 0 false (fd h 0 8) true false).iv) rfl rfl 0 _ rfl rfl (one_iv _) (szIV _) ?_; clear S; intro w2 S; simp only [List.set_cons_zero] at S)))
        (try simp only [Exit.inBlock, Exit.then])
        refine bodyPost_ret (S.results rfl _ _ rfl 0 _ rfl _ Tryd.underlying29 rfl (szIV _)) rfl ⟨rfl, S.low⟩
theorem many_c (h : Nat) (hh : h < 65536) (hr : h / 2048 = 24 ∨ h / 2048 = 25) (w : World) : Calls Tryd.prog 39 #[.int .u16 h] w fun e w' => Says w (manyN h) e w' := by
  have g : fd h 8 3 < 8 := fd_lt h 8 3
  rcases (show fd h 8 3 = 0 ∨ fd h 8 3 = 1 ∨ fd h 8 3 = 2 ∨ fd h 8 3 = 3 ∨ fd h 8 3 = 4 ∨ fd h 8 3 = 5 ∨ fd h 8 3 = 6 ∨ fd h 8 3 = 7 by omega) with q | q | q | q | q | q | q | q
  · exact many_0 h hh q hr w
  · exact many_1 h hh q hr w
  · exact many_2 h hh q hr w
  · exact many_3 h hh q hr w
  · exact many_4 h hh q hr w
  · exact many_5 h hh q hr w
  · exact many_6 h hh q hr w
  · exact many_7 h hh q hr w
end Go.Proofs.YtblcklknlfofgaaDoor
