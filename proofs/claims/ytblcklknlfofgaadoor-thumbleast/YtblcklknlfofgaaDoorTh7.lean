/- Stage 8: rows of narrow words, the program's, walked. -/
import Derived.Test.YtblcklknlfofgaaDoorTh2b
namespace Go.Proofs.YtblcklknlfofgaaDoor
open Go.ChangeShapes Go.WideShapes Go.ChangeAt Go.RowKit
set_option linter.unusedVariables false
set_option linter.unusedSimpArgs false

theorem i64_bitw (x n : Nat) (hx : x < 65536) : bits .and .i64 ((x : Int) / 2 ^ n) 1 = ((fd x n 1 : Nat) : Int) := by
  have := i64_bit x n (by omega)
  rw [← this]
  simp
set_option maxHeartbeats 4000000 in
set_option maxRecDepth 100000 in
theorem many_c (h : Nat) (hh : h < 65536) (hr : h / 2048 = 24 ∨ h / 2048 = 25) (w : World) : Calls Tryd.prog 39 #[.int .u16 h] w fun e w' => Says w (manyN h) e w' := by
  have rb := row_bits h hh
  have f_0_8 : fd h 0 8 < 256 := fd_lt h 0 8
  obtain ⟨n, hn⟩ : ∃ n : Nat, fd h 8 3 = n := ⟨_, rfl⟩
  have n8 : n < 8 := by have := fd_lt h 8 3; omega
  have n0 : (0 : Int) ≤ (n : Int) := by omega
  have g1 : fd (fd h 0 8) n 1 < 2 := fd_lt _ _ 1
  rcases (show fd h 0 8 = 0 ∨ fd h 0 8 ≠ 0 by omega) with q2 | q2
  · have CO : Hid (∀ w1, Calls Tryd.prog 36 #[.int .u16 (h : Int), .int .i64 8, .int .i64 3] w1 fun e w' => e = .returned (.int .i64 (n : Nat)) ∧ Below w1.heap.size w1 w') := fun w1 => by
      have := field_8_3 h hh w1
      rw [hn] at this
      exact this
    have hb1 := i64_bitw (fd h 0 8) n (by omega)
    have t_4483 : (((fd h 0 8 : Nat) : Int) == 0) = true := by simp; omega
    have hx1 : fd (fd h 0 8) n 1 = 0 := by rw [q2]; simp [fd]
    have t_6665 : (((fd (fd h 0 8) n 1 : Nat) : Int) != 0) = false := by simp; omega
    have hN : manyN h = (nNone 65 h) := by
      unfold manyN
      simp [nbeq, nblt, nble, *]
    unfold Says
    rw [hN]
    clear hN
    clear hx1 hn
    clear q2
    go_enter Tryd.func39, Tryd.ntmps39
    have S := SH.start w
    go_wp2_with (first
      | (go_at_call 36; (first | with_reducible refine (field_0_8 h hh _).mono ?_); rintro e wf ⟨rfl, hbf⟩; replace S := S.below hbf; clear hbf)
      | (go_at_call 36; with_reducible refine (CO.out _).mono ?_; rintro e wf ⟨rfl, hbf⟩; replace S := S.below hbf; clear hbf)
      | (go_at_call 42; refine (none_c _ h hh _).mono ?_; rintro e wf ⟨rfl, hbf⟩; replace S := S.below hbf; clear hbf)
      | ((with_reducible refine wpl_is ?_); first
        | (refine S.alloc rfl 29 rfl (Cel.iv IV.zero) zeroIV ?_; clear S; intro b1 w1 S)
        | (refine S.storeAll rfl 29 _ _ rfl _ (Cel.iv (nNone 65 h).iv) rfl rfl 0 _ rfl rfl (one_iv _) (szIV _) ?_; clear S; intro w2 S; simp only [List.set_cons_zero] at S)))
    (try simp only [Exit.inBlock, Exit.then])
    refine bodyPost_ret (S.results rfl _ _ rfl 0 _ rfl _ Tryd.underlying29 rfl (szIV _)) rfl ⟨rfl, S.low⟩
  · rcases hr with q1 | q1
    · rcases (show fd (fd h 0 8) n 1 = 1 ∨ fd (fd h 0 8) n 1 = 0 by omega) with q3 | q3
      · have CO : Hid (∀ w1, Calls Tryd.prog 36 #[.int .u16 (h : Int), .int .i64 8, .int .i64 3] w1 fun e w' => e = .returned (.int .i64 (n : Nat)) ∧ Below w1.heap.size w1 w') := fun w1 => by
          have := field_8_3 h hh w1
          rw [hn] at this
          exact this
        have hb1 := i64_bitw (fd h 0 8) n (by omega)
        have t_4483 : (((fd h 0 8 : Nat) : Int) == 0) = false := by simp; omega
        rw [q1] at rb
        have rb2 : bits .and .u16 (h : Int) 63488 = 49152 := rb
        clear rb
        have hx1 : fd (fd h 0 8) n 1 = 1 := q3
        have t_6665 : (((fd (fd h 0 8) n 1 : Nat) : Int) != 0) = true := by simp; omega
        have hH : heldN h = true := by
          unfold heldN
          rw [hn]
          simp [nbeq, hx1]
        have hN : manyN h = (nNone 65 h) := by
          unfold manyN
          simp [nbeq, nblt, nble, *]
        unfold Says
        rw [hN]
        clear hN
        clear hx1 hn
        clear q3 hH
        go_enter Tryd.func39, Tryd.ntmps39
        have S := SH.start w
        go_wp2_with (first
          | (go_at_call 36; (first | with_reducible refine (field_0_8 h hh _).mono ?_); rintro e wf ⟨rfl, hbf⟩; replace S := S.below hbf; clear hbf)
          | (go_at_call 36; with_reducible refine (CO.out _).mono ?_; rintro e wf ⟨rfl, hbf⟩; replace S := S.below hbf; clear hbf)
          | (go_at_call 42; refine (none_c _ h hh _).mono ?_; rintro e wf ⟨rfl, hbf⟩; replace S := S.below hbf; clear hbf)
          | ((with_reducible refine wpl_is ?_); first
            | (refine S.alloc rfl 29 rfl (Cel.iv IV.zero) zeroIV ?_; clear S; intro b1 w1 S)
            | (refine S.storeAll rfl 29 _ _ rfl _ (Cel.iv (nNone 65 h).iv) rfl rfl 0 _ rfl rfl (one_iv _) (szIV _) ?_; clear S; intro w2 S; simp only [List.set_cons_zero] at S)))
        (try simp only [Exit.inBlock, Exit.then])
        refine bodyPost_ret (S.results rfl _ _ rfl 0 _ rfl _ Tryd.underlying29 rfl (szIV _)) rfl ⟨rfl, S.low⟩
      · have CO : Hid (∀ w1, Calls Tryd.prog 36 #[.int .u16 (h : Int), .int .i64 8, .int .i64 3] w1 fun e w' => e = .returned (.int .i64 (n : Nat)) ∧ Below w1.heap.size w1 w') := fun w1 => by
          have := field_8_3 h hh w1
          rw [hn] at this
          exact this
        have hb1 := i64_bitw (fd h 0 8) n (by omega)
        have t_4483 : (((fd h 0 8 : Nat) : Int) == 0) = false := by simp; omega
        rw [q1] at rb
        have rb2 : bits .and .u16 (h : Int) 63488 = 49152 := rb
        clear rb
        have hx1 : fd (fd h 0 8) n 1 = 0 := q3
        have t_6665 : (((fd (fd h 0 8) n 1 : Nat) : Int) != 0) = false := by simp; omega
        have hH : heldN h = false := by
          unfold heldN
          rw [hn]
          simp [nbeq, hx1]
        have hN : manyN h = (NV.mk 53 false 14 0 n 0 0 false (fd h 0 8) true false) := by
          unfold manyN
          simp [nbeq, nblt, nble, *]
        unfold Says
        rw [hN]
        clear hN
        clear hx1 hn
        clear q3 hH
        go_enter Tryd.func39, Tryd.ntmps39
        have S := SH.start w
        go_wp2_with (first
          | (go_at_call 36; (first | with_reducible refine (field_0_8 h hh _).mono ?_); rintro e wf ⟨rfl, hbf⟩; replace S := S.below hbf; clear hbf)
          | (go_at_call 36; with_reducible refine (CO.out _).mono ?_; rintro e wf ⟨rfl, hbf⟩; replace S := S.below hbf; clear hbf)
          | ((with_reducible refine wpl_is ?_); first
            | (refine S.alloc rfl 29 rfl (Cel.iv IV.zero) zeroIV ?_; clear S; intro b1 w1 S)
            | (refine S.storeAll rfl 29 _ _ rfl _ (Cel.iv (NV.mk 53 false 14 0 n 0 0 false (fd h 0 8) true false).iv) rfl rfl 0 _ rfl rfl (one_iv _) (szIV _) ?_; clear S; intro w2 S; simp only [List.set_cons_zero] at S)))
        (try simp only [Exit.inBlock, Exit.then])
        refine bodyPost_ret (S.results rfl _ _ rfl 0 _ rfl _ Tryd.underlying29 rfl (szIV _)) rfl ⟨rfl, S.low⟩
    · rcases (show fd (fd h 0 8) n 1 = 1 ∨ fd (fd h 0 8) n 1 = 0 by omega) with q3 | q3
      · have CO : Hid (∀ w1, Calls Tryd.prog 36 #[.int .u16 (h : Int), .int .i64 8, .int .i64 3] w1 fun e w' => e = .returned (.int .i64 (n : Nat)) ∧ Below w1.heap.size w1 w') := fun w1 => by
          have := field_8_3 h hh w1
          rw [hn] at this
          exact this
        have hb1 := i64_bitw (fd h 0 8) n (by omega)
        have t_4483 : (((fd h 0 8 : Nat) : Int) == 0) = false := by simp; omega
        rw [q1] at rb
        have rb2 : bits .and .u16 (h : Int) 63488 = 51200 := rb
        clear rb
        have hx1 : fd (fd h 0 8) n 1 = 1 := q3
        have t_6665 : (((fd (fd h 0 8) n 1 : Nat) : Int) != 0) = true := by simp; omega
        have hH : heldN h = true := by
          unfold heldN
          rw [hn]
          simp [nbeq, hx1]
        have hN : manyN h = (NV.mk 52 false 14 0 n 0 0 false (fd h 0 8) false false) := by
          unfold manyN
          simp [nbeq, nblt, nble, *]
        unfold Says
        rw [hN]
        clear hN
        clear hx1 hn
        clear q3 hH
        go_enter Tryd.func39, Tryd.ntmps39
        have S := SH.start w
        go_wp2_with (first
          | (go_at_call 36; (first | with_reducible refine (field_0_8 h hh _).mono ?_); rintro e wf ⟨rfl, hbf⟩; replace S := S.below hbf; clear hbf)
          | (go_at_call 36; with_reducible refine (CO.out _).mono ?_; rintro e wf ⟨rfl, hbf⟩; replace S := S.below hbf; clear hbf)
          | ((with_reducible refine wpl_is ?_); first
            | (refine S.alloc rfl 29 rfl (Cel.iv IV.zero) zeroIV ?_; clear S; intro b1 w1 S)
            | (refine S.storeAll rfl 29 _ _ rfl _ (Cel.iv (NV.mk 52 false 14 0 n 0 0 false (fd h 0 8) false false).iv) rfl rfl 0 _ rfl rfl (one_iv _) (szIV _) ?_; clear S; intro w2 S; simp only [List.set_cons_zero] at S)))
        (try simp only [Exit.inBlock, Exit.then])
        refine bodyPost_ret (S.results rfl _ _ rfl 0 _ rfl _ Tryd.underlying29 rfl (szIV _)) rfl ⟨rfl, S.low⟩
      · have CO : Hid (∀ w1, Calls Tryd.prog 36 #[.int .u16 (h : Int), .int .i64 8, .int .i64 3] w1 fun e w' => e = .returned (.int .i64 (n : Nat)) ∧ Below w1.heap.size w1 w') := fun w1 => by
          have := field_8_3 h hh w1
          rw [hn] at this
          exact this
        have hb1 := i64_bitw (fd h 0 8) n (by omega)
        have t_4483 : (((fd h 0 8 : Nat) : Int) == 0) = false := by simp; omega
        rw [q1] at rb
        have rb2 : bits .and .u16 (h : Int) 63488 = 51200 := rb
        clear rb
        have hx1 : fd (fd h 0 8) n 1 = 0 := q3
        have t_6665 : (((fd (fd h 0 8) n 1 : Nat) : Int) != 0) = false := by simp; omega
        have hH : heldN h = false := by
          unfold heldN
          rw [hn]
          simp [nbeq, hx1]
        have hN : manyN h = (NV.mk 52 false 14 0 n 0 0 false (fd h 0 8) true false) := by
          unfold manyN
          simp [nbeq, nblt, nble, *]
        unfold Says
        rw [hN]
        clear hN
        clear hx1 hn
        clear q3 hH
        go_enter Tryd.func39, Tryd.ntmps39
        have S := SH.start w
        go_wp2_with (first
          | (go_at_call 36; (first | with_reducible refine (field_0_8 h hh _).mono ?_); rintro e wf ⟨rfl, hbf⟩; replace S := S.below hbf; clear hbf)
          | (go_at_call 36; with_reducible refine (CO.out _).mono ?_; rintro e wf ⟨rfl, hbf⟩; replace S := S.below hbf; clear hbf)
          | ((with_reducible refine wpl_is ?_); first
            | (refine S.alloc rfl 29 rfl (Cel.iv IV.zero) zeroIV ?_; clear S; intro b1 w1 S)
            | (refine S.storeAll rfl 29 _ _ rfl _ (Cel.iv (NV.mk 52 false 14 0 n 0 0 false (fd h 0 8) true false).iv) rfl rfl 0 _ rfl rfl (one_iv _) (szIV _) ?_; clear S; intro w2 S; simp only [List.set_cons_zero] at S)))
        (try simp only [Exit.inBlock, Exit.then])
        refine bodyPost_ret (S.results rfl _ _ rfl 0 _ rfl _ Tryd.underlying29 rfl (szIV _)) rfl ⟨rfl, S.low⟩
end Go.Proofs.YtblcklknlfofgaaDoor
