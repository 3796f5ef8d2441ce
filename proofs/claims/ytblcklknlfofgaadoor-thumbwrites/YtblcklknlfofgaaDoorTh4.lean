/- Stage 8: rows of narrow words, the program's, walked. -/
import Derived.Test.YtblcklknlfofgaaDoorTh2b
namespace Go.Proofs.YtblcklknlfofgaaDoor
open Go.ChangeShapes Go.WideShapes Go.ChangeAt Go.RowKit
set_option linter.unusedVariables false
set_option linter.unusedSimpArgs false

set_option maxHeartbeats 4000000 in
set_option maxRecDepth 100000 in
theorem low_c (h : Nat) (hh : h < 65536) (w : World) (HT : LT w) : Calls Tryd.prog 57 #[.int .u16 h] w fun e w' => Says w (lowN h) e w' := by
  have f_3_3 : fd h 3 3 < 8 := fd_lt h 3 3
  have f_0_3 : fd h 0 3 < 8 := fd_lt h 0 3
  have f_6_4 : fd h 6 4 < 16 := fd_lt h 6 4
  rcases (show fd h 6 4 = 0 ∨ fd h 6 4 = 1 ∨ fd h 6 4 = 2 ∨ fd h 6 4 = 3 ∨ fd h 6 4 = 4 ∨ fd h 6 4 = 5 ∨ fd h 6 4 = 6 ∨ fd h 6 4 = 7 ∨ fd h 6 4 = 8 ∨ fd h 6 4 = 9 ∨ fd h 6 4 = 10 ∨ fd h 6 4 = 11 ∨ fd h 6 4 = 12 ∨ fd h 6 4 = 13 ∨ fd h 6 4 = 14 ∨ fd h 6 4 = 15 by omega) with q1 | q1 | q1 | q1 | q1 | q1 | q1 | q1 | q1 | q1 | q1 | q1 | q1 | q1 | q1 | q1
  · have CO : Hid (∀ w1, Calls Tryd.prog 36 #[.int .u16 (h : Int), .int .i64 6, .int .i64 4] w1 fun e w' => e = .returned (.int .i64 0) ∧ Below w1.heap.size w1 w') := fun w1 => by
      have := field_6_4 h hh w1
      rw [q1] at this
      exact this
    have hN : lowN h = (nReg 1 (fd h 0 3) (fd h 0 3) (fd h 3 3) true) := by
      unfold lowN
      simp [lowOp, nbeq, nblt, nble, *]
    unfold Says
    rw [hN]
    clear hN
    go_enter Tryd.func57, Tryd.ntmps57
    have S := SH.start w
    go_wp2_with (first
      | (go_at_call 36; (first | with_reducible refine (field_3_3 h hh _).mono ?_ | with_reducible refine (field_0_3 h hh _).mono ?_); rintro e wf ⟨rfl, hbf⟩; replace S := S.below hbf; clear hbf)
      | (go_at_call 36; with_reducible refine (CO.out _).mono ?_; rintro e wf ⟨rfl, hbf⟩; replace S := S.below hbf; clear hbf; have hct : wf.cell? ⟨3, 0, none⟩ = some (.int .i64 1) := (HT.next S.low).low' 0 1 (by decide) (by decide))
      | (go_at_call 35; refine (reg_c _ _ _ _ _ _).mono ?_; rintro e wf ⟨rfl, hbf⟩; replace S := S.below hbf; clear hbf)
      | ((with_reducible refine wpl_is ?_); first
        | (refine S.alloc rfl 29 rfl (Cel.iv IV.zero) zeroIV ?_; clear S; intro b1 w1 S)
        | (refine S.storeAll rfl 29 _ _ rfl _ (Cel.iv (nReg 1 (fd h 0 3) (fd h 0 3) (fd h 3 3) true).iv) rfl rfl 0 _ rfl rfl (one_iv _) (szIV _) ?_; clear S; intro w2 S; simp only [List.set_cons_zero] at S)))
    (try simp only [Exit.inBlock, Exit.then])
    refine bodyPost_ret (S.results rfl _ _ rfl 0 _ rfl _ Tryd.underlying29 rfl (szIV _)) rfl ⟨rfl, S.low⟩
  · have CO : Hid (∀ w1, Calls Tryd.prog 36 #[.int .u16 (h : Int), .int .i64 6, .int .i64 4] w1 fun e w' => e = .returned (.int .i64 1) ∧ Below w1.heap.size w1 w') := fun w1 => by
      have := field_6_4 h hh w1
      rw [q1] at this
      exact this
    have hN : lowN h = (nReg 2 (fd h 0 3) (fd h 0 3) (fd h 3 3) true) := by
      unfold lowN
      simp [lowOp, nbeq, nblt, nble, *]
    unfold Says
    rw [hN]
    clear hN
    go_enter Tryd.func57, Tryd.ntmps57
    have S := SH.start w
    go_wp2_with (first
      | (go_at_call 36; (first | with_reducible refine (field_3_3 h hh _).mono ?_ | with_reducible refine (field_0_3 h hh _).mono ?_); rintro e wf ⟨rfl, hbf⟩; replace S := S.below hbf; clear hbf)
      | (go_at_call 36; with_reducible refine (CO.out _).mono ?_; rintro e wf ⟨rfl, hbf⟩; replace S := S.below hbf; clear hbf; have hct : wf.cell? ⟨3, 1, none⟩ = some (.int .i64 2) := (HT.next S.low).low' 1 2 (by decide) (by decide))
      | (go_at_call 35; refine (reg_c _ _ _ _ _ _).mono ?_; rintro e wf ⟨rfl, hbf⟩; replace S := S.below hbf; clear hbf)
      | ((with_reducible refine wpl_is ?_); first
        | (refine S.alloc rfl 29 rfl (Cel.iv IV.zero) zeroIV ?_; clear S; intro b1 w1 S)
        | (refine S.storeAll rfl 29 _ _ rfl _ (Cel.iv (nReg 2 (fd h 0 3) (fd h 0 3) (fd h 3 3) true).iv) rfl rfl 0 _ rfl rfl (one_iv _) (szIV _) ?_; clear S; intro w2 S; simp only [List.set_cons_zero] at S)))
    (try simp only [Exit.inBlock, Exit.then])
    refine bodyPost_ret (S.results rfl _ _ rfl 0 _ rfl _ Tryd.underlying29 rfl (szIV _)) rfl ⟨rfl, S.low⟩
  · have CO : Hid (∀ w1, Calls Tryd.prog 36 #[.int .u16 (h : Int), .int .i64 6, .int .i64 4] w1 fun e w' => e = .returned (.int .i64 2) ∧ Below w1.heap.size w1 w') := fun w1 => by
      have := field_6_4 h hh w1
      rw [q1] at this
      exact this
    have hN : lowN h = (nReg 17 (fd h 0 3) (fd h 0 3) (fd h 3 3) true) := by
      unfold lowN
      simp [lowOp, nbeq, nblt, nble, *]
    unfold Says
    rw [hN]
    clear hN
    go_enter Tryd.func57, Tryd.ntmps57
    have S := SH.start w
    go_wp2_with (first
      | (go_at_call 36; (first | with_reducible refine (field_3_3 h hh _).mono ?_ | with_reducible refine (field_0_3 h hh _).mono ?_); rintro e wf ⟨rfl, hbf⟩; replace S := S.below hbf; clear hbf)
      | (go_at_call 36; with_reducible refine (CO.out _).mono ?_; rintro e wf ⟨rfl, hbf⟩; replace S := S.below hbf; clear hbf; have hct : wf.cell? ⟨3, 2, none⟩ = some (.int .i64 17) := (HT.next S.low).low' 2 17 (by decide) (by decide))
      | (go_at_call 35; refine (reg_c _ _ _ _ _ _).mono ?_; rintro e wf ⟨rfl, hbf⟩; replace S := S.below hbf; clear hbf)
      | ((with_reducible refine wpl_is ?_); first
        | (refine S.alloc rfl 29 rfl (Cel.iv IV.zero) zeroIV ?_; clear S; intro b1 w1 S)
        | (refine S.storeAll rfl 29 _ _ rfl _ (Cel.iv (nReg 17 (fd h 0 3) (fd h 0 3) (fd h 3 3) true).iv) rfl rfl 0 _ rfl rfl (one_iv _) (szIV _) ?_; clear S; intro w2 S; simp only [List.set_cons_zero] at S)))
    (try simp only [Exit.inBlock, Exit.then])
    refine bodyPost_ret (S.results rfl _ _ rfl 0 _ rfl _ Tryd.underlying29 rfl (szIV _)) rfl ⟨rfl, S.low⟩
  · have CO : Hid (∀ w1, Calls Tryd.prog 36 #[.int .u16 (h : Int), .int .i64 6, .int .i64 4] w1 fun e w' => e = .returned (.int .i64 3) ∧ Below w1.heap.size w1 w') := fun w1 => by
      have := field_6_4 h hh w1
      rw [q1] at this
      exact this
    have hN : lowN h = (nReg 18 (fd h 0 3) (fd h 0 3) (fd h 3 3) true) := by
      unfold lowN
      simp [lowOp, nbeq, nblt, nble, *]
    unfold Says
    rw [hN]
    clear hN
    go_enter Tryd.func57, Tryd.ntmps57
    have S := SH.start w
    go_wp2_with (first
      | (go_at_call 36; (first | with_reducible refine (field_3_3 h hh _).mono ?_ | with_reducible refine (field_0_3 h hh _).mono ?_); rintro e wf ⟨rfl, hbf⟩; replace S := S.below hbf; clear hbf)
      | (go_at_call 36; with_reducible refine (CO.out _).mono ?_; rintro e wf ⟨rfl, hbf⟩; replace S := S.below hbf; clear hbf; have hct : wf.cell? ⟨3, 3, none⟩ = some (.int .i64 18) := (HT.next S.low).low' 3 18 (by decide) (by decide))
      | (go_at_call 35; refine (reg_c _ _ _ _ _ _).mono ?_; rintro e wf ⟨rfl, hbf⟩; replace S := S.below hbf; clear hbf)
      | ((with_reducible refine wpl_is ?_); first
        | (refine S.alloc rfl 29 rfl (Cel.iv IV.zero) zeroIV ?_; clear S; intro b1 w1 S)
        | (refine S.storeAll rfl 29 _ _ rfl _ (Cel.iv (nReg 18 (fd h 0 3) (fd h 0 3) (fd h 3 3) true).iv) rfl rfl 0 _ rfl rfl (one_iv _) (szIV _) ?_; clear S; intro w2 S; simp only [List.set_cons_zero] at S)))
    (try simp only [Exit.inBlock, Exit.then])
    refine bodyPost_ret (S.results rfl _ _ rfl 0 _ rfl _ Tryd.underlying29 rfl (szIV _)) rfl ⟨rfl, S.low⟩
  · have CO : Hid (∀ w1, Calls Tryd.prog 36 #[.int .u16 (h : Int), .int .i64 6, .int .i64 4] w1 fun e w' => e = .returned (.int .i64 4) ∧ Below w1.heap.size w1 w') := fun w1 => by
      have := field_6_4 h hh w1
      rw [q1] at this
      exact this
    have hN : lowN h = (nReg 19 (fd h 0 3) (fd h 0 3) (fd h 3 3) true) := by
      unfold lowN
      simp [lowOp, nbeq, nblt, nble, *]
    unfold Says
    rw [hN]
    clear hN
    go_enter Tryd.func57, Tryd.ntmps57
    have S := SH.start w
    go_wp2_with (first
      | (go_at_call 36; (first | with_reducible refine (field_3_3 h hh _).mono ?_ | with_reducible refine (field_0_3 h hh _).mono ?_); rintro e wf ⟨rfl, hbf⟩; replace S := S.below hbf; clear hbf)
      | (go_at_call 36; with_reducible refine (CO.out _).mono ?_; rintro e wf ⟨rfl, hbf⟩; replace S := S.below hbf; clear hbf; have hct : wf.cell? ⟨3, 4, none⟩ = some (.int .i64 19) := (HT.next S.low).low' 4 19 (by decide) (by decide))
      | (go_at_call 35; refine (reg_c _ _ _ _ _ _).mono ?_; rintro e wf ⟨rfl, hbf⟩; replace S := S.below hbf; clear hbf)
      | ((with_reducible refine wpl_is ?_); first
        | (refine S.alloc rfl 29 rfl (Cel.iv IV.zero) zeroIV ?_; clear S; intro b1 w1 S)
        | (refine S.storeAll rfl 29 _ _ rfl _ (Cel.iv (nReg 19 (fd h 0 3) (fd h 0 3) (fd h 3 3) true).iv) rfl rfl 0 _ rfl rfl (one_iv _) (szIV _) ?_; clear S; intro w2 S; simp only [List.set_cons_zero] at S)))
    (try simp only [Exit.inBlock, Exit.then])
    refine bodyPost_ret (S.results rfl _ _ rfl 0 _ rfl _ Tryd.underlying29 rfl (szIV _)) rfl ⟨rfl, S.low⟩
  · have CO : Hid (∀ w1, Calls Tryd.prog 36 #[.int .u16 (h : Int), .int .i64 6, .int .i64 4] w1 fun e w' => e = .returned (.int .i64 5) ∧ Below w1.heap.size w1 w') := fun w1 => by
      have := field_6_4 h hh w1
      rw [q1] at this
      exact this
    have hN : lowN h = (nReg 6 (fd h 0 3) (fd h 0 3) (fd h 3 3) true) := by
      unfold lowN
      simp [lowOp, nbeq, nblt, nble, *]
    unfold Says
    rw [hN]
    clear hN
    go_enter Tryd.func57, Tryd.ntmps57
    have S := SH.start w
    go_wp2_with (first
      | (go_at_call 36; (first | with_reducible refine (field_3_3 h hh _).mono ?_ | with_reducible refine (field_0_3 h hh _).mono ?_); rintro e wf ⟨rfl, hbf⟩; replace S := S.below hbf; clear hbf)
      | (go_at_call 36; with_reducible refine (CO.out _).mono ?_; rintro e wf ⟨rfl, hbf⟩; replace S := S.below hbf; clear hbf; have hct : wf.cell? ⟨3, 5, none⟩ = some (.int .i64 6) := (HT.next S.low).low' 5 6 (by decide) (by decide))
      | (go_at_call 35; refine (reg_c _ _ _ _ _ _).mono ?_; rintro e wf ⟨rfl, hbf⟩; replace S := S.below hbf; clear hbf)
      | ((with_reducible refine wpl_is ?_); first
        | (refine S.alloc rfl 29 rfl (Cel.iv IV.zero) zeroIV ?_; clear S; intro b1 w1 S)
        | (refine S.storeAll rfl 29 _ _ rfl _ (Cel.iv (nReg 6 (fd h 0 3) (fd h 0 3) (fd h 3 3) true).iv) rfl rfl 0 _ rfl rfl (one_iv _) (szIV _) ?_; clear S; intro w2 S; simp only [List.set_cons_zero] at S)))
    (try simp only [Exit.inBlock, Exit.then])
    refine bodyPost_ret (S.results rfl _ _ rfl 0 _ rfl _ Tryd.underlying29 rfl (szIV _)) rfl ⟨rfl, S.low⟩
  · have CO : Hid (∀ w1, Calls Tryd.prog 36 #[.int .u16 (h : Int), .int .i64 6, .int .i64 4] w1 fun e w' => e = .returned (.int .i64 6) ∧ Below w1.heap.size w1 w') := fun w1 => by
      have := field_6_4 h hh w1
      rw [q1] at this
      exact this
    have hN : lowN h = (nReg 7 (fd h 0 3) (fd h 0 3) (fd h 3 3) true) := by
      unfold lowN
      simp [lowOp, nbeq, nblt, nble, *]
    unfold Says
    rw [hN]
    clear hN
    go_enter Tryd.func57, Tryd.ntmps57
    have S := SH.start w
    go_wp2_with (first
      | (go_at_call 36; (first | with_reducible refine (field_3_3 h hh _).mono ?_ | with_reducible refine (field_0_3 h hh _).mono ?_); rintro e wf ⟨rfl, hbf⟩; replace S := S.below hbf; clear hbf)
      | (go_at_call 36; with_reducible refine (CO.out _).mono ?_; rintro e wf ⟨rfl, hbf⟩; replace S := S.below hbf; clear hbf; have hct : wf.cell? ⟨3, 6, none⟩ = some (.int .i64 7) := (HT.next S.low).low' 6 7 (by decide) (by decide))
      | (go_at_call 35; refine (reg_c _ _ _ _ _ _).mono ?_; rintro e wf ⟨rfl, hbf⟩; replace S := S.below hbf; clear hbf)
      | ((with_reducible refine wpl_is ?_); first
        | (refine S.alloc rfl 29 rfl (Cel.iv IV.zero) zeroIV ?_; clear S; intro b1 w1 S)
        | (refine S.storeAll rfl 29 _ _ rfl _ (Cel.iv (nReg 7 (fd h 0 3) (fd h 0 3) (fd h 3 3) true).iv) rfl rfl 0 _ rfl rfl (one_iv _) (szIV _) ?_; clear S; intro w2 S; simp only [List.set_cons_zero] at S)))
    (try simp only [Exit.inBlock, Exit.then])
    refine bodyPost_ret (S.results rfl _ _ rfl 0 _ rfl _ Tryd.underlying29 rfl (szIV _)) rfl ⟨rfl, S.low⟩
  · have CO : Hid (∀ w1, Calls Tryd.prog 36 #[.int .u16 (h : Int), .int .i64 6, .int .i64 4] w1 fun e w' => e = .returned (.int .i64 7) ∧ Below w1.heap.size w1 w') := fun w1 => by
      have := field_6_4 h hh w1
      rw [q1] at this
      exact this
    have hN : lowN h = (nReg 20 (fd h 0 3) (fd h 0 3) (fd h 3 3) true) := by
      unfold lowN
      simp [lowOp, nbeq, nblt, nble, *]
    unfold Says
    rw [hN]
    clear hN
    go_enter Tryd.func57, Tryd.ntmps57
    have S := SH.start w
    go_wp2_with (first
      | (go_at_call 36; (first | with_reducible refine (field_3_3 h hh _).mono ?_ | with_reducible refine (field_0_3 h hh _).mono ?_); rintro e wf ⟨rfl, hbf⟩; replace S := S.below hbf; clear hbf)
      | (go_at_call 36; with_reducible refine (CO.out _).mono ?_; rintro e wf ⟨rfl, hbf⟩; replace S := S.below hbf; clear hbf; have hct : wf.cell? ⟨3, 7, none⟩ = some (.int .i64 20) := (HT.next S.low).low' 7 20 (by decide) (by decide))
      | (go_at_call 35; refine (reg_c _ _ _ _ _ _).mono ?_; rintro e wf ⟨rfl, hbf⟩; replace S := S.below hbf; clear hbf)
      | ((with_reducible refine wpl_is ?_); first
        | (refine S.alloc rfl 29 rfl (Cel.iv IV.zero) zeroIV ?_; clear S; intro b1 w1 S)
        | (refine S.storeAll rfl 29 _ _ rfl _ (Cel.iv (nReg 20 (fd h 0 3) (fd h 0 3) (fd h 3 3) true).iv) rfl rfl 0 _ rfl rfl (one_iv _) (szIV _) ?_; clear S; intro w2 S; simp only [List.set_cons_zero] at S)))
    (try simp only [Exit.inBlock, Exit.then])
    refine bodyPost_ret (S.results rfl _ _ rfl 0 _ rfl _ Tryd.underlying29 rfl (szIV _)) rfl ⟨rfl, S.low⟩
  · have CO : Hid (∀ w1, Calls Tryd.prog 36 #[.int .u16 (h : Int), .int .i64 6, .int .i64 4] w1 fun e w' => e = .returned (.int .i64 8) ∧ Below w1.heap.size w1 w') := fun w1 => by
      have := field_6_4 h hh w1
      rw [q1] at this
      exact this
    have hN : lowN h = (nReg 8 0 (fd h 0 3) (fd h 3 3) true) := by
      unfold lowN
      simp [lowOp, nbeq, nblt, nble, *]
    unfold Says
    rw [hN]
    clear hN
    go_enter Tryd.func57, Tryd.ntmps57
    have S := SH.start w
    go_wp2_with (first
      | (go_at_call 36; (first | with_reducible refine (field_3_3 h hh _).mono ?_ | with_reducible refine (field_0_3 h hh _).mono ?_); rintro e wf ⟨rfl, hbf⟩; replace S := S.below hbf; clear hbf)
      | (go_at_call 36; with_reducible refine (CO.out _).mono ?_; rintro e wf ⟨rfl, hbf⟩; replace S := S.below hbf; clear hbf; have hct : wf.cell? ⟨3, 8, none⟩ = some (.int .i64 8) := (HT.next S.low).low' 8 8 (by decide) (by decide))
      | (go_at_call 35; refine (reg_c _ _ _ _ _ _).mono ?_; rintro e wf ⟨rfl, hbf⟩; replace S := S.below hbf; clear hbf)
      | ((with_reducible refine wpl_is ?_); first
        | (refine S.alloc rfl 29 rfl (Cel.iv IV.zero) zeroIV ?_; clear S; intro b1 w1 S)
        | (refine S.storeAll rfl 29 _ _ rfl _ (Cel.iv (nReg 8 0 (fd h 0 3) (fd h 3 3) true).iv) rfl rfl 0 _ rfl rfl (one_iv _) (szIV _) ?_; clear S; intro w2 S; simp only [List.set_cons_zero] at S)))
    (try simp only [Exit.inBlock, Exit.then])
    refine bodyPost_ret (S.results rfl _ _ rfl 0 _ rfl _ Tryd.underlying29 rfl (szIV _)) rfl ⟨rfl, S.low⟩
  · have CO : Hid (∀ w1, Calls Tryd.prog 36 #[.int .u16 (h : Int), .int .i64 6, .int .i64 4] w1 fun e w' => e = .returned (.int .i64 9) ∧ Below w1.heap.size w1 w') := fun w1 => by
      have := field_6_4 h hh w1
      rw [q1] at this
      exact this
    have hN : lowN h = (nImm 4 (fd h 0 3) (fd h 3 3) 0 true) := by
      unfold lowN
      simp [lowOp, nbeq, nblt, nble, *]
    unfold Says
    rw [hN]
    clear hN
    go_enter Tryd.func57, Tryd.ntmps57
    have S := SH.start w
    go_wp2_with (first
      | (go_at_call 36; (first | with_reducible refine (field_3_3 h hh _).mono ?_ | with_reducible refine (field_0_3 h hh _).mono ?_); rintro e wf ⟨rfl, hbf⟩; replace S := S.below hbf; clear hbf)
      | (go_at_call 36; with_reducible refine (CO.out _).mono ?_; rintro e wf ⟨rfl, hbf⟩; replace S := S.below hbf; clear hbf; have hct : wf.cell? ⟨3, 9, none⟩ = some (.int .i64 4) := (HT.next S.low).low' 9 4 (by decide) (by decide))
      | (go_at_call 54; refine (imm_c _ _ _ _ _ (by omega) (by omega) _).mono ?_; rintro e wf ⟨rfl, hbf⟩; replace S := S.below hbf; clear hbf)
      | ((with_reducible refine wpl_is ?_); first
        | (refine S.alloc rfl 29 rfl (Cel.iv IV.zero) zeroIV ?_; clear S; intro b1 w1 S)
        | (refine S.storeAll rfl 29 _ _ rfl _ (Cel.iv (nImm 4 (fd h 0 3) (fd h 3 3) 0 true).iv) rfl rfl 0 _ rfl rfl (one_iv _) (szIV _) ?_; clear S; intro w2 S; simp only [List.set_cons_zero] at S)))
    (try simp only [Exit.inBlock, Exit.then])
    refine bodyPost_ret (S.results rfl _ _ rfl 0 _ rfl _ Tryd.underlying29 rfl (szIV _)) rfl ⟨rfl, S.low⟩
  · have CO : Hid (∀ w1, Calls Tryd.prog 36 #[.int .u16 (h : Int), .int .i64 6, .int .i64 4] w1 fun e w' => e = .returned (.int .i64 10) ∧ Below w1.heap.size w1 w') := fun w1 => by
      have := field_6_4 h hh w1
      rw [q1] at this
      exact this
    have hN : lowN h = (nReg 10 0 (fd h 0 3) (fd h 3 3) true) := by
      unfold lowN
      simp [lowOp, nbeq, nblt, nble, *]
    unfold Says
    rw [hN]
    clear hN
    go_enter Tryd.func57, Tryd.ntmps57
    have S := SH.start w
    go_wp2_with (first
      | (go_at_call 36; (first | with_reducible refine (field_3_3 h hh _).mono ?_ | with_reducible refine (field_0_3 h hh _).mono ?_); rintro e wf ⟨rfl, hbf⟩; replace S := S.below hbf; clear hbf)
      | (go_at_call 36; with_reducible refine (CO.out _).mono ?_; rintro e wf ⟨rfl, hbf⟩; replace S := S.below hbf; clear hbf; have hct : wf.cell? ⟨3, 10, none⟩ = some (.int .i64 10) := (HT.next S.low).low' 10 10 (by decide) (by decide))
      | (go_at_call 35; refine (reg_c _ _ _ _ _ _).mono ?_; rintro e wf ⟨rfl, hbf⟩; replace S := S.below hbf; clear hbf)
      | ((with_reducible refine wpl_is ?_); first
        | (refine S.alloc rfl 29 rfl (Cel.iv IV.zero) zeroIV ?_; clear S; intro b1 w1 S)
        | (refine S.storeAll rfl 29 _ _ rfl _ (Cel.iv (nReg 10 0 (fd h 0 3) (fd h 3 3) true).iv) rfl rfl 0 _ rfl rfl (one_iv _) (szIV _) ?_; clear S; intro w2 S; simp only [List.set_cons_zero] at S)))
    (try simp only [Exit.inBlock, Exit.then])
    refine bodyPost_ret (S.results rfl _ _ rfl 0 _ rfl _ Tryd.underlying29 rfl (szIV _)) rfl ⟨rfl, S.low⟩
  · have CO : Hid (∀ w1, Calls Tryd.prog 36 #[.int .u16 (h : Int), .int .i64 6, .int .i64 4] w1 fun e w' => e = .returned (.int .i64 11) ∧ Below w1.heap.size w1 w') := fun w1 => by
      have := field_6_4 h hh w1
      rw [q1] at this
      exact this
    have hN : lowN h = (nReg 11 0 (fd h 0 3) (fd h 3 3) true) := by
      unfold lowN
      simp [lowOp, nbeq, nblt, nble, *]
    unfold Says
    rw [hN]
    clear hN
    go_enter Tryd.func57, Tryd.ntmps57
    have S := SH.start w
    go_wp2_with (first
      | (go_at_call 36; (first | with_reducible refine (field_3_3 h hh _).mono ?_ | with_reducible refine (field_0_3 h hh _).mono ?_); rintro e wf ⟨rfl, hbf⟩; replace S := S.below hbf; clear hbf)
      | (go_at_call 36; with_reducible refine (CO.out _).mono ?_; rintro e wf ⟨rfl, hbf⟩; replace S := S.below hbf; clear hbf; have hct : wf.cell? ⟨3, 11, none⟩ = some (.int .i64 11) := (HT.next S.low).low' 11 11 (by decide) (by decide))
      | (go_at_call 35; refine (reg_c _ _ _ _ _ _).mono ?_; rintro e wf ⟨rfl, hbf⟩; replace S := S.below hbf; clear hbf)
      | ((with_reducible refine wpl_is ?_); first
        | (refine S.alloc rfl 29 rfl (Cel.iv IV.zero) zeroIV ?_; clear S; intro b1 w1 S)
        | (refine S.storeAll rfl 29 _ _ rfl _ (Cel.iv (nReg 11 0 (fd h 0 3) (fd h 3 3) true).iv) rfl rfl 0 _ rfl rfl (one_iv _) (szIV _) ?_; clear S; intro w2 S; simp only [List.set_cons_zero] at S)))
    (try simp only [Exit.inBlock, Exit.then])
    refine bodyPost_ret (S.results rfl _ _ rfl 0 _ rfl _ Tryd.underlying29 rfl (szIV _)) rfl ⟨rfl, S.low⟩
  · have CO : Hid (∀ w1, Calls Tryd.prog 36 #[.int .u16 (h : Int), .int .i64 6, .int .i64 4] w1 fun e w' => e = .returned (.int .i64 12) ∧ Below w1.heap.size w1 w') := fun w1 => by
      have := field_6_4 h hh w1
      rw [q1] at this
      exact this
    have hN : lowN h = (nReg 12 (fd h 0 3) (fd h 0 3) (fd h 3 3) true) := by
      unfold lowN
      simp [lowOp, nbeq, nblt, nble, *]
    unfold Says
    rw [hN]
    clear hN
    go_enter Tryd.func57, Tryd.ntmps57
    have S := SH.start w
    go_wp2_with (first
      | (go_at_call 36; (first | with_reducible refine (field_3_3 h hh _).mono ?_ | with_reducible refine (field_0_3 h hh _).mono ?_); rintro e wf ⟨rfl, hbf⟩; replace S := S.below hbf; clear hbf)
      | (go_at_call 36; with_reducible refine (CO.out _).mono ?_; rintro e wf ⟨rfl, hbf⟩; replace S := S.below hbf; clear hbf; have hct : wf.cell? ⟨3, 12, none⟩ = some (.int .i64 12) := (HT.next S.low).low' 12 12 (by decide) (by decide))
      | (go_at_call 35; refine (reg_c _ _ _ _ _ _).mono ?_; rintro e wf ⟨rfl, hbf⟩; replace S := S.below hbf; clear hbf)
      | ((with_reducible refine wpl_is ?_); first
        | (refine S.alloc rfl 29 rfl (Cel.iv IV.zero) zeroIV ?_; clear S; intro b1 w1 S)
        | (refine S.storeAll rfl 29 _ _ rfl _ (Cel.iv (nReg 12 (fd h 0 3) (fd h 0 3) (fd h 3 3) true).iv) rfl rfl 0 _ rfl rfl (one_iv _) (szIV _) ?_; clear S; intro w2 S; simp only [List.set_cons_zero] at S)))
    (try simp only [Exit.inBlock, Exit.then])
    refine bodyPost_ret (S.results rfl _ _ rfl 0 _ rfl _ Tryd.underlying29 rfl (szIV _)) rfl ⟨rfl, S.low⟩
  · have CO : Hid (∀ w1, Calls Tryd.prog 36 #[.int .u16 (h : Int), .int .i64 6, .int .i64 4] w1 fun e w' => e = .returned (.int .i64 13) ∧ Below w1.heap.size w1 w') := fun w1 => by
      have := field_6_4 h hh w1
      rw [q1] at this
      exact this
    have hN : lowN h = (nReg 21 (fd h 0 3) (fd h 3 3) (fd h 0 3) true) := by
      unfold lowN
      simp [lowOp, nbeq, nblt, nble, *]
    unfold Says
    rw [hN]
    clear hN
    go_enter Tryd.func57, Tryd.ntmps57
    have S := SH.start w
    go_wp2_with (first
      | (go_at_call 36; (first | with_reducible refine (field_3_3 h hh _).mono ?_ | with_reducible refine (field_0_3 h hh _).mono ?_); rintro e wf ⟨rfl, hbf⟩; replace S := S.below hbf; clear hbf)
      | (go_at_call 36; with_reducible refine (CO.out _).mono ?_; rintro e wf ⟨rfl, hbf⟩; replace S := S.below hbf; clear hbf; have hct : wf.cell? ⟨3, 13, none⟩ = some (.int .i64 21) := (HT.next S.low).low' 13 21 (by decide) (by decide))
      | (go_at_call 35; refine (reg_c _ _ _ _ _ _).mono ?_; rintro e wf ⟨rfl, hbf⟩; replace S := S.below hbf; clear hbf)
      | ((with_reducible refine wpl_is ?_); first
        | (refine S.alloc rfl 29 rfl (Cel.iv IV.zero) zeroIV ?_; clear S; intro b1 w1 S)
        | (refine S.storeAll rfl 29 _ _ rfl _ (Cel.iv (nReg 21 (fd h 0 3) (fd h 3 3) (fd h 0 3) true).iv) rfl rfl 0 _ rfl rfl (one_iv _) (szIV _) ?_; clear S; intro w2 S; simp only [List.set_cons_zero] at S)))
    (try simp only [Exit.inBlock, Exit.then])
    refine bodyPost_ret (S.results rfl _ _ rfl 0 _ rfl _ Tryd.underlying29 rfl (szIV _)) rfl ⟨rfl, S.low⟩
  · have CO : Hid (∀ w1, Calls Tryd.prog 36 #[.int .u16 (h : Int), .int .i64 6, .int .i64 4] w1 fun e w' => e = .returned (.int .i64 14) ∧ Below w1.heap.size w1 w') := fun w1 => by
      have := field_6_4 h hh w1
      rw [q1] at this
      exact this
    have hN : lowN h = (nReg 14 (fd h 0 3) (fd h 0 3) (fd h 3 3) true) := by
      unfold lowN
      simp [lowOp, nbeq, nblt, nble, *]
    unfold Says
    rw [hN]
    clear hN
    go_enter Tryd.func57, Tryd.ntmps57
    have S := SH.start w
    go_wp2_with (first
      | (go_at_call 36; (first | with_reducible refine (field_3_3 h hh _).mono ?_ | with_reducible refine (field_0_3 h hh _).mono ?_); rintro e wf ⟨rfl, hbf⟩; replace S := S.below hbf; clear hbf)
      | (go_at_call 36; with_reducible refine (CO.out _).mono ?_; rintro e wf ⟨rfl, hbf⟩; replace S := S.below hbf; clear hbf; have hct : wf.cell? ⟨3, 14, none⟩ = some (.int .i64 14) := (HT.next S.low).low' 14 14 (by decide) (by decide))
      | (go_at_call 35; refine (reg_c _ _ _ _ _ _).mono ?_; rintro e wf ⟨rfl, hbf⟩; replace S := S.below hbf; clear hbf)
      | ((with_reducible refine wpl_is ?_); first
        | (refine S.alloc rfl 29 rfl (Cel.iv IV.zero) zeroIV ?_; clear S; intro b1 w1 S)
        | (refine S.storeAll rfl 29 _ _ rfl _ (Cel.iv (nReg 14 (fd h 0 3) (fd h 0 3) (fd h 3 3) true).iv) rfl rfl 0 _ rfl rfl (one_iv _) (szIV _) ?_; clear S; intro w2 S; simp only [List.set_cons_zero] at S)))
    (try simp only [Exit.inBlock, Exit.then])
    refine bodyPost_ret (S.results rfl _ _ rfl 0 _ rfl _ Tryd.underlying29 rfl (szIV _)) rfl ⟨rfl, S.low⟩
  · have CO : Hid (∀ w1, Calls Tryd.prog 36 #[.int .u16 (h : Int), .int .i64 6, .int .i64 4] w1 fun e w' => e = .returned (.int .i64 15) ∧ Below w1.heap.size w1 w') := fun w1 => by
      have := field_6_4 h hh w1
      rw [q1] at this
      exact this
    have hN : lowN h = (nReg 15 (fd h 0 3) 0 (fd h 3 3) true) := by
      unfold lowN
      simp [lowOp, nbeq, nblt, nble, *]
    unfold Says
    rw [hN]
    clear hN
    go_enter Tryd.func57, Tryd.ntmps57
    have S := SH.start w
    go_wp2_with (first
      | (go_at_call 36; (first | with_reducible refine (field_3_3 h hh _).mono ?_ | with_reducible refine (field_0_3 h hh _).mono ?_); rintro e wf ⟨rfl, hbf⟩; replace S := S.below hbf; clear hbf)
      | (go_at_call 36; with_reducible refine (CO.out _).mono ?_; rintro e wf ⟨rfl, hbf⟩; replace S := S.below hbf; clear hbf; have hct : wf.cell? ⟨3, 15, none⟩ = some (.int .i64 15) := (HT.next S.low).low' 15 15 (by decide) (by decide))
      | (go_at_call 35; refine (reg_c _ _ _ _ _ _).mono ?_; rintro e wf ⟨rfl, hbf⟩; replace S := S.below hbf; clear hbf)
      | ((with_reducible refine wpl_is ?_); first
        | (refine S.alloc rfl 29 rfl (Cel.iv IV.zero) zeroIV ?_; clear S; intro b1 w1 S)
        | (refine S.storeAll rfl 29 _ _ rfl _ (Cel.iv (nReg 15 (fd h 0 3) 0 (fd h 3 3) true).iv) rfl rfl 0 _ rfl rfl (one_iv _) (szIV _) ?_; clear S; intro w2 S; simp only [List.set_cons_zero] at S)))
    (try simp only [Exit.inBlock, Exit.then])
    refine bodyPost_ret (S.results rfl _ _ rfl 0 _ rfl _ Tryd.underlying29 rfl (szIV _)) rfl ⟨rfl, S.low⟩
end Go.Proofs.YtblcklknlfofgaaDoor
