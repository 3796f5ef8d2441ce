/- Stage 8: rows of narrow words, the program's, walked. -/
import Derived.Test.YtblcklknlfofgaaDoorThC
import Derived.Test.YtblcklknlfofgaaDoorTh3
import Derived.Test.YtblcklknlfofgaaDoorTh6
namespace Go.Proofs.YtblcklknlfofgaaDoor
open Go.ChangeShapes Go.WideShapes Go.ChangeAt Go.RowKit
set_option linter.unusedVariables false
set_option linter.unusedSimpArgs false

set_option maxHeartbeats 4000000 in
set_option maxRecDepth 100000 in
theorem mixed_c (h : Nat) (hh : h < 65536) (hr : h / 2048 = 22 ∨ h / 2048 = 23) (w : World) (HT : LT w) : Calls Tryd.prog 38 #[.int .u16 h] w fun e w' => Says w (mixedN h) e w' := by
  have pb := page_bits h hh
  have f_0_8 : fd h 0 8 < 256 := fd_lt h 0 8
  have f62 : fd h 6 2 < 4 := fd_lt h 6 2
  have hpg : h / 256 = 176 ∨ h / 256 = 177 ∨ h / 256 = 179 ∨ h / 256 = 185 ∨ h / 256 = 187 ∨ h / 256 = 180 ∨ h / 256 = 181 ∨ h / 256 = 188 ∨ h / 256 = 189 ∨ h / 256 = 182 ∨ h / 256 = 183 ∨ h / 256 = 184 ∨ h / 256 = 190 ∨ h / 256 = 191 ∨ h / 256 = 178 ∨ h / 256 = 186 := by omega
  rcases hpg with q1 | q1 | q1 | q1 | q1 | q1 | q1 | q1 | q1 | q1 | q1 | q1 | q1 | q1 | q1 | q1
  · rw [q1] at pb
    have pb2 : bits .and .u16 (h : Int) 65280 = 45056 := pb
    clear pb
    have hN : mixedN h = (moveN h) := by
      unfold mixedN
      simp [extOp, revOp, nbeq, nblt, nble, *]
    unfold Says
    rw [hN]
    clear hN
    go_enter Tryd.func38, Tryd.ntmps38
    have S := SH.start w
    go_wp2_with (first
      | (go_at_call 36; (first | with_reducible refine (field_0_8 h hh _).mono ?_); rintro e wf ⟨rfl, hbf⟩; replace S := S.below hbf; clear hbf)
      | (go_at_call 58; refine (move_c h hh _).mono ?_; rintro e wf ⟨rfl, hbf⟩; replace S := S.below hbf; clear hbf)
      | ((with_reducible refine wpl_is ?_); first
        | (refine S.alloc rfl 29 rfl (Cel.iv IV.zero) zeroIV ?_; clear S; intro b1 w1 S)
        | (refine S.storeAll rfl 29 _ _ rfl _ (Cel.iv (moveN h).iv) rfl rfl 0 _ rfl rfl (one_iv _) (szIV _) ?_; clear S; intro w2 S; simp only [List.set_cons_zero] at S)))
    (try simp only [Exit.inBlock, Exit.then])
    refine bodyPost_ret (S.results rfl _ _ rfl 0 _ rfl _ Tryd.underlying29 rfl (szIV _)) rfl ⟨rfl, S.low⟩
  · rw [q1] at pb
    have pb2 : bits .and .u16 (h : Int) 65280 = 45312 := pb
    clear pb
    have hN : mixedN h = (comparedN 58 h) := by
      unfold mixedN
      simp [extOp, revOp, nbeq, nblt, nble, *]
    unfold Says
    rw [hN]
    clear hN
    go_enter Tryd.func38, Tryd.ntmps38
    have S := SH.start w
    go_wp2_with (first
      | (go_at_call 36; (first | with_reducible refine (field_0_8 h hh _).mono ?_); rintro e wf ⟨rfl, hbf⟩; replace S := S.below hbf; clear hbf)
      | (go_at_call 59; refine (compared_c h hh 58 _).mono ?_; rintro e wf ⟨rfl, hbf⟩; replace S := S.below hbf; clear hbf)
      | ((with_reducible refine wpl_is ?_); first
        | (refine S.alloc rfl 29 rfl (Cel.iv IV.zero) zeroIV ?_; clear S; intro b1 w1 S)
        | (refine S.storeAll rfl 29 _ _ rfl _ (Cel.iv (comparedN 58 h).iv) rfl rfl 0 _ rfl rfl (one_iv _) (szIV _) ?_; clear S; intro w2 S; simp only [List.set_cons_zero] at S)))
    (try simp only [Exit.inBlock, Exit.then])
    refine bodyPost_ret (S.results rfl _ _ rfl 0 _ rfl _ Tryd.underlying29 rfl (szIV _)) rfl ⟨rfl, S.low⟩
  · rw [q1] at pb
    have pb2 : bits .and .u16 (h : Int) 65280 = 45824 := pb
    clear pb
    have hN : mixedN h = (comparedN 58 h) := by
      unfold mixedN
      simp [extOp, revOp, nbeq, nblt, nble, *]
    unfold Says
    rw [hN]
    clear hN
    go_enter Tryd.func38, Tryd.ntmps38
    have S := SH.start w
    go_wp2_with (first
      | (go_at_call 36; (first | with_reducible refine (field_0_8 h hh _).mono ?_); rintro e wf ⟨rfl, hbf⟩; replace S := S.below hbf; clear hbf)
      | (go_at_call 59; refine (compared_c h hh 58 _).mono ?_; rintro e wf ⟨rfl, hbf⟩; replace S := S.below hbf; clear hbf)
      | ((with_reducible refine wpl_is ?_); first
        | (refine S.alloc rfl 29 rfl (Cel.iv IV.zero) zeroIV ?_; clear S; intro b1 w1 S)
        | (refine S.storeAll rfl 29 _ _ rfl _ (Cel.iv (comparedN 58 h).iv) rfl rfl 0 _ rfl rfl (one_iv _) (szIV _) ?_; clear S; intro w2 S; simp only [List.set_cons_zero] at S)))
    (try simp only [Exit.inBlock, Exit.then])
    refine bodyPost_ret (S.results rfl _ _ rfl 0 _ rfl _ Tryd.underlying29 rfl (szIV _)) rfl ⟨rfl, S.low⟩
  · rw [q1] at pb
    have pb2 : bits .and .u16 (h : Int) 65280 = 47360 := pb
    clear pb
    have hN : mixedN h = (comparedN 59 h) := by
      unfold mixedN
      simp [extOp, revOp, nbeq, nblt, nble, *]
    unfold Says
    rw [hN]
    clear hN
    go_enter Tryd.func38, Tryd.ntmps38
    have S := SH.start w
    go_wp2_with (first
      | (go_at_call 36; (first | with_reducible refine (field_0_8 h hh _).mono ?_); rintro e wf ⟨rfl, hbf⟩; replace S := S.below hbf; clear hbf)
      | (go_at_call 59; refine (compared_c h hh 59 _).mono ?_; rintro e wf ⟨rfl, hbf⟩; replace S := S.below hbf; clear hbf)
      | ((with_reducible refine wpl_is ?_); first
        | (refine S.alloc rfl 29 rfl (Cel.iv IV.zero) zeroIV ?_; clear S; intro b1 w1 S)
        | (refine S.storeAll rfl 29 _ _ rfl _ (Cel.iv (comparedN 59 h).iv) rfl rfl 0 _ rfl rfl (one_iv _) (szIV _) ?_; clear S; intro w2 S; simp only [List.set_cons_zero] at S)))
    (try simp only [Exit.inBlock, Exit.then])
    refine bodyPost_ret (S.results rfl _ _ rfl 0 _ rfl _ Tryd.underlying29 rfl (szIV _)) rfl ⟨rfl, S.low⟩
  · rw [q1] at pb
    have pb2 : bits .and .u16 (h : Int) 65280 = 47872 := pb
    clear pb
    have hN : mixedN h = (comparedN 59 h) := by
      unfold mixedN
      simp [extOp, revOp, nbeq, nblt, nble, *]
    unfold Says
    rw [hN]
    clear hN
    go_enter Tryd.func38, Tryd.ntmps38
    have S := SH.start w
    go_wp2_with (first
      | (go_at_call 36; (first | with_reducible refine (field_0_8 h hh _).mono ?_); rintro e wf ⟨rfl, hbf⟩; replace S := S.below hbf; clear hbf)
      | (go_at_call 59; refine (compared_c h hh 59 _).mono ?_; rintro e wf ⟨rfl, hbf⟩; replace S := S.below hbf; clear hbf)
      | ((with_reducible refine wpl_is ?_); first
        | (refine S.alloc rfl 29 rfl (Cel.iv IV.zero) zeroIV ?_; clear S; intro b1 w1 S)
        | (refine S.storeAll rfl 29 _ _ rfl _ (Cel.iv (comparedN 59 h).iv) rfl rfl 0 _ rfl rfl (one_iv _) (szIV _) ?_; clear S; intro w2 S; simp only [List.set_cons_zero] at S)))
    (try simp only [Exit.inBlock, Exit.then])
    refine bodyPost_ret (S.results rfl _ _ rfl 0 _ rfl _ Tryd.underlying29 rfl (szIV _)) rfl ⟨rfl, S.low⟩
  · rw [q1] at pb
    have pb2 : bits .and .u16 (h : Int) 65280 = 46080 := pb
    clear pb
    have hN : mixedN h = (stackedN h) := by
      unfold mixedN
      simp [extOp, revOp, nbeq, nblt, nble, *]
    unfold Says
    rw [hN]
    clear hN
    go_enter Tryd.func38, Tryd.ntmps38
    have S := SH.start w
    go_wp2_with (first
      | (go_at_call 36; (first | with_reducible refine (field_0_8 h hh _).mono ?_); rintro e wf ⟨rfl, hbf⟩; replace S := S.below hbf; clear hbf)
      | (go_at_call 61; refine (stacked_c h hh (by omega) _).mono ?_; rintro e wf ⟨rfl, hbf⟩; replace S := S.below hbf; clear hbf)
      | ((with_reducible refine wpl_is ?_); first
        | (refine S.alloc rfl 29 rfl (Cel.iv IV.zero) zeroIV ?_; clear S; intro b1 w1 S)
        | (refine S.storeAll rfl 29 _ _ rfl _ (Cel.iv (stackedN h).iv) rfl rfl 0 _ rfl rfl (one_iv _) (szIV _) ?_; clear S; intro w2 S; simp only [List.set_cons_zero] at S)))
    (try simp only [Exit.inBlock, Exit.then])
    refine bodyPost_ret (S.results rfl _ _ rfl 0 _ rfl _ Tryd.underlying29 rfl (szIV _)) rfl ⟨rfl, S.low⟩
  · rw [q1] at pb
    have pb2 : bits .and .u16 (h : Int) 65280 = 46336 := pb
    clear pb
    have hN : mixedN h = (stackedN h) := by
      unfold mixedN
      simp [extOp, revOp, nbeq, nblt, nble, *]
    unfold Says
    rw [hN]
    clear hN
    go_enter Tryd.func38, Tryd.ntmps38
    have S := SH.start w
    go_wp2_with (first
      | (go_at_call 36; (first | with_reducible refine (field_0_8 h hh _).mono ?_); rintro e wf ⟨rfl, hbf⟩; replace S := S.below hbf; clear hbf)
      | (go_at_call 61; refine (stacked_c h hh (by omega) _).mono ?_; rintro e wf ⟨rfl, hbf⟩; replace S := S.below hbf; clear hbf)
      | ((with_reducible refine wpl_is ?_); first
        | (refine S.alloc rfl 29 rfl (Cel.iv IV.zero) zeroIV ?_; clear S; intro b1 w1 S)
        | (refine S.storeAll rfl 29 _ _ rfl _ (Cel.iv (stackedN h).iv) rfl rfl 0 _ rfl rfl (one_iv _) (szIV _) ?_; clear S; intro w2 S; simp only [List.set_cons_zero] at S)))
    (try simp only [Exit.inBlock, Exit.then])
    refine bodyPost_ret (S.results rfl _ _ rfl 0 _ rfl _ Tryd.underlying29 rfl (szIV _)) rfl ⟨rfl, S.low⟩
  · rw [q1] at pb
    have pb2 : bits .and .u16 (h : Int) 65280 = 48128 := pb
    clear pb
    have hN : mixedN h = (stackedN h) := by
      unfold mixedN
      simp [extOp, revOp, nbeq, nblt, nble, *]
    unfold Says
    rw [hN]
    clear hN
    go_enter Tryd.func38, Tryd.ntmps38
    have S := SH.start w
    go_wp2_with (first
      | (go_at_call 36; (first | with_reducible refine (field_0_8 h hh _).mono ?_); rintro e wf ⟨rfl, hbf⟩; replace S := S.below hbf; clear hbf)
      | (go_at_call 61; refine (stacked_c h hh (by omega) _).mono ?_; rintro e wf ⟨rfl, hbf⟩; replace S := S.below hbf; clear hbf)
      | ((with_reducible refine wpl_is ?_); first
        | (refine S.alloc rfl 29 rfl (Cel.iv IV.zero) zeroIV ?_; clear S; intro b1 w1 S)
        | (refine S.storeAll rfl 29 _ _ rfl _ (Cel.iv (stackedN h).iv) rfl rfl 0 _ rfl rfl (one_iv _) (szIV _) ?_; clear S; intro w2 S; simp only [List.set_cons_zero] at S)))
    (try simp only [Exit.inBlock, Exit.then])
    refine bodyPost_ret (S.results rfl _ _ rfl 0 _ rfl _ Tryd.underlying29 rfl (szIV _)) rfl ⟨rfl, S.low⟩
  · rw [q1] at pb
    have pb2 : bits .and .u16 (h : Int) 65280 = 48384 := pb
    clear pb
    have hN : mixedN h = (stackedN h) := by
      unfold mixedN
      simp [extOp, revOp, nbeq, nblt, nble, *]
    unfold Says
    rw [hN]
    clear hN
    go_enter Tryd.func38, Tryd.ntmps38
    have S := SH.start w
    go_wp2_with (first
      | (go_at_call 36; (first | with_reducible refine (field_0_8 h hh _).mono ?_); rintro e wf ⟨rfl, hbf⟩; replace S := S.below hbf; clear hbf)
      | (go_at_call 61; refine (stacked_c h hh (by omega) _).mono ?_; rintro e wf ⟨rfl, hbf⟩; replace S := S.below hbf; clear hbf)
      | ((with_reducible refine wpl_is ?_); first
        | (refine S.alloc rfl 29 rfl (Cel.iv IV.zero) zeroIV ?_; clear S; intro b1 w1 S)
        | (refine S.storeAll rfl 29 _ _ rfl _ (Cel.iv (stackedN h).iv) rfl rfl 0 _ rfl rfl (one_iv _) (szIV _) ?_; clear S; intro w2 S; simp only [List.set_cons_zero] at S)))
    (try simp only [Exit.inBlock, Exit.then])
    refine bodyPost_ret (S.results rfl _ _ rfl 0 _ rfl _ Tryd.underlying29 rfl (szIV _)) rfl ⟨rfl, S.low⟩
  · rw [q1] at pb
    have pb2 : bits .and .u16 (h : Int) 65280 = 46592 := pb
    clear pb
    have hN : mixedN h = (nNone 64 h) := by
      unfold mixedN
      simp [extOp, revOp, nbeq, nblt, nble, *]
    unfold Says
    rw [hN]
    clear hN
    go_enter Tryd.func38, Tryd.ntmps38
    have S := SH.start w
    go_wp2_with (first
      | (go_at_call 36; (first | with_reducible refine (field_0_8 h hh _).mono ?_); rintro e wf ⟨rfl, hbf⟩; replace S := S.below hbf; clear hbf)
      | (go_at_call 42; refine (none_c _ h hh _).mono ?_; rintro e wf ⟨rfl, hbf⟩; replace S := S.below hbf; clear hbf)
      | ((with_reducible refine wpl_is ?_); first
        | (refine S.alloc rfl 29 rfl (Cel.iv IV.zero) zeroIV ?_; clear S; intro b1 w1 S)
        | (refine S.storeAll rfl 29 _ _ rfl _ (Cel.iv (nNone 64 h).iv) rfl rfl 0 _ rfl rfl (one_iv _) (szIV _) ?_; clear S; intro w2 S; simp only [List.set_cons_zero] at S)))
    (try simp only [Exit.inBlock, Exit.then])
    refine bodyPost_ret (S.results rfl _ _ rfl 0 _ rfl _ Tryd.underlying29 rfl (szIV _)) rfl ⟨rfl, S.low⟩
  · rw [q1] at pb
    have pb2 : bits .and .u16 (h : Int) 65280 = 46848 := pb
    clear pb
    have hN : mixedN h = (nNone 64 h) := by
      unfold mixedN
      simp [extOp, revOp, nbeq, nblt, nble, *]
    unfold Says
    rw [hN]
    clear hN
    go_enter Tryd.func38, Tryd.ntmps38
    have S := SH.start w
    go_wp2_with (first
      | (go_at_call 36; (first | with_reducible refine (field_0_8 h hh _).mono ?_); rintro e wf ⟨rfl, hbf⟩; replace S := S.below hbf; clear hbf)
      | (go_at_call 42; refine (none_c _ h hh _).mono ?_; rintro e wf ⟨rfl, hbf⟩; replace S := S.below hbf; clear hbf)
      | ((with_reducible refine wpl_is ?_); first
        | (refine S.alloc rfl 29 rfl (Cel.iv IV.zero) zeroIV ?_; clear S; intro b1 w1 S)
        | (refine S.storeAll rfl 29 _ _ rfl _ (Cel.iv (nNone 64 h).iv) rfl rfl 0 _ rfl rfl (one_iv _) (szIV _) ?_; clear S; intro w2 S; simp only [List.set_cons_zero] at S)))
    (try simp only [Exit.inBlock, Exit.then])
    refine bodyPost_ret (S.results rfl _ _ rfl 0 _ rfl _ Tryd.underlying29 rfl (szIV _)) rfl ⟨rfl, S.low⟩
  · rw [q1] at pb
    have pb2 : bits .and .u16 (h : Int) 65280 = 47104 := pb
    clear pb
    have hN : mixedN h = (nNone 64 h) := by
      unfold mixedN
      simp [extOp, revOp, nbeq, nblt, nble, *]
    unfold Says
    rw [hN]
    clear hN
    go_enter Tryd.func38, Tryd.ntmps38
    have S := SH.start w
    go_wp2_with (first
      | (go_at_call 36; (first | with_reducible refine (field_0_8 h hh _).mono ?_); rintro e wf ⟨rfl, hbf⟩; replace S := S.below hbf; clear hbf)
      | (go_at_call 42; refine (none_c _ h hh _).mono ?_; rintro e wf ⟨rfl, hbf⟩; replace S := S.below hbf; clear hbf)
      | ((with_reducible refine wpl_is ?_); first
        | (refine S.alloc rfl 29 rfl (Cel.iv IV.zero) zeroIV ?_; clear S; intro b1 w1 S)
        | (refine S.storeAll rfl 29 _ _ rfl _ (Cel.iv (nNone 64 h).iv) rfl rfl 0 _ rfl rfl (one_iv _) (szIV _) ?_; clear S; intro w2 S; simp only [List.set_cons_zero] at S)))
    (try simp only [Exit.inBlock, Exit.then])
    refine bodyPost_ret (S.results rfl _ _ rfl 0 _ rfl _ Tryd.underlying29 rfl (szIV _)) rfl ⟨rfl, S.low⟩
  · rw [q1] at pb
    have pb2 : bits .and .u16 (h : Int) 65280 = 48640 := pb
    clear pb
    have hN : mixedN h = (nNum 63 (fd h 0 8)) := by
      unfold mixedN
      simp [extOp, revOp, nbeq, nblt, nble, *]
    unfold Says
    rw [hN]
    clear hN
    go_enter Tryd.func38, Tryd.ntmps38
    have S := SH.start w
    go_wp2_with (first
      | (go_at_call 36; (first | with_reducible refine (field_0_8 h hh _).mono ?_); rintro e wf ⟨rfl, hbf⟩; replace S := S.below hbf; clear hbf)
      | (go_at_call 62; refine (num_c _ _ (by omega) (by omega) _).mono ?_; rintro e wf ⟨rfl, hbf⟩; replace S := S.below hbf; clear hbf)
      | ((with_reducible refine wpl_is ?_); first
        | (refine S.alloc rfl 29 rfl (Cel.iv IV.zero) zeroIV ?_; clear S; intro b1 w1 S)
        | (refine S.storeAll rfl 29 _ _ rfl _ (Cel.iv (nNum 63 (fd h 0 8)).iv) rfl rfl 0 _ rfl rfl (one_iv _) (szIV _) ?_; clear S; intro w2 S; simp only [List.set_cons_zero] at S)))
    (try simp only [Exit.inBlock, Exit.then])
    refine bodyPost_ret (S.results rfl _ _ rfl 0 _ rfl _ Tryd.underlying29 rfl (szIV _)) rfl ⟨rfl, S.low⟩
  · rw [q1] at pb
    have pb2 : bits .and .u16 (h : Int) 65280 = 48896 := pb
    clear pb
    have hN : mixedN h = (hintN h) := by
      unfold mixedN
      simp [extOp, revOp, nbeq, nblt, nble, *]
    unfold Says
    rw [hN]
    clear hN
    go_enter Tryd.func38, Tryd.ntmps38
    have S := SH.start w
    go_wp2_with (first
      | (go_at_call 36; (first | with_reducible refine (field_0_8 h hh _).mono ?_); rintro e wf ⟨rfl, hbf⟩; replace S := S.below hbf; clear hbf)
      | (go_at_call 63; refine (hint_c h hh _ (HT.next S.low)).mono ?_; rintro e wf ⟨rfl, hbf⟩; replace S := S.below hbf; clear hbf)
      | ((with_reducible refine wpl_is ?_); first
        | (refine S.alloc rfl 29 rfl (Cel.iv IV.zero) zeroIV ?_; clear S; intro b1 w1 S)
        | (refine S.storeAll rfl 29 _ _ rfl _ (Cel.iv (hintN h).iv) rfl rfl 0 _ rfl rfl (one_iv _) (szIV _) ?_; clear S; intro w2 S; simp only [List.set_cons_zero] at S)))
    (try simp only [Exit.inBlock, Exit.then])
    refine bodyPost_ret (S.results rfl _ _ rfl 0 _ rfl _ Tryd.underlying29 rfl (szIV _)) rfl ⟨rfl, S.low⟩
  · rcases (show fd h 6 2 = 0 ∨ fd h 6 2 = 1 ∨ fd h 6 2 = 2 ∨ fd h 6 2 = 3 by omega) with q2 | q2 | q2 | q2
    · rw [q1] at pb
      have pb2 : bits .and .u16 (h : Int) 65280 = 45568 := pb
      clear pb
      have CO : Hid (∀ w1, Calls Tryd.prog 36 #[.int .u16 (h : Int), .int .i64 6, .int .i64 2] w1 fun e w' => e = .returned (.int .i64 0) ∧ Below w1.heap.size w1 w') := fun w1 => by
        have := field_6_2 h hh w1
        rw [q2] at this
        exact this
      have hN : mixedN h = (unaryN 40 h) := by
        unfold mixedN
        simp [extOp, revOp, nbeq, nblt, nble, *]
      unfold Says
      rw [hN]
      clear hN
      go_enter Tryd.func38, Tryd.ntmps38
      have S := SH.start w
      go_wp2_with (first
        | (go_at_call 36; (first | with_reducible refine (field_0_8 h hh _).mono ?_); rintro e wf ⟨rfl, hbf⟩; replace S := S.below hbf; clear hbf)
        | (go_at_call 36; with_reducible refine (CO.out _).mono ?_; rintro e wf ⟨rfl, hbf⟩; replace S := S.below hbf; clear hbf; have hct : wf.cell? ⟨1, 0, none⟩ = some (.int .i64 40) := (HT.next S.low).ext' 0 40 (by decide) (by decide))
        | (go_at_call 60; refine (unary_c h hh 40 _).mono ?_; rintro e wf ⟨rfl, hbf⟩; replace S := S.below hbf; clear hbf)
        | ((with_reducible refine wpl_is ?_); first
          | (refine S.alloc rfl 29 rfl (Cel.iv IV.zero) zeroIV ?_; clear S; intro b1 w1 S)
          | (refine S.storeAll rfl 29 _ _ rfl _ (Cel.iv (unaryN 40 h).iv) rfl rfl 0 _ rfl rfl (one_iv _) (szIV _) ?_; clear S; intro w2 S; simp only [List.set_cons_zero] at S)))
      (try simp only [Exit.inBlock, Exit.then])
      refine bodyPost_ret (S.results rfl _ _ rfl 0 _ rfl _ Tryd.underlying29 rfl (szIV _)) rfl ⟨rfl, S.low⟩
    · rw [q1] at pb
      have pb2 : bits .and .u16 (h : Int) 65280 = 45568 := pb
      clear pb
      have CO : Hid (∀ w1, Calls Tryd.prog 36 #[.int .u16 (h : Int), .int .i64 6, .int .i64 2] w1 fun e w' => e = .returned (.int .i64 1) ∧ Below w1.heap.size w1 w') := fun w1 => by
        have := field_6_2 h hh w1
        rw [q2] at this
        exact this
      have hN : mixedN h = (unaryN 39 h) := by
        unfold mixedN
        simp [extOp, revOp, nbeq, nblt, nble, *]
      unfold Says
      rw [hN]
      clear hN
      go_enter Tryd.func38, Tryd.ntmps38
      have S := SH.start w
      go_wp2_with (first
        | (go_at_call 36; (first | with_reducible refine (field_0_8 h hh _).mono ?_); rintro e wf ⟨rfl, hbf⟩; replace S := S.below hbf; clear hbf)
        | (go_at_call 36; with_reducible refine (CO.out _).mono ?_; rintro e wf ⟨rfl, hbf⟩; replace S := S.below hbf; clear hbf; have hct : wf.cell? ⟨1, 1, none⟩ = some (.int .i64 39) := (HT.next S.low).ext' 1 39 (by decide) (by decide))
        | (go_at_call 60; refine (unary_c h hh 39 _).mono ?_; rintro e wf ⟨rfl, hbf⟩; replace S := S.below hbf; clear hbf)
        | ((with_reducible refine wpl_is ?_); first
          | (refine S.alloc rfl 29 rfl (Cel.iv IV.zero) zeroIV ?_; clear S; intro b1 w1 S)
          | (refine S.storeAll rfl 29 _ _ rfl _ (Cel.iv (unaryN 39 h).iv) rfl rfl 0 _ rfl rfl (one_iv _) (szIV _) ?_; clear S; intro w2 S; simp only [List.set_cons_zero] at S)))
      (try simp only [Exit.inBlock, Exit.then])
      refine bodyPost_ret (S.results rfl _ _ rfl 0 _ rfl _ Tryd.underlying29 rfl (szIV _)) rfl ⟨rfl, S.low⟩
    · rw [q1] at pb
      have pb2 : bits .and .u16 (h : Int) 65280 = 45568 := pb
      clear pb
      have CO : Hid (∀ w1, Calls Tryd.prog 36 #[.int .u16 (h : Int), .int .i64 6, .int .i64 2] w1 fun e w' => e = .returned (.int .i64 2) ∧ Below w1.heap.size w1 w') := fun w1 => by
        have := field_6_2 h hh w1
        rw [q2] at this
        exact this
      have hN : mixedN h = (unaryN 42 h) := by
        unfold mixedN
        simp [extOp, revOp, nbeq, nblt, nble, *]
      unfold Says
      rw [hN]
      clear hN
      go_enter Tryd.func38, Tryd.ntmps38
      have S := SH.start w
      go_wp2_with (first
        | (go_at_call 36; (first | with_reducible refine (field_0_8 h hh _).mono ?_); rintro e wf ⟨rfl, hbf⟩; replace S := S.below hbf; clear hbf)
        | (go_at_call 36; with_reducible refine (CO.out _).mono ?_; rintro e wf ⟨rfl, hbf⟩; replace S := S.below hbf; clear hbf; have hct : wf.cell? ⟨1, 2, none⟩ = some (.int .i64 42) := (HT.next S.low).ext' 2 42 (by decide) (by decide))
        | (go_at_call 60; refine (unary_c h hh 42 _).mono ?_; rintro e wf ⟨rfl, hbf⟩; replace S := S.below hbf; clear hbf)
        | ((with_reducible refine wpl_is ?_); first
          | (refine S.alloc rfl 29 rfl (Cel.iv IV.zero) zeroIV ?_; clear S; intro b1 w1 S)
          | (refine S.storeAll rfl 29 _ _ rfl _ (Cel.iv (unaryN 42 h).iv) rfl rfl 0 _ rfl rfl (one_iv _) (szIV _) ?_; clear S; intro w2 S; simp only [List.set_cons_zero] at S)))
      (try simp only [Exit.inBlock, Exit.then])
      refine bodyPost_ret (S.results rfl _ _ rfl 0 _ rfl _ Tryd.underlying29 rfl (szIV _)) rfl ⟨rfl, S.low⟩
    · rw [q1] at pb
      have pb2 : bits .and .u16 (h : Int) 65280 = 45568 := pb
      clear pb
      have CO : Hid (∀ w1, Calls Tryd.prog 36 #[.int .u16 (h : Int), .int .i64 6, .int .i64 2] w1 fun e w' => e = .returned (.int .i64 3) ∧ Below w1.heap.size w1 w') := fun w1 => by
        have := field_6_2 h hh w1
        rw [q2] at this
        exact this
      have hN : mixedN h = (unaryN 41 h) := by
        unfold mixedN
        simp [extOp, revOp, nbeq, nblt, nble, *]
      unfold Says
      rw [hN]
      clear hN
      go_enter Tryd.func38, Tryd.ntmps38
      have S := SH.start w
      go_wp2_with (first
        | (go_at_call 36; (first | with_reducible refine (field_0_8 h hh _).mono ?_); rintro e wf ⟨rfl, hbf⟩; replace S := S.below hbf; clear hbf)
        | (go_at_call 36; with_reducible refine (CO.out _).mono ?_; rintro e wf ⟨rfl, hbf⟩; replace S := S.below hbf; clear hbf; have hct : wf.cell? ⟨1, 3, none⟩ = some (.int .i64 41) := (HT.next S.low).ext' 3 41 (by decide) (by decide))
        | (go_at_call 60; refine (unary_c h hh 41 _).mono ?_; rintro e wf ⟨rfl, hbf⟩; replace S := S.below hbf; clear hbf)
        | ((with_reducible refine wpl_is ?_); first
          | (refine S.alloc rfl 29 rfl (Cel.iv IV.zero) zeroIV ?_; clear S; intro b1 w1 S)
          | (refine S.storeAll rfl 29 _ _ rfl _ (Cel.iv (unaryN 41 h).iv) rfl rfl 0 _ rfl rfl (one_iv _) (szIV _) ?_; clear S; intro w2 S; simp only [List.set_cons_zero] at S)))
      (try simp only [Exit.inBlock, Exit.then])
      refine bodyPost_ret (S.results rfl _ _ rfl 0 _ rfl _ Tryd.underlying29 rfl (szIV _)) rfl ⟨rfl, S.low⟩
  · rcases (show fd h 6 2 = 0 ∨ fd h 6 2 = 1 ∨ fd h 6 2 = 2 ∨ fd h 6 2 = 3 by omega) with q2 | q2 | q2 | q2
    · rw [q1] at pb
      have pb2 : bits .and .u16 (h : Int) 65280 = 47616 := pb
      clear pb
      have CO : Hid (∀ w1, Calls Tryd.prog 36 #[.int .u16 (h : Int), .int .i64 6, .int .i64 2] w1 fun e w' => e = .returned (.int .i64 0) ∧ Below w1.heap.size w1 w') := fun w1 => by
        have := field_6_2 h hh w1
        rw [q2] at this
        exact this
      have hN : mixedN h = (unaryN 36 h) := by
        unfold mixedN
        simp [extOp, revOp, nbeq, nblt, nble, *]
      unfold Says
      rw [hN]
      clear hN
      go_enter Tryd.func38, Tryd.ntmps38
      have S := SH.start w
      go_wp2_with (first
        | (go_at_call 36; (first | with_reducible refine (field_0_8 h hh _).mono ?_); rintro e wf ⟨rfl, hbf⟩; replace S := S.below hbf; clear hbf)
        | (go_at_call 36; with_reducible refine (CO.out _).mono ?_; rintro e wf ⟨rfl, hbf⟩; replace S := S.below hbf; clear hbf; have hct : wf.cell? ⟨2, 0, none⟩ = some (.int .i64 36) := (HT.next S.low).rev' 0 36 (by decide) (by decide))
        | (go_at_call 60; refine (unary_c h hh 36 _).mono ?_; rintro e wf ⟨rfl, hbf⟩; replace S := S.below hbf; clear hbf)
        | ((with_reducible refine wpl_is ?_); first
          | (refine S.alloc rfl 29 rfl (Cel.iv IV.zero) zeroIV ?_; clear S; intro b1 w1 S)
          | (refine S.storeAll rfl 29 _ _ rfl _ (Cel.iv (unaryN 36 h).iv) rfl rfl 0 _ rfl rfl (one_iv _) (szIV _) ?_; clear S; intro w2 S; simp only [List.set_cons_zero] at S)))
      (try simp only [Exit.inBlock, Exit.then])
      refine bodyPost_ret (S.results rfl _ _ rfl 0 _ rfl _ Tryd.underlying29 rfl (szIV _)) rfl ⟨rfl, S.low⟩
    · rw [q1] at pb
      have pb2 : bits .and .u16 (h : Int) 65280 = 47616 := pb
      clear pb
      have CO : Hid (∀ w1, Calls Tryd.prog 36 #[.int .u16 (h : Int), .int .i64 6, .int .i64 2] w1 fun e w' => e = .returned (.int .i64 1) ∧ Below w1.heap.size w1 w') := fun w1 => by
        have := field_6_2 h hh w1
        rw [q2] at this
        exact this
      have hN : mixedN h = (unaryN 37 h) := by
        unfold mixedN
        simp [extOp, revOp, nbeq, nblt, nble, *]
      unfold Says
      rw [hN]
      clear hN
      go_enter Tryd.func38, Tryd.ntmps38
      have S := SH.start w
      go_wp2_with (first
        | (go_at_call 36; (first | with_reducible refine (field_0_8 h hh _).mono ?_); rintro e wf ⟨rfl, hbf⟩; replace S := S.below hbf; clear hbf)
        | (go_at_call 36; with_reducible refine (CO.out _).mono ?_; rintro e wf ⟨rfl, hbf⟩; replace S := S.below hbf; clear hbf; have hct : wf.cell? ⟨2, 1, none⟩ = some (.int .i64 37) := (HT.next S.low).rev' 1 37 (by decide) (by decide))
        | (go_at_call 60; refine (unary_c h hh 37 _).mono ?_; rintro e wf ⟨rfl, hbf⟩; replace S := S.below hbf; clear hbf)
        | ((with_reducible refine wpl_is ?_); first
          | (refine S.alloc rfl 29 rfl (Cel.iv IV.zero) zeroIV ?_; clear S; intro b1 w1 S)
          | (refine S.storeAll rfl 29 _ _ rfl _ (Cel.iv (unaryN 37 h).iv) rfl rfl 0 _ rfl rfl (one_iv _) (szIV _) ?_; clear S; intro w2 S; simp only [List.set_cons_zero] at S)))
      (try simp only [Exit.inBlock, Exit.then])
      refine bodyPost_ret (S.results rfl _ _ rfl 0 _ rfl _ Tryd.underlying29 rfl (szIV _)) rfl ⟨rfl, S.low⟩
    · rw [q1] at pb
      have pb2 : bits .and .u16 (h : Int) 65280 = 47616 := pb
      clear pb
      have CO : Hid (∀ w1, Calls Tryd.prog 36 #[.int .u16 (h : Int), .int .i64 6, .int .i64 2] w1 fun e w' => e = .returned (.int .i64 2) ∧ Below w1.heap.size w1 w') := fun w1 => by
        have := field_6_2 h hh w1
        rw [q2] at this
        exact this
      have hN : mixedN h = (unaryN 0 h) := by
        unfold mixedN
        simp [extOp, revOp, nbeq, nblt, nble, *]
      unfold Says
      rw [hN]
      clear hN
      go_enter Tryd.func38, Tryd.ntmps38
      have S := SH.start w
      go_wp2_with (first
        | (go_at_call 36; (first | with_reducible refine (field_0_8 h hh _).mono ?_); rintro e wf ⟨rfl, hbf⟩; replace S := S.below hbf; clear hbf)
        | (go_at_call 36; with_reducible refine (CO.out _).mono ?_; rintro e wf ⟨rfl, hbf⟩; replace S := S.below hbf; clear hbf; have hct : wf.cell? ⟨2, 2, none⟩ = some (.int .i64 0) := (HT.next S.low).rev' 2 0 (by decide) (by decide))
        | (go_at_call 60; refine (unary_c h hh 0 _).mono ?_; rintro e wf ⟨rfl, hbf⟩; replace S := S.below hbf; clear hbf)
        | ((with_reducible refine wpl_is ?_); first
          | (refine S.alloc rfl 29 rfl (Cel.iv IV.zero) zeroIV ?_; clear S; intro b1 w1 S)
          | (refine S.storeAll rfl 29 _ _ rfl _ (Cel.iv (unaryN 0 h).iv) rfl rfl 0 _ rfl rfl (one_iv _) (szIV _) ?_; clear S; intro w2 S; simp only [List.set_cons_zero] at S)))
      (try simp only [Exit.inBlock, Exit.then])
      refine bodyPost_ret (S.results rfl _ _ rfl 0 _ rfl _ Tryd.underlying29 rfl (szIV _)) rfl ⟨rfl, S.low⟩
    · rw [q1] at pb
      have pb2 : bits .and .u16 (h : Int) 65280 = 47616 := pb
      clear pb
      have CO : Hid (∀ w1, Calls Tryd.prog 36 #[.int .u16 (h : Int), .int .i64 6, .int .i64 2] w1 fun e w' => e = .returned (.int .i64 3) ∧ Below w1.heap.size w1 w') := fun w1 => by
        have := field_6_2 h hh w1
        rw [q2] at this
        exact this
      have hN : mixedN h = (unaryN 38 h) := by
        unfold mixedN
        simp [extOp, revOp, nbeq, nblt, nble, *]
      unfold Says
      rw [hN]
      clear hN
      go_enter Tryd.func38, Tryd.ntmps38
      have S := SH.start w
      go_wp2_with (first
        | (go_at_call 36; (first | with_reducible refine (field_0_8 h hh _).mono ?_); rintro e wf ⟨rfl, hbf⟩; replace S := S.below hbf; clear hbf)
        | (go_at_call 36; with_reducible refine (CO.out _).mono ?_; rintro e wf ⟨rfl, hbf⟩; replace S := S.below hbf; clear hbf; have hct : wf.cell? ⟨2, 3, none⟩ = some (.int .i64 38) := (HT.next S.low).rev' 3 38 (by decide) (by decide))
        | (go_at_call 60; refine (unary_c h hh 38 _).mono ?_; rintro e wf ⟨rfl, hbf⟩; replace S := S.below hbf; clear hbf)
        | ((with_reducible refine wpl_is ?_); first
          | (refine S.alloc rfl 29 rfl (Cel.iv IV.zero) zeroIV ?_; clear S; intro b1 w1 S)
          | (refine S.storeAll rfl 29 _ _ rfl _ (Cel.iv (unaryN 38 h).iv) rfl rfl 0 _ rfl rfl (one_iv _) (szIV _) ?_; clear S; intro w2 S; simp only [List.set_cons_zero] at S)))
      (try simp only [Exit.inBlock, Exit.then])
      refine bodyPost_ret (S.results rfl _ _ rfl 0 _ rfl _ Tryd.underlying29 rfl (szIV _)) rfl ⟨rfl, S.low⟩
end Go.Proofs.YtblcklknlfofgaaDoor
