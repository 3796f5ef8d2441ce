/- Stage 8: rows of narrow words, the program's, walked. -/
import Derived.Test.YtblcklknlfofgaaDoorTh2b
namespace Go.Proofs.YtblcklknlfofgaaDoor
open Go.ChangeShapes Go.WideShapes Go.ChangeAt Go.RowKit
set_option linter.unusedVariables false
set_option linter.unusedSimpArgs false

set_option maxHeartbeats 4000000 in
set_option maxRecDepth 100000 in
theorem within_c (i : NV) (h : Nat) (hh : h < 65536) (w : World) : Calls Tryd.prog 18 #[i.iv.val, .int .u16 h] w fun e w' => Says w (withinN i h) e w' := by
  rcases (show i.op = 10 ∨ i.op = 11 ∨ i.op = 8 ∨ i.op = 58 ∨ i.op = 59 ∨ i.op = 60 ∨ i.op = 54 ∨ i.op = 13 ∨ (i.op ≠ 10 ∧ i.op ≠ 11 ∧ i.op ≠ 8 ∧ i.op ≠ 58 ∧ i.op ≠ 59 ∧ i.op ≠ 60 ∧ i.op ≠ 54 ∧ i.op ≠ 13) by omega) with q | q | q | q | q | q | q | q | ⟨q1, q2, q3, q4, q5, q6, q7, q8⟩
  · have t10 : ((i.iv.op : Int) == 10) = true := by simp [NV.iv]; omega
    have hN : withinN i h = i := by
      unfold withinN
      simp [nbeq, nblt, nble, *]
    unfold Says
    rw [hN]
    clear hN
    go_enter Tryd.func18, Tryd.ntmps18
    have S := SH.start w
    go_wp2_with (first
      | (go_at_call 42; refine (none_c _ h hh _).mono ?_; rintro e wf ⟨rfl, hbf⟩; replace S := S.below hbf; clear hbf)
      | ((with_reducible refine wpl_is ?_); first
        | (refine SH.box (L := []) S rfl 29 _ rfl (Cel.iv i.iv) rfl ?_; clear S; intro b0 w0 S)
        | (refine S.alloc rfl 29 rfl (Cel.iv IV.zero) zeroIV ?_; clear S; intro b1 w1 S)
        | (refine S.ld 3 _ rfl _ 0 rfl 1 (Cel.iv i.iv) rfl _ rfl _ Tryd.underlying3 rfl rfl ?_)
        | (refine S.ld 3 _ rfl _ 3 rfl 1 (Cel.iv i.iv) rfl _ rfl _ Tryd.underlying3 rfl rfl ?_)
        | (refine S.ld 4 _ rfl _ 2 rfl 1 (Cel.iv i.iv) rfl _ rfl _ Tryd.underlying4 rfl rfl ?_)
        | (refine S.ld 4 _ rfl _ 9 rfl 1 (Cel.iv i.iv) rfl _ rfl _ Tryd.underlying4 rfl rfl ?_)
        | (refine S.store1 rfl 4 _ _ rfl _ 2 _ rfl rfl 1 (Cel.iv i.iv) rfl rfl (by simp [Cel.cells, IV.cellsL]) (Cel.iv i.iv) rfl (by kernel_rfl) ?_; clear S; intro w2 S; simp only [List.set_cons_zero, List.set_cons_succ] at S)
        | (refine S.ldAll 29 _ rfl _ rfl 1 (Cel.iv i.iv) rfl _ Tryd.underlying29 rfl (szIV _) rfl ?_)
        | (refine S.storeAll rfl 29 _ _ rfl _ (Cel.iv i.iv) rfl rfl 0 _ rfl rfl (one_iv _) (szIV _) ?_; clear S; intro w2 S; simp only [List.set_cons_zero] at S)))
    (try simp only [Exit.inBlock, Exit.then])
    refine bodyPost_ret (S.results rfl _ _ rfl 0 _ rfl _ Tryd.underlying29 rfl (szIV _)) rfl ⟨rfl, S.low⟩
  · have t10 : ((i.iv.op : Int) == 10) = false := by simp [NV.iv]; omega
    have t11 : ((i.iv.op : Int) == 11) = true := by simp [NV.iv]; omega
    have hN : withinN i h = i := by
      unfold withinN
      simp [nbeq, nblt, nble, *]
    unfold Says
    rw [hN]
    clear hN
    go_enter Tryd.func18, Tryd.ntmps18
    have S := SH.start w
    go_wp2_with (first
      | (go_at_call 42; refine (none_c _ h hh _).mono ?_; rintro e wf ⟨rfl, hbf⟩; replace S := S.below hbf; clear hbf)
      | ((with_reducible refine wpl_is ?_); first
        | (refine SH.box (L := []) S rfl 29 _ rfl (Cel.iv i.iv) rfl ?_; clear S; intro b0 w0 S)
        | (refine S.alloc rfl 29 rfl (Cel.iv IV.zero) zeroIV ?_; clear S; intro b1 w1 S)
        | (refine S.ld 3 _ rfl _ 0 rfl 1 (Cel.iv i.iv) rfl _ rfl _ Tryd.underlying3 rfl rfl ?_)
        | (refine S.ld 3 _ rfl _ 3 rfl 1 (Cel.iv i.iv) rfl _ rfl _ Tryd.underlying3 rfl rfl ?_)
        | (refine S.ld 4 _ rfl _ 2 rfl 1 (Cel.iv i.iv) rfl _ rfl _ Tryd.underlying4 rfl rfl ?_)
        | (refine S.ld 4 _ rfl _ 9 rfl 1 (Cel.iv i.iv) rfl _ rfl _ Tryd.underlying4 rfl rfl ?_)
        | (refine S.store1 rfl 4 _ _ rfl _ 2 _ rfl rfl 1 (Cel.iv i.iv) rfl rfl (by simp [Cel.cells, IV.cellsL]) (Cel.iv i.iv) rfl (by kernel_rfl) ?_; clear S; intro w2 S; simp only [List.set_cons_zero, List.set_cons_succ] at S)
        | (refine S.ldAll 29 _ rfl _ rfl 1 (Cel.iv i.iv) rfl _ Tryd.underlying29 rfl (szIV _) rfl ?_)
        | (refine S.storeAll rfl 29 _ _ rfl _ (Cel.iv i.iv) rfl rfl 0 _ rfl rfl (one_iv _) (szIV _) ?_; clear S; intro w2 S; simp only [List.set_cons_zero] at S)))
    (try simp only [Exit.inBlock, Exit.then])
    refine bodyPost_ret (S.results rfl _ _ rfl 0 _ rfl _ Tryd.underlying29 rfl (szIV _)) rfl ⟨rfl, S.low⟩
  · have t10 : ((i.iv.op : Int) == 10) = false := by simp [NV.iv]; omega
    have t11 : ((i.iv.op : Int) == 11) = false := by simp [NV.iv]; omega
    have t8 : ((i.iv.op : Int) == 8) = true := by simp [NV.iv]; omega
    have hN : withinN i h = i := by
      unfold withinN
      simp [nbeq, nblt, nble, *]
    unfold Says
    rw [hN]
    clear hN
    go_enter Tryd.func18, Tryd.ntmps18
    have S := SH.start w
    go_wp2_with (first
      | (go_at_call 42; refine (none_c _ h hh _).mono ?_; rintro e wf ⟨rfl, hbf⟩; replace S := S.below hbf; clear hbf)
      | ((with_reducible refine wpl_is ?_); first
        | (refine SH.box (L := []) S rfl 29 _ rfl (Cel.iv i.iv) rfl ?_; clear S; intro b0 w0 S)
        | (refine S.alloc rfl 29 rfl (Cel.iv IV.zero) zeroIV ?_; clear S; intro b1 w1 S)
        | (refine S.ld 3 _ rfl _ 0 rfl 1 (Cel.iv i.iv) rfl _ rfl _ Tryd.underlying3 rfl rfl ?_)
        | (refine S.ld 3 _ rfl _ 3 rfl 1 (Cel.iv i.iv) rfl _ rfl _ Tryd.underlying3 rfl rfl ?_)
        | (refine S.ld 4 _ rfl _ 2 rfl 1 (Cel.iv i.iv) rfl _ rfl _ Tryd.underlying4 rfl rfl ?_)
        | (refine S.ld 4 _ rfl _ 9 rfl 1 (Cel.iv i.iv) rfl _ rfl _ Tryd.underlying4 rfl rfl ?_)
        | (refine S.store1 rfl 4 _ _ rfl _ 2 _ rfl rfl 1 (Cel.iv i.iv) rfl rfl (by simp [Cel.cells, IV.cellsL]) (Cel.iv i.iv) rfl (by kernel_rfl) ?_; clear S; intro w2 S; simp only [List.set_cons_zero, List.set_cons_succ] at S)
        | (refine S.ldAll 29 _ rfl _ rfl 1 (Cel.iv i.iv) rfl _ Tryd.underlying29 rfl (szIV _) rfl ?_)
        | (refine S.storeAll rfl 29 _ _ rfl _ (Cel.iv i.iv) rfl rfl 0 _ rfl rfl (one_iv _) (szIV _) ?_; clear S; intro w2 S; simp only [List.set_cons_zero] at S)))
    (try simp only [Exit.inBlock, Exit.then])
    refine bodyPost_ret (S.results rfl _ _ rfl 0 _ rfl _ Tryd.underlying29 rfl (szIV _)) rfl ⟨rfl, S.low⟩
  · have t10 : ((i.iv.op : Int) == 10) = false := by simp [NV.iv]; omega
    have t11 : ((i.iv.op : Int) == 11) = false := by simp [NV.iv]; omega
    have t8 : ((i.iv.op : Int) == 8) = false := by simp [NV.iv]; omega
    have t58 : ((i.iv.op : Int) == 58) = true := by simp [NV.iv]; omega
    have hN : withinN i h = (nNone 65 h) := by
      unfold withinN
      simp [nbeq, nblt, nble, *]
    unfold Says
    rw [hN]
    clear hN
    go_enter Tryd.func18, Tryd.ntmps18
    have S := SH.start w
    go_wp2_with (first
      | (go_at_call 42; refine (none_c _ h hh _).mono ?_; rintro e wf ⟨rfl, hbf⟩; replace S := S.below hbf; clear hbf)
      | ((with_reducible refine wpl_is ?_); first
        | (refine SH.box (L := []) S rfl 29 _ rfl (Cel.iv i.iv) rfl ?_; clear S; intro b0 w0 S)
        | (refine S.alloc rfl 29 rfl (Cel.iv IV.zero) zeroIV ?_; clear S; intro b1 w1 S)
        | (refine S.ld 3 _ rfl _ 0 rfl 1 (Cel.iv i.iv) rfl _ rfl _ Tryd.underlying3 rfl rfl ?_)
        | (refine S.ld 3 _ rfl _ 3 rfl 1 (Cel.iv i.iv) rfl _ rfl _ Tryd.underlying3 rfl rfl ?_)
        | (refine S.ld 4 _ rfl _ 2 rfl 1 (Cel.iv i.iv) rfl _ rfl _ Tryd.underlying4 rfl rfl ?_)
        | (refine S.ld 4 _ rfl _ 9 rfl 1 (Cel.iv i.iv) rfl _ rfl _ Tryd.underlying4 rfl rfl ?_)
        | (refine S.store1 rfl 4 _ _ rfl _ 2 _ rfl rfl 1 (Cel.iv i.iv) rfl rfl (by simp [Cel.cells, IV.cellsL]) (Cel.iv (nNone 65 h).iv) rfl (by kernel_rfl) ?_; clear S; intro w2 S; simp only [List.set_cons_zero, List.set_cons_succ] at S)
        | (refine S.ldAll 29 _ rfl _ rfl 1 (Cel.iv (nNone 65 h).iv) rfl _ Tryd.underlying29 rfl (szIV _) rfl ?_)
        | (refine S.storeAll rfl 29 _ _ rfl _ (Cel.iv (nNone 65 h).iv) rfl rfl 0 _ rfl rfl (one_iv _) (szIV _) ?_; clear S; intro w2 S; simp only [List.set_cons_zero] at S)))
    (try simp only [Exit.inBlock, Exit.then])
    refine bodyPost_ret (S.results rfl _ _ rfl 0 _ rfl _ Tryd.underlying29 rfl (szIV _)) rfl ⟨rfl, S.low⟩
  · have t10 : ((i.iv.op : Int) == 10) = false := by simp [NV.iv]; omega
    have t11 : ((i.iv.op : Int) == 11) = false := by simp [NV.iv]; omega
    have t8 : ((i.iv.op : Int) == 8) = false := by simp [NV.iv]; omega
    have t58 : ((i.iv.op : Int) == 58) = false := by simp [NV.iv]; omega
    have t59 : ((i.iv.op : Int) == 59) = true := by simp [NV.iv]; omega
    have hN : withinN i h = (nNone 65 h) := by
      unfold withinN
      simp [nbeq, nblt, nble, *]
    unfold Says
    rw [hN]
    clear hN
    go_enter Tryd.func18, Tryd.ntmps18
    have S := SH.start w
    go_wp2_with (first
      | (go_at_call 42; refine (none_c _ h hh _).mono ?_; rintro e wf ⟨rfl, hbf⟩; replace S := S.below hbf; clear hbf)
      | ((with_reducible refine wpl_is ?_); first
        | (refine SH.box (L := []) S rfl 29 _ rfl (Cel.iv i.iv) rfl ?_; clear S; intro b0 w0 S)
        | (refine S.alloc rfl 29 rfl (Cel.iv IV.zero) zeroIV ?_; clear S; intro b1 w1 S)
        | (refine S.ld 3 _ rfl _ 0 rfl 1 (Cel.iv i.iv) rfl _ rfl _ Tryd.underlying3 rfl rfl ?_)
        | (refine S.ld 3 _ rfl _ 3 rfl 1 (Cel.iv i.iv) rfl _ rfl _ Tryd.underlying3 rfl rfl ?_)
        | (refine S.ld 4 _ rfl _ 2 rfl 1 (Cel.iv i.iv) rfl _ rfl _ Tryd.underlying4 rfl rfl ?_)
        | (refine S.ld 4 _ rfl _ 9 rfl 1 (Cel.iv i.iv) rfl _ rfl _ Tryd.underlying4 rfl rfl ?_)
        | (refine S.store1 rfl 4 _ _ rfl _ 2 _ rfl rfl 1 (Cel.iv i.iv) rfl rfl (by simp [Cel.cells, IV.cellsL]) (Cel.iv (nNone 65 h).iv) rfl (by kernel_rfl) ?_; clear S; intro w2 S; simp only [List.set_cons_zero, List.set_cons_succ] at S)
        | (refine S.ldAll 29 _ rfl _ rfl 1 (Cel.iv (nNone 65 h).iv) rfl _ Tryd.underlying29 rfl (szIV _) rfl ?_)
        | (refine S.storeAll rfl 29 _ _ rfl _ (Cel.iv (nNone 65 h).iv) rfl rfl 0 _ rfl rfl (one_iv _) (szIV _) ?_; clear S; intro w2 S; simp only [List.set_cons_zero] at S)))
    (try simp only [Exit.inBlock, Exit.then])
    refine bodyPost_ret (S.results rfl _ _ rfl 0 _ rfl _ Tryd.underlying29 rfl (szIV _)) rfl ⟨rfl, S.low⟩
  · have t10 : ((i.iv.op : Int) == 10) = false := by simp [NV.iv]; omega
    have t11 : ((i.iv.op : Int) == 11) = false := by simp [NV.iv]; omega
    have t8 : ((i.iv.op : Int) == 8) = false := by simp [NV.iv]; omega
    have t58 : ((i.iv.op : Int) == 58) = false := by simp [NV.iv]; omega
    have t59 : ((i.iv.op : Int) == 59) = false := by simp [NV.iv]; omega
    have t60 : ((i.iv.op : Int) == 60) = true := by simp [NV.iv]; omega
    have hN : withinN i h = (nNone 65 h) := by
      unfold withinN
      simp [nbeq, nblt, nble, *]
    unfold Says
    rw [hN]
    clear hN
    go_enter Tryd.func18, Tryd.ntmps18
    have S := SH.start w
    go_wp2_with (first
      | (go_at_call 42; refine (none_c _ h hh _).mono ?_; rintro e wf ⟨rfl, hbf⟩; replace S := S.below hbf; clear hbf)
      | ((with_reducible refine wpl_is ?_); first
        | (refine SH.box (L := []) S rfl 29 _ rfl (Cel.iv i.iv) rfl ?_; clear S; intro b0 w0 S)
        | (refine S.alloc rfl 29 rfl (Cel.iv IV.zero) zeroIV ?_; clear S; intro b1 w1 S)
        | (refine S.ld 3 _ rfl _ 0 rfl 1 (Cel.iv i.iv) rfl _ rfl _ Tryd.underlying3 rfl rfl ?_)
        | (refine S.ld 3 _ rfl _ 3 rfl 1 (Cel.iv i.iv) rfl _ rfl _ Tryd.underlying3 rfl rfl ?_)
        | (refine S.ld 4 _ rfl _ 2 rfl 1 (Cel.iv i.iv) rfl _ rfl _ Tryd.underlying4 rfl rfl ?_)
        | (refine S.ld 4 _ rfl _ 9 rfl 1 (Cel.iv i.iv) rfl _ rfl _ Tryd.underlying4 rfl rfl ?_)
        | (refine S.store1 rfl 4 _ _ rfl _ 2 _ rfl rfl 1 (Cel.iv i.iv) rfl rfl (by simp [Cel.cells, IV.cellsL]) (Cel.iv (nNone 65 h).iv) rfl (by kernel_rfl) ?_; clear S; intro w2 S; simp only [List.set_cons_zero, List.set_cons_succ] at S)
        | (refine S.ldAll 29 _ rfl _ rfl 1 (Cel.iv (nNone 65 h).iv) rfl _ Tryd.underlying29 rfl (szIV _) rfl ?_)
        | (refine S.storeAll rfl 29 _ _ rfl _ (Cel.iv (nNone 65 h).iv) rfl rfl 0 _ rfl rfl (one_iv _) (szIV _) ?_; clear S; intro w2 S; simp only [List.set_cons_zero] at S)))
    (try simp only [Exit.inBlock, Exit.then])
    refine bodyPost_ret (S.results rfl _ _ rfl 0 _ rfl _ Tryd.underlying29 rfl (szIV _)) rfl ⟨rfl, S.low⟩
  · rcases (show i.cond = 14 ∨ i.cond ≠ 14 by omega) with k | k
    · have t10 : ((i.iv.op : Int) == 10) = false := by simp [NV.iv]; omega
      have t11 : ((i.iv.op : Int) == 11) = false := by simp [NV.iv]; omega
      have t8 : ((i.iv.op : Int) == 8) = false := by simp [NV.iv]; omega
      have t58 : ((i.iv.op : Int) == 58) = false := by simp [NV.iv]; omega
      have t59 : ((i.iv.op : Int) == 59) = false := by simp [NV.iv]; omega
      have t60 : ((i.iv.op : Int) == 60) = false := by simp [NV.iv]; omega
      have t54 : ((i.iv.op : Int) == 54) = true := by simp [NV.iv]; omega
      have tc : ((i.iv.cond : Int) != 14) = false := by simp [NV.iv]; omega
      have hN : withinN i h = ({ i with s := false } : NV) := by
        unfold withinN
        simp [nbeq, nblt, nble, *]
      unfold Says
      rw [hN]
      clear hN
      go_enter Tryd.func18, Tryd.ntmps18
      have S := SH.start w
      go_wp2_with (first
        | (go_at_call 42; refine (none_c _ h hh _).mono ?_; rintro e wf ⟨rfl, hbf⟩; replace S := S.below hbf; clear hbf)
        | ((with_reducible refine wpl_is ?_); first
          | (refine SH.box (L := []) S rfl 29 _ rfl (Cel.iv i.iv) rfl ?_; clear S; intro b0 w0 S)
          | (refine S.alloc rfl 29 rfl (Cel.iv IV.zero) zeroIV ?_; clear S; intro b1 w1 S)
          | (refine S.ld 3 _ rfl _ 0 rfl 1 (Cel.iv i.iv) rfl _ rfl _ Tryd.underlying3 rfl rfl ?_)
          | (refine S.ld 3 _ rfl _ 3 rfl 1 (Cel.iv i.iv) rfl _ rfl _ Tryd.underlying3 rfl rfl ?_)
          | (refine S.ld 4 _ rfl _ 2 rfl 1 (Cel.iv i.iv) rfl _ rfl _ Tryd.underlying4 rfl rfl ?_)
          | (refine S.ld 4 _ rfl _ 9 rfl 1 (Cel.iv i.iv) rfl _ rfl _ Tryd.underlying4 rfl rfl ?_)
          | (refine S.store1 rfl 4 _ _ rfl _ 2 _ rfl rfl 1 (Cel.iv i.iv) rfl rfl (by simp [Cel.cells, IV.cellsL]) (Cel.iv ({ i with s := false } : NV).iv) rfl (by kernel_rfl) ?_; clear S; intro w2 S; simp only [List.set_cons_zero, List.set_cons_succ] at S)
          | (refine S.ldAll 29 _ rfl _ rfl 1 (Cel.iv ({ i with s := false } : NV).iv) rfl _ Tryd.underlying29 rfl (szIV _) rfl ?_)
          | (refine S.storeAll rfl 29 _ _ rfl _ (Cel.iv ({ i with s := false } : NV).iv) rfl rfl 0 _ rfl rfl (one_iv _) (szIV _) ?_; clear S; intro w2 S; simp only [List.set_cons_zero] at S)))
      (try simp only [Exit.inBlock, Exit.then])
      refine bodyPost_ret (S.results rfl _ _ rfl 0 _ rfl _ Tryd.underlying29 rfl (szIV _)) rfl ⟨rfl, S.low⟩
    · have t10 : ((i.iv.op : Int) == 10) = false := by simp [NV.iv]; omega
      have t11 : ((i.iv.op : Int) == 11) = false := by simp [NV.iv]; omega
      have t8 : ((i.iv.op : Int) == 8) = false := by simp [NV.iv]; omega
      have t58 : ((i.iv.op : Int) == 58) = false := by simp [NV.iv]; omega
      have t59 : ((i.iv.op : Int) == 59) = false := by simp [NV.iv]; omega
      have t60 : ((i.iv.op : Int) == 60) = false := by simp [NV.iv]; omega
      have t54 : ((i.iv.op : Int) == 54) = true := by simp [NV.iv]; omega
      have tc : ((i.iv.cond : Int) != 14) = true := by simp [NV.iv]; omega
      have hN : withinN i h = (nNone 65 h) := by
        unfold withinN
        simp [nbeq, nblt, nble, *]
      unfold Says
      rw [hN]
      clear hN
      go_enter Tryd.func18, Tryd.ntmps18
      have S := SH.start w
      go_wp2_with (first
        | (go_at_call 42; refine (none_c _ h hh _).mono ?_; rintro e wf ⟨rfl, hbf⟩; replace S := S.below hbf; clear hbf)
        | ((with_reducible refine wpl_is ?_); first
          | (refine SH.box (L := []) S rfl 29 _ rfl (Cel.iv i.iv) rfl ?_; clear S; intro b0 w0 S)
          | (refine S.alloc rfl 29 rfl (Cel.iv IV.zero) zeroIV ?_; clear S; intro b1 w1 S)
          | (refine S.ld 3 _ rfl _ 0 rfl 1 (Cel.iv i.iv) rfl _ rfl _ Tryd.underlying3 rfl rfl ?_)
          | (refine S.ld 3 _ rfl _ 3 rfl 1 (Cel.iv i.iv) rfl _ rfl _ Tryd.underlying3 rfl rfl ?_)
          | (refine S.ld 4 _ rfl _ 2 rfl 1 (Cel.iv i.iv) rfl _ rfl _ Tryd.underlying4 rfl rfl ?_)
          | (refine S.ld 4 _ rfl _ 9 rfl 1 (Cel.iv i.iv) rfl _ rfl _ Tryd.underlying4 rfl rfl ?_)
          | (refine S.store1 rfl 4 _ _ rfl _ 2 _ rfl rfl 1 (Cel.iv i.iv) rfl rfl (by simp [Cel.cells, IV.cellsL]) (Cel.iv (nNone 65 h).iv) rfl (by kernel_rfl) ?_; clear S; intro w2 S; simp only [List.set_cons_zero, List.set_cons_succ] at S)
          | (refine S.ldAll 29 _ rfl _ rfl 1 (Cel.iv (nNone 65 h).iv) rfl _ Tryd.underlying29 rfl (szIV _) rfl ?_)
          | (refine S.storeAll rfl 29 _ _ rfl _ (Cel.iv (nNone 65 h).iv) rfl rfl 0 _ rfl rfl (one_iv _) (szIV _) ?_; clear S; intro w2 S; simp only [List.set_cons_zero] at S)))
      (try simp only [Exit.inBlock, Exit.then])
      refine bodyPost_ret (S.results rfl _ _ rfl 0 _ rfl _ Tryd.underlying29 rfl (szIV _)) rfl ⟨rfl, S.low⟩
  · rcases (Bool.eq_false_or_eq_true i.s) with k1 | k1
    · rcases (Bool.eq_false_or_eq_true i.useImm) with k2 | k2
      · have t10 : ((i.iv.op : Int) == 10) = false := by simp [NV.iv]; omega
        have t11 : ((i.iv.op : Int) == 11) = false := by simp [NV.iv]; omega
        have t8 : ((i.iv.op : Int) == 8) = false := by simp [NV.iv]; omega
        have t58 : ((i.iv.op : Int) == 58) = false := by simp [NV.iv]; omega
        have t59 : ((i.iv.op : Int) == 59) = false := by simp [NV.iv]; omega
        have t60 : ((i.iv.op : Int) == 60) = false := by simp [NV.iv]; omega
        have t54 : ((i.iv.op : Int) == 54) = false := by simp [NV.iv]; omega
        have t13 : ((i.iv.op : Int) == 13) = true := by simp [NV.iv]; omega
        have ks : i.iv.s = true := k1
        have ku : i.iv.useImm = true := k2
        have hN : withinN i h = ({ i with s := false } : NV) := by
          unfold withinN
          simp [nbeq, nblt, nble, *]
        unfold Says
        rw [hN]
        clear hN
        go_enter Tryd.func18, Tryd.ntmps18
        have S := SH.start w
        go_wp2_with (first
          | (go_at_call 42; refine (none_c _ h hh _).mono ?_; rintro e wf ⟨rfl, hbf⟩; replace S := S.below hbf; clear hbf)
          | ((with_reducible refine wpl_is ?_); first
            | (refine SH.box (L := []) S rfl 29 _ rfl (Cel.iv i.iv) rfl ?_; clear S; intro b0 w0 S)
            | (refine S.alloc rfl 29 rfl (Cel.iv IV.zero) zeroIV ?_; clear S; intro b1 w1 S)
            | (refine S.ld 3 _ rfl _ 0 rfl 1 (Cel.iv i.iv) rfl _ rfl _ Tryd.underlying3 rfl rfl ?_)
            | (refine S.ld 3 _ rfl _ 3 rfl 1 (Cel.iv i.iv) rfl _ rfl _ Tryd.underlying3 rfl rfl ?_)
            | (refine S.ld 4 _ rfl _ 2 rfl 1 (Cel.iv i.iv) rfl _ rfl _ Tryd.underlying4 rfl rfl ?_)
            | (refine S.ld 4 _ rfl _ 9 rfl 1 (Cel.iv i.iv) rfl _ rfl _ Tryd.underlying4 rfl rfl ?_)
            | (refine S.store1 rfl 4 _ _ rfl _ 2 _ rfl rfl 1 (Cel.iv i.iv) rfl rfl (by simp [Cel.cells, IV.cellsL]) (Cel.iv ({ i with s := false } : NV).iv) rfl (by kernel_rfl) ?_; clear S; intro w2 S; simp only [List.set_cons_zero, List.set_cons_succ] at S)
            | (refine S.ldAll 29 _ rfl _ rfl 1 (Cel.iv ({ i with s := false } : NV).iv) rfl _ Tryd.underlying29 rfl (szIV _) rfl ?_)
            | (refine S.storeAll rfl 29 _ _ rfl _ (Cel.iv ({ i with s := false } : NV).iv) rfl rfl 0 _ rfl rfl (one_iv _) (szIV _) ?_; clear S; intro w2 S; simp only [List.set_cons_zero] at S)))
        (try simp only [Exit.inBlock, Exit.then])
        refine bodyPost_ret (S.results rfl _ _ rfl 0 _ rfl _ Tryd.underlying29 rfl (szIV _)) rfl ⟨rfl, S.low⟩
      · have t10 : ((i.iv.op : Int) == 10) = false := by simp [NV.iv]; omega
        have t11 : ((i.iv.op : Int) == 11) = false := by simp [NV.iv]; omega
        have t8 : ((i.iv.op : Int) == 8) = false := by simp [NV.iv]; omega
        have t58 : ((i.iv.op : Int) == 58) = false := by simp [NV.iv]; omega
        have t59 : ((i.iv.op : Int) == 59) = false := by simp [NV.iv]; omega
        have t60 : ((i.iv.op : Int) == 60) = false := by simp [NV.iv]; omega
        have t54 : ((i.iv.op : Int) == 54) = false := by simp [NV.iv]; omega
        have t13 : ((i.iv.op : Int) == 13) = true := by simp [NV.iv]; omega
        have ks : i.iv.s = true := k1
        have ku : i.iv.useImm = false := k2
        have hN : withinN i h = (nNone 65 h) := by
          unfold withinN
          simp [nbeq, nblt, nble, *]
        unfold Says
        rw [hN]
        clear hN
        go_enter Tryd.func18, Tryd.ntmps18
        have S := SH.start w
        go_wp2_with (first
          | (go_at_call 42; refine (none_c _ h hh _).mono ?_; rintro e wf ⟨rfl, hbf⟩; replace S := S.below hbf; clear hbf)
          | ((with_reducible refine wpl_is ?_); first
            | (refine SH.box (L := []) S rfl 29 _ rfl (Cel.iv i.iv) rfl ?_; clear S; intro b0 w0 S)
            | (refine S.alloc rfl 29 rfl (Cel.iv IV.zero) zeroIV ?_; clear S; intro b1 w1 S)
            | (refine S.ld 3 _ rfl _ 0 rfl 1 (Cel.iv i.iv) rfl _ rfl _ Tryd.underlying3 rfl rfl ?_)
            | (refine S.ld 3 _ rfl _ 3 rfl 1 (Cel.iv i.iv) rfl _ rfl _ Tryd.underlying3 rfl rfl ?_)
            | (refine S.ld 4 _ rfl _ 2 rfl 1 (Cel.iv i.iv) rfl _ rfl _ Tryd.underlying4 rfl rfl ?_)
            | (refine S.ld 4 _ rfl _ 9 rfl 1 (Cel.iv i.iv) rfl _ rfl _ Tryd.underlying4 rfl rfl ?_)
            | (refine S.store1 rfl 4 _ _ rfl _ 2 _ rfl rfl 1 (Cel.iv i.iv) rfl rfl (by simp [Cel.cells, IV.cellsL]) (Cel.iv (nNone 65 h).iv) rfl (by kernel_rfl) ?_; clear S; intro w2 S; simp only [List.set_cons_zero, List.set_cons_succ] at S)
            | (refine S.ldAll 29 _ rfl _ rfl 1 (Cel.iv (nNone 65 h).iv) rfl _ Tryd.underlying29 rfl (szIV _) rfl ?_)
            | (refine S.storeAll rfl 29 _ _ rfl _ (Cel.iv (nNone 65 h).iv) rfl rfl 0 _ rfl rfl (one_iv _) (szIV _) ?_; clear S; intro w2 S; simp only [List.set_cons_zero] at S)))
        (try simp only [Exit.inBlock, Exit.then])
        refine bodyPost_ret (S.results rfl _ _ rfl 0 _ rfl _ Tryd.underlying29 rfl (szIV _)) rfl ⟨rfl, S.low⟩
    · have t10 : ((i.iv.op : Int) == 10) = false := by simp [NV.iv]; omega
      have t11 : ((i.iv.op : Int) == 11) = false := by simp [NV.iv]; omega
      have t8 : ((i.iv.op : Int) == 8) = false := by simp [NV.iv]; omega
      have t58 : ((i.iv.op : Int) == 58) = false := by simp [NV.iv]; omega
      have t59 : ((i.iv.op : Int) == 59) = false := by simp [NV.iv]; omega
      have t60 : ((i.iv.op : Int) == 60) = false := by simp [NV.iv]; omega
      have t54 : ((i.iv.op : Int) == 54) = false := by simp [NV.iv]; omega
      have t13 : ((i.iv.op : Int) == 13) = true := by simp [NV.iv]; omega
      have ks : i.iv.s = false := k1
      have hN : withinN i h = ({ i with s := false } : NV) := by
        unfold withinN
        simp [nbeq, nblt, nble, *]
      unfold Says
      rw [hN]
      clear hN
      go_enter Tryd.func18, Tryd.ntmps18
      have S := SH.start w
      go_wp2_with (first
        | (go_at_call 42; refine (none_c _ h hh _).mono ?_; rintro e wf ⟨rfl, hbf⟩; replace S := S.below hbf; clear hbf)
        | ((with_reducible refine wpl_is ?_); first
          | (refine SH.box (L := []) S rfl 29 _ rfl (Cel.iv i.iv) rfl ?_; clear S; intro b0 w0 S)
          | (refine S.alloc rfl 29 rfl (Cel.iv IV.zero) zeroIV ?_; clear S; intro b1 w1 S)
          | (refine S.ld 3 _ rfl _ 0 rfl 1 (Cel.iv i.iv) rfl _ rfl _ Tryd.underlying3 rfl rfl ?_)
          | (refine S.ld 3 _ rfl _ 3 rfl 1 (Cel.iv i.iv) rfl _ rfl _ Tryd.underlying3 rfl rfl ?_)
          | (refine S.ld 4 _ rfl _ 2 rfl 1 (Cel.iv i.iv) rfl _ rfl _ Tryd.underlying4 rfl rfl ?_)
          | (refine S.ld 4 _ rfl _ 9 rfl 1 (Cel.iv i.iv) rfl _ rfl _ Tryd.underlying4 rfl rfl ?_)
          | (refine S.store1 rfl 4 _ _ rfl _ 2 _ rfl rfl 1 (Cel.iv i.iv) rfl rfl (by simp [Cel.cells, IV.cellsL]) (Cel.iv ({ i with s := false } : NV).iv) rfl (by kernel_rfl) ?_; clear S; intro w2 S; simp only [List.set_cons_zero, List.set_cons_succ] at S)
          | (refine S.ldAll 29 _ rfl _ rfl 1 (Cel.iv ({ i with s := false } : NV).iv) rfl _ Tryd.underlying29 rfl (szIV _) rfl ?_)
          | (refine S.storeAll rfl 29 _ _ rfl _ (Cel.iv ({ i with s := false } : NV).iv) rfl rfl 0 _ rfl rfl (one_iv _) (szIV _) ?_; clear S; intro w2 S; simp only [List.set_cons_zero] at S)))
      (try simp only [Exit.inBlock, Exit.then])
      refine bodyPost_ret (S.results rfl _ _ rfl 0 _ rfl _ Tryd.underlying29 rfl (szIV _)) rfl ⟨rfl, S.low⟩
  · have t10 : ((i.iv.op : Int) == 10) = false := by simp [NV.iv]; omega
    have t11 : ((i.iv.op : Int) == 11) = false := by simp [NV.iv]; omega
    have t8 : ((i.iv.op : Int) == 8) = false := by simp [NV.iv]; omega
    have t58 : ((i.iv.op : Int) == 58) = false := by simp [NV.iv]; omega
    have t59 : ((i.iv.op : Int) == 59) = false := by simp [NV.iv]; omega
    have t60 : ((i.iv.op : Int) == 60) = false := by simp [NV.iv]; omega
    have t54 : ((i.iv.op : Int) == 54) = false := by simp [NV.iv]; omega
    have t13 : ((i.iv.op : Int) == 13) = false := by simp [NV.iv]; omega
    have hN : withinN i h = ({ i with s := false } : NV) := by
      unfold withinN
      simp [nbeq, nblt, nble, *]
    unfold Says
    rw [hN]
    clear hN
    go_enter Tryd.func18, Tryd.ntmps18
    have S := SH.start w
    go_wp2_with (first
      | (go_at_call 42; refine (none_c _ h hh _).mono ?_; rintro e wf ⟨rfl, hbf⟩; replace S := S.below hbf; clear hbf)
      | ((with_reducible refine wpl_is ?_); first
        | (refine SH.box (L := []) S rfl 29 _ rfl (Cel.iv i.iv) rfl ?_; clear S; intro b0 w0 S)
        | (refine S.alloc rfl 29 rfl (Cel.iv IV.zero) zeroIV ?_; clear S; intro b1 w1 S)
        | (refine S.ld 3 _ rfl _ 0 rfl 1 (Cel.iv i.iv) rfl _ rfl _ Tryd.underlying3 rfl rfl ?_)
        | (refine S.ld 3 _ rfl _ 3 rfl 1 (Cel.iv i.iv) rfl _ rfl _ Tryd.underlying3 rfl rfl ?_)
        | (refine S.ld 4 _ rfl _ 2 rfl 1 (Cel.iv i.iv) rfl _ rfl _ Tryd.underlying4 rfl rfl ?_)
        | (refine S.ld 4 _ rfl _ 9 rfl 1 (Cel.iv i.iv) rfl _ rfl _ Tryd.underlying4 rfl rfl ?_)
        | (refine S.store1 rfl 4 _ _ rfl _ 2 _ rfl rfl 1 (Cel.iv i.iv) rfl rfl (by simp [Cel.cells, IV.cellsL]) (Cel.iv ({ i with s := false } : NV).iv) rfl (by kernel_rfl) ?_; clear S; intro w2 S; simp only [List.set_cons_zero, List.set_cons_succ] at S)
        | (refine S.ldAll 29 _ rfl _ rfl 1 (Cel.iv ({ i with s := false } : NV).iv) rfl _ Tryd.underlying29 rfl (szIV _) rfl ?_)
        | (refine S.storeAll rfl 29 _ _ rfl _ (Cel.iv ({ i with s := false } : NV).iv) rfl rfl 0 _ rfl rfl (one_iv _) (szIV _) ?_; clear S; intro w2 S; simp only [List.set_cons_zero] at S)))
    (try simp only [Exit.inBlock, Exit.then])
    refine bodyPost_ret (S.results rfl _ _ rfl 0 _ rfl _ Tryd.underlying29 rfl (szIV _)) rfl ⟨rfl, S.low⟩
end Go.Proofs.YtblcklknlfofgaaDoor
