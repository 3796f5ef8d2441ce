/- Stage 8: rows of narrow words, the program's, walked. -/
import Derived.Test.YtblcklknlfofgaaDoorTh2
import Derived.Test.YtblcklknlfofgaaDoorTh3
import Derived.Test.YtblcklknlfofgaaDoorTh7
import Derived.Test.YtblcklknlfofgaaDoorThM
import Derived.Test.YtblcklknlfofgaaDoorUpt
namespace Go.Proofs.YtblcklknlfofgaaDoor
open Go.ChangeShapes Go.WideShapes Go.ChangeAt Go.RowKit
set_option linter.unusedVariables false
set_option linter.unusedSimpArgs false

set_option maxHeartbeats 4000000 in
set_option maxRecDepth 100000 in
theorem alone_c (h : Nat) (hh : h < 65536) (w : World) (HT : LT w) : Calls Tryd.prog 17 #[.int .u16 h] w fun e w' => Says w (aloneN h) e w' := by
  have rb := row_bits h hh
  have hr32 : h / 2048 = 0 ∨ h / 2048 = 1 ∨ h / 2048 = 2 ∨ h / 2048 = 3 ∨ h / 2048 = 4 ∨ h / 2048 = 5 ∨ h / 2048 = 6 ∨ h / 2048 = 7 ∨ h / 2048 = 8 ∨ h / 2048 = 9 ∨ h / 2048 = 18 ∨ h / 2048 = 19 ∨ h / 2048 = 20 ∨ h / 2048 = 21 ∨ h / 2048 = 12 ∨ h / 2048 = 13 ∨ h / 2048 = 14 ∨ h / 2048 = 15 ∨ h / 2048 = 16 ∨ h / 2048 = 17 ∨ h / 2048 = 22 ∨ h / 2048 = 23 ∨ h / 2048 = 24 ∨ h / 2048 = 25 ∨ h / 2048 = 26 ∨ h / 2048 = 27 ∨ h / 2048 = 28 ∨ h / 2048 = 29 ∨ h / 2048 = 30 ∨ h / 2048 = 31 ∨ h / 2048 = 10 ∨ h / 2048 = 11 := by omega
  rcases hr32 with q1 | q1 | q1 | q1 | q1 | q1 | q1 | q1 | q1 | q1 | q1 | q1 | q1 | q1 | q1 | q1 | q1 | q1 | q1 | q1 | q1 | q1 | q1 | q1 | q1 | q1 | q1 | q1 | q1 | q1 | q1 | q1
  · rw [q1] at rb
    have rb2 : bits .and .u16 (h : Int) 63488 = 0 := rb
    clear rb
    have hN : aloneN h = (shiftedN h) := by
      unfold aloneN
      simp [nbeq, nblt, nble, *]
    unfold Says
    rw [hN]
    clear hN
    go_enter Tryd.func17, Tryd.ntmps17
    have S := SH.start w
    go_wp2_with (first
      | (go_at_call 30; refine (shifted_c h hh (by omega) _).mono ?_; rintro e wf ⟨rfl, hbf⟩; replace S := S.below hbf; clear hbf)
      | ((with_reducible refine wpl_is ?_); first
        | (refine S.alloc rfl 29 rfl (Cel.iv IV.zero) zeroIV ?_; clear S; intro b1 w1 S)
        | (refine S.storeAll rfl 29 _ _ rfl _ (Cel.iv (shiftedN h).iv) rfl rfl 0 _ rfl rfl (one_iv _) (szIV _) ?_; clear S; intro w2 S; simp only [List.set_cons_zero] at S)))
    (try simp only [Exit.inBlock, Exit.then])
    refine bodyPost_ret (S.results rfl _ _ rfl 0 _ rfl _ Tryd.underlying29 rfl (szIV _)) rfl ⟨rfl, S.low⟩
  · rw [q1] at rb
    have rb2 : bits .and .u16 (h : Int) 63488 = 2048 := rb
    clear rb
    have hN : aloneN h = (shiftedN h) := by
      unfold aloneN
      simp [nbeq, nblt, nble, *]
    unfold Says
    rw [hN]
    clear hN
    go_enter Tryd.func17, Tryd.ntmps17
    have S := SH.start w
    go_wp2_with (first
      | (go_at_call 30; refine (shifted_c h hh (by omega) _).mono ?_; rintro e wf ⟨rfl, hbf⟩; replace S := S.below hbf; clear hbf)
      | ((with_reducible refine wpl_is ?_); first
        | (refine S.alloc rfl 29 rfl (Cel.iv IV.zero) zeroIV ?_; clear S; intro b1 w1 S)
        | (refine S.storeAll rfl 29 _ _ rfl _ (Cel.iv (shiftedN h).iv) rfl rfl 0 _ rfl rfl (one_iv _) (szIV _) ?_; clear S; intro w2 S; simp only [List.set_cons_zero] at S)))
    (try simp only [Exit.inBlock, Exit.then])
    refine bodyPost_ret (S.results rfl _ _ rfl 0 _ rfl _ Tryd.underlying29 rfl (szIV _)) rfl ⟨rfl, S.low⟩
  · rw [q1] at rb
    have rb2 : bits .and .u16 (h : Int) 63488 = 4096 := rb
    clear rb
    have hN : aloneN h = (shiftedN h) := by
      unfold aloneN
      simp [nbeq, nblt, nble, *]
    unfold Says
    rw [hN]
    clear hN
    go_enter Tryd.func17, Tryd.ntmps17
    have S := SH.start w
    go_wp2_with (first
      | (go_at_call 30; refine (shifted_c h hh (by omega) _).mono ?_; rintro e wf ⟨rfl, hbf⟩; replace S := S.below hbf; clear hbf)
      | ((with_reducible refine wpl_is ?_); first
        | (refine S.alloc rfl 29 rfl (Cel.iv IV.zero) zeroIV ?_; clear S; intro b1 w1 S)
        | (refine S.storeAll rfl 29 _ _ rfl _ (Cel.iv (shiftedN h).iv) rfl rfl 0 _ rfl rfl (one_iv _) (szIV _) ?_; clear S; intro w2 S; simp only [List.set_cons_zero] at S)))
    (try simp only [Exit.inBlock, Exit.then])
    refine bodyPost_ret (S.results rfl _ _ rfl 0 _ rfl _ Tryd.underlying29 rfl (szIV _)) rfl ⟨rfl, S.low⟩
  · rw [q1] at rb
    have rb2 : bits .and .u16 (h : Int) 63488 = 6144 := rb
    clear rb
    have hN : aloneN h = (sumN h) := by
      unfold aloneN
      simp [nbeq, nblt, nble, *]
    unfold Says
    rw [hN]
    clear hN
    go_enter Tryd.func17, Tryd.ntmps17
    have S := SH.start w
    go_wp2_with (first
      | (go_at_call 31; refine (sum_c h hh _).mono ?_; rintro e wf ⟨rfl, hbf⟩; replace S := S.below hbf; clear hbf)
      | ((with_reducible refine wpl_is ?_); first
        | (refine S.alloc rfl 29 rfl (Cel.iv IV.zero) zeroIV ?_; clear S; intro b1 w1 S)
        | (refine S.storeAll rfl 29 _ _ rfl _ (Cel.iv (sumN h).iv) rfl rfl 0 _ rfl rfl (one_iv _) (szIV _) ?_; clear S; intro w2 S; simp only [List.set_cons_zero] at S)))
    (try simp only [Exit.inBlock, Exit.then])
    refine bodyPost_ret (S.results rfl _ _ rfl 0 _ rfl _ Tryd.underlying29 rfl (szIV _)) rfl ⟨rfl, S.low⟩
  · rw [q1] at rb
    have rb2 : bits .and .u16 (h : Int) 63488 = 8192 := rb
    clear rb
    have hN : aloneN h = (eightN h) := by
      unfold aloneN
      simp [nbeq, nblt, nble, *]
    unfold Says
    rw [hN]
    clear hN
    go_enter Tryd.func17, Tryd.ntmps17
    have S := SH.start w
    go_wp2_with (first
      | (go_at_call 32; refine (eight_c h hh (by omega) (by omega) _).mono ?_; rintro e wf ⟨rfl, hbf⟩; replace S := S.below hbf; clear hbf)
      | ((with_reducible refine wpl_is ?_); first
        | (refine S.alloc rfl 29 rfl (Cel.iv IV.zero) zeroIV ?_; clear S; intro b1 w1 S)
        | (refine S.storeAll rfl 29 _ _ rfl _ (Cel.iv (eightN h).iv) rfl rfl 0 _ rfl rfl (one_iv _) (szIV _) ?_; clear S; intro w2 S; simp only [List.set_cons_zero] at S)))
    (try simp only [Exit.inBlock, Exit.then])
    refine bodyPost_ret (S.results rfl _ _ rfl 0 _ rfl _ Tryd.underlying29 rfl (szIV _)) rfl ⟨rfl, S.low⟩
  · rw [q1] at rb
    have rb2 : bits .and .u16 (h : Int) 63488 = 10240 := rb
    clear rb
    have hN : aloneN h = (eightN h) := by
      unfold aloneN
      simp [nbeq, nblt, nble, *]
    unfold Says
    rw [hN]
    clear hN
    go_enter Tryd.func17, Tryd.ntmps17
    have S := SH.start w
    go_wp2_with (first
      | (go_at_call 32; refine (eight_c h hh (by omega) (by omega) _).mono ?_; rintro e wf ⟨rfl, hbf⟩; replace S := S.below hbf; clear hbf)
      | ((with_reducible refine wpl_is ?_); first
        | (refine S.alloc rfl 29 rfl (Cel.iv IV.zero) zeroIV ?_; clear S; intro b1 w1 S)
        | (refine S.storeAll rfl 29 _ _ rfl _ (Cel.iv (eightN h).iv) rfl rfl 0 _ rfl rfl (one_iv _) (szIV _) ?_; clear S; intro w2 S; simp only [List.set_cons_zero] at S)))
    (try simp only [Exit.inBlock, Exit.then])
    refine bodyPost_ret (S.results rfl _ _ rfl 0 _ rfl _ Tryd.underlying29 rfl (szIV _)) rfl ⟨rfl, S.low⟩
  · rw [q1] at rb
    have rb2 : bits .and .u16 (h : Int) 63488 = 12288 := rb
    clear rb
    have hN : aloneN h = (eightN h) := by
      unfold aloneN
      simp [nbeq, nblt, nble, *]
    unfold Says
    rw [hN]
    clear hN
    go_enter Tryd.func17, Tryd.ntmps17
    have S := SH.start w
    go_wp2_with (first
      | (go_at_call 32; refine (eight_c h hh (by omega) (by omega) _).mono ?_; rintro e wf ⟨rfl, hbf⟩; replace S := S.below hbf; clear hbf)
      | ((with_reducible refine wpl_is ?_); first
        | (refine S.alloc rfl 29 rfl (Cel.iv IV.zero) zeroIV ?_; clear S; intro b1 w1 S)
        | (refine S.storeAll rfl 29 _ _ rfl _ (Cel.iv (eightN h).iv) rfl rfl 0 _ rfl rfl (one_iv _) (szIV _) ?_; clear S; intro w2 S; simp only [List.set_cons_zero] at S)))
    (try simp only [Exit.inBlock, Exit.then])
    refine bodyPost_ret (S.results rfl _ _ rfl 0 _ rfl _ Tryd.underlying29 rfl (szIV _)) rfl ⟨rfl, S.low⟩
  · rw [q1] at rb
    have rb2 : bits .and .u16 (h : Int) 63488 = 14336 := rb
    clear rb
    have hN : aloneN h = (eightN h) := by
      unfold aloneN
      simp [nbeq, nblt, nble, *]
    unfold Says
    rw [hN]
    clear hN
    go_enter Tryd.func17, Tryd.ntmps17
    have S := SH.start w
    go_wp2_with (first
      | (go_at_call 32; refine (eight_c h hh (by omega) (by omega) _).mono ?_; rintro e wf ⟨rfl, hbf⟩; replace S := S.below hbf; clear hbf)
      | ((with_reducible refine wpl_is ?_); first
        | (refine S.alloc rfl 29 rfl (Cel.iv IV.zero) zeroIV ?_; clear S; intro b1 w1 S)
        | (refine S.storeAll rfl 29 _ _ rfl _ (Cel.iv (eightN h).iv) rfl rfl 0 _ rfl rfl (one_iv _) (szIV _) ?_; clear S; intro w2 S; simp only [List.set_cons_zero] at S)))
    (try simp only [Exit.inBlock, Exit.then])
    refine bodyPost_ret (S.results rfl _ _ rfl 0 _ rfl _ Tryd.underlying29 rfl (szIV _)) rfl ⟨rfl, S.low⟩
  · rw [q1] at rb
    have rb2 : bits .and .u16 (h : Int) 63488 = 16384 := rb
    clear rb
    have hN : aloneN h = (registersN h) := by
      unfold aloneN
      simp [nbeq, nblt, nble, *]
    unfold Says
    rw [hN]
    clear hN
    go_enter Tryd.func17, Tryd.ntmps17
    have S := SH.start w
    go_wp2_with (first
      | (go_at_call 33; refine (registers_c h hh (by omega) _ (HT.next S.low)).mono ?_; rintro e wf ⟨rfl, hbf⟩; replace S := S.below hbf; clear hbf)
      | ((with_reducible refine wpl_is ?_); first
        | (refine S.alloc rfl 29 rfl (Cel.iv IV.zero) zeroIV ?_; clear S; intro b1 w1 S)
        | (refine S.storeAll rfl 29 _ _ rfl _ (Cel.iv (registersN h).iv) rfl rfl 0 _ rfl rfl (one_iv _) (szIV _) ?_; clear S; intro w2 S; simp only [List.set_cons_zero] at S)))
    (try simp only [Exit.inBlock, Exit.then])
    refine bodyPost_ret (S.results rfl _ _ rfl 0 _ rfl _ Tryd.underlying29 rfl (szIV _)) rfl ⟨rfl, S.low⟩
  · rw [q1] at rb
    have rb2 : bits .and .u16 (h : Int) 63488 = 18432 := rb
    clear rb
    have hN : aloneN h = (wordsN h) := by
      unfold aloneN
      simp [nbeq, nblt, nble, *]
    unfold Says
    rw [hN]
    clear hN
    go_enter Tryd.func17, Tryd.ntmps17
    have S := SH.start w
    go_wp2_with (first
      | (go_at_call 34; refine (words_c h hh (by omega) _).mono ?_; rintro e wf ⟨rfl, hbf⟩; replace S := S.below hbf; clear hbf)
      | ((with_reducible refine wpl_is ?_); first
        | (refine S.alloc rfl 29 rfl (Cel.iv IV.zero) zeroIV ?_; clear S; intro b1 w1 S)
        | (refine S.storeAll rfl 29 _ _ rfl _ (Cel.iv (wordsN h).iv) rfl rfl 0 _ rfl rfl (one_iv _) (szIV _) ?_; clear S; intro w2 S; simp only [List.set_cons_zero] at S)))
    (try simp only [Exit.inBlock, Exit.then])
    refine bodyPost_ret (S.results rfl _ _ rfl 0 _ rfl _ Tryd.underlying29 rfl (szIV _)) rfl ⟨rfl, S.low⟩
  · rw [q1] at rb
    have rb2 : bits .and .u16 (h : Int) 63488 = 36864 := rb
    clear rb
    have hN : aloneN h = (wordsN h) := by
      unfold aloneN
      simp [nbeq, nblt, nble, *]
    unfold Says
    rw [hN]
    clear hN
    go_enter Tryd.func17, Tryd.ntmps17
    have S := SH.start w
    go_wp2_with (first
      | (go_at_call 34; refine (words_c h hh (by omega) _).mono ?_; rintro e wf ⟨rfl, hbf⟩; replace S := S.below hbf; clear hbf)
      | ((with_reducible refine wpl_is ?_); first
        | (refine S.alloc rfl 29 rfl (Cel.iv IV.zero) zeroIV ?_; clear S; intro b1 w1 S)
        | (refine S.storeAll rfl 29 _ _ rfl _ (Cel.iv (wordsN h).iv) rfl rfl 0 _ rfl rfl (one_iv _) (szIV _) ?_; clear S; intro w2 S; simp only [List.set_cons_zero] at S)))
    (try simp only [Exit.inBlock, Exit.then])
    refine bodyPost_ret (S.results rfl _ _ rfl 0 _ rfl _ Tryd.underlying29 rfl (szIV _)) rfl ⟨rfl, S.low⟩
  · rw [q1] at rb
    have rb2 : bits .and .u16 (h : Int) 63488 = 38912 := rb
    clear rb
    have hN : aloneN h = (wordsN h) := by
      unfold aloneN
      simp [nbeq, nblt, nble, *]
    unfold Says
    rw [hN]
    clear hN
    go_enter Tryd.func17, Tryd.ntmps17
    have S := SH.start w
    go_wp2_with (first
      | (go_at_call 34; refine (words_c h hh (by omega) _).mono ?_; rintro e wf ⟨rfl, hbf⟩; replace S := S.below hbf; clear hbf)
      | ((with_reducible refine wpl_is ?_); first
        | (refine S.alloc rfl 29 rfl (Cel.iv IV.zero) zeroIV ?_; clear S; intro b1 w1 S)
        | (refine S.storeAll rfl 29 _ _ rfl _ (Cel.iv (wordsN h).iv) rfl rfl 0 _ rfl rfl (one_iv _) (szIV _) ?_; clear S; intro w2 S; simp only [List.set_cons_zero] at S)))
    (try simp only [Exit.inBlock, Exit.then])
    refine bodyPost_ret (S.results rfl _ _ rfl 0 _ rfl _ Tryd.underlying29 rfl (szIV _)) rfl ⟨rfl, S.low⟩
  · rw [q1] at rb
    have rb2 : bits .and .u16 (h : Int) 63488 = 40960 := rb
    clear rb
    have hN : aloneN h = (wordsN h) := by
      unfold aloneN
      simp [nbeq, nblt, nble, *]
    unfold Says
    rw [hN]
    clear hN
    go_enter Tryd.func17, Tryd.ntmps17
    have S := SH.start w
    go_wp2_with (first
      | (go_at_call 34; refine (words_c h hh (by omega) _).mono ?_; rintro e wf ⟨rfl, hbf⟩; replace S := S.below hbf; clear hbf)
      | ((with_reducible refine wpl_is ?_); first
        | (refine S.alloc rfl 29 rfl (Cel.iv IV.zero) zeroIV ?_; clear S; intro b1 w1 S)
        | (refine S.storeAll rfl 29 _ _ rfl _ (Cel.iv (wordsN h).iv) rfl rfl 0 _ rfl rfl (one_iv _) (szIV _) ?_; clear S; intro w2 S; simp only [List.set_cons_zero] at S)))
    (try simp only [Exit.inBlock, Exit.then])
    refine bodyPost_ret (S.results rfl _ _ rfl 0 _ rfl _ Tryd.underlying29 rfl (szIV _)) rfl ⟨rfl, S.low⟩
  · rw [q1] at rb
    have rb2 : bits .and .u16 (h : Int) 63488 = 43008 := rb
    clear rb
    have hN : aloneN h = (wordsN h) := by
      unfold aloneN
      simp [nbeq, nblt, nble, *]
    unfold Says
    rw [hN]
    clear hN
    go_enter Tryd.func17, Tryd.ntmps17
    have S := SH.start w
    go_wp2_with (first
      | (go_at_call 34; refine (words_c h hh (by omega) _).mono ?_; rintro e wf ⟨rfl, hbf⟩; replace S := S.below hbf; clear hbf)
      | ((with_reducible refine wpl_is ?_); first
        | (refine S.alloc rfl 29 rfl (Cel.iv IV.zero) zeroIV ?_; clear S; intro b1 w1 S)
        | (refine S.storeAll rfl 29 _ _ rfl _ (Cel.iv (wordsN h).iv) rfl rfl 0 _ rfl rfl (one_iv _) (szIV _) ?_; clear S; intro w2 S; simp only [List.set_cons_zero] at S)))
    (try simp only [Exit.inBlock, Exit.then])
    refine bodyPost_ret (S.results rfl _ _ rfl 0 _ rfl _ Tryd.underlying29 rfl (szIV _)) rfl ⟨rfl, S.low⟩
  · rw [q1] at rb
    have rb2 : bits .and .u16 (h : Int) 63488 = 24576 := rb
    clear rb
    have hN : aloneN h = (memoryN h) := by
      unfold aloneN
      simp [nbeq, nblt, nble, *]
    unfold Says
    rw [hN]
    clear hN
    go_enter Tryd.func17, Tryd.ntmps17
    have S := SH.start w
    go_wp2_with (first
      | (go_at_call 37; refine (memory_c h hh (by omega) (by omega) _).mono ?_; rintro e wf ⟨rfl, hbf⟩; replace S := S.below hbf; clear hbf)
      | ((with_reducible refine wpl_is ?_); first
        | (refine S.alloc rfl 29 rfl (Cel.iv IV.zero) zeroIV ?_; clear S; intro b1 w1 S)
        | (refine S.storeAll rfl 29 _ _ rfl _ (Cel.iv (memoryN h).iv) rfl rfl 0 _ rfl rfl (one_iv _) (szIV _) ?_; clear S; intro w2 S; simp only [List.set_cons_zero] at S)))
    (try simp only [Exit.inBlock, Exit.then])
    refine bodyPost_ret (S.results rfl _ _ rfl 0 _ rfl _ Tryd.underlying29 rfl (szIV _)) rfl ⟨rfl, S.low⟩
  · rw [q1] at rb
    have rb2 : bits .and .u16 (h : Int) 63488 = 26624 := rb
    clear rb
    have hN : aloneN h = (memoryN h) := by
      unfold aloneN
      simp [nbeq, nblt, nble, *]
    unfold Says
    rw [hN]
    clear hN
    go_enter Tryd.func17, Tryd.ntmps17
    have S := SH.start w
    go_wp2_with (first
      | (go_at_call 37; refine (memory_c h hh (by omega) (by omega) _).mono ?_; rintro e wf ⟨rfl, hbf⟩; replace S := S.below hbf; clear hbf)
      | ((with_reducible refine wpl_is ?_); first
        | (refine S.alloc rfl 29 rfl (Cel.iv IV.zero) zeroIV ?_; clear S; intro b1 w1 S)
        | (refine S.storeAll rfl 29 _ _ rfl _ (Cel.iv (memoryN h).iv) rfl rfl 0 _ rfl rfl (one_iv _) (szIV _) ?_; clear S; intro w2 S; simp only [List.set_cons_zero] at S)))
    (try simp only [Exit.inBlock, Exit.then])
    refine bodyPost_ret (S.results rfl _ _ rfl 0 _ rfl _ Tryd.underlying29 rfl (szIV _)) rfl ⟨rfl, S.low⟩
  · rw [q1] at rb
    have rb2 : bits .and .u16 (h : Int) 63488 = 28672 := rb
    clear rb
    have hN : aloneN h = (memoryN h) := by
      unfold aloneN
      simp [nbeq, nblt, nble, *]
    unfold Says
    rw [hN]
    clear hN
    go_enter Tryd.func17, Tryd.ntmps17
    have S := SH.start w
    go_wp2_with (first
      | (go_at_call 37; refine (memory_c h hh (by omega) (by omega) _).mono ?_; rintro e wf ⟨rfl, hbf⟩; replace S := S.below hbf; clear hbf)
      | ((with_reducible refine wpl_is ?_); first
        | (refine S.alloc rfl 29 rfl (Cel.iv IV.zero) zeroIV ?_; clear S; intro b1 w1 S)
        | (refine S.storeAll rfl 29 _ _ rfl _ (Cel.iv (memoryN h).iv) rfl rfl 0 _ rfl rfl (one_iv _) (szIV _) ?_; clear S; intro w2 S; simp only [List.set_cons_zero] at S)))
    (try simp only [Exit.inBlock, Exit.then])
    refine bodyPost_ret (S.results rfl _ _ rfl 0 _ rfl _ Tryd.underlying29 rfl (szIV _)) rfl ⟨rfl, S.low⟩
  · rw [q1] at rb
    have rb2 : bits .and .u16 (h : Int) 63488 = 30720 := rb
    clear rb
    have hN : aloneN h = (memoryN h) := by
      unfold aloneN
      simp [nbeq, nblt, nble, *]
    unfold Says
    rw [hN]
    clear hN
    go_enter Tryd.func17, Tryd.ntmps17
    have S := SH.start w
    go_wp2_with (first
      | (go_at_call 37; refine (memory_c h hh (by omega) (by omega) _).mono ?_; rintro e wf ⟨rfl, hbf⟩; replace S := S.below hbf; clear hbf)
      | ((with_reducible refine wpl_is ?_); first
        | (refine S.alloc rfl 29 rfl (Cel.iv IV.zero) zeroIV ?_; clear S; intro b1 w1 S)
        | (refine S.storeAll rfl 29 _ _ rfl _ (Cel.iv (memoryN h).iv) rfl rfl 0 _ rfl rfl (one_iv _) (szIV _) ?_; clear S; intro w2 S; simp only [List.set_cons_zero] at S)))
    (try simp only [Exit.inBlock, Exit.then])
    refine bodyPost_ret (S.results rfl _ _ rfl 0 _ rfl _ Tryd.underlying29 rfl (szIV _)) rfl ⟨rfl, S.low⟩
  · rw [q1] at rb
    have rb2 : bits .and .u16 (h : Int) 63488 = 32768 := rb
    clear rb
    have hN : aloneN h = (memoryN h) := by
      unfold aloneN
      simp [nbeq, nblt, nble, *]
    unfold Says
    rw [hN]
    clear hN
    go_enter Tryd.func17, Tryd.ntmps17
    have S := SH.start w
    go_wp2_with (first
      | (go_at_call 37; refine (memory_c h hh (by omega) (by omega) _).mono ?_; rintro e wf ⟨rfl, hbf⟩; replace S := S.below hbf; clear hbf)
      | ((with_reducible refine wpl_is ?_); first
        | (refine S.alloc rfl 29 rfl (Cel.iv IV.zero) zeroIV ?_; clear S; intro b1 w1 S)
        | (refine S.storeAll rfl 29 _ _ rfl _ (Cel.iv (memoryN h).iv) rfl rfl 0 _ rfl rfl (one_iv _) (szIV _) ?_; clear S; intro w2 S; simp only [List.set_cons_zero] at S)))
    (try simp only [Exit.inBlock, Exit.then])
    refine bodyPost_ret (S.results rfl _ _ rfl 0 _ rfl _ Tryd.underlying29 rfl (szIV _)) rfl ⟨rfl, S.low⟩
  · rw [q1] at rb
    have rb2 : bits .and .u16 (h : Int) 63488 = 34816 := rb
    clear rb
    have hN : aloneN h = (memoryN h) := by
      unfold aloneN
      simp [nbeq, nblt, nble, *]
    unfold Says
    rw [hN]
    clear hN
    go_enter Tryd.func17, Tryd.ntmps17
    have S := SH.start w
    go_wp2_with (first
      | (go_at_call 37; refine (memory_c h hh (by omega) (by omega) _).mono ?_; rintro e wf ⟨rfl, hbf⟩; replace S := S.below hbf; clear hbf)
      | ((with_reducible refine wpl_is ?_); first
        | (refine S.alloc rfl 29 rfl (Cel.iv IV.zero) zeroIV ?_; clear S; intro b1 w1 S)
        | (refine S.storeAll rfl 29 _ _ rfl _ (Cel.iv (memoryN h).iv) rfl rfl 0 _ rfl rfl (one_iv _) (szIV _) ?_; clear S; intro w2 S; simp only [List.set_cons_zero] at S)))
    (try simp only [Exit.inBlock, Exit.then])
    refine bodyPost_ret (S.results rfl _ _ rfl 0 _ rfl _ Tryd.underlying29 rfl (szIV _)) rfl ⟨rfl, S.low⟩
  · rw [q1] at rb
    have rb2 : bits .and .u16 (h : Int) 63488 = 45056 := rb
    clear rb
    have hN : aloneN h = (mixedN h) := by
      unfold aloneN
      simp [nbeq, nblt, nble, *]
    unfold Says
    rw [hN]
    clear hN
    go_enter Tryd.func17, Tryd.ntmps17
    have S := SH.start w
    go_wp2_with (first
      | (go_at_call 38; refine (mixed_c h hh (by omega) _ (HT.next S.low)).mono ?_; rintro e wf ⟨rfl, hbf⟩; replace S := S.below hbf; clear hbf)
      | ((with_reducible refine wpl_is ?_); first
        | (refine S.alloc rfl 29 rfl (Cel.iv IV.zero) zeroIV ?_; clear S; intro b1 w1 S)
        | (refine S.storeAll rfl 29 _ _ rfl _ (Cel.iv (mixedN h).iv) rfl rfl 0 _ rfl rfl (one_iv _) (szIV _) ?_; clear S; intro w2 S; simp only [List.set_cons_zero] at S)))
    (try simp only [Exit.inBlock, Exit.then])
    refine bodyPost_ret (S.results rfl _ _ rfl 0 _ rfl _ Tryd.underlying29 rfl (szIV _)) rfl ⟨rfl, S.low⟩
  · rw [q1] at rb
    have rb2 : bits .and .u16 (h : Int) 63488 = 47104 := rb
    clear rb
    have hN : aloneN h = (mixedN h) := by
      unfold aloneN
      simp [nbeq, nblt, nble, *]
    unfold Says
    rw [hN]
    clear hN
    go_enter Tryd.func17, Tryd.ntmps17
    have S := SH.start w
    go_wp2_with (first
      | (go_at_call 38; refine (mixed_c h hh (by omega) _ (HT.next S.low)).mono ?_; rintro e wf ⟨rfl, hbf⟩; replace S := S.below hbf; clear hbf)
      | ((with_reducible refine wpl_is ?_); first
        | (refine S.alloc rfl 29 rfl (Cel.iv IV.zero) zeroIV ?_; clear S; intro b1 w1 S)
        | (refine S.storeAll rfl 29 _ _ rfl _ (Cel.iv (mixedN h).iv) rfl rfl 0 _ rfl rfl (one_iv _) (szIV _) ?_; clear S; intro w2 S; simp only [List.set_cons_zero] at S)))
    (try simp only [Exit.inBlock, Exit.then])
    refine bodyPost_ret (S.results rfl _ _ rfl 0 _ rfl _ Tryd.underlying29 rfl (szIV _)) rfl ⟨rfl, S.low⟩
  · rw [q1] at rb
    have rb2 : bits .and .u16 (h : Int) 63488 = 49152 := rb
    clear rb
    have hN : aloneN h = (manyN h) := by
      unfold aloneN
      simp [nbeq, nblt, nble, *]
    unfold Says
    rw [hN]
    clear hN
    go_enter Tryd.func17, Tryd.ntmps17
    have S := SH.start w
    go_wp2_with (first
      | (go_at_call 39; refine (many_c h hh (by omega) _).mono ?_; rintro e wf ⟨rfl, hbf⟩; replace S := S.below hbf; clear hbf)
      | ((with_reducible refine wpl_is ?_); first
        | (refine S.alloc rfl 29 rfl (Cel.iv IV.zero) zeroIV ?_; clear S; intro b1 w1 S)
        | (refine S.storeAll rfl 29 _ _ rfl _ (Cel.iv (manyN h).iv) rfl rfl 0 _ rfl rfl (one_iv _) (szIV _) ?_; clear S; intro w2 S; simp only [List.set_cons_zero] at S)))
    (try simp only [Exit.inBlock, Exit.then])
    refine bodyPost_ret (S.results rfl _ _ rfl 0 _ rfl _ Tryd.underlying29 rfl (szIV _)) rfl ⟨rfl, S.low⟩
  · rw [q1] at rb
    have rb2 : bits .and .u16 (h : Int) 63488 = 51200 := rb
    clear rb
    have hN : aloneN h = (manyN h) := by
      unfold aloneN
      simp [nbeq, nblt, nble, *]
    unfold Says
    rw [hN]
    clear hN
    go_enter Tryd.func17, Tryd.ntmps17
    have S := SH.start w
    go_wp2_with (first
      | (go_at_call 39; refine (many_c h hh (by omega) _).mono ?_; rintro e wf ⟨rfl, hbf⟩; replace S := S.below hbf; clear hbf)
      | ((with_reducible refine wpl_is ?_); first
        | (refine S.alloc rfl 29 rfl (Cel.iv IV.zero) zeroIV ?_; clear S; intro b1 w1 S)
        | (refine S.storeAll rfl 29 _ _ rfl _ (Cel.iv (manyN h).iv) rfl rfl 0 _ rfl rfl (one_iv _) (szIV _) ?_; clear S; intro w2 S; simp only [List.set_cons_zero] at S)))
    (try simp only [Exit.inBlock, Exit.then])
    refine bodyPost_ret (S.results rfl _ _ rfl 0 _ rfl _ Tryd.underlying29 rfl (szIV _)) rfl ⟨rfl, S.low⟩
  · rw [q1] at rb
    have rb2 : bits .and .u16 (h : Int) 63488 = 53248 := rb
    clear rb
    have hN : aloneN h = (conditionalN h) := by
      unfold aloneN
      simp [nbeq, nblt, nble, *]
    unfold Says
    rw [hN]
    clear hN
    go_enter Tryd.func17, Tryd.ntmps17
    have S := SH.start w
    go_wp2_with (first
      | (go_at_call 40; refine (conditional_c h hh (by omega) _).mono ?_; rintro e wf ⟨rfl, hbf⟩; replace S := S.below hbf; clear hbf)
      | ((with_reducible refine wpl_is ?_); first
        | (refine S.alloc rfl 29 rfl (Cel.iv IV.zero) zeroIV ?_; clear S; intro b1 w1 S)
        | (refine S.storeAll rfl 29 _ _ rfl _ (Cel.iv (conditionalN h).iv) rfl rfl 0 _ rfl rfl (one_iv _) (szIV _) ?_; clear S; intro w2 S; simp only [List.set_cons_zero] at S)))
    (try simp only [Exit.inBlock, Exit.then])
    refine bodyPost_ret (S.results rfl _ _ rfl 0 _ rfl _ Tryd.underlying29 rfl (szIV _)) rfl ⟨rfl, S.low⟩
  · rw [q1] at rb
    have rb2 : bits .and .u16 (h : Int) 63488 = 55296 := rb
    clear rb
    have hN : aloneN h = (conditionalN h) := by
      unfold aloneN
      simp [nbeq, nblt, nble, *]
    unfold Says
    rw [hN]
    clear hN
    go_enter Tryd.func17, Tryd.ntmps17
    have S := SH.start w
    go_wp2_with (first
      | (go_at_call 40; refine (conditional_c h hh (by omega) _).mono ?_; rintro e wf ⟨rfl, hbf⟩; replace S := S.below hbf; clear hbf)
      | ((with_reducible refine wpl_is ?_); first
        | (refine S.alloc rfl 29 rfl (Cel.iv IV.zero) zeroIV ?_; clear S; intro b1 w1 S)
        | (refine S.storeAll rfl 29 _ _ rfl _ (Cel.iv (conditionalN h).iv) rfl rfl 0 _ rfl rfl (one_iv _) (szIV _) ?_; clear S; intro w2 S; simp only [List.set_cons_zero] at S)))
    (try simp only [Exit.inBlock, Exit.then])
    refine bodyPost_ret (S.results rfl _ _ rfl 0 _ rfl _ Tryd.underlying29 rfl (szIV _)) rfl ⟨rfl, S.low⟩
  · rw [q1] at rb
    have rb2 : bits .and .u16 (h : Int) 63488 = 57344 := rb
    clear rb
    have hN : aloneN h = (branchN 14 h 11) := by
      unfold aloneN
      simp [nbeq, nblt, nble, *]
    unfold Says
    rw [hN]
    clear hN
    go_enter Tryd.func17, Tryd.ntmps17
    have S := SH.start w
    go_wp2_with (first
      | (go_at_call 41; refine (branch_11 h hh _ 14 rfl _).mono ?_; rintro e wf ⟨rfl, hbf⟩; replace S := S.below hbf; clear hbf)
      | ((with_reducible refine wpl_is ?_); first
        | (refine S.alloc rfl 29 rfl (Cel.iv IV.zero) zeroIV ?_; clear S; intro b1 w1 S)
        | (refine S.storeAll rfl 29 _ _ rfl _ (Cel.iv (branchN 14 h 11).iv) rfl rfl 0 _ rfl rfl (one_iv _) (szIV _) ?_; clear S; intro w2 S; simp only [List.set_cons_zero] at S)))
    (try simp only [Exit.inBlock, Exit.then])
    refine bodyPost_ret (S.results rfl _ _ rfl 0 _ rfl _ Tryd.underlying29 rfl (szIV _)) rfl ⟨rfl, S.low⟩
  · rw [q1] at rb
    have rb2 : bits .and .u16 (h : Int) 63488 = 59392 := rb
    clear rb
    have hN : aloneN h = (nNone 64 h) := by
      unfold aloneN
      simp [nbeq, nblt, nble, *]
    unfold Says
    rw [hN]
    clear hN
    go_enter Tryd.func17, Tryd.ntmps17
    have S := SH.start w
    go_wp2_with (first
      | (go_at_call 42; refine (none_c _ h hh _).mono ?_; rintro e wf ⟨rfl, hbf⟩; replace S := S.below hbf; clear hbf)
      | ((with_reducible refine wpl_is ?_); first
        | (refine S.alloc rfl 29 rfl (Cel.iv IV.zero) zeroIV ?_; clear S; intro b1 w1 S)
        | (refine S.storeAll rfl 29 _ _ rfl _ (Cel.iv (nNone 64 h).iv) rfl rfl 0 _ rfl rfl (one_iv _) (szIV _) ?_; clear S; intro w2 S; simp only [List.set_cons_zero] at S)))
    (try simp only [Exit.inBlock, Exit.then])
    refine bodyPost_ret (S.results rfl _ _ rfl 0 _ rfl _ Tryd.underlying29 rfl (szIV _)) rfl ⟨rfl, S.low⟩
  · rw [q1] at rb
    have rb2 : bits .and .u16 (h : Int) 63488 = 61440 := rb
    clear rb
    have hN : aloneN h = (nNone 64 h) := by
      unfold aloneN
      simp [nbeq, nblt, nble, *]
    unfold Says
    rw [hN]
    clear hN
    go_enter Tryd.func17, Tryd.ntmps17
    have S := SH.start w
    go_wp2_with (first
      | (go_at_call 42; refine (none_c _ h hh _).mono ?_; rintro e wf ⟨rfl, hbf⟩; replace S := S.below hbf; clear hbf)
      | ((with_reducible refine wpl_is ?_); first
        | (refine S.alloc rfl 29 rfl (Cel.iv IV.zero) zeroIV ?_; clear S; intro b1 w1 S)
        | (refine S.storeAll rfl 29 _ _ rfl _ (Cel.iv (nNone 64 h).iv) rfl rfl 0 _ rfl rfl (one_iv _) (szIV _) ?_; clear S; intro w2 S; simp only [List.set_cons_zero] at S)))
    (try simp only [Exit.inBlock, Exit.then])
    refine bodyPost_ret (S.results rfl _ _ rfl 0 _ rfl _ Tryd.underlying29 rfl (szIV _)) rfl ⟨rfl, S.low⟩
  · rw [q1] at rb
    have rb2 : bits .and .u16 (h : Int) 63488 = 63488 := rb
    clear rb
    have hN : aloneN h = (nNone 64 h) := by
      unfold aloneN
      simp [nbeq, nblt, nble, *]
    unfold Says
    rw [hN]
    clear hN
    go_enter Tryd.func17, Tryd.ntmps17
    have S := SH.start w
    go_wp2_with (first
      | (go_at_call 42; refine (none_c _ h hh _).mono ?_; rintro e wf ⟨rfl, hbf⟩; replace S := S.below hbf; clear hbf)
      | ((with_reducible refine wpl_is ?_); first
        | (refine S.alloc rfl 29 rfl (Cel.iv IV.zero) zeroIV ?_; clear S; intro b1 w1 S)
        | (refine S.storeAll rfl 29 _ _ rfl _ (Cel.iv (nNone 64 h).iv) rfl rfl 0 _ rfl rfl (one_iv _) (szIV _) ?_; clear S; intro w2 S; simp only [List.set_cons_zero] at S)))
    (try simp only [Exit.inBlock, Exit.then])
    refine bodyPost_ret (S.results rfl _ _ rfl 0 _ rfl _ Tryd.underlying29 rfl (szIV _)) rfl ⟨rfl, S.low⟩
  · have f93 : fd h 9 3 < 8 := fd_lt h 9 3
    have f92 : fd h 9 3 = h / 512 % 8 := by simp [fd]
    rcases (show fd h 9 3 = 0 ∨ fd h 9 3 = 1 ∨ fd h 9 3 = 2 ∨ fd h 9 3 = 3 by omega) with q2 | q2 | q2 | q2 <;> clear f92
    · rw [q1] at rb
      have rb2 : bits .and .u16 (h : Int) 63488 = 20480 := rb
      clear rb
      have CO : Hid (∀ w1, Calls Tryd.prog 36 #[.int .u16 (h : Int), .int .i64 9, .int .i64 3] w1 fun e w' => e = .returned (.int .i64 0) ∧ Below w1.heap.size w1 w') := fun w1 => by
        have := field_9_3 h hh w1
        rw [q2] at this
        exact this
      have hN : aloneN h = (nReg 49 (fd h 0 3) (fd h 3 3) (fd h 6 3) false) := by
        unfold aloneN byRegN
        simp [memOp, nbeq, nblt, nble, *]
      unfold Says
      rw [hN]
      clear hN
      go_enter Tryd.func17, Tryd.ntmps17
      have S := SH.start w
      go_wp2_with (first
        | ((with_reducible refine wpl_is ?_); refine S.alloc rfl 29 rfl (Cel.iv IV.zero) zeroIV ?_; clear S; intro b1 w1 S))
      refine Upto.start (S := fun w' => SH noZ w w' [(b1, Cel.iv IV.zero)]) 11 (by kernel_rfl) ?_
      replace S := S.drew
      refine Upto.take (i := 0) (v := ?_) rfl (by kernel_rfl) (by kernel_rfl) (by kernel_rfl) (by kernel_rfl) (fun _ _ _ h => h) (Or.inl ⟨by rfl, ?_⟩) (by exact S) ?_
      rotate_left 1
      · intro w hSw
        clear hSw
        go_simp
        try with_reducible rfl
      simp only [Act.put, List.setIfInBounds_toArray, List.set_cons_zero, List.set_cons_succ]
      refine Upto.take (i := 4) (v := ?_) rfl (by kernel_rfl) (by kernel_rfl) (by kernel_rfl) (by kernel_rfl) (fun _ _ _ h => h) (Or.inl ⟨by rfl, ?_⟩) (by exact S) ?_
      rotate_left 1
      · intro w hSw
        clear hSw
        go_simp
        try with_reducible rfl
      simp only [Act.put, List.setIfInBounds_toArray, List.set_cons_zero, List.set_cons_succ]
      refine Upto.take (i := 6) (v := ?_) rfl (by kernel_rfl) (by kernel_rfl) (by kernel_rfl) (by kernel_rfl) (fun _ _ _ h => h) (Or.inl ⟨by rfl, ?_⟩) (by exact S) ?_
      rotate_left 1
      · intro w hSw
        clear hSw
        go_simp
        try with_reducible rfl
      simp only [Act.put, List.setIfInBounds_toArray, List.set_cons_zero, List.set_cons_succ]
      refine Upto.take (i := 8) (v := ?_) rfl (by kernel_rfl) (by kernel_rfl) (by kernel_rfl) (by kernel_rfl) (fun _ _ _ h => h) (Or.inl ⟨by rfl, ?_⟩) (by exact S) ?_
      rotate_left 1
      · intro w hSw
        clear hSw
        go_simp
        try with_reducible rfl
      simp only [Act.put, List.setIfInBounds_toArray, List.set_cons_zero, List.set_cons_succ]
      refine Upto.ready (rs := [1]) (by kernel_rfl) (by simp) ?_
      refine Nexts.cons rfl (by decide) (fun K hK => ?_) Nexts.nil
      go_simp
      go_wp2_with (go_at_call 36; with_reducible refine (CO.out _).mono ?_; rintro e wf ⟨rfl, hbf⟩)
      replace S := S.below hbf
      clear hbf
      refine hK.out _ _ (by exact S) ?_
      clear hK K
      refine Upto.take (i := 2) (v := ?_) rfl (by kernel_rfl) (by kernel_rfl) (by kernel_rfl) (by kernel_rfl) (fun _ _ _ h => h) (Or.inl ⟨by rfl, ?_⟩) (by exact S) ?_
      rotate_left 1
      · intro w hSw
        clear hSw
        go_simp
        try with_reducible rfl
      simp only [Act.put, List.setIfInBounds_toArray, List.set_cons_zero, List.set_cons_succ]
      refine Upto.take (i := 3) (v := _) rfl (by kernel_rfl) (by kernel_rfl) (by kernel_rfl) (by kernel_rfl) (fun _ _ _ h => h) (y_cell (by rfl) _ _ rfl _ 0 (by rfl) (.int .i64 49) (fun w' S' => (HT.next S'.low).mem' 0 49 (by decide) (by decide)) _ Tryd.underlying3 rfl) (by exact S) ?_
      simp only [Act.put, List.setIfInBounds_toArray, List.set_cons_zero, List.set_cons_succ]
      refine Upto.ready (rs := [5]) (by kernel_rfl) (by simp) ?_
      refine Nexts.cons rfl (by decide) (fun K hK => ?_) Nexts.nil
      go_simp
      go_wp2_with (go_at_call 36; with_reducible refine (field_0_3 h hh _).mono ?_; rintro e wf ⟨rfl, hbf⟩)
      replace S := S.below hbf
      clear hbf
      refine hK.out _ _ (by exact S) ?_
      clear hK K
      refine Upto.ready (rs := [7]) (by kernel_rfl) (by simp) ?_
      refine Nexts.cons rfl (by decide) (fun K hK => ?_) Nexts.nil
      go_simp
      go_wp2_with (go_at_call 36; with_reducible refine (field_3_3 h hh _).mono ?_; rintro e wf ⟨rfl, hbf⟩)
      replace S := S.below hbf
      clear hbf
      refine hK.out _ _ (by exact S) ?_
      clear hK K
      refine Upto.ready (rs := [9]) (by kernel_rfl) (by simp) ?_
      refine Nexts.cons rfl (by decide) (fun K hK => ?_) Nexts.nil
      go_simp
      go_wp2_with (go_at_call 36; with_reducible refine (field_6_3 h hh _).mono ?_; rintro e wf ⟨rfl, hbf⟩)
      replace S := S.below hbf
      clear hbf
      refine hK.out _ _ (by exact S) ?_
      clear hK K
      refine Upto.ready (rs := [10]) (by kernel_rfl) (by simp) ?_
      refine Nexts.cons rfl (by decide) (fun K hK => ?_) Nexts.nil
      go_simp
      go_wp2_with (go_at_call 35; refine (reg_c _ _ _ _ _ _).mono ?_; rintro e wf ⟨rfl, hbf⟩)
      replace S := S.below hbf
      clear hbf
      refine hK.out _ _ (by exact S) ?_
      clear hK K
      refine Upto.ready (rs := [11]) (by kernel_rfl) (by simp) ?_
      refine Nexts.last rfl (fun K hK => ?_)
      rw [if_pos (by rfl)]
      refine S.wpStoreAll 29 _ _ rfl _ (Cel.iv (nReg 49 (fd h 0 3) (fd h 3 3) (fd h 6 3) false).iv) rfl rfl 0 _ rfl rfl (one_iv _) (szIV _) ?_
      clear S
      intro w2 S
      simp only [List.set_cons_zero] at S
      refine hK.out _ _ ?_
      simp only [Act.put, List.setIfInBounds_toArray, List.set_cons_zero, List.set_cons_succ]
      clear hK K
      refine Upto.done (by kernel_rfl) ?_ _
      go_wp2
      (try simp only [Exit.inBlock, Exit.then])
      refine bodyPost_ret (S.results rfl _ _ rfl 0 _ rfl _ Tryd.underlying29 rfl (szIV _)) rfl ⟨rfl, S.low⟩
    · rw [q1] at rb
      have rb2 : bits .and .u16 (h : Int) 63488 = 20480 := rb
      clear rb
      have CO : Hid (∀ w1, Calls Tryd.prog 36 #[.int .u16 (h : Int), .int .i64 9, .int .i64 3] w1 fun e w' => e = .returned (.int .i64 1) ∧ Below w1.heap.size w1 w') := fun w1 => by
        have := field_9_3 h hh w1
        rw [q2] at this
        exact this
      have hN : aloneN h = (nReg 51 (fd h 0 3) (fd h 3 3) (fd h 6 3) false) := by
        unfold aloneN byRegN
        simp [memOp, nbeq, nblt, nble, *]
      unfold Says
      rw [hN]
      clear hN
      go_enter Tryd.func17, Tryd.ntmps17
      have S := SH.start w
      go_wp2_with (first
        | ((with_reducible refine wpl_is ?_); refine S.alloc rfl 29 rfl (Cel.iv IV.zero) zeroIV ?_; clear S; intro b1 w1 S))
      refine Upto.start (S := fun w' => SH noZ w w' [(b1, Cel.iv IV.zero)]) 11 (by kernel_rfl) ?_
      replace S := S.drew
      refine Upto.take (i := 0) (v := ?_) rfl (by kernel_rfl) (by kernel_rfl) (by kernel_rfl) (by kernel_rfl) (fun _ _ _ h => h) (Or.inl ⟨by rfl, ?_⟩) (by exact S) ?_
      rotate_left 1
      · intro w hSw
        clear hSw
        go_simp
        try with_reducible rfl
      simp only [Act.put, List.setIfInBounds_toArray, List.set_cons_zero, List.set_cons_succ]
      refine Upto.take (i := 4) (v := ?_) rfl (by kernel_rfl) (by kernel_rfl) (by kernel_rfl) (by kernel_rfl) (fun _ _ _ h => h) (Or.inl ⟨by rfl, ?_⟩) (by exact S) ?_
      rotate_left 1
      · intro w hSw
        clear hSw
        go_simp
        try with_reducible rfl
      simp only [Act.put, List.setIfInBounds_toArray, List.set_cons_zero, List.set_cons_succ]
      refine Upto.take (i := 6) (v := ?_) rfl (by kernel_rfl) (by kernel_rfl) (by kernel_rfl) (by kernel_rfl) (fun _ _ _ h => h) (Or.inl ⟨by rfl, ?_⟩) (by exact S) ?_
      rotate_left 1
      · intro w hSw
        clear hSw
        go_simp
        try with_reducible rfl
      simp only [Act.put, List.setIfInBounds_toArray, List.set_cons_zero, List.set_cons_succ]
      refine Upto.take (i := 8) (v := ?_) rfl (by kernel_rfl) (by kernel_rfl) (by kernel_rfl) (by kernel_rfl) (fun _ _ _ h => h) (Or.inl ⟨by rfl, ?_⟩) (by exact S) ?_
      rotate_left 1
      · intro w hSw
        clear hSw
        go_simp
        try with_reducible rfl
      simp only [Act.put, List.setIfInBounds_toArray, List.set_cons_zero, List.set_cons_succ]
      refine Upto.ready (rs := [1]) (by kernel_rfl) (by simp) ?_
      refine Nexts.cons rfl (by decide) (fun K hK => ?_) Nexts.nil
      go_simp
      go_wp2_with (go_at_call 36; with_reducible refine (CO.out _).mono ?_; rintro e wf ⟨rfl, hbf⟩)
      replace S := S.below hbf
      clear hbf
      refine hK.out _ _ (by exact S) ?_
      clear hK K
      refine Upto.take (i := 2) (v := ?_) rfl (by kernel_rfl) (by kernel_rfl) (by kernel_rfl) (by kernel_rfl) (fun _ _ _ h => h) (Or.inl ⟨by rfl, ?_⟩) (by exact S) ?_
      rotate_left 1
      · intro w hSw
        clear hSw
        go_simp
        try with_reducible rfl
      simp only [Act.put, List.setIfInBounds_toArray, List.set_cons_zero, List.set_cons_succ]
      refine Upto.take (i := 3) (v := _) rfl (by kernel_rfl) (by kernel_rfl) (by kernel_rfl) (by kernel_rfl) (fun _ _ _ h => h) (y_cell (by rfl) _ _ rfl _ 1 (by rfl) (.int .i64 51) (fun w' S' => (HT.next S'.low).mem' 1 51 (by decide) (by decide)) _ Tryd.underlying3 rfl) (by exact S) ?_
      simp only [Act.put, List.setIfInBounds_toArray, List.set_cons_zero, List.set_cons_succ]
      refine Upto.ready (rs := [5]) (by kernel_rfl) (by simp) ?_
      refine Nexts.cons rfl (by decide) (fun K hK => ?_) Nexts.nil
      go_simp
      go_wp2_with (go_at_call 36; with_reducible refine (field_0_3 h hh _).mono ?_; rintro e wf ⟨rfl, hbf⟩)
      replace S := S.below hbf
      clear hbf
      refine hK.out _ _ (by exact S) ?_
      clear hK K
      refine Upto.ready (rs := [7]) (by kernel_rfl) (by simp) ?_
      refine Nexts.cons rfl (by decide) (fun K hK => ?_) Nexts.nil
      go_simp
      go_wp2_with (go_at_call 36; with_reducible refine (field_3_3 h hh _).mono ?_; rintro e wf ⟨rfl, hbf⟩)
      replace S := S.below hbf
      clear hbf
      refine hK.out _ _ (by exact S) ?_
      clear hK K
      refine Upto.ready (rs := [9]) (by kernel_rfl) (by simp) ?_
      refine Nexts.cons rfl (by decide) (fun K hK => ?_) Nexts.nil
      go_simp
      go_wp2_with (go_at_call 36; with_reducible refine (field_6_3 h hh _).mono ?_; rintro e wf ⟨rfl, hbf⟩)
      replace S := S.below hbf
      clear hbf
      refine hK.out _ _ (by exact S) ?_
      clear hK K
      refine Upto.ready (rs := [10]) (by kernel_rfl) (by simp) ?_
      refine Nexts.cons rfl (by decide) (fun K hK => ?_) Nexts.nil
      go_simp
      go_wp2_with (go_at_call 35; refine (reg_c _ _ _ _ _ _).mono ?_; rintro e wf ⟨rfl, hbf⟩)
      replace S := S.below hbf
      clear hbf
      refine hK.out _ _ (by exact S) ?_
      clear hK K
      refine Upto.ready (rs := [11]) (by kernel_rfl) (by simp) ?_
      refine Nexts.last rfl (fun K hK => ?_)
      rw [if_pos (by rfl)]
      refine S.wpStoreAll 29 _ _ rfl _ (Cel.iv (nReg 51 (fd h 0 3) (fd h 3 3) (fd h 6 3) false).iv) rfl rfl 0 _ rfl rfl (one_iv _) (szIV _) ?_
      clear S
      intro w2 S
      simp only [List.set_cons_zero] at S
      refine hK.out _ _ ?_
      simp only [Act.put, List.setIfInBounds_toArray, List.set_cons_zero, List.set_cons_succ]
      clear hK K
      refine Upto.done (by kernel_rfl) ?_ _
      go_wp2
      (try simp only [Exit.inBlock, Exit.then])
      refine bodyPost_ret (S.results rfl _ _ rfl 0 _ rfl _ Tryd.underlying29 rfl (szIV _)) rfl ⟨rfl, S.low⟩
    · rw [q1] at rb
      have rb2 : bits .and .u16 (h : Int) 63488 = 20480 := rb
      clear rb
      have CO : Hid (∀ w1, Calls Tryd.prog 36 #[.int .u16 (h : Int), .int .i64 9, .int .i64 3] w1 fun e w' => e = .returned (.int .i64 2) ∧ Below w1.heap.size w1 w') := fun w1 => by
        have := field_9_3 h hh w1
        rw [q2] at this
        exact this
      have hN : aloneN h = (nReg 50 (fd h 0 3) (fd h 3 3) (fd h 6 3) false) := by
        unfold aloneN byRegN
        simp [memOp, nbeq, nblt, nble, *]
      unfold Says
      rw [hN]
      clear hN
      go_enter Tryd.func17, Tryd.ntmps17
      have S := SH.start w
      go_wp2_with (first
        | ((with_reducible refine wpl_is ?_); refine S.alloc rfl 29 rfl (Cel.iv IV.zero) zeroIV ?_; clear S; intro b1 w1 S))
      refine Upto.start (S := fun w' => SH noZ w w' [(b1, Cel.iv IV.zero)]) 11 (by kernel_rfl) ?_
      replace S := S.drew
      refine Upto.take (i := 0) (v := ?_) rfl (by kernel_rfl) (by kernel_rfl) (by kernel_rfl) (by kernel_rfl) (fun _ _ _ h => h) (Or.inl ⟨by rfl, ?_⟩) (by exact S) ?_
      rotate_left 1
      · intro w hSw
        clear hSw
        go_simp
        try with_reducible rfl
      simp only [Act.put, List.setIfInBounds_toArray, List.set_cons_zero, List.set_cons_succ]
      refine Upto.take (i := 4) (v := ?_) rfl (by kernel_rfl) (by kernel_rfl) (by kernel_rfl) (by kernel_rfl) (fun _ _ _ h => h) (Or.inl ⟨by rfl, ?_⟩) (by exact S) ?_
      rotate_left 1
      · intro w hSw
        clear hSw
        go_simp
        try with_reducible rfl
      simp only [Act.put, List.setIfInBounds_toArray, List.set_cons_zero, List.set_cons_succ]
      refine Upto.take (i := 6) (v := ?_) rfl (by kernel_rfl) (by kernel_rfl) (by kernel_rfl) (by kernel_rfl) (fun _ _ _ h => h) (Or.inl ⟨by rfl, ?_⟩) (by exact S) ?_
      rotate_left 1
      · intro w hSw
        clear hSw
        go_simp
        try with_reducible rfl
      simp only [Act.put, List.setIfInBounds_toArray, List.set_cons_zero, List.set_cons_succ]
      refine Upto.take (i := 8) (v := ?_) rfl (by kernel_rfl) (by kernel_rfl) (by kernel_rfl) (by kernel_rfl) (fun _ _ _ h => h) (Or.inl ⟨by rfl, ?_⟩) (by exact S) ?_
      rotate_left 1
      · intro w hSw
        clear hSw
        go_simp
        try with_reducible rfl
      simp only [Act.put, List.setIfInBounds_toArray, List.set_cons_zero, List.set_cons_succ]
      refine Upto.ready (rs := [1]) (by kernel_rfl) (by simp) ?_
      refine Nexts.cons rfl (by decide) (fun K hK => ?_) Nexts.nil
      go_simp
      go_wp2_with (go_at_call 36; with_reducible refine (CO.out _).mono ?_; rintro e wf ⟨rfl, hbf⟩)
      replace S := S.below hbf
      clear hbf
      refine hK.out _ _ (by exact S) ?_
      clear hK K
      refine Upto.take (i := 2) (v := ?_) rfl (by kernel_rfl) (by kernel_rfl) (by kernel_rfl) (by kernel_rfl) (fun _ _ _ h => h) (Or.inl ⟨by rfl, ?_⟩) (by exact S) ?_
      rotate_left 1
      · intro w hSw
        clear hSw
        go_simp
        try with_reducible rfl
      simp only [Act.put, List.setIfInBounds_toArray, List.set_cons_zero, List.set_cons_succ]
      refine Upto.take (i := 3) (v := _) rfl (by kernel_rfl) (by kernel_rfl) (by kernel_rfl) (by kernel_rfl) (fun _ _ _ h => h) (y_cell (by rfl) _ _ rfl _ 2 (by rfl) (.int .i64 50) (fun w' S' => (HT.next S'.low).mem' 2 50 (by decide) (by decide)) _ Tryd.underlying3 rfl) (by exact S) ?_
      simp only [Act.put, List.setIfInBounds_toArray, List.set_cons_zero, List.set_cons_succ]
      refine Upto.ready (rs := [5]) (by kernel_rfl) (by simp) ?_
      refine Nexts.cons rfl (by decide) (fun K hK => ?_) Nexts.nil
      go_simp
      go_wp2_with (go_at_call 36; with_reducible refine (field_0_3 h hh _).mono ?_; rintro e wf ⟨rfl, hbf⟩)
      replace S := S.below hbf
      clear hbf
      refine hK.out _ _ (by exact S) ?_
      clear hK K
      refine Upto.ready (rs := [7]) (by kernel_rfl) (by simp) ?_
      refine Nexts.cons rfl (by decide) (fun K hK => ?_) Nexts.nil
      go_simp
      go_wp2_with (go_at_call 36; with_reducible refine (field_3_3 h hh _).mono ?_; rintro e wf ⟨rfl, hbf⟩)
      replace S := S.below hbf
      clear hbf
      refine hK.out _ _ (by exact S) ?_
      clear hK K
      refine Upto.ready (rs := [9]) (by kernel_rfl) (by simp) ?_
      refine Nexts.cons rfl (by decide) (fun K hK => ?_) Nexts.nil
      go_simp
      go_wp2_with (go_at_call 36; with_reducible refine (field_6_3 h hh _).mono ?_; rintro e wf ⟨rfl, hbf⟩)
      replace S := S.below hbf
      clear hbf
      refine hK.out _ _ (by exact S) ?_
      clear hK K
      refine Upto.ready (rs := [10]) (by kernel_rfl) (by simp) ?_
      refine Nexts.cons rfl (by decide) (fun K hK => ?_) Nexts.nil
      go_simp
      go_wp2_with (go_at_call 35; refine (reg_c _ _ _ _ _ _).mono ?_; rintro e wf ⟨rfl, hbf⟩)
      replace S := S.below hbf
      clear hbf
      refine hK.out _ _ (by exact S) ?_
      clear hK K
      refine Upto.ready (rs := [11]) (by kernel_rfl) (by simp) ?_
      refine Nexts.last rfl (fun K hK => ?_)
      rw [if_pos (by rfl)]
      refine S.wpStoreAll 29 _ _ rfl _ (Cel.iv (nReg 50 (fd h 0 3) (fd h 3 3) (fd h 6 3) false).iv) rfl rfl 0 _ rfl rfl (one_iv _) (szIV _) ?_
      clear S
      intro w2 S
      simp only [List.set_cons_zero] at S
      refine hK.out _ _ ?_
      simp only [Act.put, List.setIfInBounds_toArray, List.set_cons_zero, List.set_cons_succ]
      clear hK K
      refine Upto.done (by kernel_rfl) ?_ _
      go_wp2
      (try simp only [Exit.inBlock, Exit.then])
      refine bodyPost_ret (S.results rfl _ _ rfl 0 _ rfl _ Tryd.underlying29 rfl (szIV _)) rfl ⟨rfl, S.low⟩
    · rw [q1] at rb
      have rb2 : bits .and .u16 (h : Int) 63488 = 20480 := rb
      clear rb
      have CO : Hid (∀ w1, Calls Tryd.prog 36 #[.int .u16 (h : Int), .int .i64 9, .int .i64 3] w1 fun e w' => e = .returned (.int .i64 3) ∧ Below w1.heap.size w1 w') := fun w1 => by
        have := field_9_3 h hh w1
        rw [q2] at this
        exact this
      have hN : aloneN h = (nReg 47 (fd h 0 3) (fd h 3 3) (fd h 6 3) false) := by
        unfold aloneN byRegN
        simp [memOp, nbeq, nblt, nble, *]
      unfold Says
      rw [hN]
      clear hN
      go_enter Tryd.func17, Tryd.ntmps17
      have S := SH.start w
      go_wp2_with (first
        | ((with_reducible refine wpl_is ?_); refine S.alloc rfl 29 rfl (Cel.iv IV.zero) zeroIV ?_; clear S; intro b1 w1 S))
      refine Upto.start (S := fun w' => SH noZ w w' [(b1, Cel.iv IV.zero)]) 11 (by kernel_rfl) ?_
      replace S := S.drew
      refine Upto.take (i := 0) (v := ?_) rfl (by kernel_rfl) (by kernel_rfl) (by kernel_rfl) (by kernel_rfl) (fun _ _ _ h => h) (Or.inl ⟨by rfl, ?_⟩) (by exact S) ?_
      rotate_left 1
      · intro w hSw
        clear hSw
        go_simp
        try with_reducible rfl
      simp only [Act.put, List.setIfInBounds_toArray, List.set_cons_zero, List.set_cons_succ]
      refine Upto.take (i := 4) (v := ?_) rfl (by kernel_rfl) (by kernel_rfl) (by kernel_rfl) (by kernel_rfl) (fun _ _ _ h => h) (Or.inl ⟨by rfl, ?_⟩) (by exact S) ?_
      rotate_left 1
      · intro w hSw
        clear hSw
        go_simp
        try with_reducible rfl
      simp only [Act.put, List.setIfInBounds_toArray, List.set_cons_zero, List.set_cons_succ]
      refine Upto.take (i := 6) (v := ?_) rfl (by kernel_rfl) (by kernel_rfl) (by kernel_rfl) (by kernel_rfl) (fun _ _ _ h => h) (Or.inl ⟨by rfl, ?_⟩) (by exact S) ?_
      rotate_left 1
      · intro w hSw
        clear hSw
        go_simp
        try with_reducible rfl
      simp only [Act.put, List.setIfInBounds_toArray, List.set_cons_zero, List.set_cons_succ]
      refine Upto.take (i := 8) (v := ?_) rfl (by kernel_rfl) (by kernel_rfl) (by kernel_rfl) (by kernel_rfl) (fun _ _ _ h => h) (Or.inl ⟨by rfl, ?_⟩) (by exact S) ?_
      rotate_left 1
      · intro w hSw
        clear hSw
        go_simp
        try with_reducible rfl
      simp only [Act.put, List.setIfInBounds_toArray, List.set_cons_zero, List.set_cons_succ]
      refine Upto.ready (rs := [1]) (by kernel_rfl) (by simp) ?_
      refine Nexts.cons rfl (by decide) (fun K hK => ?_) Nexts.nil
      go_simp
      go_wp2_with (go_at_call 36; with_reducible refine (CO.out _).mono ?_; rintro e wf ⟨rfl, hbf⟩)
      replace S := S.below hbf
      clear hbf
      refine hK.out _ _ (by exact S) ?_
      clear hK K
      refine Upto.take (i := 2) (v := ?_) rfl (by kernel_rfl) (by kernel_rfl) (by kernel_rfl) (by kernel_rfl) (fun _ _ _ h => h) (Or.inl ⟨by rfl, ?_⟩) (by exact S) ?_
      rotate_left 1
      · intro w hSw
        clear hSw
        go_simp
        try with_reducible rfl
      simp only [Act.put, List.setIfInBounds_toArray, List.set_cons_zero, List.set_cons_succ]
      refine Upto.take (i := 3) (v := _) rfl (by kernel_rfl) (by kernel_rfl) (by kernel_rfl) (by kernel_rfl) (fun _ _ _ h => h) (y_cell (by rfl) _ _ rfl _ 3 (by rfl) (.int .i64 47) (fun w' S' => (HT.next S'.low).mem' 3 47 (by decide) (by decide)) _ Tryd.underlying3 rfl) (by exact S) ?_
      simp only [Act.put, List.setIfInBounds_toArray, List.set_cons_zero, List.set_cons_succ]
      refine Upto.ready (rs := [5]) (by kernel_rfl) (by simp) ?_
      refine Nexts.cons rfl (by decide) (fun K hK => ?_) Nexts.nil
      go_simp
      go_wp2_with (go_at_call 36; with_reducible refine (field_0_3 h hh _).mono ?_; rintro e wf ⟨rfl, hbf⟩)
      replace S := S.below hbf
      clear hbf
      refine hK.out _ _ (by exact S) ?_
      clear hK K
      refine Upto.ready (rs := [7]) (by kernel_rfl) (by simp) ?_
      refine Nexts.cons rfl (by decide) (fun K hK => ?_) Nexts.nil
      go_simp
      go_wp2_with (go_at_call 36; with_reducible refine (field_3_3 h hh _).mono ?_; rintro e wf ⟨rfl, hbf⟩)
      replace S := S.below hbf
      clear hbf
      refine hK.out _ _ (by exact S) ?_
      clear hK K
      refine Upto.ready (rs := [9]) (by kernel_rfl) (by simp) ?_
      refine Nexts.cons rfl (by decide) (fun K hK => ?_) Nexts.nil
      go_simp
      go_wp2_with (go_at_call 36; with_reducible refine (field_6_3 h hh _).mono ?_; rintro e wf ⟨rfl, hbf⟩)
      replace S := S.below hbf
      clear hbf
      refine hK.out _ _ (by exact S) ?_
      clear hK K
      refine Upto.ready (rs := [10]) (by kernel_rfl) (by simp) ?_
      refine Nexts.cons rfl (by decide) (fun K hK => ?_) Nexts.nil
      go_simp
      go_wp2_with (go_at_call 35; refine (reg_c _ _ _ _ _ _).mono ?_; rintro e wf ⟨rfl, hbf⟩)
      replace S := S.below hbf
      clear hbf
      refine hK.out _ _ (by exact S) ?_
      clear hK K
      refine Upto.ready (rs := [11]) (by kernel_rfl) (by simp) ?_
      refine Nexts.last rfl (fun K hK => ?_)
      rw [if_pos (by rfl)]
      refine S.wpStoreAll 29 _ _ rfl _ (Cel.iv (nReg 47 (fd h 0 3) (fd h 3 3) (fd h 6 3) false).iv) rfl rfl 0 _ rfl rfl (one_iv _) (szIV _) ?_
      clear S
      intro w2 S
      simp only [List.set_cons_zero] at S
      refine hK.out _ _ ?_
      simp only [Act.put, List.setIfInBounds_toArray, List.set_cons_zero, List.set_cons_succ]
      clear hK K
      refine Upto.done (by kernel_rfl) ?_ _
      go_wp2
      (try simp only [Exit.inBlock, Exit.then])
      refine bodyPost_ret (S.results rfl _ _ rfl 0 _ rfl _ Tryd.underlying29 rfl (szIV _)) rfl ⟨rfl, S.low⟩
  · have f93 : fd h 9 3 < 8 := fd_lt h 9 3
    have f92 : fd h 9 3 = h / 512 % 8 := by simp [fd]
    rcases (show fd h 9 3 = 4 ∨ fd h 9 3 = 5 ∨ fd h 9 3 = 6 ∨ fd h 9 3 = 7 by omega) with q2 | q2 | q2 | q2 <;> clear f92
    · rw [q1] at rb
      have rb2 : bits .and .u16 (h : Int) 63488 = 22528 := rb
      clear rb
      have CO : Hid (∀ w1, Calls Tryd.prog 36 #[.int .u16 (h : Int), .int .i64 9, .int .i64 3] w1 fun e w' => e = .returned (.int .i64 4) ∧ Below w1.heap.size w1 w') := fun w1 => by
        have := field_9_3 h hh w1
        rw [q2] at this
        exact this
      have hN : aloneN h = (nReg 44 (fd h 0 3) (fd h 3 3) (fd h 6 3) false) := by
        unfold aloneN byRegN
        simp [memOp, nbeq, nblt, nble, *]
      unfold Says
      rw [hN]
      clear hN
      go_enter Tryd.func17, Tryd.ntmps17
      have S := SH.start w
      go_wp2_with (first
        | ((with_reducible refine wpl_is ?_); refine S.alloc rfl 29 rfl (Cel.iv IV.zero) zeroIV ?_; clear S; intro b1 w1 S))
      refine Upto.start (S := fun w' => SH noZ w w' [(b1, Cel.iv IV.zero)]) 11 (by kernel_rfl) ?_
      replace S := S.drew
      refine Upto.take (i := 0) (v := ?_) rfl (by kernel_rfl) (by kernel_rfl) (by kernel_rfl) (by kernel_rfl) (fun _ _ _ h => h) (Or.inl ⟨by rfl, ?_⟩) (by exact S) ?_
      rotate_left 1
      · intro w hSw
        clear hSw
        go_simp
        try with_reducible rfl
      simp only [Act.put, List.setIfInBounds_toArray, List.set_cons_zero, List.set_cons_succ]
      refine Upto.take (i := 4) (v := ?_) rfl (by kernel_rfl) (by kernel_rfl) (by kernel_rfl) (by kernel_rfl) (fun _ _ _ h => h) (Or.inl ⟨by rfl, ?_⟩) (by exact S) ?_
      rotate_left 1
      · intro w hSw
        clear hSw
        go_simp
        try with_reducible rfl
      simp only [Act.put, List.setIfInBounds_toArray, List.set_cons_zero, List.set_cons_succ]
      refine Upto.take (i := 6) (v := ?_) rfl (by kernel_rfl) (by kernel_rfl) (by kernel_rfl) (by kernel_rfl) (fun _ _ _ h => h) (Or.inl ⟨by rfl, ?_⟩) (by exact S) ?_
      rotate_left 1
      · intro w hSw
        clear hSw
        go_simp
        try with_reducible rfl
      simp only [Act.put, List.setIfInBounds_toArray, List.set_cons_zero, List.set_cons_succ]
      refine Upto.take (i := 8) (v := ?_) rfl (by kernel_rfl) (by kernel_rfl) (by kernel_rfl) (by kernel_rfl) (fun _ _ _ h => h) (Or.inl ⟨by rfl, ?_⟩) (by exact S) ?_
      rotate_left 1
      · intro w hSw
        clear hSw
        go_simp
        try with_reducible rfl
      simp only [Act.put, List.setIfInBounds_toArray, List.set_cons_zero, List.set_cons_succ]
      refine Upto.ready (rs := [1]) (by kernel_rfl) (by simp) ?_
      refine Nexts.cons rfl (by decide) (fun K hK => ?_) Nexts.nil
      go_simp
      go_wp2_with (go_at_call 36; with_reducible refine (CO.out _).mono ?_; rintro e wf ⟨rfl, hbf⟩)
      replace S := S.below hbf
      clear hbf
      refine hK.out _ _ (by exact S) ?_
      clear hK K
      refine Upto.take (i := 2) (v := ?_) rfl (by kernel_rfl) (by kernel_rfl) (by kernel_rfl) (by kernel_rfl) (fun _ _ _ h => h) (Or.inl ⟨by rfl, ?_⟩) (by exact S) ?_
      rotate_left 1
      · intro w hSw
        clear hSw
        go_simp
        try with_reducible rfl
      simp only [Act.put, List.setIfInBounds_toArray, List.set_cons_zero, List.set_cons_succ]
      refine Upto.take (i := 3) (v := _) rfl (by kernel_rfl) (by kernel_rfl) (by kernel_rfl) (by kernel_rfl) (fun _ _ _ h => h) (y_cell (by rfl) _ _ rfl _ 4 (by rfl) (.int .i64 44) (fun w' S' => (HT.next S'.low).mem' 4 44 (by decide) (by decide)) _ Tryd.underlying3 rfl) (by exact S) ?_
      simp only [Act.put, List.setIfInBounds_toArray, List.set_cons_zero, List.set_cons_succ]
      refine Upto.ready (rs := [5]) (by kernel_rfl) (by simp) ?_
      refine Nexts.cons rfl (by decide) (fun K hK => ?_) Nexts.nil
      go_simp
      go_wp2_with (go_at_call 36; with_reducible refine (field_0_3 h hh _).mono ?_; rintro e wf ⟨rfl, hbf⟩)
      replace S := S.below hbf
      clear hbf
      refine hK.out _ _ (by exact S) ?_
      clear hK K
      refine Upto.ready (rs := [7]) (by kernel_rfl) (by simp) ?_
      refine Nexts.cons rfl (by decide) (fun K hK => ?_) Nexts.nil
      go_simp
      go_wp2_with (go_at_call 36; with_reducible refine (field_3_3 h hh _).mono ?_; rintro e wf ⟨rfl, hbf⟩)
      replace S := S.below hbf
      clear hbf
      refine hK.out _ _ (by exact S) ?_
      clear hK K
      refine Upto.ready (rs := [9]) (by kernel_rfl) (by simp) ?_
      refine Nexts.cons rfl (by decide) (fun K hK => ?_) Nexts.nil
      go_simp
      go_wp2_with (go_at_call 36; with_reducible refine (field_6_3 h hh _).mono ?_; rintro e wf ⟨rfl, hbf⟩)
      replace S := S.below hbf
      clear hbf
      refine hK.out _ _ (by exact S) ?_
      clear hK K
      refine Upto.ready (rs := [10]) (by kernel_rfl) (by simp) ?_
      refine Nexts.cons rfl (by decide) (fun K hK => ?_) Nexts.nil
      go_simp
      go_wp2_with (go_at_call 35; refine (reg_c _ _ _ _ _ _).mono ?_; rintro e wf ⟨rfl, hbf⟩)
      replace S := S.below hbf
      clear hbf
      refine hK.out _ _ (by exact S) ?_
      clear hK K
      refine Upto.ready (rs := [11]) (by kernel_rfl) (by simp) ?_
      refine Nexts.last rfl (fun K hK => ?_)
      rw [if_pos (by rfl)]
      refine S.wpStoreAll 29 _ _ rfl _ (Cel.iv (nReg 44 (fd h 0 3) (fd h 3 3) (fd h 6 3) false).iv) rfl rfl 0 _ rfl rfl (one_iv _) (szIV _) ?_
      clear S
      intro w2 S
      simp only [List.set_cons_zero] at S
      refine hK.out _ _ ?_
      simp only [Act.put, List.setIfInBounds_toArray, List.set_cons_zero, List.set_cons_succ]
      clear hK K
      refine Upto.done (by kernel_rfl) ?_ _
      go_wp2
      (try simp only [Exit.inBlock, Exit.then])
      refine bodyPost_ret (S.results rfl _ _ rfl 0 _ rfl _ Tryd.underlying29 rfl (szIV _)) rfl ⟨rfl, S.low⟩
    · rw [q1] at rb
      have rb2 : bits .and .u16 (h : Int) 63488 = 22528 := rb
      clear rb
      have CO : Hid (∀ w1, Calls Tryd.prog 36 #[.int .u16 (h : Int), .int .i64 9, .int .i64 3] w1 fun e w' => e = .returned (.int .i64 5) ∧ Below w1.heap.size w1 w') := fun w1 => by
        have := field_9_3 h hh w1
        rw [q2] at this
        exact this
      have hN : aloneN h = (nReg 46 (fd h 0 3) (fd h 3 3) (fd h 6 3) false) := by
        unfold aloneN byRegN
        simp [memOp, nbeq, nblt, nble, *]
      unfold Says
      rw [hN]
      clear hN
      go_enter Tryd.func17, Tryd.ntmps17
      have S := SH.start w
      go_wp2_with (first
        | ((with_reducible refine wpl_is ?_); refine S.alloc rfl 29 rfl (Cel.iv IV.zero) zeroIV ?_; clear S; intro b1 w1 S))
      refine Upto.start (S := fun w' => SH noZ w w' [(b1, Cel.iv IV.zero)]) 11 (by kernel_rfl) ?_
      replace S := S.drew
      refine Upto.take (i := 0) (v := ?_) rfl (by kernel_rfl) (by kernel_rfl) (by kernel_rfl) (by kernel_rfl) (fun _ _ _ h => h) (Or.inl ⟨by rfl, ?_⟩) (by exact S) ?_
      rotate_left 1
      · intro w hSw
        clear hSw
        go_simp
        try with_reducible rfl
      simp only [Act.put, List.setIfInBounds_toArray, List.set_cons_zero, List.set_cons_succ]
      refine Upto.take (i := 4) (v := ?_) rfl (by kernel_rfl) (by kernel_rfl) (by kernel_rfl) (by kernel_rfl) (fun _ _ _ h => h) (Or.inl ⟨by rfl, ?_⟩) (by exact S) ?_
      rotate_left 1
      · intro w hSw
        clear hSw
        go_simp
        try with_reducible rfl
      simp only [Act.put, List.setIfInBounds_toArray, List.set_cons_zero, List.set_cons_succ]
      refine Upto.take (i := 6) (v := ?_) rfl (by kernel_rfl) (by kernel_rfl) (by kernel_rfl) (by kernel_rfl) (fun _ _ _ h => h) (Or.inl ⟨by rfl, ?_⟩) (by exact S) ?_
      rotate_left 1
      · intro w hSw
        clear hSw
        go_simp
        try with_reducible rfl
      simp only [Act.put, List.setIfInBounds_toArray, List.set_cons_zero, List.set_cons_succ]
      refine Upto.take (i := 8) (v := ?_) rfl (by kernel_rfl) (by kernel_rfl) (by kernel_rfl) (by kernel_rfl) (fun _ _ _ h => h) (Or.inl ⟨by rfl, ?_⟩) (by exact S) ?_
      rotate_left 1
      · intro w hSw
        clear hSw
        go_simp
        try with_reducible rfl
      simp only [Act.put, List.setIfInBounds_toArray, List.set_cons_zero, List.set_cons_succ]
      refine Upto.ready (rs := [1]) (by kernel_rfl) (by simp) ?_
      refine Nexts.cons rfl (by decide) (fun K hK => ?_) Nexts.nil
      go_simp
      go_wp2_with (go_at_call 36; with_reducible refine (CO.out _).mono ?_; rintro e wf ⟨rfl, hbf⟩)
      replace S := S.below hbf
      clear hbf
      refine hK.out _ _ (by exact S) ?_
      clear hK K
      refine Upto.take (i := 2) (v := ?_) rfl (by kernel_rfl) (by kernel_rfl) (by kernel_rfl) (by kernel_rfl) (fun _ _ _ h => h) (Or.inl ⟨by rfl, ?_⟩) (by exact S) ?_
      rotate_left 1
      · intro w hSw
        clear hSw
        go_simp
        try with_reducible rfl
      simp only [Act.put, List.setIfInBounds_toArray, List.set_cons_zero, List.set_cons_succ]
      refine Upto.take (i := 3) (v := _) rfl (by kernel_rfl) (by kernel_rfl) (by kernel_rfl) (by kernel_rfl) (fun _ _ _ h => h) (y_cell (by rfl) _ _ rfl _ 5 (by rfl) (.int .i64 46) (fun w' S' => (HT.next S'.low).mem' 5 46 (by decide) (by decide)) _ Tryd.underlying3 rfl) (by exact S) ?_
      simp only [Act.put, List.setIfInBounds_toArray, List.set_cons_zero, List.set_cons_succ]
      refine Upto.ready (rs := [5]) (by kernel_rfl) (by simp) ?_
      refine Nexts.cons rfl (by decide) (fun K hK => ?_) Nexts.nil
      go_simp
      go_wp2_with (go_at_call 36; with_reducible refine (field_0_3 h hh _).mono ?_; rintro e wf ⟨rfl, hbf⟩)
      replace S := S.below hbf
      clear hbf
      refine hK.out _ _ (by exact S) ?_
      clear hK K
      refine Upto.ready (rs := [7]) (by kernel_rfl) (by simp) ?_
      refine Nexts.cons rfl (by decide) (fun K hK => ?_) Nexts.nil
      go_simp
      go_wp2_with (go_at_call 36; with_reducible refine (field_3_3 h hh _).mono ?_; rintro e wf ⟨rfl, hbf⟩)
      replace S := S.below hbf
      clear hbf
      refine hK.out _ _ (by exact S) ?_
      clear hK K
      refine Upto.ready (rs := [9]) (by kernel_rfl) (by simp) ?_
      refine Nexts.cons rfl (by decide) (fun K hK => ?_) Nexts.nil
      go_simp
      go_wp2_with (go_at_call 36; with_reducible refine (field_6_3 h hh _).mono ?_; rintro e wf ⟨rfl, hbf⟩)
      replace S := S.below hbf
      clear hbf
      refine hK.out _ _ (by exact S) ?_
      clear hK K
      refine Upto.ready (rs := [10]) (by kernel_rfl) (by simp) ?_
      refine Nexts.cons rfl (by decide) (fun K hK => ?_) Nexts.nil
      go_simp
      go_wp2_with (go_at_call 35; refine (reg_c _ _ _ _ _ _).mono ?_; rintro e wf ⟨rfl, hbf⟩)
      replace S := S.below hbf
      clear hbf
      refine hK.out _ _ (by exact S) ?_
      clear hK K
      refine Upto.ready (rs := [11]) (by kernel_rfl) (by simp) ?_
      refine Nexts.last rfl (fun K hK => ?_)
      rw [if_pos (by rfl)]
      refine S.wpStoreAll 29 _ _ rfl _ (Cel.iv (nReg 46 (fd h 0 3) (fd h 3 3) (fd h 6 3) false).iv) rfl rfl 0 _ rfl rfl (one_iv _) (szIV _) ?_
      clear S
      intro w2 S
      simp only [List.set_cons_zero] at S
      refine hK.out _ _ ?_
      simp only [Act.put, List.setIfInBounds_toArray, List.set_cons_zero, List.set_cons_succ]
      clear hK K
      refine Upto.done (by kernel_rfl) ?_ _
      go_wp2
      (try simp only [Exit.inBlock, Exit.then])
      refine bodyPost_ret (S.results rfl _ _ rfl 0 _ rfl _ Tryd.underlying29 rfl (szIV _)) rfl ⟨rfl, S.low⟩
    · rw [q1] at rb
      have rb2 : bits .and .u16 (h : Int) 63488 = 22528 := rb
      clear rb
      have CO : Hid (∀ w1, Calls Tryd.prog 36 #[.int .u16 (h : Int), .int .i64 9, .int .i64 3] w1 fun e w' => e = .returned (.int .i64 6) ∧ Below w1.heap.size w1 w') := fun w1 => by
        have := field_9_3 h hh w1
        rw [q2] at this
        exact this
      have hN : aloneN h = (nReg 45 (fd h 0 3) (fd h 3 3) (fd h 6 3) false) := by
        unfold aloneN byRegN
        simp [memOp, nbeq, nblt, nble, *]
      unfold Says
      rw [hN]
      clear hN
      go_enter Tryd.func17, Tryd.ntmps17
      have S := SH.start w
      go_wp2_with (first
        | ((with_reducible refine wpl_is ?_); refine S.alloc rfl 29 rfl (Cel.iv IV.zero) zeroIV ?_; clear S; intro b1 w1 S))
      refine Upto.start (S := fun w' => SH noZ w w' [(b1, Cel.iv IV.zero)]) 11 (by kernel_rfl) ?_
      replace S := S.drew
      refine Upto.take (i := 0) (v := ?_) rfl (by kernel_rfl) (by kernel_rfl) (by kernel_rfl) (by kernel_rfl) (fun _ _ _ h => h) (Or.inl ⟨by rfl, ?_⟩) (by exact S) ?_
      rotate_left 1
      · intro w hSw
        clear hSw
        go_simp
        try with_reducible rfl
      simp only [Act.put, List.setIfInBounds_toArray, List.set_cons_zero, List.set_cons_succ]
      refine Upto.take (i := 4) (v := ?_) rfl (by kernel_rfl) (by kernel_rfl) (by kernel_rfl) (by kernel_rfl) (fun _ _ _ h => h) (Or.inl ⟨by rfl, ?_⟩) (by exact S) ?_
      rotate_left 1
      · intro w hSw
        clear hSw
        go_simp
        try with_reducible rfl
      simp only [Act.put, List.setIfInBounds_toArray, List.set_cons_zero, List.set_cons_succ]
      refine Upto.take (i := 6) (v := ?_) rfl (by kernel_rfl) (by kernel_rfl) (by kernel_rfl) (by kernel_rfl) (fun _ _ _ h => h) (Or.inl ⟨by rfl, ?_⟩) (by exact S) ?_
      rotate_left 1
      · intro w hSw
        clear hSw
        go_simp
        try with_reducible rfl
      simp only [Act.put, List.setIfInBounds_toArray, List.set_cons_zero, List.set_cons_succ]
      refine Upto.take (i := 8) (v := ?_) rfl (by kernel_rfl) (by kernel_rfl) (by kernel_rfl) (by kernel_rfl) (fun _ _ _ h => h) (Or.inl ⟨by rfl, ?_⟩) (by exact S) ?_
      rotate_left 1
      · intro w hSw
        clear hSw
        go_simp
        try with_reducible rfl
      simp only [Act.put, List.setIfInBounds_toArray, List.set_cons_zero, List.set_cons_succ]
      refine Upto.ready (rs := [1]) (by kernel_rfl) (by simp) ?_
      refine Nexts.cons rfl (by decide) (fun K hK => ?_) Nexts.nil
      go_simp
      go_wp2_with (go_at_call 36; with_reducible refine (CO.out _).mono ?_; rintro e wf ⟨rfl, hbf⟩)
      replace S := S.below hbf
      clear hbf
      refine hK.out _ _ (by exact S) ?_
      clear hK K
      refine Upto.take (i := 2) (v := ?_) rfl (by kernel_rfl) (by kernel_rfl) (by kernel_rfl) (by kernel_rfl) (fun _ _ _ h => h) (Or.inl ⟨by rfl, ?_⟩) (by exact S) ?_
      rotate_left 1
      · intro w hSw
        clear hSw
        go_simp
        try with_reducible rfl
      simp only [Act.put, List.setIfInBounds_toArray, List.set_cons_zero, List.set_cons_succ]
      refine Upto.take (i := 3) (v := _) rfl (by kernel_rfl) (by kernel_rfl) (by kernel_rfl) (by kernel_rfl) (fun _ _ _ h => h) (y_cell (by rfl) _ _ rfl _ 6 (by rfl) (.int .i64 45) (fun w' S' => (HT.next S'.low).mem' 6 45 (by decide) (by decide)) _ Tryd.underlying3 rfl) (by exact S) ?_
      simp only [Act.put, List.setIfInBounds_toArray, List.set_cons_zero, List.set_cons_succ]
      refine Upto.ready (rs := [5]) (by kernel_rfl) (by simp) ?_
      refine Nexts.cons rfl (by decide) (fun K hK => ?_) Nexts.nil
      go_simp
      go_wp2_with (go_at_call 36; with_reducible refine (field_0_3 h hh _).mono ?_; rintro e wf ⟨rfl, hbf⟩)
      replace S := S.below hbf
      clear hbf
      refine hK.out _ _ (by exact S) ?_
      clear hK K
      refine Upto.ready (rs := [7]) (by kernel_rfl) (by simp) ?_
      refine Nexts.cons rfl (by decide) (fun K hK => ?_) Nexts.nil
      go_simp
      go_wp2_with (go_at_call 36; with_reducible refine (field_3_3 h hh _).mono ?_; rintro e wf ⟨rfl, hbf⟩)
      replace S := S.below hbf
      clear hbf
      refine hK.out _ _ (by exact S) ?_
      clear hK K
      refine Upto.ready (rs := [9]) (by kernel_rfl) (by simp) ?_
      refine Nexts.cons rfl (by decide) (fun K hK => ?_) Nexts.nil
      go_simp
      go_wp2_with (go_at_call 36; with_reducible refine (field_6_3 h hh _).mono ?_; rintro e wf ⟨rfl, hbf⟩)
      replace S := S.below hbf
      clear hbf
      refine hK.out _ _ (by exact S) ?_
      clear hK K
      refine Upto.ready (rs := [10]) (by kernel_rfl) (by simp) ?_
      refine Nexts.cons rfl (by decide) (fun K hK => ?_) Nexts.nil
      go_simp
      go_wp2_with (go_at_call 35; refine (reg_c _ _ _ _ _ _).mono ?_; rintro e wf ⟨rfl, hbf⟩)
      replace S := S.below hbf
      clear hbf
      refine hK.out _ _ (by exact S) ?_
      clear hK K
      refine Upto.ready (rs := [11]) (by kernel_rfl) (by simp) ?_
      refine Nexts.last rfl (fun K hK => ?_)
      rw [if_pos (by rfl)]
      refine S.wpStoreAll 29 _ _ rfl _ (Cel.iv (nReg 45 (fd h 0 3) (fd h 3 3) (fd h 6 3) false).iv) rfl rfl 0 _ rfl rfl (one_iv _) (szIV _) ?_
      clear S
      intro w2 S
      simp only [List.set_cons_zero] at S
      refine hK.out _ _ ?_
      simp only [Act.put, List.setIfInBounds_toArray, List.set_cons_zero, List.set_cons_succ]
      clear hK K
      refine Upto.done (by kernel_rfl) ?_ _
      go_wp2
      (try simp only [Exit.inBlock, Exit.then])
      refine bodyPost_ret (S.results rfl _ _ rfl 0 _ rfl _ Tryd.underlying29 rfl (szIV _)) rfl ⟨rfl, S.low⟩
    · rw [q1] at rb
      have rb2 : bits .and .u16 (h : Int) 63488 = 22528 := rb
      clear rb
      have CO : Hid (∀ w1, Calls Tryd.prog 36 #[.int .u16 (h : Int), .int .i64 9, .int .i64 3] w1 fun e w' => e = .returned (.int .i64 7) ∧ Below w1.heap.size w1 w') := fun w1 => by
        have := field_9_3 h hh w1
        rw [q2] at this
        exact this
      have hN : aloneN h = (nReg 48 (fd h 0 3) (fd h 3 3) (fd h 6 3) false) := by
        unfold aloneN byRegN
        simp [memOp, nbeq, nblt, nble, *]
      unfold Says
      rw [hN]
      clear hN
      go_enter Tryd.func17, Tryd.ntmps17
      have S := SH.start w
      go_wp2_with (first
        | ((with_reducible refine wpl_is ?_); refine S.alloc rfl 29 rfl (Cel.iv IV.zero) zeroIV ?_; clear S; intro b1 w1 S))
      refine Upto.start (S := fun w' => SH noZ w w' [(b1, Cel.iv IV.zero)]) 11 (by kernel_rfl) ?_
      replace S := S.drew
      refine Upto.take (i := 0) (v := ?_) rfl (by kernel_rfl) (by kernel_rfl) (by kernel_rfl) (by kernel_rfl) (fun _ _ _ h => h) (Or.inl ⟨by rfl, ?_⟩) (by exact S) ?_
      rotate_left 1
      · intro w hSw
        clear hSw
        go_simp
        try with_reducible rfl
      simp only [Act.put, List.setIfInBounds_toArray, List.set_cons_zero, List.set_cons_succ]
      refine Upto.take (i := 4) (v := ?_) rfl (by kernel_rfl) (by kernel_rfl) (by kernel_rfl) (by kernel_rfl) (fun _ _ _ h => h) (Or.inl ⟨by rfl, ?_⟩) (by exact S) ?_
      rotate_left 1
      · intro w hSw
        clear hSw
        go_simp
        try with_reducible rfl
      simp only [Act.put, List.setIfInBounds_toArray, List.set_cons_zero, List.set_cons_succ]
      refine Upto.take (i := 6) (v := ?_) rfl (by kernel_rfl) (by kernel_rfl) (by kernel_rfl) (by kernel_rfl) (fun _ _ _ h => h) (Or.inl ⟨by rfl, ?_⟩) (by exact S) ?_
      rotate_left 1
      · intro w hSw
        clear hSw
        go_simp
        try with_reducible rfl
      simp only [Act.put, List.setIfInBounds_toArray, List.set_cons_zero, List.set_cons_succ]
      refine Upto.take (i := 8) (v := ?_) rfl (by kernel_rfl) (by kernel_rfl) (by kernel_rfl) (by kernel_rfl) (fun _ _ _ h => h) (Or.inl ⟨by rfl, ?_⟩) (by exact S) ?_
      rotate_left 1
      · intro w hSw
        clear hSw
        go_simp
        try with_reducible rfl
      simp only [Act.put, List.setIfInBounds_toArray, List.set_cons_zero, List.set_cons_succ]
      refine Upto.ready (rs := [1]) (by kernel_rfl) (by simp) ?_
      refine Nexts.cons rfl (by decide) (fun K hK => ?_) Nexts.nil
      go_simp
      go_wp2_with (go_at_call 36; with_reducible refine (CO.out _).mono ?_; rintro e wf ⟨rfl, hbf⟩)
      replace S := S.below hbf
      clear hbf
      refine hK.out _ _ (by exact S) ?_
      clear hK K
      refine Upto.take (i := 2) (v := ?_) rfl (by kernel_rfl) (by kernel_rfl) (by kernel_rfl) (by kernel_rfl) (fun _ _ _ h => h) (Or.inl ⟨by rfl, ?_⟩) (by exact S) ?_
      rotate_left 1
      · intro w hSw
        clear hSw
        go_simp
        try with_reducible rfl
      simp only [Act.put, List.setIfInBounds_toArray, List.set_cons_zero, List.set_cons_succ]
      refine Upto.take (i := 3) (v := _) rfl (by kernel_rfl) (by kernel_rfl) (by kernel_rfl) (by kernel_rfl) (fun _ _ _ h => h) (y_cell (by rfl) _ _ rfl _ 7 (by rfl) (.int .i64 48) (fun w' S' => (HT.next S'.low).mem' 7 48 (by decide) (by decide)) _ Tryd.underlying3 rfl) (by exact S) ?_
      simp only [Act.put, List.setIfInBounds_toArray, List.set_cons_zero, List.set_cons_succ]
      refine Upto.ready (rs := [5]) (by kernel_rfl) (by simp) ?_
      refine Nexts.cons rfl (by decide) (fun K hK => ?_) Nexts.nil
      go_simp
      go_wp2_with (go_at_call 36; with_reducible refine (field_0_3 h hh _).mono ?_; rintro e wf ⟨rfl, hbf⟩)
      replace S := S.below hbf
      clear hbf
      refine hK.out _ _ (by exact S) ?_
      clear hK K
      refine Upto.ready (rs := [7]) (by kernel_rfl) (by simp) ?_
      refine Nexts.cons rfl (by decide) (fun K hK => ?_) Nexts.nil
      go_simp
      go_wp2_with (go_at_call 36; with_reducible refine (field_3_3 h hh _).mono ?_; rintro e wf ⟨rfl, hbf⟩)
      replace S := S.below hbf
      clear hbf
      refine hK.out _ _ (by exact S) ?_
      clear hK K
      refine Upto.ready (rs := [9]) (by kernel_rfl) (by simp) ?_
      refine Nexts.cons rfl (by decide) (fun K hK => ?_) Nexts.nil
      go_simp
      go_wp2_with (go_at_call 36; with_reducible refine (field_6_3 h hh _).mono ?_; rintro e wf ⟨rfl, hbf⟩)
      replace S := S.below hbf
      clear hbf
      refine hK.out _ _ (by exact S) ?_
      clear hK K
      refine Upto.ready (rs := [10]) (by kernel_rfl) (by simp) ?_
      refine Nexts.cons rfl (by decide) (fun K hK => ?_) Nexts.nil
      go_simp
      go_wp2_with (go_at_call 35; refine (reg_c _ _ _ _ _ _).mono ?_; rintro e wf ⟨rfl, hbf⟩)
      replace S := S.below hbf
      clear hbf
      refine hK.out _ _ (by exact S) ?_
      clear hK K
      refine Upto.ready (rs := [11]) (by kernel_rfl) (by simp) ?_
      refine Nexts.last rfl (fun K hK => ?_)
      rw [if_pos (by rfl)]
      refine S.wpStoreAll 29 _ _ rfl _ (Cel.iv (nReg 48 (fd h 0 3) (fd h 3 3) (fd h 6 3) false).iv) rfl rfl 0 _ rfl rfl (one_iv _) (szIV _) ?_
      clear S
      intro w2 S
      simp only [List.set_cons_zero] at S
      refine hK.out _ _ ?_
      simp only [Act.put, List.setIfInBounds_toArray, List.set_cons_zero, List.set_cons_succ]
      clear hK K
      refine Upto.done (by kernel_rfl) ?_ _
      go_wp2
      (try simp only [Exit.inBlock, Exit.then])
      refine bodyPost_ret (S.results rfl _ _ rfl 0 _ rfl _ Tryd.underlying29 rfl (szIV _)) rfl ⟨rfl, S.low⟩
end Go.Proofs.YtblcklknlfofgaaDoor
