/- Stage 9: the document: wide words, by their rows. -/
import Derived.Test.YtigmekboikgoaaaWg1
namespace Go.Proofs.Ytigmekboikgoaaa
open Go.ChangeShapes Go.WideShapes Go.ChangeAt Go.RowKit
set_option linter.unusedVariables false
set_option linter.unusedSimpArgs false

set_option maxHeartbeats 20000000 in
set_option maxRecDepth 100000 in
theorem rwords_g (h k g11 g15 g9 gb g8 g12 g6 x : Nat) (b : Bool) (X : IV) (k11 : (h : Int) / 2048 = (g11 : Int)) (k15 : (k : Int) / 32768 = (g15 : Int)) (k9 : (h : Int) / 512 = (g9 : Int)) (kb : bits .and .u16 (g9 : Int) 1 = (gb : Int)) (k8 : (h : Int) / 256 = (g8 : Int)) (k12 : (k : Int) / 4096 = (g12 : Int)) (k6 : bits .and .u16 ((h : Int) / 64) 1 = (g6 : Int)) (b15 : g15 < 2) (bb : gb < 2) (b6 : g6 < 2) (e98 : g9 = g8 / 2) (e11 : g11 = g8 / 8)
    (Cmodified : g11 = 30 ∧ g15 = 0 ∧ gb = 0 → ∀ w, Calls Try.prog 26 #[.int .u16 h, .int .u16 k] w fun e w' => Two w X x e w') (Cnumbers : g11 = 30 ∧ g15 = 0 ∧ gb = 1 → ∀ w, Calls Try.prog 27 #[.int .u16 h, .int .u16 k] w fun e w' => Two w X x e w')
    (Cbranch : g11 = 30 ∧ g15 = 1 → ∀ w, Calls Try.prog 28 #[.int .u16 h, .int .u16 k, .bool b] w fun e w' => Two w X x e w') (Cshifted : g9 = 117 → ∀ w, Calls Try.prog 29 #[.int .u16 h, .int .u16 k] w fun e w' => Two w X x e w')
    (Cunary : g8 = 250 ∧ g12 = 15 → ∀ w, Calls Try.prog 30 #[.int .u16 h, .int .u16 k] w fun e w' => Two w X x e w') (Cmultiply : g8 = 251 → ∀ w, Calls Try.prog 31 #[.int .u16 h, .int .u16 k] w fun e w' => Two w X x e w')
    (Cmemory : g9 = 124 → ∀ w, Calls Try.prog 32 #[.int .u16 h, .int .u16 k] w fun e w' => Two w X x e w') (Cmany : g9 = 116 ∧ g6 = 0 → ∀ w, Calls Try.prog 33 #[.int .u16 h, .int .u16 k] w fun e w' => Two w X x e w')
    (HZ : ((g9 = 116 ∧ g6 = 1) ∨ (g8 = 250 ∧ g12 ≠ 15) ∨ (g11 ≠ 30 ∧ g9 ≠ 117 ∧ g9 ≠ 116 ∧ g9 ≠ 124 ∧ g8 ≠ 250 ∧ g8 ≠ 251)) → fin IV.zero false x = X)
    (w : World) : Calls Try.prog 14 #[.int .u16 h, .int .u16 k, .bool b] w fun e w' => Two w X x e w' := by
  rcases (show g11 = 30 ∨ g11 ≠ 30 by omega) with rfl | n11
  focus
    replace k11 : (h : Int) / 2048 = 30 := k11
    rcases (show g15 = 0 ∨ g15 = 1 by omega) with rfl | rfl
    focus
      replace k15 : (k : Int) / 32768 = 0 := k15
      rcases (show gb = 0 ∨ gb = 1 by omega) with rfl | rfl
      focus
        replace kb : bits .and .u16 (g9 : Int) 1 = 0 := kb
        have Q : Hid _ := Cmodified ⟨rfl, rfl, rfl⟩
        clear Cmodified Cnumbers Cbranch Cshifted Cunary Cmultiply Cmemory Cmany HZ
        clear e98 e11
      rotate_left 1
      focus
        replace kb : bits .and .u16 (g9 : Int) 1 = 1 := kb
        have Q : Hid _ := Cnumbers ⟨rfl, rfl, rfl⟩
        clear Cmodified Cnumbers Cbranch Cshifted Cunary Cmultiply Cmemory Cmany HZ
        clear e98 e11
      rotate_left 1
    rotate_left 2
    focus
      replace k15 : (k : Int) / 32768 = 1 := k15
      have Q : Hid _ := Cbranch ⟨rfl, rfl⟩
      clear Cmodified Cnumbers Cbranch Cshifted Cunary Cmultiply Cmemory Cmany HZ
      clear e98 e11
    rotate_left 1
  rotate_left 3
  focus
    have m11 : ((g11 : Int) == 30) = false := by simp; omega
    rcases (show g9 = 117 ∨ g9 = 124 ∨ g9 = 116 ∨ g8 = 250 ∨ g8 = 251 ∨ (g9 ≠ 117 ∧ g9 ≠ 116 ∧ g9 ≠ 124 ∧ g8 ≠ 250 ∧ g8 ≠ 251) by omega) with c | c | c | c | c | ⟨c1, c2, c3, c4, c5⟩
    focus
      subst c
      replace k9 : (h : Int) / 512 = 117 := k9
      have Q : Hid _ := Cshifted rfl
      clear Cmodified Cnumbers Cbranch Cshifted Cunary Cmultiply Cmemory Cmany HZ
      clear n11 e98 e11
    rotate_left 1
    focus
      subst c
      replace k9 : (h : Int) / 512 = 124 := k9
      have m8250 : ((g8 : Int) == 250) = false := by simp; omega
      have m8251 : ((g8 : Int) == 251) = false := by simp; omega
      have Q : Hid _ := Cmemory rfl
      clear Cmodified Cnumbers Cbranch Cshifted Cunary Cmultiply Cmemory Cmany HZ
      clear n11 e98 e11
    rotate_left 1
    focus
      subst c
      replace k9 : (h : Int) / 512 = 116 := k9
      have m8250 : ((g8 : Int) == 250) = false := by simp; omega
      have m8251 : ((g8 : Int) == 251) = false := by simp; omega
      rcases (show g6 = 0 ∨ g6 = 1 by omega) with rfl | rfl
      focus
        replace k6 : bits .and .u16 ((h : Int) / 64) 1 = 0 := k6
        have Q : Hid _ := Cmany ⟨rfl, rfl⟩
        clear Cmodified Cnumbers Cbranch Cshifted Cunary Cmultiply Cmemory Cmany HZ
        clear n11 e98 e11
      rotate_left 1
      focus
        replace k6 : bits .and .u16 ((h : Int) / 64) 1 = 1 := k6
        have HX : Hid (fin IV.zero false x = X) := HZ (.inl ⟨rfl, rfl⟩)
        clear Cmodified Cnumbers Cbranch Cshifted Cunary Cmultiply Cmemory Cmany HZ
        clear n11 e98 e11
      rotate_left 1
    rotate_left 2
    focus
      subst c
      replace k8 : (h : Int) / 256 = 250 := k8
      have m9117 : ((g9 : Int) == 117) = false := by simp; omega
      have m9124 : ((g9 : Int) == 124) = false := by simp; omega
      have m9116 : ((g9 : Int) == 116) = false := by simp; omega
      rcases (show g12 = 15 ∨ g12 ≠ 15 by omega) with rfl | n12
      focus
        replace k12 : (k : Int) / 4096 = 15 := k12
        have Q : Hid _ := Cunary ⟨rfl, rfl⟩
        clear Cmodified Cnumbers Cbranch Cshifted Cunary Cmultiply Cmemory Cmany HZ
        clear n11 e98 e11
      rotate_left 1
      focus
        have m12 : ((g12 : Int) == 15) = false := by simp; omega
        have HX : Hid (fin IV.zero false x = X) := HZ (.inr (.inl ⟨rfl, n12⟩))
        clear Cmodified Cnumbers Cbranch Cshifted Cunary Cmultiply Cmemory Cmany HZ
        clear n11 e98 e11
        clear n12
      rotate_left 1
    rotate_left 2
    focus
      subst c
      replace k8 : (h : Int) / 256 = 251 := k8
      have m9117 : ((g9 : Int) == 117) = false := by simp; omega
      have m9124 : ((g9 : Int) == 124) = false := by simp; omega
      have m9116 : ((g9 : Int) == 116) = false := by simp; omega
      have Q : Hid _ := Cmultiply rfl
      clear Cmodified Cnumbers Cbranch Cshifted Cunary Cmultiply Cmemory Cmany HZ
      clear n11 e98 e11
    rotate_left 1
    focus
      have m8250 : ((g8 : Int) == 250) = false := by simp; omega
      have m8251 : ((g8 : Int) == 251) = false := by simp; omega
      have m9117 : ((g9 : Int) == 117) = false := by simp; omega
      have m9124 : ((g9 : Int) == 124) = false := by simp; omega
      have m9116 : ((g9 : Int) == 116) = false := by simp; omega
      have HX : Hid (fin IV.zero false x = X) := HZ (.inr (.inr ⟨n11, c1, c2, c3, c4, c5⟩))
      clear Cmodified Cnumbers Cbranch Cshifted Cunary Cmultiply Cmemory Cmany HZ
      clear n11 e98 e11
      clear c1 c2 c3 c4 c5
    rotate_left 1
  rotate_left 8
  all_goals
    go_enter Try.func14, Try.ntmps14
    have S := SH.start w
    go_wp2_with (first
      | ((with_reducible refine wpl_isDst 6 ?_); (first | refine S.alloc rfl 30 rfl (Cel.any zeroL) zeroA ?_ | refine SH.alloc (L := []) S rfl 30 rfl (Cel.any zeroL) zeroA ?_); clear S; intro b6 w6 S)
      | (go_at_call 26; refine (Q.out _).mono ?_; rintro e wf ⟨i, ok, rfl, HX, hbf⟩; replace HX : Hid _ := HX; replace S := S.below hbf; clear hbf)
      | ((with_reducible refine wpl_isStoreAt 6 ?_); refine S.storeA rfl 30 _ _ rfl b6 _ rfl rfl 0 _ rfl rfl rfl (szA _ rfl) ?_; clear S; intro w2 S; (simp only [Cel.cells, IV.cellsL, zeroL, List.set_cons_zero, List.set_cons_succ, startI, secondI, noneI, startI] at S))
      | (go_at_call 27; refine (Q.out _).mono ?_; rintro e wf ⟨i, ok, rfl, HX, hbf⟩; replace HX : Hid _ := HX; replace S := S.below hbf; clear hbf)
      | (go_at_call 28; refine (Q.out _).mono ?_; rintro e wf ⟨i, ok, rfl, HX, hbf⟩; replace HX : Hid _ := HX; replace S := S.below hbf; clear hbf)
      | (go_at_call 29; refine (Q.out _).mono ?_; rintro e wf ⟨i, ok, rfl, HX, hbf⟩; replace HX : Hid _ := HX; replace S := S.below hbf; clear hbf)
      | (go_at_call 32; refine (Q.out _).mono ?_; rintro e wf ⟨i, ok, rfl, HX, hbf⟩; replace HX : Hid _ := HX; replace S := S.below hbf; clear hbf)
      | (go_at_call 33; refine (Q.out _).mono ?_; rintro e wf ⟨i, ok, rfl, HX, hbf⟩; replace HX : Hid _ := HX; replace S := S.below hbf; clear hbf)
      | (go_at_call 30; refine (Q.out _).mono ?_; rintro e wf ⟨i, ok, rfl, HX, hbf⟩; replace HX : Hid _ := HX; replace S := S.below hbf; clear hbf)
      | (go_at_call 31; refine (Q.out _).mono ?_; rintro e wf ⟨i, ok, rfl, HX, hbf⟩; replace HX : Hid _ := HX; replace S := S.below hbf; clear hbf))
    (try simp only [Exit.inBlock, Exit.then])
    refine bodyPost_ret (S.results2 rfl _ _ rfl 0 _ rfl _ Try.underlying30 rfl (szA _ rfl)) rfl ?_
    exact ⟨_, _, rfl, HX.out, S.low⟩
end Go.Proofs.Ytigmekboikgoaaa
