/- Stage 9: the document: modified. -/
import Derived.Test.YtigmekboikgoaaaWg6
namespace Go.Proofs.Ytigmekboikgoaaa
open Go.ChangeShapes Go.WideShapes Go.ChangeAt Go.RowKit
set_option linter.unusedVariables false
set_option linter.unusedSimpArgs false

set_option maxHeartbeats 20000000 in
set_option maxRecDepth 100000 in
theorem rmod_g (h k x g5 gd gn g4 gi gm gl q1 N : Nat) (s okF ok mj c : Bool) (J X : IV) (v : Int) (k5 : bits .and .u16 ((h : Int) / 32) 15 = (g5 : Int)) (k0 : bits .and .u16 (h : Int) 15 = (gn : Int)) (k4 : bits .and .u16 ((h : Int) / 16) 1 = (g4 : Int)) (ki : bits .and .u16 ((h : Int) / 1024) 1 = (gi : Int)) (k8 : bits .and .u16 ((k : Int) / 256) 15 = (gd : Int)) (km : bits .and .u16 ((k : Int) / 4096) 7 = (gm : Int)) (kl : bits .and .u16 (k : Int) 255 = (gl : Int))
    (b5 : g5 < 16) (bd : gd < 16) (bn : gn < 16) (b4 : g4 < 2) (bi : gi < 2) (bm : gm < 8) (bl : gl < 256) (hs : ((g4 : Int) == 1) = s) (j1 : bits .or .u32 ((gi : Int) * 2048) ((gm : Int) * 256) = (q1 : Int)) (j2 : bits .or .u32 (q1 : Int) (gl : Int) = (N : Int)) (bN : N < 4096)
    (CF : ∀ w, Calls Try.prog 59 #[.int .i64 g5, .int .i64 gd, .int .i64 gn, .bool s] w fun e w' => e = .returned (.tuple #[J.val, .bool okF]) ∧ Below w.heap.size w w')
    (CE : ∀ w, Calls Try.prog 18 #[.int .u32 N, .bool false] w fun e w' => e = .returned (.tuple #[.int .u32 v, .bool c, .bool ok]) ∧ Below w.heap.size w w')
    (CM : ∀ w, Calls Try.prog 60 #[J.val, .bool true] w fun e w' => e = .returned (.bool mj) ∧ Below w.heap.size w w')
    (H1 : okF = false → fin J false x = X) (H2 : okF = true → (ok = false ∨ mj = false) → fin (startI 65 0 0) true x = X) (H4 : okF = true → ok = true → mj = true → N < 1024 → fin { J with imm := v, useImm := true } true x = X) (H5 : okF = true → ok = true → mj = true → 1024 ≤ N → fin { J with imm := v, useImm := true, a := 1 } true x = X)
    (w : World) : Calls Try.prog 26 #[.int .u16 h, .int .u16 k] w fun e w' => Two w X x e w' := by
  have QF : Hid _ := CF
  have QE : Hid _ := CE
  have QM : Hid _ := CM
  have e1 : N < 1024 → bits .and .u32 ((N : Int) / 1024) 3 = 0 := fun h => by rw [show (N : Int) / 1024 = 0 by omega]; decide +kernel
  have e2 : 1024 ≤ N → ∃ t : Int, bits .and .u32 ((N : Int) / 1024) 3 = t ∧ (t != 0) = true := fun h => by
    refine ⟨_, rfl, ?_⟩
    rcases (show (N : Int) / 1024 = 1 ∨ (N : Int) / 1024 = 2 ∨ (N : Int) / 1024 = 3 by omega) with e | e | e <;> rw [e] <;> decide +kernel
  clear CF CE CM
  cases okF
  focus
    have HX : Hid _ := H1 rfl
    clear H1 H2 H4 H5 e1 e2
  rotate_left 1
  focus
    cases ok
    focus
      have HX : Hid _ := H2 rfl (.inl rfl)
      clear H1 H2 H4 H5 e1 e2
    rotate_left 1
    focus
      cases mj
      focus
        have HX : Hid _ := H2 rfl (.inr rfl)
        clear H1 H2 H4 H5 e1 e2
      rotate_left 1
      focus
        rcases Nat.lt_or_ge N 1024 with hq | hq
        focus
          have e3 := e1 hq
          have HX : Hid _ := H4 rfl rfl rfl hq
          clear H1 H2 H4 H5 e1 e2
        rotate_left 1
        focus
          obtain ⟨t, e3, e4⟩ := e2 hq
          have HX : Hid _ := H5 rfl rfl rfl hq
          clear H1 H2 H4 H5 e1 e2
        rotate_left 1
      rotate_left 2
    rotate_left 3
  rotate_left 4
  all_goals
    go_enter Try.func26, Try.ntmps26
    have S := SH.start w
    go_wp2_with (first
      | ((with_reducible refine wpl_isDst 4 ?_); (first | refine S.alloc rfl 30 rfl (Cel.any zeroL) zeroA ?_ | refine SH.alloc (L := []) S rfl 30 rfl (Cel.any zeroL) zeroA ?_); clear S; intro b4 w4 S)
      | (go_at_call 59; refine (QF.out _).mono ?_; rintro e wf ⟨rfl, hbf⟩; replace S := S.below hbf; clear hbf)
      | ((with_reducible refine wpl_isDst 6 ?_); (first | refine S.alloc rfl 30 rfl (Cel.any zeroL) zeroA ?_ | refine SH.alloc (L := []) S rfl 30 rfl (Cel.any zeroL) zeroA ?_); clear S; intro b6 w6 S)
      | ((with_reducible refine wpl_isStoreAt 6 ?_); (first | refine S.storeA rfl 30 _ _ rfl b6 _ rfl rfl 0 _ rfl rfl rfl (szA _ rfl) ?_ | refine S.storeA rfl 30 _ _ rfl b6 _ rfl rfl 1 _ rfl rfl rfl (szA _ rfl) ?_); clear S; intro w2 S; (simp only [Cel.cells, IV.cellsL, zeroL, List.set_cons_zero, List.set_cons_succ, startI, secondI, noneI, startI] at S))
      | ((with_reducible refine wpl_isDst 33 ?_); (first | refine S.ldAll 30 _ rfl b6 rfl 0 _ rfl _ Try.underlying30 rfl (szA _ rfl) rfl ?_ | refine S.ldAll 30 _ rfl b6 rfl 1 _ rfl _ Try.underlying30 rfl (szA _ rfl) rfl ?_))
      | ((with_reducible refine wpl_isStoreAt 4 ?_); (first | refine S.storeA rfl 30 _ _ rfl b4 _ rfl rfl 0 _ rfl rfl rfl (szA _ rfl) ?_ | refine S.storeA rfl 30 _ _ rfl b4 _ rfl rfl 1 _ rfl rfl rfl (szA _ rfl) ?_); clear S; intro w2 S; (simp only [Cel.cells, IV.cellsL, zeroL, List.set_cons_zero, List.set_cons_succ, startI, secondI, noneI, startI] at S))
      | (go_at_call 18; refine (QE.out _).mono ?_; rintro e wf ⟨rfl, hbf⟩; replace S := S.below hbf; clear hbf)
      | ((with_reducible refine wpl_isDst 58 ?_); first | (refine wpl_skip rfl ?_) | (first | refine S.ldAll 30 _ rfl b6 rfl 0 _ rfl _ Try.underlying30 rfl (szA _ rfl) rfl ?_ | refine S.ldAll 30 _ rfl b6 rfl 1 _ rfl _ Try.underlying30 rfl (szA _ rfl) rfl ?_))
      | (go_at_call 60; refine (QM.out _).mono ?_; rintro e wf ⟨rfl, hbf⟩; replace S := S.below hbf; clear hbf)
      | (go_at_call 61; refine (runp_c _).mono ?_; rintro e wf ⟨rfl, hbf⟩; replace S := S.below hbf; clear hbf)
      | ((with_reducible refine wpl_isStoreAt 66 ?_); (first | refine S.store1 rfl 28 _ _ rfl b6 8 (.int _ _) rfl rfl 0 _ rfl rfl (of_decide_eq_true rfl) (Cel.any _) rfl (by kernel_rfl) ?_ | refine S.store1 rfl 28 _ _ rfl b6 8 (.int _ _) rfl rfl 1 _ rfl rfl (of_decide_eq_true rfl) (Cel.any _) rfl (by kernel_rfl) ?_); clear S; intro w2 S; (simp only [Cel.cells, IV.cellsL, zeroL, List.set_cons_zero, List.set_cons_succ, startI, secondI, noneI, startI] at S))
      | ((with_reducible refine wpl_isStoreAt 67 ?_); (first | refine S.store1 rfl 4 _ _ rfl b6 9 (.bool _) rfl rfl 0 _ rfl rfl (of_decide_eq_true rfl) (Cel.any _) rfl (by kernel_rfl) ?_ | refine S.store1 rfl 4 _ _ rfl b6 9 (.bool _) rfl rfl 1 _ rfl rfl (of_decide_eq_true rfl) (Cel.any _) rfl (by kernel_rfl) ?_); clear S; intro w2 S; (simp only [Cel.cells, IV.cellsL, zeroL, List.set_cons_zero, List.set_cons_succ, startI, secondI, noneI, startI] at S))
      | ((with_reducible refine wpl_isDst 73 ?_); (first | refine S.ldAll 30 _ rfl b6 rfl 0 _ rfl _ Try.underlying30 rfl (szA _ rfl) rfl ?_ | refine S.ldAll 30 _ rfl b6 rfl 1 _ rfl _ Try.underlying30 rfl (szA _ rfl) rfl ?_))
      | ((with_reducible refine wpl_isStoreAt 72 ?_); (first | refine S.store1 rfl 3 _ _ rfl b6 7 (.int _ _) rfl rfl 0 _ rfl rfl (of_decide_eq_true rfl) (Cel.any _) rfl (by kernel_rfl) ?_ | refine S.store1 rfl 3 _ _ rfl b6 7 (.int _ _) rfl rfl 1 _ rfl rfl (of_decide_eq_true rfl) (Cel.any _) rfl (by kernel_rfl) ?_); clear S; intro w2 S; (simp only [Cel.cells, IV.cellsL, zeroL, List.set_cons_zero, List.set_cons_succ, startI, secondI, noneI, startI] at S)))
    (try simp only [Exit.inBlock, Exit.then])
    (first | refine bodyPost_ret (S.results2 rfl _ _ rfl 0 _ rfl _ Try.underlying30 rfl (szA _ rfl)) rfl ?_ | refine bodyPost_ret (S.results2 rfl _ _ rfl 1 _ rfl _ Try.underlying30 rfl (szA _ rfl)) rfl ?_)
    exact ⟨_, _, rfl, HX.out, S.low⟩
end Go.Proofs.Ytigmekboikgoaaa
namespace Go.Proofs.Ytigmekboikgoaaa
open Go.ChangeShapes Go.WideShapes Go.ChangeAt Go.RowKit
set_option linter.unusedVariables false
set_option linter.unusedSimpArgs false

theorem beq0 (n : Nat) (h : n < 1024) : Nat.beq (n / 1024) 0 = true := by rw [nbeq]; simp; omega
theorem beq1 (n : Nat) (h : 1024 ≤ n) : Nat.beq (n / 1024) 0 = false := by rw [nbeq]; simp; omega
theorem formI_yes (x : Nat) (h : (dataOpS (fd x 21 4 : Nat) != 64) = true) : formI (fd x 21 4) (fd x 8 4 : Nat) (fd x 16 4 : Nat) (fd x 20 1 != 0) = dataX x := by
  have h1 : (dataOpS (fd x 21 4 : Nat) == 64) = false := by simpa using h
  unfold formI
  rw [h1]
  rfl
theorem fin_yes (i : IV) (x : Nat) (h : (i.op == 65) = false) : fin i true x = i := by
  unfold fin
  rw [h]
  rfl
theorem s_bit (g : Nat) (h : g < 2) : ((g : Int) == 1) = (g != 0) := by
  rcases (show g = 0 ∨ g = 1 by omega) with rfl | rfl <;> rfl
theorem rmodified_c (h k x : Nat) (hh : h < 65536) (hk : k < 65536) (hx0 : x = h * 65536 + k) (w : World) : Calls Try.prog 26 #[.int .u16 h, .int .u16 k] w fun e w' => Two w (modX x) x e w' := by
  have h5_4 : bits .and .u16 ((h : Int) / 32) 15 = ((fd x 21 4 : Nat) : Int) := by rw [hx0, fdh h k 5 4 hk]; exact fd_u16 h 5 4 hh (by decide) _ _ (by simp) rfl
  have h0_4 : bits .and .u16 ((h : Int)) 15 = ((fd x 16 4 : Nat) : Int) := by rw [hx0, fdh h k 0 4 hk]; exact fd_u16 h 0 4 hh (by decide) _ _ (by simp) rfl
  have h4_1 : bits .and .u16 ((h : Int) / 16) 1 = ((fd x 20 1 : Nat) : Int) := by rw [hx0, fdh h k 4 1 hk]; exact fd_u16 h 4 1 hh (by decide) _ _ (by simp) rfl
  have h10_1 : bits .and .u16 ((h : Int) / 1024) 1 = ((fd x 26 1 : Nat) : Int) := by rw [hx0, fdh h k 10 1 hk]; exact fd_u16 h 10 1 hh (by decide) _ _ (by simp) rfl
  have k8_4 : bits .and .u16 ((k : Int) / 256) 15 = ((fd x 8 4 : Nat) : Int) := by rw [hx0, fdk h k 8 4 (by decide)]; exact fd_u16 k 8 4 hk (by decide) _ _ (by simp) rfl
  have k12_3 : bits .and .u16 ((k : Int) / 4096) 7 = ((fd x 12 3 : Nat) : Int) := by rw [hx0, fdk h k 12 3 (by decide)]; exact fd_u16 k 12 3 hk (by decide) _ _ (by simp) rfl
  have k0_8 : bits .and .u16 ((k : Int)) 255 = ((fd x 0 8 : Nat) : Int) := by rw [hx0, fdk h k 0 8 (by decide)]; exact fd_u16 k 0 8 hk (by decide) _ _ (by simp) rfl
  have f21_4 : fd x 21 4 < 16 := fd_lt x 21 4
  have f16_4 : fd x 16 4 < 16 := fd_lt x 16 4
  have f20_1 : fd x 20 1 < 2 := fd_lt x 20 1
  have f26_1 : fd x 26 1 < 2 := fd_lt x 26 1
  have f8_4 : fd x 8 4 < 16 := fd_lt x 8 4
  have f12_3 : fd x 12 3 < 8 := fd_lt x 12 3
  have f0_8 : fd x 0 8 < 256 := fd_lt x 0 8
  have hN := numX_lt x
  have hX : numX x = fd x 26 1 * 2048 + fd x 12 3 * 256 + fd x 0 8 := rfl
  have j1 : bits .or .u32 ((fd x 26 1 : Nat) * 2048 : Int) ((fd x 12 3 : Nat) * 256 : Int) = ((fd x 26 1 * 2048 + fd x 12 3 * 256 : Nat) : Int) := u32_join (fd x 26 1 * 2048) (fd x 12 3 * 256) 11 (by omega) (by omega) (by omega) (by omega)
  have j2 : bits .or .u32 ((fd x 26 1 * 2048 + fd x 12 3 * 256 : Nat) : Int) (fd x 0 8 : Nat) = (numX x : Nat) := u32_join (fd x 26 1 * 2048 + fd x 12 3 * 256) (fd x 0 8) 8 (by omega) (by omega) (by omega) (by omega)
  have CE := fun w => (rExpand_c (numX x : Nat) false (by omega) (by omega) w).mono fun e w' (h : _ ∧ _) => (⟨h.1, h.2.2⟩ : _ ∧ _)
  have modE : modX x = bif (dataX x).op == 64 then noneI 64 x else checkedI (secondI (dataX x) (expandS (numX x : Nat) false).1 (bif Nat.beq (numX x / 1024) 0 then 0 else 1)) (expandS (numX x : Nat) false).2.2 x := rfl
  refine rmod_g h k x (fd x 21 4) (fd x 8 4) (fd x 16 4) (fd x 20 1) (fd x 26 1) (fd x 12 3) (fd x 0 8) (fd x 26 1 * 2048 + fd x 12 3 * 256) (numX x) (fd x 20 1 != 0) (dataOpS (fd x 21 4 : Nat) != 64) (expandS (numX x : Nat) false).2.2 (mayS (formI (fd x 21 4) (fd x 8 4 : Nat) (fd x 16 4 : Nat) (fd x 20 1 != 0)) true) (expandS (numX x : Nat) false).2.1 (formI (fd x 21 4) (fd x 8 4 : Nat) (fd x 16 4 : Nat) (fd x 20 1 != 0)) (modX x) (expandS (numX x : Nat) false).1
    h5_4 h0_4 h4_1 h10_1 k8_4 k12_3 k0_8 f21_4 f8_4 f16_4 f20_1 f26_1 f12_3 f0_8 (s_bit _ f20_1) j1 j2 hN (rform_c _ f21_4 _ _ _) CE (rmay_c _ true) ?_ ?_ ?_ ?_ w
  · intro hf
    rw [modE, form_no x hf]
    rfl
  · intro hf ho
    obtain ⟨h1, h2, h3, h4, h5, h6⟩ := form_yes x hf
    rw [modE, h1, cond_false, mod_fin x hf _ _ _ (by cases Nat.beq (numX x / 1024) 0; exact .inr rfl; exact .inl rfl)]
    · rfl
    · rw [formI_yes x hf] at ho
      rcases ho with ho | ho <;> rw [ho]
      · exact Bool.and_false _
      · rfl
  · intro hf ho hm hq
    obtain ⟨h1, h2, h3, h4, h5, h6⟩ := form_yes x hf
    rw [formI_yes x hf] at hm ⊢
    rw [modE, h1, cond_false, beq0 _ hq, cond_true, ho, mod_fin' x hf _ _ (.inl rfl) hm]
    refine (fin_yes { dataX x with imm := (expandS (numX x : Nat) false).1, useImm := true } x h2).trans ?_
    unfold secondI
    simp only [h4]
  · intro hf ho hm hq
    obtain ⟨h1, h2, h3, h4, h5, h6⟩ := form_yes x hf
    rw [formI_yes x hf] at hm ⊢
    rw [modE, h1, cond_false, beq1 _ hq, cond_false, ho, mod_fin' x hf _ _ (.inr rfl) hm]
    exact fin_yes _ x h2
end Go.Proofs.Ytigmekboikgoaaa
