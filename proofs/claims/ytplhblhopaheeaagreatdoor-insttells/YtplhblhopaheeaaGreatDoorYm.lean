/- Stage 9: the document: the first two rows, whole. -/
import Derived.Test.YtplhblhopaheeaaGreatDoorWg2
import Derived.Test.YtplhblhopaheeaaGreatDoorWg3
import Derived.Test.YtplhblhopaheeaaGreatDoorWg4
import Derived.Test.YtplhblhopaheeaaGreatDoorWg5
import Derived.Test.YtplhblhopaheeaaGreatDoorYi
import Derived.Test.YtplhblhopaheeaaGreatDoorYa
namespace Go.Proofs.YtplhblhopaheeaaGreatDoor
open Go.ChangeShapes Go.WideShapes Go.ChangeAt Go.RowKit
set_option linter.unusedVariables false
set_option linter.unusedSimpArgs false

def formI (o : Nat) (d n : Int) (s : Bool) : IV := bif dataOpS o == 64 then ⟨0, true, s, 14, d, n, 0, 0, 0, false, 0, 0, 0, false, false⟩ else dataJ (dataOpS o) d n s
theorem rform_c (o : Nat) (ho : o < 16) (d n : Int) (s : Bool) (w : World) : Calls Tryz.prog 115 #[.int .i64 (o : Nat), .int .i64 d, .int .i64 n, .bool s] w fun e w' => e = .returned (.tuple #[IV.val (formI o d n s), .bool (dataOpS o != 64)]) ∧ Below w.heap.size w w' := by
  rcases (show o = 0 ∨ o = 1 ∨ o = 2 ∨ o = 3 ∨ o = 4 ∨ o = 5 ∨ o = 6 ∨ o = 7 ∨ 8 ≤ o by omega) with rfl | rfl | rfl | rfl | rfl | rfl | rfl | rfl | h8
  · exact rform_0 d n s w
  · exact rform_1 d n s w
  · exact rform_2 d n s w
  · exact rform_3 d n s w
  · exact rform_4 d n s w
  · exact rform_5 d n s w
  · exact rform_6 d n s w
  · exact rform_7 d n s w
  · rcases (show o = 8 ∨ o = 9 ∨ o = 10 ∨ o = 11 ∨ o = 12 ∨ o = 13 ∨ o = 14 ∨ o = 15 by omega) with rfl | rfl | rfl | rfl | rfl | rfl | rfl | rfl
    · exact rform_8 d n s w
    · exact rform_9 d n s w
    · exact rform_10 d n s w
    · exact rform_11 d n s w
    · exact rform_12 d n s w
    · exact rform_13 d n s w
    · exact rform_14 d n s w
    · exact rform_15 d n s w
theorem form_no (x : Nat) (h : (dataOpS (fd_w x 21 4 : Nat) != 64) = false) : ((dataX x).op == 64) = true := by
  have h1 : dataOpS (fd_w x 21 4 : Nat) = 64 := by simpa using h
  unfold dataX
  rw [h1]
  unfold dataJ
  rw [show lessD 64 = 64 from rfl, show lessN 64 = 64 from rfl]
  rfl
def chkD (o d n : Nat) (s : Bool) : Bool :=
  let J := dataJ (dataOpS o) d n s
  dataOpS o == 64 || ((mayS J true == (mayD (secondI J 0 0) && mayN (secondI J 0 0))) && ((mayS J false == (mayD J && mayN J)) && (J.op != 64 && J.op != 65 && J.m == 0 && J.a == 0)))
theorem chkD_all : (List.range 16).all (fun o => (List.range 16).all fun d => (List.range 16).all fun n => chkD o d n true && chkD o d n false) = true := by decide +kernel
theorem chkD_at (o d n : Nat) (s : Bool) (ho : o < 16) (hd : d < 16) (hn : n < 16) : chkD o d n s = true := by
  have := List.all_eq_true.1 (List.all_eq_true.1 (List.all_eq_true.1 chkD_all o (List.mem_range.2 ho)) d (List.mem_range.2 hd)) n (List.mem_range.2 hn)
  simp only [Bool.and_eq_true] at this
  cases s
  · exact this.2
  · exact this.1
theorem form_yes (x : Nat) (h : (dataOpS (fd_w x 21 4 : Nat) != 64) = true) : ((dataX x).op == 64) = false ∧ ((dataX x).op == 65) = false ∧ (dataX x).m = 0 ∧ (dataX x).a = 0 ∧ mayS (dataX x) true = (mayD (secondI (dataX x) 0 0) && mayN (secondI (dataX x) 0 0)) ∧ mayS (dataX x) false = (mayD (dataX x) && mayN (dataX x)) := by
  have h1 : (dataOpS (fd_w x 21 4 : Nat) == 64) = false := by simpa using h
  have c := chkD_at (fd_w x 21 4) (fd_w x 8 4) (fd_w x 16 4) (fd_w x 20 1 != 0) (fd_lt_w x 21 4) (fd_lt_w x 8 4) (fd_lt_w x 16 4)
  unfold chkD at c
  change (dataOpS (fd_w x 21 4 : Nat) == 64 || ((mayS (dataX x) true == (mayD (secondI (dataX x) 0 0) && mayN (secondI (dataX x) 0 0))) && ((mayS (dataX x) false == (mayD (dataX x) && mayN (dataX x))) && ((dataX x).op != 64 && (dataX x).op != 65 && (dataX x).m == 0 && (dataX x).a == 0)))) = true at c
  rw [h1, Bool.false_or] at c
  simp only [Bool.and_eq_true, beq_iff_eq, bne_iff_ne] at c
  obtain ⟨c1, c2, ⟨⟨c3, c4⟩, c5⟩, c6⟩ := c
  refine ⟨by simpa using c3, by simpa using c4, c5, c6, c1, c2⟩
theorem mod_fin (x : Nat) (hN : (dataOpS (fd_w x 21 4 : Nat) != 64) = true) (v a : Int) (ok : Bool) (ha : a = 0 ∨ a = 1) :
    (mayS (dataX x) true && ok) = false → checkedI (secondI (dataX x) v a) ok x = noneI 65 x := by
  intro h
  obtain ⟨h1, h2, h3, h4, h5, h6⟩ := form_yes x hN
  rw [h5] at h
  unfold checkedI
  have e1 : mayD (secondI (dataX x) v a) = mayD (secondI (dataX x) 0 0) := rfl
  have e2 : mayN (secondI (dataX x) v a) = mayN (secondI (dataX x) 0 0) := rfl
  rw [e1, e2]
  cases ok
  · rfl
  · rw [Bool.and_true] at h
    have : (!mayD (secondI (dataX x) 0 0) || !mayN (secondI (dataX x) 0 0)) = true := by
      revert h
      cases mayD (secondI (dataX x) 0 0) <;> cases mayN (secondI (dataX x) 0 0) <;> decide
    rw [this]
    simp
theorem mod_fin' (x : Nat) (hN : (dataOpS (fd_w x 21 4 : Nat) != 64) = true) (v a : Int) (ha : a = 0 ∨ a = 1) (h : mayS (dataX x) true = true) : checkedI (secondI (dataX x) v a) true x = secondI (dataX x) v a := by
  obtain ⟨h1, h2, h3, h4, h5, h6⟩ := form_yes x hN
  rw [h5] at h
  simp only [Bool.and_eq_true] at h
  unfold checkedI
  have e1 : mayD (secondI (dataX x) v a) = true := h.1
  have e2 : mayN (secondI (dataX x) v a) = true := h.2
  have e3 : resS (secondI (dataX x) v a).m = false := by show resS (dataX x).m = false; rw [h3]; rfl
  have e4 : resS (secondI (dataX x) v a).a = false := by show resS a = false; rcases ha with rfl | rfl <;> rfl
  rw [e1, e2, e3, e4]
  rfl
end Go.Proofs.YtplhblhopaheeaaGreatDoor
namespace Go.Proofs.YtplhblhopaheeaaGreatDoor
open Go.ChangeShapes Go.WideShapes Go.ChangeAt Go.RowKit
set_option linter.unusedVariables false
set_option linter.unusedSimpArgs false
set_option maxHeartbeats 20000000
set_option maxRecDepth 100000

theorem rmod_g (h k x g5 gd gn g4 gi gm gl q1 N : Nat) (s okF ok mj c : Bool) (J X : IV) (v : Int) (k5 : bits .and .u16 ((h : Int) / 32) 15 = (g5 : Int)) (k0 : bits .and .u16 (h : Int) 15 = (gn : Int)) (k4 : bits .and .u16 ((h : Int) / 16) 1 = (g4 : Int)) (ki : bits .and .u16 ((h : Int) / 1024) 1 = (gi : Int)) (k8 : bits .and .u16 ((k : Int) / 256) 15 = (gd : Int)) (km : bits .and .u16 ((k : Int) / 4096) 7 = (gm : Int)) (kl : bits .and .u16 (k : Int) 255 = (gl : Int))
    (b5 : g5 < 16) (bd : gd < 16) (bn : gn < 16) (b4 : g4 < 2) (bi : gi < 2) (bm : gm < 8) (bl : gl < 256) (hs : ((g4 : Int) == 1) = s) (j1 : bits .or .u32 ((gi : Int) * 2048) ((gm : Int) * 256) = (q1 : Int)) (j2 : bits .or .u32 (q1 : Int) (gl : Int) = (N : Int)) (bN : N < 4096)
    (CF : ∀ w, Calls Tryz.prog 115 #[.int .i64 g5, .int .i64 gd, .int .i64 gn, .bool s] w fun e w' => e = .returned (.tuple #[J.val, .bool okF]) ∧ Below w.heap.size w w')
    (CE : ∀ w, Calls Tryz.prog 116 #[.int .u32 N, .bool false] w fun e w' => e = .returned (.tuple #[.int .u32 v, .bool c, .bool ok]) ∧ Below w.heap.size w w')
    (CM : ∀ w, Calls Tryz.prog 117 #[J.val, .bool true] w fun e w' => e = .returned (.bool mj) ∧ Below w.heap.size w w')
    (H1 : okF = false → fin J false x = X) (H2 : okF = true → (ok = false ∨ mj = false) → fin (startI 65 0 0) true x = X) (H4 : okF = true → ok = true → mj = true → N < 1024 → fin { J with imm := v, useImm := true } true x = X) (H5 : okF = true → ok = true → mj = true → 1024 ≤ N → fin { J with imm := v, useImm := true, a := 1 } true x = X)
    (w : World) : Calls Tryz.prog 71 #[.int .u16 h, .int .u16 k] w fun e w' => Two w X x e w' := by
  have QF : Hid _ := CF
  have QE : Hid _ := CE
  have QM : Hid _ := CM
  have e1 : N < 1024 → bits .and .u32 ((N : Int) / 1024) 3 = 0 := fun h => by rw [show (N : Int) / 1024 = 0 by omega]; decide +kernel
  have e2 : 1024 ≤ N → ∃ t : Int, bits .and .u32 ((N : Int) / 1024) 3 = t ∧ (t != 0) = true := fun h => by
    refine ⟨_, rfl, ?_⟩
    rcases (show (N : Int) / 1024 = 1 ∨ (N : Int) / 1024 = 2 ∨ (N : Int) / 1024 = 3 by omega) with e | e | e <;> rw [e] <;> decide +kernel
  clear CF CE CM
  cases okF
  focus
    have HX : Hid _ := H1 rfl
    clear H1 H2 H4 H5 e1 e2
  rotate_left 1
  focus
    cases ok
    focus
      have HX : Hid _ := H2 rfl (.inl rfl)
      clear H1 H2 H4 H5 e1 e2
    rotate_left 1
    focus
      cases mj
      focus
        have HX : Hid _ := H2 rfl (.inr rfl)
        clear H1 H2 H4 H5 e1 e2
      rotate_left 1
      focus
        rcases Nat.lt_or_ge N 1024 with hq | hq
        focus
          have e3 := e1 hq
          have HX : Hid _ := H4 rfl rfl rfl hq
          clear H1 H2 H4 H5 e1 e2
        rotate_left 1
        focus
          obtain ⟨t, e3, e4⟩ := e2 hq
          have HX : Hid _ := H5 rfl rfl rfl hq
          clear H1 H2 H4 H5 e1 e2
        rotate_left 1
      rotate_left 2
    rotate_left 3
  rotate_left 4
  all_goals
    go_enter Tryz.func71, Tryz.ntmps71
    have S := SH.start w
    go_wp2_with (first
     | ((with_reducible refine g_al 28 ?_); refine S.gal zI ?_; clear S; intro b w1 S)
     | (go_at_call 115; refine (QF.out _).mono ?_; rintro e wf ⟨rfl, hbf⟩; replace S := S.below hbf; clear hbf)
     | ((with_reducible refine g_st 28 ?_); refine S.gst (i := ?_) (c := ?_) rfl rfl ?_ ?_ ?_ ?_ ?_; rotate_left 2; (with_reducible first | exact gi0 | exact gi1 | exact gi2 | exact gi3 | exact gi4 | exact gi5); rfl; rfl; exact sI rfl; clear S; intro w1 S; (try simp only [Cel.cells, zL, List.set_cons_zero, List.set_cons_succ, startI, secondI, noneI] at S))
     | ((with_reducible refine g_ld 28 ?_); first | (refine g_skip rfl ?_) | (refine S.gla (i := ?_) (c := ?_) Tryz.underlying28 rfl rfl rfl ?_ ?_ ?_; rotate_left 2; (with_reducible first | exact gi0 | exact gi1 | exact gi2 | exact gi3 | exact gi4 | exact gi5); exact sI rfl))
     | (go_at_call 116; refine (QE.out _).mono ?_; rintro e wf ⟨rfl, hbf⟩; replace S := S.below hbf; clear hbf)
     | (go_at_call 117; refine (QM.out _).mono ?_; rintro e wf ⟨rfl, hbf⟩; replace S := S.below hbf; clear hbf)
     | (go_at_call 118; refine (runp_c _).mono ?_; rintro e wf ⟨rfl, hbf⟩; replace S := S.below hbf; clear hbf)
     | ((with_reducible refine g_st 26 ?_); refine S.gs1 (i := ?_) (c := ?_) (cs := ?_) (.int _ _) s_u32 rfl rfl rfl ?_ ?_ ?_ ?_; rotate_left 3; (with_reducible first | exact gi0 | exact gi1 | exact gi2 | exact gi3 | exact gi4 | exact gi5); exact of_decide_eq_true rfl; exact rfl; clear S; intro w1 S; (try simp only [Cel.cells, zL, List.set_cons_zero, List.set_cons_succ, startI, secondI, noneI] at S))
     | ((with_reducible refine g_st 4 ?_); refine S.gs1 (i := ?_) (c := ?_) (cs := ?_) (.bool _) s_bool rfl rfl rfl ?_ ?_ ?_ ?_; rotate_left 3; (with_reducible first | exact gi0 | exact gi1 | exact gi2 | exact gi3 | exact gi4 | exact gi5); exact of_decide_eq_true rfl; exact rfl; clear S; intro w1 S; (try simp only [Cel.cells, zL, List.set_cons_zero, List.set_cons_succ, startI, secondI, noneI] at S))
     | ((with_reducible refine g_st 3 ?_); refine S.gs1 (i := ?_) (c := ?_) (cs := ?_) (.int _ _) s_int rfl rfl rfl ?_ ?_ ?_ ?_; rotate_left 3; (with_reducible first | exact gi0 | exact gi1 | exact gi2 | exact gi3 | exact gi4 | exact gi5); exact of_decide_eq_true rfl; exact rfl; clear S; intro w1 S; (try simp only [Cel.cells, zL, List.set_cons_zero, List.set_cons_succ, startI, secondI, noneI] at S)))
    (try simp only [Exit.inBlock, Exit.then])
    apply bodyPost_ret
    refine S.gR2 (i := ?_) (c := ?_) Tryz.underlying28 rfl rfl rfl ?_ ?_
    rotate_left 2
    (with_reducible first | exact gi0 | exact gi1 | exact gi2 | exact gi3 | exact gi4 | exact gi5)
    exact sI rfl
    rfl
    exact ⟨_, _, rfl, HX.out, S.low⟩
end Go.Proofs.YtplhblhopaheeaaGreatDoor
namespace Go.Proofs.YtplhblhopaheeaaGreatDoor
open Go.ChangeShapes Go.WideShapes Go.ChangeAt Go.RowKit
set_option linter.unusedVariables false
set_option linter.unusedSimpArgs false

theorem beq0 (n : Nat) (h : n < 1024) : Nat.beq (n / 1024) 0 = true := by rw [nbeq_w]; simp; omega
theorem beq1 (n : Nat) (h : 1024 ≤ n) : Nat.beq (n / 1024) 0 = false := by rw [nbeq_w]; simp; omega
theorem formI_yes (x : Nat) (h : (dataOpS (fd_w x 21 4 : Nat) != 64) = true) : formI (fd_w x 21 4) (fd_w x 8 4 : Nat) (fd_w x 16 4 : Nat) (fd_w x 20 1 != 0) = dataX x := by
  have h1 : (dataOpS (fd_w x 21 4 : Nat) == 64) = false := by simpa using h
  unfold formI
  rw [h1]
  rfl
theorem fin_yes (i : IV) (x : Nat) (h : (i.op == 65) = false) : fin i true x = i := by
  unfold fin
  rw [h]
  rfl
theorem s_bit (g : Nat) (h : g < 2) : ((g : Int) == 1) = (g != 0) := by
  rcases (show g = 0 ∨ g = 1 by omega) with rfl | rfl <;> rfl
theorem rmodified_c (h k x : Nat) (hh : h < 65536) (hk : k < 65536) (hx0 : x = h * 65536 + k) (w : World) : Calls Tryz.prog 71 #[.int .u16 h, .int .u16 k] w fun e w' => Two w (modX x) x e w' := by
  have h5_4 : bits .and .u16 ((h : Int) / 32) 15 = ((fd_w x 21 4 : Nat) : Int) := by rw [hx0, fdh h k 5 4 hk]; exact fd_u16 h 5 4 hh (by decide) _ _ (by simp) rfl
  have h0_4 : bits .and .u16 ((h : Int)) 15 = ((fd_w x 16 4 : Nat) : Int) := by rw [hx0, fdh h k 0 4 hk]; exact fd_u16 h 0 4 hh (by decide) _ _ (by simp) rfl
  have h4_1 : bits .and .u16 ((h : Int) / 16) 1 = ((fd_w x 20 1 : Nat) : Int) := by rw [hx0, fdh h k 4 1 hk]; exact fd_u16 h 4 1 hh (by decide) _ _ (by simp) rfl
  have h10_1 : bits .and .u16 ((h : Int) / 1024) 1 = ((fd_w x 26 1 : Nat) : Int) := by rw [hx0, fdh h k 10 1 hk]; exact fd_u16 h 10 1 hh (by decide) _ _ (by simp) rfl
  have k8_4 : bits .and .u16 ((k : Int) / 256) 15 = ((fd_w x 8 4 : Nat) : Int) := by rw [hx0, fdk h k 8 4 (by decide)]; exact fd_u16 k 8 4 hk (by decide) _ _ (by simp) rfl
  have k12_3 : bits .and .u16 ((k : Int) / 4096) 7 = ((fd_w x 12 3 : Nat) : Int) := by rw [hx0, fdk h k 12 3 (by decide)]; exact fd_u16 k 12 3 hk (by decide) _ _ (by simp) rfl
  have k0_8 : bits .and .u16 ((k : Int)) 255 = ((fd_w x 0 8 : Nat) : Int) := by rw [hx0, fdk h k 0 8 (by decide)]; exact fd_u16 k 0 8 hk (by decide) _ _ (by simp) rfl
  have f21_4 : fd_w x 21 4 < 16 := fd_lt_w x 21 4
  have f16_4 : fd_w x 16 4 < 16 := fd_lt_w x 16 4
  have f20_1 : fd_w x 20 1 < 2 := fd_lt_w x 20 1
  have f26_1 : fd_w x 26 1 < 2 := fd_lt_w x 26 1
  have f8_4 : fd_w x 8 4 < 16 := fd_lt_w x 8 4
  have f12_3 : fd_w x 12 3 < 8 := fd_lt_w x 12 3
  have f0_8 : fd_w x 0 8 < 256 := fd_lt_w x 0 8
  have hN := numX_lt x
  have hX : numX x = fd_w x 26 1 * 2048 + fd_w x 12 3 * 256 + fd_w x 0 8 := rfl
  have j1 : bits .or .u32 ((fd_w x 26 1 : Nat) * 2048 : Int) ((fd_w x 12 3 : Nat) * 256 : Int) = ((fd_w x 26 1 * 2048 + fd_w x 12 3 * 256 : Nat) : Int) := u32_join (fd_w x 26 1 * 2048) (fd_w x 12 3 * 256) 11 (by omega) (by omega) (by omega) (by omega)
  have j2 : bits .or .u32 ((fd_w x 26 1 * 2048 + fd_w x 12 3 * 256 : Nat) : Int) (fd_w x 0 8 : Nat) = (numX x : Nat) := u32_join (fd_w x 26 1 * 2048 + fd_w x 12 3 * 256) (fd_w x 0 8) 8 (by omega) (by omega) (by omega) (by omega)
  have CE := fun w => (rExpand_c (numX x : Nat) false (by omega) (by omega) w).mono fun e w' (h : _ ∧ _) => (⟨h.1, h.2.2⟩ : _ ∧ _)
  have modE : modX x = bif (dataX x).op == 64 then noneI 64 x else checkedI (secondI (dataX x) (expandS (numX x : Nat) false).1 (bif Nat.beq (numX x / 1024) 0 then 0 else 1)) (expandS (numX x : Nat) false).2.2 x := rfl
  refine rmod_g h k x (fd_w x 21 4) (fd_w x 8 4) (fd_w x 16 4) (fd_w x 20 1) (fd_w x 26 1) (fd_w x 12 3) (fd_w x 0 8) (fd_w x 26 1 * 2048 + fd_w x 12 3 * 256) (numX x) (fd_w x 20 1 != 0) (dataOpS (fd_w x 21 4 : Nat) != 64) (expandS (numX x : Nat) false).2.2 (mayS (formI (fd_w x 21 4) (fd_w x 8 4 : Nat) (fd_w x 16 4 : Nat) (fd_w x 20 1 != 0)) true) (expandS (numX x : Nat) false).2.1 (formI (fd_w x 21 4) (fd_w x 8 4 : Nat) (fd_w x 16 4 : Nat) (fd_w x 20 1 != 0)) (modX x) (expandS (numX x : Nat) false).1
    h5_4 h0_4 h4_1 h10_1 k8_4 k12_3 k0_8 f21_4 f8_4 f16_4 f20_1 f26_1 f12_3 f0_8 (s_bit _ f20_1) j1 j2 hN (rform_c _ f21_4 _ _ _) CE (rmay_c _ true) ?_ ?_ ?_ ?_ w
  · intro hf
    rw [modE, form_no x hf]
    rfl
  · intro hf ho
    obtain ⟨h1, h2, h3, h4, h5, h6⟩ := form_yes x hf
    rw [modE, h1, cond_false, mod_fin x hf _ _ _ (by cases Nat.beq (numX x / 1024) 0; exact .inr rfl; exact .inl rfl)]
    · rfl
    · rw [formI_yes x hf] at ho
      rcases ho with ho | ho <;> rw [ho]
      · exact Bool.and_false _
      · rfl
  · intro hf ho hm hq
    obtain ⟨h1, h2, h3, h4, h5, h6⟩ := form_yes x hf
    rw [formI_yes x hf] at hm ⊢
    rw [modE, h1, cond_false, beq0 _ hq, cond_true, ho, mod_fin' x hf _ _ (.inl rfl) hm]
    refine (fin_yes { dataX x with imm := (expandS (numX x : Nat) false).1, useImm := true } x h2).trans ?_
    unfold secondI
    simp only [h4]
  · intro hf ho hm hq
    obtain ⟨h1, h2, h3, h4, h5, h6⟩ := form_yes x hf
    rw [formI_yes x hf] at hm ⊢
    rw [modE, h1, cond_false, beq1 _ hq, cond_false, ho, mod_fin' x hf _ _ (.inr rfl) hm]
    exact fin_yes _ x h2
end Go.Proofs.YtplhblhopaheeaaGreatDoor
namespace Go.Proofs.YtplhblhopaheeaaGreatDoor
open Go.ChangeShapes Go.WideShapes Go.ChangeAt Go.RowKit
set_option linter.unusedVariables false
set_option linter.unusedSimpArgs false
set_option maxHeartbeats 20000000
set_option maxRecDepth 100000

theorem rshi_g (h k x g5 gd gn g4 gm g15 t g12 g6 b : Nat) (s okF mj : Bool) (J X : IV) (k5 : bits .and .u16 ((h : Int) / 32) 15 = (g5 : Int)) (k0 : bits .and .u16 (h : Int) 15 = (gn : Int)) (k4 : bits .and .u16 ((h : Int) / 16) 1 = (g4 : Int)) (k8 : bits .and .u16 ((k : Int) / 256) 15 = (gd : Int)) (km : bits .and .u16 (k : Int) 15 = (gm : Int)) (k15 : (k : Int) / 32768 = (g15 : Int)) (kt : bits .and .u16 ((k : Int) / 16) 3 = (t : Int)) (k12 : bits .and .u16 ((k : Int) / 4096) 7 = (g12 : Int)) (k6 : bits .and .u16 ((k : Int) / 64) 3 = (g6 : Int))
    (b5 : g5 < 16) (bd : gd < 16) (bn : gn < 16) (b4 : g4 < 2) (bm : gm < 16) (b15 : g15 < 2) (bt : t < 4) (b12 : g12 < 8) (b6 : g6 < 4) (hs : ((g4 : Int) == 1) = s) (j1 : bits .or .u16 ((g12 : Int) * 4) (g6 : Int) = (b : Int)) (bb : b < 32)
    (CF : ∀ w, Calls Tryz.prog 115 #[.int .i64 g5, .int .i64 gd, .int .i64 gn, .bool s] w fun e w' => e = .returned (.tuple #[J.val, .bool okF]) ∧ Below w.heap.size w w')
    (CM : ∀ s1 s2 w, Calls Tryz.prog 117 #[(regI J gm s1 s2).val, .bool false] w fun e w' => e = .returned (.bool mj) ∧ Below w.heap.size w w')
    (H1 : (okF = false ∨ g15 = 1) → fin J false x = X) (H2 : okF = true → g15 = 0 → (mj = false ∨ oddS gm = true) → fin (startI 65 0 0) true x = X) (H4 : okF = true → g15 = 0 → mj = true → oddS gm = false → fin (regI J gm (shiftG t b).1 (shiftG t b).2) true x = X)
    (w : World) : Calls Tryz.prog 74 #[.int .u16 h, .int .u16 k] w fun e w' => Two w X x e w' := by
  have QF : Hid _ := CF
  have QM : Hid _ := CM
  have QO : Hid _ := fun w => rodd_c gm w
  clear CF CM
  generalize oddS gm = om at *
  cases okF
  focus
    have HX : Hid _ := H1 (.inl rfl)
    clear H1 H2 H4
    have QP : Hid _ := QM.out (0) (0)
  rotate_left 1
  focus
    rcases (show g15 = 0 ∨ g15 = 1 by omega) with rfl | rfl
    focus
      replace k15 : (k : Int) / 32768 = 0 := k15
      rcases Nat.eq_zero_or_pos b with rfl | hb
      focus
        rw [show ((0 : Nat) : Int) = 0 from rfl] at j1
        rcases (show t = 0 ∨ t = 1 ∨ t = 2 ∨ t = 3 by omega) with rfl | rfl | rfl | rfl
        focus
          replace kt : bits .and .u16 ((k : Int) / 16) 3 = 0 := kt
          cases mj
          focus
            have HX : Hid _ := H2 rfl rfl (.inl rfl)
            clear H1 H2 H4
            have QP : Hid _ := QM.out (0) (0)
          rotate_left 1
          focus
            cases om
            focus
              have HX : Hid _ := H4 rfl rfl rfl rfl
              clear H1 H2 H4
              have QP : Hid _ := QM.out (0) (0)
            rotate_left 1
            focus
              have HX : Hid _ := H2 rfl rfl (.inr rfl)
              clear H1 H2 H4
              have QP : Hid _ := QM.out (0) (0)
            rotate_left 1
          rotate_left 2
        rotate_left 3
        focus
          replace kt : bits .and .u16 ((k : Int) / 16) 3 = 1 := kt
          cases mj
          focus
            have HX : Hid _ := H2 rfl rfl (.inl rfl)
            clear H1 H2 H4
            have QP : Hid _ := QM.out (2) (32)
          rotate_left 1
          focus
            cases om
            focus
              have HX : Hid _ := H4 rfl rfl rfl rfl
              clear H1 H2 H4
              have QP : Hid _ := QM.out (2) (32)
            rotate_left 1
            focus
              have HX : Hid _ := H2 rfl rfl (.inr rfl)
              clear H1 H2 H4
              have QP : Hid _ := QM.out (2) (32)
            rotate_left 1
          rotate_left 2
        rotate_left 3
        focus
          replace kt : bits .and .u16 ((k : Int) / 16) 3 = 2 := kt
          cases mj
          focus
            have HX : Hid _ := H2 rfl rfl (.inl rfl)
            clear H1 H2 H4
            have QP : Hid _ := QM.out (3) (32)
          rotate_left 1
          focus
            cases om
            focus
              have HX : Hid _ := H4 rfl rfl rfl rfl
              clear H1 H2 H4
              have QP : Hid _ := QM.out (3) (32)
            rotate_left 1
            focus
              have HX : Hid _ := H2 rfl rfl (.inr rfl)
              clear H1 H2 H4
              have QP : Hid _ := QM.out (3) (32)
            rotate_left 1
          rotate_left 2
        rotate_left 3
        focus
          replace kt : bits .and .u16 ((k : Int) / 16) 3 = 3 := kt
          cases mj
          focus
            have HX : Hid _ := H2 rfl rfl (.inl rfl)
            clear H1 H2 H4
            have QP : Hid _ := QM.out (5) (1)
          rotate_left 1
          focus
            cases om
            focus
              have HX : Hid _ := H4 rfl rfl rfl rfl
              clear H1 H2 H4
              have QP : Hid _ := QM.out (5) (1)
            rotate_left 1
            focus
              have HX : Hid _ := H2 rfl rfl (.inr rfl)
              clear H1 H2 H4
              have QP : Hid _ := QM.out (5) (1)
            rotate_left 1
          rotate_left 2
        rotate_left 3
      rotate_left 12
      focus
        rcases (show t = 0 ∨ t = 1 ∨ t = 2 ∨ t = 3 by omega) with rfl | rfl | rfl | rfl
        focus
          replace kt : bits .and .u16 ((k : Int) / 16) 3 = 0 := kt
          have hs2 : shiftG 0 b = (1, (b : Int)) := by
            have eb : Nat.beq b 0 = false := by rw [nbeq_w]; simp; omega
            unfold shiftG; rw [eb]; rfl
          rw [hs2] at H4
          clear hs2
          have t1 : ((0 : Int) < (b : Int)) = True := by simp; omega
          have t2 : decide ((0 : Int) < (b : Int)) = true := by simp; omega
          cases mj
          focus
            have HX : Hid _ := H2 rfl rfl (.inl rfl)
            clear H1 H2 H4
            have QP : Hid _ := QM.out (1) ((b : Int))
          rotate_left 1
          focus
            cases om
            focus
              have HX : Hid _ := H4 rfl rfl rfl rfl
              clear H1 H2 H4
              have QP : Hid _ := QM.out (1) ((b : Int))
            rotate_left 1
            focus
              have HX : Hid _ := H2 rfl rfl (.inr rfl)
              clear H1 H2 H4
              have QP : Hid _ := QM.out (1) ((b : Int))
            rotate_left 1
          rotate_left 2
        rotate_left 3
        focus
          replace kt : bits .and .u16 ((k : Int) / 16) 3 = 1 := kt
          have hs2 : shiftG 1 b = (2, (b : Int)) := by
            have eb : Nat.beq b 0 = false := by rw [nbeq_w]; simp; omega
            unfold shiftG; rw [eb]; rfl
          rw [hs2] at H4
          clear hs2
          have t1 : ((0 : Int) < (b : Int)) = True := by simp; omega
          have t2 : decide ((0 : Int) < (b : Int)) = true := by simp; omega
          cases mj
          focus
            have HX : Hid _ := H2 rfl rfl (.inl rfl)
            clear H1 H2 H4
            have QP : Hid _ := QM.out (2) ((b : Int))
          rotate_left 1
          focus
            cases om
            focus
              have HX : Hid _ := H4 rfl rfl rfl rfl
              clear H1 H2 H4
              have QP : Hid _ := QM.out (2) ((b : Int))
            rotate_left 1
            focus
              have HX : Hid _ := H2 rfl rfl (.inr rfl)
              clear H1 H2 H4
              have QP : Hid _ := QM.out (2) ((b : Int))
            rotate_left 1
          rotate_left 2
        rotate_left 3
        focus
          replace kt : bits .and .u16 ((k : Int) / 16) 3 = 2 := kt
          have hs2 : shiftG 2 b = (3, (b : Int)) := by
            have eb : Nat.beq b 0 = false := by rw [nbeq_w]; simp; omega
            unfold shiftG; rw [eb]; rfl
          rw [hs2] at H4
          clear hs2
          have t1 : ((0 : Int) < (b : Int)) = True := by simp; omega
          have t2 : decide ((0 : Int) < (b : Int)) = true := by simp; omega
          cases mj
          focus
            have HX : Hid _ := H2 rfl rfl (.inl rfl)
            clear H1 H2 H4
            have QP : Hid _ := QM.out (3) ((b : Int))
          rotate_left 1
          focus
            cases om
            focus
              have HX : Hid _ := H4 rfl rfl rfl rfl
              clear H1 H2 H4
              have QP : Hid _ := QM.out (3) ((b : Int))
            rotate_left 1
            focus
              have HX : Hid _ := H2 rfl rfl (.inr rfl)
              clear H1 H2 H4
              have QP : Hid _ := QM.out (3) ((b : Int))
            rotate_left 1
          rotate_left 2
        rotate_left 3
        focus
          replace kt : bits .and .u16 ((k : Int) / 16) 3 = 3 := kt
          have hs2 : shiftG 3 b = (4, (b : Int)) := by
            have eb : Nat.beq b 0 = false := by rw [nbeq_w]; simp; omega
            unfold shiftG; rw [eb]; rfl
          rw [hs2] at H4
          clear hs2
          have t1 : ((0 : Int) < (b : Int)) = True := by simp; omega
          have t2 : decide ((0 : Int) < (b : Int)) = true := by simp; omega
          cases mj
          focus
            have HX : Hid _ := H2 rfl rfl (.inl rfl)
            clear H1 H2 H4
            have QP : Hid _ := QM.out (4) ((b : Int))
          rotate_left 1
          focus
            cases om
            focus
              have HX : Hid _ := H4 rfl rfl rfl rfl
              clear H1 H2 H4
              have QP : Hid _ := QM.out (4) ((b : Int))
            rotate_left 1
            focus
              have HX : Hid _ := H2 rfl rfl (.inr rfl)
              clear H1 H2 H4
              have QP : Hid _ := QM.out (4) ((b : Int))
            rotate_left 1
          rotate_left 2
        rotate_left 3
      rotate_left 12
    rotate_left 24
    focus
      replace k15 : (k : Int) / 32768 = 1 := k15
      have HX : Hid _ := H1 (.inr rfl)
      clear H1 H2 H4
      have QP : Hid _ := QM.out (0) (0)
    rotate_left 1
  rotate_left 25
  all_goals
    go_enter Tryz.func74, Tryz.ntmps74
    have S := SH.start w
    go_wp2_with (first
     | ((with_reducible refine g_al 28 ?_); refine S.gal zI ?_; clear S; intro b w1 S)
     | (go_at_call 115; refine (QF.out _).mono ?_; rintro e wf ⟨rfl, hbf⟩; replace S := S.below hbf; clear hbf)
     | ((with_reducible refine g_st 28 ?_); refine S.gst (i := ?_) (c := ?_) rfl rfl ?_ ?_ ?_ ?_ ?_; rotate_left 2; (with_reducible first | exact gi0 | exact gi1 | exact gi2 | exact gi3 | exact gi4 | exact gi5); rfl; rfl; exact sI rfl; clear S; intro w1 S; (try simp only [Cel.cells, zL, List.set_cons_zero, List.set_cons_succ, startI, secondI, noneI, regI] at S))
     | ((with_reducible refine g_ld 28 ?_); first | (refine g_skip rfl ?_) | (refine S.gla (i := ?_) (c := ?_) Tryz.underlying28 rfl rfl rfl ?_ ?_ ?_; rotate_left 2; (with_reducible first | exact gi0 | exact gi1 | exact gi2 | exact gi3 | exact gi4 | exact gi5); exact sI rfl))
     | ((with_reducible refine g_st 3 ?_); refine S.gs1 (i := ?_) (c := ?_) (cs := ?_) (.int _ _) s_int rfl rfl rfl ?_ ?_ ?_ ?_; rotate_left 3; (with_reducible first | exact gi0 | exact gi1 | exact gi2 | exact gi3 | exact gi4 | exact gi5); exact of_decide_eq_true rfl; exact rfl; clear S; intro w1 S; (try simp only [Cel.cells, zL, List.set_cons_zero, List.set_cons_succ, startI, secondI, noneI, regI] at S))
     | ((with_reducible refine wpl_isDst 49 ?_); refine S.gsl [.int .i64 1, .int .i64 2, .int .i64 3, .int .i64 4] 3 (by kernel_rfl) ?_; clear S; intro g w1 S)
     | ((with_reducible refine g_ld 3 ?_); first | (refine g_skip rfl ?_) | (refine S.gld (i := ?_) (c := ?_) (v := ?_) Tryz.underlying3 rfl rfl rfl ?_ ?_ ?_; rotate_left 3; (with_reducible first | exact gi0 | exact gi1 | exact gi2 | exact gi3 | exact gi4 | exact gi5); exact rfl))
     | (go_at_call 117; refine (QP.out _).mono ?_; rintro e wf ⟨rfl, hbf⟩; replace S := S.below hbf; clear hbf)
     | (go_at_call 120; refine (QO.out _).mono ?_; rintro e wf ⟨rfl, rfl⟩)
     | (go_at_call 118; refine (runp_c _).mono ?_; rintro e wf ⟨rfl, hbf⟩; replace S := S.below hbf; clear hbf))
    (try simp only [Exit.inBlock, Exit.then])
    apply bodyPost_ret
    refine S.gR2 (i := ?_) (c := ?_) Tryz.underlying28 rfl rfl rfl ?_ ?_
    rotate_left 2
    (with_reducible first | exact gi0 | exact gi1 | exact gi2 | exact gi3 | exact gi4 | exact gi5)
    exact sI rfl
    rfl
    exact ⟨_, _, rfl, HX.out, S.low⟩
end Go.Proofs.YtplhblhopaheeaaGreatDoor
namespace Go.Proofs.YtplhblhopaheeaaGreatDoor
open Go.ChangeShapes Go.WideShapes Go.ChangeAt Go.RowKit
set_option linter.unusedVariables false
set_option linter.unusedSimpArgs false

theorem u16_join (x y i : Nat) (hx : x % 2 ^ i = 0) (hx1 : x < 65536) (hy : y < 2 ^ i) (hy1 : y < 65536) : bits .or .u16 (x : Int) (y : Int) = ((x + y : Nat) : Int) := by
  rw [(bits_nat .u16 16 (by decide) (fun n h1 h2 => by rw [IntKind.wrap_u16]; omega) x y (by omega) (by omega)).2]
  have hq : x = 2 ^ i * (x / 2 ^ i) := by
    have := Nat.div_add_mod x (2 ^ i)
    omega
  rw [hq, ← Nat.two_pow_add_eq_or_of_lt hy (x / 2 ^ i)]
theorem shi_fin (x : Nat) (hN : (dataOpS (fd_w x 21 4 : Nat) != 64) = true) (m s1 s2 : Int) :
    checkedI (regI (dataX x) m s1 s2) true x = (bif mayS (dataX x) false && !oddS m then regI (dataX x) m s1 s2 else noneI 65 x) := by
  obtain ⟨h1, h2, h3, h4, h5, h6⟩ := form_yes x hN
  rw [h6]
  unfold checkedI
  have e1 : mayD (regI (dataX x) m s1 s2) = mayD (dataX x) := rfl
  have e2 : mayN (regI (dataX x) m s1 s2) = mayN (dataX x) := rfl
  have e3 : resS (regI (dataX x) m s1 s2).m = oddS m := rfl
  have e4 : resS (regI (dataX x) m s1 s2).a = false := by show resS (dataX x).a = false; rw [h4]; rfl
  rw [e1, e2, e3, e4]
  cases mayD (dataX x) <;> cases mayN (dataX x) <;> cases oddS m <;> rfl
theorem rshifted_c (h k x : Nat) (hh : h < 65536) (hk : k < 65536) (hx0 : x = h * 65536 + k) (w : World) : Calls Tryz.prog 74 #[.int .u16 h, .int .u16 k] w fun e w' => Two w (shiX x) x e w' := by
  have h5_4 : bits .and .u16 ((h : Int) / 32) 15 = ((fd_w x 21 4 : Nat) : Int) := by rw [hx0, fdh h k 5 4 hk]; exact fd_u16 h 5 4 hh (by decide) _ _ (by simp) rfl
  have hh0_4 : bits .and .u16 ((h : Int)) 15 = ((fd_w x 16 4 : Nat) : Int) := by rw [hx0, fdh h k 0 4 hk]; exact fd_u16 h 0 4 hh (by decide) _ _ (by simp) rfl
  have h4_1 : bits .and .u16 ((h : Int) / 16) 1 = ((fd_w x 20 1 : Nat) : Int) := by rw [hx0, fdh h k 4 1 hk]; exact fd_u16 h 4 1 hh (by decide) _ _ (by simp) rfl
  have k8_4 : bits .and .u16 ((k : Int) / 256) 15 = ((fd_w x 8 4 : Nat) : Int) := by rw [hx0, fdk h k 8 4 (by decide)]; exact fd_u16 k 8 4 hk (by decide) _ _ (by simp) rfl
  have kk0_4 : bits .and .u16 ((k : Int)) 15 = ((fd_w x 0 4 : Nat) : Int) := by rw [hx0, fdk h k 0 4 (by decide)]; exact fd_u16 k 0 4 hk (by decide) _ _ (by simp) rfl
  have k4_2 : bits .and .u16 ((k : Int) / 16) 3 = ((fd_w x 4 2 : Nat) : Int) := by rw [hx0, fdk h k 4 2 (by decide)]; exact fd_u16 k 4 2 hk (by decide) _ _ (by simp) rfl
  have k12_3 : bits .and .u16 ((k : Int) / 4096) 7 = ((fd_w x 12 3 : Nat) : Int) := by rw [hx0, fdk h k 12 3 (by decide)]; exact fd_u16 k 12 3 hk (by decide) _ _ (by simp) rfl
  have k6_2 : bits .and .u16 ((k : Int) / 64) 3 = ((fd_w x 6 2 : Nat) : Int) := by rw [hx0, fdk h k 6 2 (by decide)]; exact fd_u16 k 6 2 hk (by decide) _ _ (by simp) rfl
  have f21_4 : fd_w x 21 4 < 16 := fd_lt_w x 21 4
  have f16_4 : fd_w x 16 4 < 16 := fd_lt_w x 16 4
  have f20_1 : fd_w x 20 1 < 2 := fd_lt_w x 20 1
  have f8_4 : fd_w x 8 4 < 16 := fd_lt_w x 8 4
  have f0_4 : fd_w x 0 4 < 16 := fd_lt_w x 0 4
  have f4_2 : fd_w x 4 2 < 4 := fd_lt_w x 4 2
  have f12_3 : fd_w x 12 3 < 8 := fd_lt_w x 12 3
  have f6_2 : fd_w x 6 2 < 4 := fd_lt_w x 6 2
  have f15_1 : fd_w x 15 1 < 2 := fd_lt_w x 15 1
  have k15 : (k : Int) / 32768 = ((fd_w x 15 1 : Nat) : Int) := by
    rw [hx0, fdk h k 15 1 (by decide)]
    unfold fd_w
    omega
  have j1 : bits .or .u16 ((fd_w x 12 3 : Nat) * 4 : Int) (fd_w x 6 2 : Nat) = ((fd_w x 12 3 * 4 + fd_w x 6 2 : Nat) : Int) := u16_join (fd_w x 12 3 * 4) (fd_w x 6 2) 2 (by omega) (by omega) (by omega) (by omega)
  have shiE : shiX x = bif (dataX x).op == 64 || fd_w x 15 1 != 0 then noneI 64 x else checkedI (regI (dataX x) (fd_w x 0 4 : Nat) (shiftG (fd_w x 4 2) (fd_w x 12 3 * 4 + fd_w x 6 2)).1 (shiftG (fd_w x 4 2) (fd_w x 12 3 * 4 + fd_w x 6 2)).2) true x := rfl
  refine rshi_g h k x (fd_w x 21 4) (fd_w x 8 4) (fd_w x 16 4) (fd_w x 20 1) (fd_w x 0 4) (fd_w x 15 1) (fd_w x 4 2) (fd_w x 12 3) (fd_w x 6 2) (fd_w x 12 3 * 4 + fd_w x 6 2) (fd_w x 20 1 != 0) (dataOpS (fd_w x 21 4 : Nat) != 64) (mayS (formI (fd_w x 21 4) (fd_w x 8 4 : Nat) (fd_w x 16 4 : Nat) (fd_w x 20 1 != 0)) false) (formI (fd_w x 21 4) (fd_w x 8 4 : Nat) (fd_w x 16 4 : Nat) (fd_w x 20 1 != 0)) (shiX x)
    h5_4 hh0_4 h4_1 k8_4 kk0_4 k15 k4_2 k12_3 k6_2 f21_4 f8_4 f16_4 f20_1 f0_4 f15_1 f4_2 f12_3 f6_2 (s_bit _ f20_1) j1 (by omega) (rform_c _ f21_4 _ _ _) (fun s1 s2 => rmay_c (regI _ _ s1 s2) false) ?_ ?_ ?_ w
  · intro hf
    rw [shiE]
    rcases hf with hf | hf
    · rw [form_no x hf]
      rfl
    · rw [hf, show ((1 : Nat) != 0) = true from rfl, Bool.or_true]
      rfl
  · intro hf h15 ho
    obtain ⟨h1, h2, h3, h4, h5, h6⟩ := form_yes x hf
    rw [formI_yes x hf] at ho
    rw [shiE, h1, h15, shi_fin x hf]
    rcases ho with ho | ho <;> rw [ho]
    · rfl
    · cases mayS (dataX x) false <;> rfl
  · intro hf h15 hm ho
    obtain ⟨h1, h2, h3, h4, h5, h6⟩ := form_yes x hf
    rw [formI_yes x hf] at hm ⊢
    rw [shiE, h1, h15, shi_fin x hf, hm, ho]
    exact fin_yes _ x h2
end Go.Proofs.YtplhblhopaheeaaGreatDoor
