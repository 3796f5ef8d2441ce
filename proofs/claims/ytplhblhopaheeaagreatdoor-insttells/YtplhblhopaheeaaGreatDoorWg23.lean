/- Stage 9: the document: immediates of twelve and sixteen bits, fields of bits. -/
import Derived.Test.YtplhblhopaheeaaGreatDoorWg1
import Derived.Test.YtplhblhopaheeaaGreatDoorYa
namespace Go.Proofs.YtplhblhopaheeaaGreatDoor
open Go.ChangeShapes Go.WideShapes Go.ChangeAt Go.RowKit
set_option linter.unusedVariables false
set_option linter.unusedSimpArgs false
set_option maxHeartbeats 20000000
set_option maxRecDepth 100000

theorem rnum_g (h k gd gn gi g12 gl q1 N M g g7 b5 a6 at5 w5 x : Nat) (mj5 mj3 : Bool) (X : IV) (kd : bits .and .u16 ((k : Int) / 256) 15 = (gd : Int)) (kn : bits .and .u16 (h : Int) 15 = (gn : Int)) (ki : bits .and .u16 ((h : Int) / 1024) 1 = (gi : Int)) (k12 : bits .and .u16 ((k : Int) / 4096) 7 = (g12 : Int)) (kl : bits .and .u16 (k : Int) 255 = (gl : Int)) (j1 : bits .or .u32 ((gi : Int) * 2048) ((g12 : Int) * 256) = (q1 : Int)) (j2 : bits .or .u32 (q1 : Int) (gl : Int) = (N : Int)) (j3 : bits .or .u32 ((gn : Int) * 4096) (N : Int) = (M : Int))
    (k4 : bits .and .u16 ((h : Int) / 16) 31 = (g : Int)) (k7 : bits .and .u16 ((h : Int) / 128) 1 = (g7 : Int)) (e7 : g7 = g / 8 % 2) (kk5 : bits .and .u16 ((k : Int) / 32) 1 = (b5 : Int)) (k6 : bits .and .u16 ((k : Int) / 64) 3 = (a6 : Int)) (jat : bits .or .u16 ((g12 : Int) * 4) (a6 : Int) = (at5 : Int)) (kw : bits .and .u16 (k : Int) 31 = (w5 : Int))
    (bd : gd < 16) (bn : gn < 16) (bi : gi < 2) (b12 : g12 < 8) (bl : gl < 256) (bN : N < 4096) (bM : M < 65536) (bg : g < 32) (bb5 : b5 < 2) (b6 : a6 < 4) (bat : at5 < 32) (bw : w5 < 32)
    (C5 : ∀ w, Calls Tryz.prog 117 #[(secondI (startI 5 gd gn) N 2).val, .bool true] w fun e w' => e = .returned (.bool mj5) ∧ Below w.heap.size w w')
    (C3 : ∀ w, Calls Tryz.prog 117 #[(secondI (startI 3 gd gn) N 2).val, .bool true] w fun e w' => e = .returned (.bool mj3) ∧ Below w.heap.size w w')
    (H0 : g = 0 → fin (bif mj5 then secondI (startI 5 gd gn) N 2 else startI 65 0 0) true x = X) (H10 : g = 10 → fin (bif mj3 then secondI (startI 3 gd gn) N 2 else startI 65 0 0) true x = X)
    (H4 : g = 4 → fin (bif oddS gd then startI 65 0 0 else secondI (startI 13 gd 0) M 2) true x = X) (H12 : g = 12 → fin (bif oddS gd then startI 65 0 0 else immI (startI 30 gd 0) M) true x = X)
    (HZ : (g = 20 ∨ g = 28 ∨ g = 22) → (gi = 1 ∨ b5 = 1) → fin IV.zero false x = X)
    (HB1 : (g = 20 ∨ g = 28) → gi = 0 → b5 = 0 → (32 < at5 + (w5 + 1) ∨ oddS gd = true ∨ oddS gn = true) → fin (startI 65 0 0) true x = X)
    (HB2 : ∀ op : Nat, ((g = 20 ∧ op = 32) ∨ (g = 28 ∧ op = 31)) → gi = 0 → b5 = 0 → at5 + (w5 + 1) ≤ 32 → oddS gd = false → oddS gn = false → fin (immI (startI op gd gn) ((at5 : Int) + 32 * ((w5 : Int) + 1))) true x = X)
    (HI1 : g = 22 → gi = 0 → b5 = 0 → (w5 < at5 ∨ oddS gd = true ∨ gn = 13) → fin (startI 65 0 0) true x = X)
    (HI2 : g = 22 → gi = 0 → b5 = 0 → at5 ≤ w5 → oddS gd = false → gn ≠ 13 → fin (immI (startI 33 gd gn) ((at5 : Int) + 32 * ((w5 : Int) + 1 - (at5 : Int)))) true x = X)
    (HN : g ≠ 0 → g ≠ 10 → g ≠ 4 → g ≠ 12 → g ≠ 20 → g ≠ 28 → g ≠ 22 → fin IV.zero false x = X)
    (w : World) : Calls Tryz.prog 72 #[.int .u16 h, .int .u16 k] w fun e w' => Two w X x e w' := by
  have QD : Hid _ := fun w => rodd_c gd w
  have QN : Hid _ := fun w => rodd_c gn w
  generalize oddS (gd : Int) = od at *
  rcases (show g = 0 ∨ g = 10 ∨ g = 4 ∨ g = 12 ∨ g = 20 ∨ g = 28 ∨ g = 22 ∨ (g ≠ 0 ∧ g ≠ 10 ∧ g ≠ 4 ∧ g ≠ 12 ∧ g ≠ 20 ∧ g ≠ 28 ∧ g ≠ 22) by omega) with rfl | rfl | rfl | rfl | rfl | rfl | rfl | ⟨n0, n10, n4, n12, n20, n28, n22⟩
  focus
    replace k4 : bits .and .u16 ((h : Int) / 16) 31 = 0 := k4
    subst e7
    replace k7 : bits .and .u16 ((h : Int) / 128) 1 = 0 := k7
    have QM : Hid _ := C5
    clear C5 C3 QN QD
    cases mj5
    focus
      have HX : Hid (fin (startI 65 0 0) true x = X) := H0 rfl
      clear H0 H10 H4 H12 HZ HB1 HB2 HI1 HI2 HN
    rotate_left 1
    focus
      have HX : Hid (fin (secondI (startI 5 gd gn) N 2) true x = X) := H0 rfl
      clear H0 H10 H4 H12 HZ HB1 HB2 HI1 HI2 HN
    rotate_left 1
  rotate_left 2
  focus
    replace k4 : bits .and .u16 ((h : Int) / 16) 31 = 10 := k4
    subst e7
    replace k7 : bits .and .u16 ((h : Int) / 128) 1 = 1 := k7
    have QM : Hid _ := C3
    clear C5 C3 QN QD
    cases mj3
    focus
      have HX : Hid (fin (startI 65 0 0) true x = X) := H10 rfl
      clear H0 H10 H4 H12 HZ HB1 HB2 HI1 HI2 HN
    rotate_left 1
    focus
      have HX : Hid (fin (secondI (startI 3 gd gn) N 2) true x = X) := H10 rfl
      clear H0 H10 H4 H12 HZ HB1 HB2 HI1 HI2 HN
    rotate_left 1
  rotate_left 2
  focus
    replace k4 : bits .and .u16 ((h : Int) / 16) 31 = 4 := k4
    subst e7
    replace k7 : bits .and .u16 ((h : Int) / 128) 1 = 0 := k7
    clear C5 C3 QN
    cases od
    focus
      have HX : Hid (fin (secondI (startI 13 gd 0) M 2) true x = X) := H4 rfl
      clear H0 H10 H4 H12 HZ HB1 HB2 HI1 HI2 HN
    rotate_left 1
    focus
      have HX : Hid (fin (startI 65 0 0) true x = X) := H4 rfl
      clear H0 H10 H4 H12 HZ HB1 HB2 HI1 HI2 HN
    rotate_left 1
  rotate_left 2
  focus
    replace k4 : bits .and .u16 ((h : Int) / 16) 31 = 12 := k4
    subst e7
    replace k7 : bits .and .u16 ((h : Int) / 128) 1 = 1 := k7
    clear C5 C3 QN
    cases od
    focus
      have HX : Hid (fin (immI (startI 30 gd 0) M) true x = X) := H12 rfl
      clear H0 H10 H4 H12 HZ HB1 HB2 HI1 HI2 HN
    rotate_left 1
    focus
      have HX : Hid (fin (startI 65 0 0) true x = X) := H12 rfl
      clear H0 H10 H4 H12 HZ HB1 HB2 HI1 HI2 HN
    rotate_left 1
  rotate_left 2
  focus
    replace k4 : bits .and .u16 ((h : Int) / 16) 31 = 20 := k4
    subst e7
    replace k7 : bits .and .u16 ((h : Int) / 128) 1 = 0 := k7
    clear C5 C3
    rcases (show gi = 0 ∨ gi = 1 by omega) with rfl | rfl
    focus
      replace ki : bits .and .u16 ((h : Int) / 1024) 1 = 0 := ki
      rcases (show b5 = 0 ∨ b5 = 1 by omega) with rfl | rfl
      focus
        replace kk5 : bits .and .u16 ((k : Int) / 32) 1 = 0 := kk5
        have d1 : decide ((w5 : Int) + 1 < 1) = false := by simp; omega
        have d1p : ((w5 : Int) + 1 < 1) = False := by simp; omega
        generalize oddS (gn : Int) = on at *
        rcases (show 32 < at5 + (w5 + 1) ∨ at5 + (w5 + 1) ≤ 32 by omega) with hm | hm
        focus
          have d2 : decide ((32 : Int) < (at5 : Int) + ((w5 : Int) + 1)) = true := by simp; omega
          have d2p : ((32 : Int) < (at5 : Int) + ((w5 : Int) + 1)) = True := by simp; omega
          have HX : Hid (fin (startI 65 0 0) true x = X) := HB1 (by decide) rfl rfl (.inl hm)
          clear H0 H10 H4 H12 HZ HB1 HB2 HI1 HI2 HN
          clear hm
        rotate_left 1
        focus
          have d2 : decide ((32 : Int) < (at5 : Int) + ((w5 : Int) + 1)) = false := by simp; omega
          have d2p : ((32 : Int) < (at5 : Int) + ((w5 : Int) + 1)) = False := by simp; omega
          cases od
          focus
            cases on
            focus
              have HX : Hid (fin (immI (startI 32 gd gn) ((at5 : Int) + 32 * ((w5 : Int) + 1))) true x = X) := HB2 32 (by decide) rfl rfl hm rfl rfl
              clear H0 H10 H4 H12 HZ HB1 HB2 HI1 HI2 HN
              clear hm
            rotate_left 1
            focus
              rcases (show gn = 15 ∨ gn ≠ 15 by omega) with h15 | h15
              focus
                have n15 : ((gn : Int) == 15) = true := by simp; omega
                have HX : Hid (fin (startI 65 0 0) true x = X) := HB1 (by decide) rfl rfl (.inr (.inr rfl))
                clear H0 H10 H4 H12 HZ HB1 HB2 HI1 HI2 HN
                clear hm h15
              rotate_left 1
              focus
                have n15 : ((gn : Int) == 15) = false := by simp; omega
                have HX : Hid (fin (startI 65 0 0) true x = X) := HB1 (by decide) rfl rfl (.inr (.inr rfl))
                clear H0 H10 H4 H12 HZ HB1 HB2 HI1 HI2 HN
                clear hm h15
              rotate_left 1
            rotate_left 2
          rotate_left 3
          focus
            have HX : Hid (fin (startI 65 0 0) true x = X) := HB1 (by decide) rfl rfl (.inr (.inl rfl))
            clear H0 H10 H4 H12 HZ HB1 HB2 HI1 HI2 HN
            clear hm
          rotate_left 1
        rotate_left 4
      rotate_left 5
      focus
        replace kk5 : bits .and .u16 ((k : Int) / 32) 1 = 1 := kk5
        have HX : Hid (fin (IV.zero) false x = X) := HZ (by decide) (.inr rfl)
        clear H0 H10 H4 H12 HZ HB1 HB2 HI1 HI2 HN
        clear QD QN
      rotate_left 1
    rotate_left 6
    focus
      replace ki : bits .and .u16 ((h : Int) / 1024) 1 = 1 := ki
      have HX : Hid (fin (IV.zero) false x = X) := HZ (by decide) (.inl rfl)
      clear H0 H10 H4 H12 HZ HB1 HB2 HI1 HI2 HN
      clear QD QN
    rotate_left 1
  rotate_left 7
  focus
    replace k4 : bits .and .u16 ((h : Int) / 16) 31 = 28 := k4
    subst e7
    replace k7 : bits .and .u16 ((h : Int) / 128) 1 = 1 := k7
    clear C5 C3
    rcases (show gi = 0 ∨ gi = 1 by omega) with rfl | rfl
    focus
      replace ki : bits .and .u16 ((h : Int) / 1024) 1 = 0 := ki
      rcases (show b5 = 0 ∨ b5 = 1 by omega) with rfl | rfl
      focus
        replace kk5 : bits .and .u16 ((k : Int) / 32) 1 = 0 := kk5
        have d1 : decide ((w5 : Int) + 1 < 1) = false := by simp; omega
        have d1p : ((w5 : Int) + 1 < 1) = False := by simp; omega
        generalize oddS (gn : Int) = on at *
        rcases (show 32 < at5 + (w5 + 1) ∨ at5 + (w5 + 1) ≤ 32 by omega) with hm | hm
        focus
          have d2 : decide ((32 : Int) < (at5 : Int) + ((w5 : Int) + 1)) = true := by simp; omega
          have d2p : ((32 : Int) < (at5 : Int) + ((w5 : Int) + 1)) = True := by simp; omega
          have HX : Hid (fin (startI 65 0 0) true x = X) := HB1 (by decide) rfl rfl (.inl hm)
          clear H0 H10 H4 H12 HZ HB1 HB2 HI1 HI2 HN
          clear hm
        rotate_left 1
        focus
          have d2 : decide ((32 : Int) < (at5 : Int) + ((w5 : Int) + 1)) = false := by simp; omega
          have d2p : ((32 : Int) < (at5 : Int) + ((w5 : Int) + 1)) = False := by simp; omega
          cases od
          focus
            cases on
            focus
              have HX : Hid (fin (immI (startI 31 gd gn) ((at5 : Int) + 32 * ((w5 : Int) + 1))) true x = X) := HB2 31 (by decide) rfl rfl hm rfl rfl
              clear H0 H10 H4 H12 HZ HB1 HB2 HI1 HI2 HN
              clear hm
            rotate_left 1
            focus
              rcases (show gn = 15 ∨ gn ≠ 15 by omega) with h15 | h15
              focus
                have n15 : ((gn : Int) == 15) = true := by simp; omega
                have HX : Hid (fin (startI 65 0 0) true x = X) := HB1 (by decide) rfl rfl (.inr (.inr rfl))
                clear H0 H10 H4 H12 HZ HB1 HB2 HI1 HI2 HN
                clear hm h15
              rotate_left 1
              focus
                have n15 : ((gn : Int) == 15) = false := by simp; omega
                have HX : Hid (fin (startI 65 0 0) true x = X) := HB1 (by decide) rfl rfl (.inr (.inr rfl))
                clear H0 H10 H4 H12 HZ HB1 HB2 HI1 HI2 HN
                clear hm h15
              rotate_left 1
            rotate_left 2
          rotate_left 3
          focus
            have HX : Hid (fin (startI 65 0 0) true x = X) := HB1 (by decide) rfl rfl (.inr (.inl rfl))
            clear H0 H10 H4 H12 HZ HB1 HB2 HI1 HI2 HN
            clear hm
          rotate_left 1
        rotate_left 4
      rotate_left 5
      focus
        replace kk5 : bits .and .u16 ((k : Int) / 32) 1 = 1 := kk5
        have HX : Hid (fin (IV.zero) false x = X) := HZ (by decide) (.inr rfl)
        clear H0 H10 H4 H12 HZ HB1 HB2 HI1 HI2 HN
        clear QD QN
      rotate_left 1
    rotate_left 6
    focus
      replace ki : bits .and .u16 ((h : Int) / 1024) 1 = 1 := ki
      have HX : Hid (fin (IV.zero) false x = X) := HZ (by decide) (.inl rfl)
      clear H0 H10 H4 H12 HZ HB1 HB2 HI1 HI2 HN
      clear QD QN
    rotate_left 1
  rotate_left 7
  focus
    replace k4 : bits .and .u16 ((h : Int) / 16) 31 = 22 := k4
    subst e7
    replace k7 : bits .and .u16 ((h : Int) / 128) 1 = 0 := k7
    clear C5 C3
    rcases (show gi = 0 ∨ gi = 1 by omega) with rfl | rfl
    focus
      replace ki : bits .and .u16 ((h : Int) / 1024) 1 = 0 := ki
      rcases (show b5 = 0 ∨ b5 = 1 by omega) with rfl | rfl
      focus
        replace kk5 : bits .and .u16 ((k : Int) / 32) 1 = 0 := kk5
        rcases (show w5 < at5 ∨ at5 ≤ w5 by omega) with hm | hm
        focus
          have d1 : decide ((w5 : Int) + 1 - (at5 : Int) < 1) = true := by simp; omega
          have d1p : ((w5 : Int) + 1 - (at5 : Int) < 1) = True := by simp; omega
          have HX : Hid (fin (startI 65 0 0) true x = X) := HI1 rfl rfl rfl (.inl hm)
          clear H0 H10 H4 H12 HZ HB1 HB2 HI1 HI2 HN
          clear hm
        rotate_left 1
        focus
          have d1 : decide ((w5 : Int) + 1 - (at5 : Int) < 1) = false := by simp; omega
          have d1p : ((w5 : Int) + 1 - (at5 : Int) < 1) = False := by simp; omega
          have d2 : decide ((32 : Int) < (at5 : Int) + ((w5 : Int) + 1 - (at5 : Int))) = false := by simp; omega
          have d2p : ((32 : Int) < (at5 : Int) + ((w5 : Int) + 1 - (at5 : Int))) = False := by simp; omega
          cases od
          focus
            rcases (show gn = 13 ∨ gn = 15 ∨ (gn ≠ 13 ∧ gn ≠ 15) by omega) with hn | hn | hn
            focus
              have ho : oddS (gn : Int) = true := by rw [hn]; rfl
              rw [ho] at QN
              have n15 : ((gn : Int) == 15) = false := by simp; omega
              have HX : Hid (fin (startI 65 0 0) true x = X) := HI1 rfl rfl rfl (.inr (.inr hn))
              clear H0 H10 H4 H12 HZ HB1 HB2 HI1 HI2 HN
              clear hm hn ho
            rotate_left 1
            focus
              have ho : oddS (gn : Int) = true := by rw [hn]; rfl
              rw [ho] at QN
              have n15 : ((gn : Int) == 15) = true := by simp; omega
              have HX : Hid (fin (immI (startI 33 gd gn) ((at5 : Int) + 32 * ((w5 : Int) + 1 - (at5 : Int)))) true x = X) := HI2 rfl rfl rfl hm rfl (by omega)
              clear H0 H10 H4 H12 HZ HB1 HB2 HI1 HI2 HN
              clear hn ho
            rotate_left 1
            focus
              have ho : oddS (gn : Int) = false := by unfold oddS; simp; omega
              rw [ho] at QN
              have HX : Hid (fin (immI (startI 33 gd gn) ((at5 : Int) + 32 * ((w5 : Int) + 1 - (at5 : Int)))) true x = X) := HI2 rfl rfl rfl hm rfl (by omega)
              clear H0 H10 H4 H12 HZ HB1 HB2 HI1 HI2 HN
              clear hn ho
            rotate_left 1
          rotate_left 3
          focus
            have HX : Hid (fin (startI 65 0 0) true x = X) := HI1 rfl rfl rfl (.inr (.inl rfl))
            clear H0 H10 H4 H12 HZ HB1 HB2 HI1 HI2 HN
            clear hm
          rotate_left 1
        rotate_left 4
      rotate_left 5
      focus
        replace kk5 : bits .and .u16 ((k : Int) / 32) 1 = 1 := kk5
        have HX : Hid (fin (IV.zero) false x = X) := HZ (by decide) (.inr rfl)
        clear H0 H10 H4 H12 HZ HB1 HB2 HI1 HI2 HN
        clear QD QN
      rotate_left 1
    rotate_left 6
    focus
      replace ki : bits .and .u16 ((h : Int) / 1024) 1 = 1 := ki
      have HX : Hid (fin (IV.zero) false x = X) := HZ (by decide) (.inl rfl)
      clear H0 H10 H4 H12 HZ HB1 HB2 HI1 HI2 HN
      clear QD QN
    rotate_left 1
  rotate_left 7
  focus
    have m0 : ((g : Int) == 0) = false := by simp; omega
    have m10 : ((g : Int) == 10) = false := by simp; omega
    have m4 : ((g : Int) == 4) = false := by simp; omega
    have m12 : ((g : Int) == 12) = false := by simp; omega
    have m20 : ((g : Int) == 20) = false := by simp; omega
    have m28 : ((g : Int) == 28) = false := by simp; omega
    have m22 : ((g : Int) == 22) = false := by simp; omega
    have HX : Hid (fin (IV.zero) false x = X) := HN n0 n10 n4 n12 n20 n28 n22
    clear H0 H10 H4 H12 HZ HB1 HB2 HI1 HI2 HN
    clear C5 C3 QD QN n0 n10 n4 n12 n20 n28 n22 k7 e7
  rotate_left 1
  all_goals
    go_enter Tryz.func72, Tryz.ntmps72
    have S := SH.start w
    go_wp2_with (first
     | ((with_reducible refine g_al 28 ?_); refine S.gal zI ?_; clear S; intro b w1 S)
     | ((with_reducible refine wpl_isDst 43 ?_); refine S.gsl [.int .i64 5, .int .i64 3] 3 (by kernel_rfl) ?_; clear S; intro g w1 S)
     | ((with_reducible refine g_ld 3 ?_); first | (refine g_skip rfl ?_) | (refine S.gld (i := ?_) (c := ?_) (v := ?_) Tryz.underlying3 rfl rfl rfl ?_ ?_ ?_; rotate_left 3; (with_reducible first | exact gi0 | exact gi1 | exact gi2 | exact gi3 | exact gi4 | exact gi5); exact rfl))
     | (go_at_call 119; refine (rwide_c _ _).mono ?_; rintro e wf ⟨rfl, hbf⟩; replace S := S.below hbf; clear hbf)
     | ((with_reducible refine g_st 28 ?_); refine S.gst (i := ?_) (c := ?_) rfl rfl ?_ ?_ ?_ ?_ ?_; rotate_left 2; (with_reducible first | exact gi0 | exact gi1 | exact gi2 | exact gi3 | exact gi4 | exact gi5); rfl; rfl; exact sI rfl; clear S; intro w1 S; (try simp only [Cel.cells, zL, List.set_cons_zero, List.set_cons_succ, startI, secondI, noneI, immI] at S))
     | ((with_reducible refine g_st 3 ?_); refine S.gs1 (i := ?_) (c := ?_) (cs := ?_) (.int _ _) s_int rfl rfl rfl ?_ ?_ ?_ ?_; rotate_left 3; (with_reducible first | exact gi0 | exact gi1 | exact gi2 | exact gi3 | exact gi4 | exact gi5); exact of_decide_eq_true rfl; exact rfl; clear S; intro w1 S; (try simp only [Cel.cells, zL, List.set_cons_zero, List.set_cons_succ, startI, secondI, noneI, immI] at S))
     | ((with_reducible refine g_st 26 ?_); refine S.gs1 (i := ?_) (c := ?_) (cs := ?_) (.int _ _) s_u32 rfl rfl rfl ?_ ?_ ?_ ?_; rotate_left 3; (with_reducible first | exact gi0 | exact gi1 | exact gi2 | exact gi3 | exact gi4 | exact gi5); exact of_decide_eq_true rfl; exact rfl; clear S; intro w1 S; (try simp only [Cel.cells, zL, List.set_cons_zero, List.set_cons_succ, startI, secondI, noneI, immI] at S))
     | ((with_reducible refine g_st 4 ?_); refine S.gs1 (i := ?_) (c := ?_) (cs := ?_) (.bool _) s_bool rfl rfl rfl ?_ ?_ ?_ ?_; rotate_left 3; (with_reducible first | exact gi0 | exact gi1 | exact gi2 | exact gi3 | exact gi4 | exact gi5); exact of_decide_eq_true rfl; exact rfl; clear S; intro w1 S; (try simp only [Cel.cells, zL, List.set_cons_zero, List.set_cons_succ, startI, secondI, noneI, immI] at S))
     | ((with_reducible refine g_ld 28 ?_); first | (refine g_skip rfl ?_) | (refine S.gla (i := ?_) (c := ?_) Tryz.underlying28 rfl rfl rfl ?_ ?_ ?_; rotate_left 2; (with_reducible first | exact gi0 | exact gi1 | exact gi2 | exact gi3 | exact gi4 | exact gi5); exact sI rfl))
     | (go_at_call 117; refine (QM.out _).mono ?_; rintro e wf ⟨rfl, hbf⟩; replace S := S.below hbf; clear hbf)
     | (go_at_call 118; refine (runp_c _).mono ?_; rintro e wf ⟨rfl, hbf⟩; replace S := S.below hbf; clear hbf)
     | (go_at_call 120; first | (with_reducible refine (QD.out _).mono ?_; rintro e wf ⟨rfl, rfl⟩) | (with_reducible refine (QN.out _).mono ?_; rintro e wf ⟨rfl, rfl⟩)))
    (try simp only [Exit.inBlock, Exit.then])
    apply bodyPost_ret
    refine S.gR2 (i := ?_) (c := ?_) Tryz.underlying28 rfl rfl rfl ?_ ?_
    rotate_left 2
    (with_reducible first | exact gi0 | exact gi1 | exact gi2 | exact gi3 | exact gi4 | exact gi5)
    exact sI rfl
    rfl
    exact ⟨_, _, rfl, HX.out, S.low⟩
end Go.Proofs.YtplhblhopaheeaaGreatDoor
