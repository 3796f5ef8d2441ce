/- Stage 9: the document: shifts by registers, single operands. -/
import Derived.Test.YtplhblhopaheeaaGreatDoorWg1
import Derived.Test.YtplhblhopaheeaaGreatDoorYa
namespace Go.Proofs.YtplhblhopaheeaaGreatDoor
open Go.ChangeShapes Go.WideShapes Go.ChangeAt Go.RowKit
set_option linter.unusedVariables false
set_option linter.unusedSimpArgs false
set_option maxHeartbeats 20000000
set_option maxRecDepth 100000

theorem run_g (h k gd gn gm g4 l g7 g5 g40 g47 l6 l4 x : Nat) (X : IV) (kd : bits .and .u16 ((k : Int) / 256) 15 = (gd : Int)) (kn : bits .and .u16 (h : Int) 15 = (gn : Int)) (km : bits .and .u16 (k : Int) 15 = (gm : Int)) (k4 : bits .and .u16 ((h : Int) / 16) 15 = (g4 : Int)) (k7 : bits .and .u16 ((h : Int) / 128) 1 = (g7 : Int)) (k5 : bits .and .u16 ((h : Int) / 32) 3 = (g5 : Int)) (k40 : bits .and .u16 ((h : Int) / 16) 1 = (g40 : Int)) (k47 : bits .and .u16 ((h : Int) / 16) 7 = (g47 : Int))
    (kl : bits .and .u16 ((k : Int) / 16) 15 = (l : Int)) (kl6 : bits .and .u16 ((k : Int) / 64) 3 = (l6 : Int)) (kl4 : bits .and .u16 ((k : Int) / 16) 3 = (l4 : Int)) (e7 : g7 = g4 / 8) (e5 : g5 = g4 / 2 % 4) (e40 : g40 = g4 % 2) (e47 : g47 = g4 % 8) (el6 : l6 = l / 4) (el4 : l4 = l % 4) (bd : gd < 16) (bn : gn < 16) (bm : gm < 16) (b4 : g4 < 16) (bl : l < 16)
    (HA : ∀ (op : Nat) (s : Bool), g4 < 8 → l = 0 → op = 17 + g4 / 2 → s = (g4 % 2 == 1) → fin (bif oddS gn || (oddS gd || oddS gm) then startI 65 0 0 else r4 op s gd gn gm 0) true x = X)
    (HB : ∀ op : Nat, l = 8 → gn = 15 → ((g4 = 0 ∧ op = 40) ∨ (g4 = 1 ∧ op = 42) ∨ (g4 = 4 ∧ op = 39) ∨ (g4 = 5 ∧ op = 41)) → fin (bif oddS gd || oddS gm then startI 65 0 0 else r4 op false gd 0 gm 0) true x = X)
    (HC : l = 8 → gn = 15 → (g4 = 2 ∨ g4 = 3 ∨ g4 = 6 ∨ g4 = 7) → ∀ i, fin i false x = X)
    (HD : ∀ op : Nat, ((g4 = 9 ∧ ((l = 8 ∧ op = 36) ∨ (l = 9 ∧ op = 37) ∨ (l = 10 ∧ op = 35) ∨ (l = 11 ∧ op = 38))) ∨ (g4 = 11 ∧ l = 8 ∧ op = 34)) → gn = gm → fin (bif oddS gd || oddS gm then startI 65 0 0 else r4 op false gd 0 gm 0) true x = X)
    (HE : ((g4 = 9 ∧ l / 4 = 2) ∨ (g4 = 11 ∧ l = 8)) → gn ≠ gm → fin (startI 65 0 0) true x = X)
    (HF : ((g4 < 8 ∧ l ≠ 0 ∧ (l ≠ 8 ∨ gn ≠ 15)) ∨ (8 ≤ g4 ∧ g4 ≠ 9 ∧ g4 ≠ 11) ∨ (g4 = 9 ∧ l / 4 ≠ 2) ∨ (g4 = 11 ∧ l ≠ 8)) → ∀ i, fin i false x = X)
    (w : World) : Calls Tryz.prog 75 #[.int .u16 h, .int .u16 k] w fun e w' => Two w X x e w' := by
  have QN : Hid _ := fun w => rodd_c gn w
  have QD : Hid _ := fun w => rodd_c gd w
  have QM : Hid _ := fun w => rodd_c gm w
  generalize oddS (gn : Int) = on at *
  generalize oddS (gd : Int) = od at *
  generalize oddS (gm : Int) = om at *
  rcases (show g4 < 8 ∨ g4 = 9 ∨ g4 = 11 ∨ (8 ≤ g4 ∧ g4 ≠ 9 ∧ g4 ≠ 11) by omega) with h8 | rfl | rfl | h8
  focus
    rcases (show l = 0 ∨ l = 8 ∨ (l ≠ 0 ∧ l ≠ 8) by omega) with rfl | rfl | hl
    focus
      subst el6 el4
      replace kl : bits .and .u16 ((k : Int) / 16) 15 = 0 := kl
      replace kl6 : bits .and .u16 ((k : Int) / 64) 3 = 0 := kl6
      replace kl4 : bits .and .u16 ((k : Int) / 16) 3 = 0 := kl4
      obtain rfl : g7 = 0 := by omega
      replace k7 : bits .and .u16 ((h : Int) / 128) 1 = 0 := k7
      have e9 : ((g4 : Int) == 9) = false := by simp; omega
      have e11 : ((g4 : Int) == 11) = false := by simp; omega
      obtain ⟨s, hs⟩ : ∃ s, ((g40 : Int) == 1) = s := ⟨_, rfl⟩
      have hs2 : s = (g4 % 2 == 1) := by
        rw [← hs]
        rcases (show g4 % 2 = 0 ∨ g4 % 2 = 1 by omega) with e | e <;> rw [e40, e] <;> rfl
      rcases (show g4 / 2 = 0 ∨ g4 / 2 = 1 ∨ g4 / 2 = 2 ∨ g4 / 2 = 3 by omega) with hv | hv | hv | hv
      focus
        replace k5 : bits .and .u16 ((h : Int) / 32) 3 = 0 := by rw [k5, show g5 = 0 by omega]; rfl
        cases on
        focus
          cases od
          focus
            cases om
            focus
              have HX : Hid (fin (r4 17 s gd gn gm 0) true x = X) := HA 17 s (by omega) rfl (by omega) hs2
              clear HA HB HC HD HE HF
              (try clear e7); (try clear e5); (try clear e40); (try clear e47); (try clear el6); (try clear el4)
              clear h8 hv hs2
            rotate_left 1
            focus
              have HX : Hid (fin (startI 65 0 0) true x = X) := HA 17 s (by omega) rfl (by omega) hs2
              clear HA HB HC HD HE HF
              (try clear e7); (try clear e5); (try clear e40); (try clear e47); (try clear el6); (try clear el4)
              clear h8 hv hs2
            rotate_left 1
          rotate_left 2
          focus
            have HX : Hid (fin (startI 65 0 0) true x = X) := HA 17 s (by omega) rfl (by omega) hs2
            clear HA HB HC HD HE HF
            (try clear e7); (try clear e5); (try clear e40); (try clear e47); (try clear el6); (try clear el4)
            clear h8 hv hs2
          rotate_left 1
        rotate_left 3
        focus
          have HX : Hid (fin (startI 65 0 0) true x = X) := HA 17 s (by omega) rfl (by omega) hs2
          clear HA HB HC HD HE HF
          (try clear e7); (try clear e5); (try clear e40); (try clear e47); (try clear el6); (try clear el4)
          clear h8 hv hs2
        rotate_left 1
      rotate_left 4
      focus
        replace k5 : bits .and .u16 ((h : Int) / 32) 3 = 1 := by rw [k5, show g5 = 1 by omega]; rfl
        cases on
        focus
          cases od
          focus
            cases om
            focus
              have HX : Hid (fin (r4 18 s gd gn gm 0) true x = X) := HA 18 s (by omega) rfl (by omega) hs2
              clear HA HB HC HD HE HF
              (try clear e7); (try clear e5); (try clear e40); (try clear e47); (try clear el6); (try clear el4)
              clear h8 hv hs2
            rotate_left 1
            focus
              have HX : Hid (fin (startI 65 0 0) true x = X) := HA 18 s (by omega) rfl (by omega) hs2
              clear HA HB HC HD HE HF
              (try clear e7); (try clear e5); (try clear e40); (try clear e47); (try clear el6); (try clear el4)
              clear h8 hv hs2
            rotate_left 1
          rotate_left 2
          focus
            have HX : Hid (fin (startI 65 0 0) true x = X) := HA 18 s (by omega) rfl (by omega) hs2
            clear HA HB HC HD HE HF
            (try clear e7); (try clear e5); (try clear e40); (try clear e47); (try clear el6); (try clear el4)
            clear h8 hv hs2
          rotate_left 1
        rotate_left 3
        focus
          have HX : Hid (fin (startI 65 0 0) true x = X) := HA 18 s (by omega) rfl (by omega) hs2
          clear HA HB HC HD HE HF
          (try clear e7); (try clear e5); (try clear e40); (try clear e47); (try clear el6); (try clear el4)
          clear h8 hv hs2
        rotate_left 1
      rotate_left 4
      focus
        replace k5 : bits .and .u16 ((h : Int) / 32) 3 = 2 := by rw [k5, show g5 = 2 by omega]; rfl
        cases on
        focus
          cases od
          focus
            cases om
            focus
              have HX : Hid (fin (r4 19 s gd gn gm 0) true x = X) := HA 19 s (by omega) rfl (by omega) hs2
              clear HA HB HC HD HE HF
              (try clear e7); (try clear e5); (try clear e40); (try clear e47); (try clear el6); (try clear el4)
              clear h8 hv hs2
            rotate_left 1
            focus
              have HX : Hid (fin (startI 65 0 0) true x = X) := HA 19 s (by omega) rfl (by omega) hs2
              clear HA HB HC HD HE HF
              (try clear e7); (try clear e5); (try clear e40); (try clear e47); (try clear el6); (try clear el4)
              clear h8 hv hs2
            rotate_left 1
          rotate_left 2
          focus
            have HX : Hid (fin (startI 65 0 0) true x = X) := HA 19 s (by omega) rfl (by omega) hs2
            clear HA HB HC HD HE HF
            (try clear e7); (try clear e5); (try clear e40); (try clear e47); (try clear el6); (try clear el4)
            clear h8 hv hs2
          rotate_left 1
        rotate_left 3
        focus
          have HX : Hid (fin (startI 65 0 0) true x = X) := HA 19 s (by omega) rfl (by omega) hs2
          clear HA HB HC HD HE HF
          (try clear e7); (try clear e5); (try clear e40); (try clear e47); (try clear el6); (try clear el4)
          clear h8 hv hs2
        rotate_left 1
      rotate_left 4
      focus
        replace k5 : bits .and .u16 ((h : Int) / 32) 3 = 3 := by rw [k5, show g5 = 3 by omega]; rfl
        cases on
        focus
          cases od
          focus
            cases om
            focus
              have HX : Hid (fin (r4 20 s gd gn gm 0) true x = X) := HA 20 s (by omega) rfl (by omega) hs2
              clear HA HB HC HD HE HF
              (try clear e7); (try clear e5); (try clear e40); (try clear e47); (try clear el6); (try clear el4)
              clear h8 hv hs2
            rotate_left 1
            focus
              have HX : Hid (fin (startI 65 0 0) true x = X) := HA 20 s (by omega) rfl (by omega) hs2
              clear HA HB HC HD HE HF
              (try clear e7); (try clear e5); (try clear e40); (try clear e47); (try clear el6); (try clear el4)
              clear h8 hv hs2
            rotate_left 1
          rotate_left 2
          focus
            have HX : Hid (fin (startI 65 0 0) true x = X) := HA 20 s (by omega) rfl (by omega) hs2
            clear HA HB HC HD HE HF
            (try clear e7); (try clear e5); (try clear e40); (try clear e47); (try clear el6); (try clear el4)
            clear h8 hv hs2
          rotate_left 1
        rotate_left 3
        focus
          have HX : Hid (fin (startI 65 0 0) true x = X) := HA 20 s (by omega) rfl (by omega) hs2
          clear HA HB HC HD HE HF
          (try clear e7); (try clear e5); (try clear e40); (try clear e47); (try clear el6); (try clear el4)
          clear h8 hv hs2
        rotate_left 1
      rotate_left 4
    rotate_left 16
    focus
      subst el6 el4
      replace kl : bits .and .u16 ((k : Int) / 16) 15 = 8 := kl
      replace kl6 : bits .and .u16 ((k : Int) / 64) 3 = 2 := kl6
      replace kl4 : bits .and .u16 ((k : Int) / 16) 3 = 0 := kl4
      rcases (show gn = 15 ∨ gn ≠ 15 by omega) with rfl | hn
      focus
        replace kn : bits .and .u16 (h : Int) 15 = 15 := kn
        rcases (show g4 = 0 ∨ g4 = 1 ∨ g4 = 4 ∨ g4 = 5 ∨ g4 = 2 ∨ g4 = 3 ∨ g4 = 6 ∨ g4 = 7 by omega) with rfl | rfl | rfl | rfl | hr
        focus
          subst e7 e5 e40 e47
          replace k4 : bits .and .u16 ((h : Int) / 16) 15 = 0 := k4
          replace k7 : bits .and .u16 ((h : Int) / 128) 1 = 0 := k7
          replace k5 : bits .and .u16 ((h : Int) / 32) 3 = 0 := k5
          replace k40 : bits .and .u16 ((h : Int) / 16) 1 = 0 := k40
          replace k47 : bits .and .u16 ((h : Int) / 16) 7 = 0 := k47
          cases od
          focus
            cases om
            focus
              have HX : Hid (fin (r4 40 false gd 0 gm 0) true x = X) := HB 40 rfl rfl (by decide)
              clear HA HB HC HD HE HF
              (try clear e7); (try clear e5); (try clear e40); (try clear e47); (try clear el6); (try clear el4)
            rotate_left 1
            focus
              have HX : Hid (fin (startI 65 0 0) true x = X) := HB 40 rfl rfl (by decide)
              clear HA HB HC HD HE HF
              (try clear e7); (try clear e5); (try clear e40); (try clear e47); (try clear el6); (try clear el4)
            rotate_left 1
          rotate_left 2
          focus
            have HX : Hid (fin (startI 65 0 0) true x = X) := HB 40 rfl rfl (by decide)
            clear HA HB HC HD HE HF
            (try clear e7); (try clear e5); (try clear e40); (try clear e47); (try clear el6); (try clear el4)
          rotate_left 1
        rotate_left 3
        focus
          subst e7 e5 e40 e47
          replace k4 : bits .and .u16 ((h : Int) / 16) 15 = 1 := k4
          replace k7 : bits .and .u16 ((h : Int) / 128) 1 = 0 := k7
          replace k5 : bits .and .u16 ((h : Int) / 32) 3 = 0 := k5
          replace k40 : bits .and .u16 ((h : Int) / 16) 1 = 1 := k40
          replace k47 : bits .and .u16 ((h : Int) / 16) 7 = 1 := k47
          cases od
          focus
            cases om
            focus
              have HX : Hid (fin (r4 42 false gd 0 gm 0) true x = X) := HB 42 rfl rfl (by decide)
              clear HA HB HC HD HE HF
              (try clear e7); (try clear e5); (try clear e40); (try clear e47); (try clear el6); (try clear el4)
            rotate_left 1
            focus
              have HX : Hid (fin (startI 65 0 0) true x = X) := HB 42 rfl rfl (by decide)
              clear HA HB HC HD HE HF
              (try clear e7); (try clear e5); (try clear e40); (try clear e47); (try clear el6); (try clear el4)
            rotate_left 1
          rotate_left 2
          focus
            have HX : Hid (fin (startI 65 0 0) true x = X) := HB 42 rfl rfl (by decide)
            clear HA HB HC HD HE HF
            (try clear e7); (try clear e5); (try clear e40); (try clear e47); (try clear el6); (try clear el4)
          rotate_left 1
        rotate_left 3
        focus
          subst e7 e5 e40 e47
          replace k4 : bits .and .u16 ((h : Int) / 16) 15 = 4 := k4
          replace k7 : bits .and .u16 ((h : Int) / 128) 1 = 0 := k7
          replace k5 : bits .and .u16 ((h : Int) / 32) 3 = 2 := k5
          replace k40 : bits .and .u16 ((h : Int) / 16) 1 = 0 := k40
          replace k47 : bits .and .u16 ((h : Int) / 16) 7 = 4 := k47
          cases od
          focus
            cases om
            focus
              have HX : Hid (fin (r4 39 false gd 0 gm 0) true x = X) := HB 39 rfl rfl (by decide)
              clear HA HB HC HD HE HF
              (try clear e7); (try clear e5); (try clear e40); (try clear e47); (try clear el6); (try clear el4)
            rotate_left 1
            focus
              have HX : Hid (fin (startI 65 0 0) true x = X) := HB 39 rfl rfl (by decide)
              clear HA HB HC HD HE HF
              (try clear e7); (try clear e5); (try clear e40); (try clear e47); (try clear el6); (try clear el4)
            rotate_left 1
          rotate_left 2
          focus
            have HX : Hid (fin (startI 65 0 0) true x = X) := HB 39 rfl rfl (by decide)
            clear HA HB HC HD HE HF
            (try clear e7); (try clear e5); (try clear e40); (try clear e47); (try clear el6); (try clear el4)
          rotate_left 1
        rotate_left 3
        focus
          subst e7 e5 e40 e47
          replace k4 : bits .and .u16 ((h : Int) / 16) 15 = 5 := k4
          replace k7 : bits .and .u16 ((h : Int) / 128) 1 = 0 := k7
          replace k5 : bits .and .u16 ((h : Int) / 32) 3 = 2 := k5
          replace k40 : bits .and .u16 ((h : Int) / 16) 1 = 1 := k40
          replace k47 : bits .and .u16 ((h : Int) / 16) 7 = 5 := k47
          cases od
          focus
            cases om
            focus
              have HX : Hid (fin (r4 41 false gd 0 gm 0) true x = X) := HB 41 rfl rfl (by decide)
              clear HA HB HC HD HE HF
              (try clear e7); (try clear e5); (try clear e40); (try clear e47); (try clear el6); (try clear el4)
            rotate_left 1
            focus
              have HX : Hid (fin (startI 65 0 0) true x = X) := HB 41 rfl rfl (by decide)
              clear HA HB HC HD HE HF
              (try clear e7); (try clear e5); (try clear e40); (try clear e47); (try clear el6); (try clear el4)
            rotate_left 1
          rotate_left 2
          focus
            have HX : Hid (fin (startI 65 0 0) true x = X) := HB 41 rfl rfl (by decide)
            clear HA HB HC HD HE HF
            (try clear e7); (try clear e5); (try clear e40); (try clear e47); (try clear el6); (try clear el4)
          rotate_left 1
        rotate_left 3
        focus
          obtain rfl : g7 = 0 := by omega
          replace k7 : bits .and .u16 ((h : Int) / 128) 1 = 0 := k7
          have e9 : ((g4 : Int) == 9) = false := by simp; omega
          have e11 : ((g4 : Int) == 11) = false := by simp; omega
          have m0 : ((g47 : Int) == 0) = false := by simp; omega
          have m1 : ((g47 : Int) == 1) = false := by simp; omega
          have m4 : ((g47 : Int) == 4) = false := by simp; omega
          have m5 : ((g47 : Int) == 5) = false := by simp; omega
          have HX : Hid (fin ({ startI 0 gd 0 with m := gm }) false x = X) := HC rfl rfl hr _
          clear HA HB HC HD HE HF
          (try clear e7); (try clear e5); (try clear e40); (try clear e47); (try clear el6); (try clear el4)
          clear h8 hr
        rotate_left 1
      rotate_left 13
      focus
        have hn2 : ((gn : Int) == 15) = false := by simp; omega
        obtain rfl : g7 = 0 := by omega
        replace k7 : bits .and .u16 ((h : Int) / 128) 1 = 0 := k7
        have e9 : ((g4 : Int) == 9) = false := by simp; omega
        have e11 : ((g4 : Int) == 11) = false := by simp; omega
        have HX : Hid (fin ({ startI 0 gd 0 with m := gm }) false x = X) := HF (by omega) _
        clear HA HB HC HD HE HF
        (try clear e7); (try clear e5); (try clear e40); (try clear e47); (try clear el6); (try clear el4)
        clear h8 hn
      rotate_left 1
    rotate_left 14
    focus
      have l0 : ((l : Int) == 0) = false := by simp; omega
      have l8 : ((l : Int) == 8) = false := by simp; omega
      obtain rfl : g7 = 0 := by omega
      replace k7 : bits .and .u16 ((h : Int) / 128) 1 = 0 := k7
      have e9 : ((g4 : Int) == 9) = false := by simp; omega
      have e11 : ((g4 : Int) == 11) = false := by simp; omega
      rcases (show gn = 15 ∨ gn ≠ 15 by omega) with hn | hn
      focus
        have hn2 : ((gn : Int) == 15) = true := by simp; omega
        have HX : Hid (fin ({ startI 0 gd 0 with m := gm }) false x = X) := HF (by omega) _
        clear HA HB HC HD HE HF
        (try clear e7); (try clear e5); (try clear e40); (try clear e47); (try clear el6); (try clear el4)
        clear h8 hl hn
      rotate_left 1
      focus
        have hn2 : ((gn : Int) == 15) = false := by simp; omega
        have HX : Hid (fin ({ startI 0 gd 0 with m := gm }) false x = X) := HF (by omega) _
        clear HA HB HC HD HE HF
        (try clear e7); (try clear e5); (try clear e40); (try clear e47); (try clear el6); (try clear el4)
        clear h8 hl hn
      rotate_left 1
    rotate_left 2
  rotate_left 32
  focus
    subst e7 e5 e40 e47
    replace k4 : bits .and .u16 ((h : Int) / 16) 15 = 9 := k4
    replace k7 : bits .and .u16 ((h : Int) / 128) 1 = 1 := k7
    replace k5 : bits .and .u16 ((h : Int) / 32) 3 = 0 := k5
    replace k40 : bits .and .u16 ((h : Int) / 16) 1 = 1 := k40
    replace k47 : bits .and .u16 ((h : Int) / 16) 7 = 1 := k47
    rcases (show l = 8 ∨ l = 9 ∨ l = 10 ∨ l = 11 ∨ l / 4 ≠ 2 by omega) with rfl | rfl | rfl | rfl | hr
    focus
      subst el6 el4
      replace kl : bits .and .u16 ((k : Int) / 16) 15 = 8 := kl
      replace kl6 : bits .and .u16 ((k : Int) / 64) 3 = 2 := kl6
      replace kl4 : bits .and .u16 ((k : Int) / 16) 3 = 0 := kl4
      rcases (show gn = gm ∨ gn ≠ gm by omega) with rfl | hq
      focus
        have q1 : ((gn : Int) != (gn : Int)) = false := by simp
        cases od
        focus
          cases om
          focus
            have HX : Hid (fin (r4 36 false gd 0 gn 0) true x = X) := HD 36 (by decide) rfl
            clear HA HB HC HD HE HF
            (try clear e7); (try clear e5); (try clear e40); (try clear e47); (try clear el6); (try clear el4)
          rotate_left 1
          focus
            have HX : Hid (fin (startI 65 0 0) true x = X) := HD 36 (by decide) rfl
            clear HA HB HC HD HE HF
            (try clear e7); (try clear e5); (try clear e40); (try clear e47); (try clear el6); (try clear el4)
          rotate_left 1
        rotate_left 2
        focus
          have HX : Hid (fin (startI 65 0 0) true x = X) := HD 36 (by decide) rfl
          clear HA HB HC HD HE HF
          (try clear e7); (try clear e5); (try clear e40); (try clear e47); (try clear el6); (try clear el4)
        rotate_left 1
      rotate_left 3
      focus
        have q1 : ((gn : Int) != (gm : Int)) = true := by simp; omega
        have HX : Hid (fin (startI 65 0 0) true x = X) := HE (by omega) hq
        clear HA HB HC HD HE HF
        (try clear e7); (try clear e5); (try clear e40); (try clear e47); (try clear el6); (try clear el4)
        clear hq
      rotate_left 1
    rotate_left 4
    focus
      subst el6 el4
      replace kl : bits .and .u16 ((k : Int) / 16) 15 = 9 := kl
      replace kl6 : bits .and .u16 ((k : Int) / 64) 3 = 2 := kl6
      replace kl4 : bits .and .u16 ((k : Int) / 16) 3 = 1 := kl4
      rcases (show gn = gm ∨ gn ≠ gm by omega) with rfl | hq
      focus
        have q1 : ((gn : Int) != (gn : Int)) = false := by simp
        cases od
        focus
          cases om
          focus
            have HX : Hid (fin (r4 37 false gd 0 gn 0) true x = X) := HD 37 (by decide) rfl
            clear HA HB HC HD HE HF
            (try clear e7); (try clear e5); (try clear e40); (try clear e47); (try clear el6); (try clear el4)
          rotate_left 1
          focus
            have HX : Hid (fin (startI 65 0 0) true x = X) := HD 37 (by decide) rfl
            clear HA HB HC HD HE HF
            (try clear e7); (try clear e5); (try clear e40); (try clear e47); (try clear el6); (try clear el4)
          rotate_left 1
        rotate_left 2
        focus
          have HX : Hid (fin (startI 65 0 0) true x = X) := HD 37 (by decide) rfl
          clear HA HB HC HD HE HF
          (try clear e7); (try clear e5); (try clear e40); (try clear e47); (try clear el6); (try clear el4)
        rotate_left 1
      rotate_left 3
      focus
        have q1 : ((gn : Int) != (gm : Int)) = true := by simp; omega
        have HX : Hid (fin (startI 65 0 0) true x = X) := HE (by omega) hq
        clear HA HB HC HD HE HF
        (try clear e7); (try clear e5); (try clear e40); (try clear e47); (try clear el6); (try clear el4)
        clear hq
      rotate_left 1
    rotate_left 4
    focus
      subst el6 el4
      replace kl : bits .and .u16 ((k : Int) / 16) 15 = 10 := kl
      replace kl6 : bits .and .u16 ((k : Int) / 64) 3 = 2 := kl6
      replace kl4 : bits .and .u16 ((k : Int) / 16) 3 = 2 := kl4
      rcases (show gn = gm ∨ gn ≠ gm by omega) with rfl | hq
      focus
        have q1 : ((gn : Int) != (gn : Int)) = false := by simp
        cases od
        focus
          cases om
          focus
            have HX : Hid (fin (r4 35 false gd 0 gn 0) true x = X) := HD 35 (by decide) rfl
            clear HA HB HC HD HE HF
            (try clear e7); (try clear e5); (try clear e40); (try clear e47); (try clear el6); (try clear el4)
          rotate_left 1
          focus
            have HX : Hid (fin (startI 65 0 0) true x = X) := HD 35 (by decide) rfl
            clear HA HB HC HD HE HF
            (try clear e7); (try clear e5); (try clear e40); (try clear e47); (try clear el6); (try clear el4)
          rotate_left 1
        rotate_left 2
        focus
          have HX : Hid (fin (startI 65 0 0) true x = X) := HD 35 (by decide) rfl
          clear HA HB HC HD HE HF
          (try clear e7); (try clear e5); (try clear e40); (try clear e47); (try clear el6); (try clear el4)
        rotate_left 1
      rotate_left 3
      focus
        have q1 : ((gn : Int) != (gm : Int)) = true := by simp; omega
        have HX : Hid (fin (startI 65 0 0) true x = X) := HE (by omega) hq
        clear HA HB HC HD HE HF
        (try clear e7); (try clear e5); (try clear e40); (try clear e47); (try clear el6); (try clear el4)
        clear hq
      rotate_left 1
    rotate_left 4
    focus
      subst el6 el4
      replace kl : bits .and .u16 ((k : Int) / 16) 15 = 11 := kl
      replace kl6 : bits .and .u16 ((k : Int) / 64) 3 = 2 := kl6
      replace kl4 : bits .and .u16 ((k : Int) / 16) 3 = 3 := kl4
      rcases (show gn = gm ∨ gn ≠ gm by omega) with rfl | hq
      focus
        have q1 : ((gn : Int) != (gn : Int)) = false := by simp
        cases od
        focus
          cases om
          focus
            have HX : Hid (fin (r4 38 false gd 0 gn 0) true x = X) := HD 38 (by decide) rfl
            clear HA HB HC HD HE HF
            (try clear e7); (try clear e5); (try clear e40); (try clear e47); (try clear el6); (try clear el4)
          rotate_left 1
          focus
            have HX : Hid (fin (startI 65 0 0) true x = X) := HD 38 (by decide) rfl
            clear HA HB HC HD HE HF
            (try clear e7); (try clear e5); (try clear e40); (try clear e47); (try clear el6); (try clear el4)
          rotate_left 1
        rotate_left 2
        focus
          have HX : Hid (fin (startI 65 0 0) true x = X) := HD 38 (by decide) rfl
          clear HA HB HC HD HE HF
          (try clear e7); (try clear e5); (try clear e40); (try clear e47); (try clear el6); (try clear el4)
        rotate_left 1
      rotate_left 3
      focus
        have q1 : ((gn : Int) != (gm : Int)) = true := by simp; omega
        have HX : Hid (fin (startI 65 0 0) true x = X) := HE (by omega) hq
        clear HA HB HC HD HE HF
        (try clear e7); (try clear e5); (try clear e40); (try clear e47); (try clear el6); (try clear el4)
        clear hq
      rotate_left 1
    rotate_left 4
    focus
      have l2 : ((l6 : Int) == 2) = false := by simp; omega
      have HX : Hid (fin ({ startI 0 gd 0 with m := gm }) false x = X) := HF (by omega) _
      clear HA HB HC HD HE HF
      (try clear e7); (try clear e5); (try clear e40); (try clear e47); (try clear el6); (try clear el4)
      clear hr
    rotate_left 1
  rotate_left 17
  focus
    subst e7 e5 e40 e47
    replace k4 : bits .and .u16 ((h : Int) / 16) 15 = 11 := k4
    replace k7 : bits .and .u16 ((h : Int) / 128) 1 = 1 := k7
    replace k5 : bits .and .u16 ((h : Int) / 32) 3 = 1 := k5
    replace k40 : bits .and .u16 ((h : Int) / 16) 1 = 1 := k40
    replace k47 : bits .and .u16 ((h : Int) / 16) 7 = 3 := k47
    rcases (show l = 8 ∨ l ≠ 8 by omega) with rfl | hr
    focus
      subst el6 el4
      replace kl : bits .and .u16 ((k : Int) / 16) 15 = 8 := kl
      replace kl6 : bits .and .u16 ((k : Int) / 64) 3 = 2 := kl6
      replace kl4 : bits .and .u16 ((k : Int) / 16) 3 = 0 := kl4
      rcases (show gn = gm ∨ gn ≠ gm by omega) with rfl | hq
      focus
        have q1 : ((gn : Int) != (gn : Int)) = false := by simp
        cases od
        focus
          cases om
          focus
            have HX : Hid (fin (r4 34 false gd 0 gn 0) true x = X) := HD 34 (by decide) rfl
            clear HA HB HC HD HE HF
            (try clear e7); (try clear e5); (try clear e40); (try clear e47); (try clear el6); (try clear el4)
          rotate_left 1
          focus
            have HX : Hid (fin (startI 65 0 0) true x = X) := HD 34 (by decide) rfl
            clear HA HB HC HD HE HF
            (try clear e7); (try clear e5); (try clear e40); (try clear e47); (try clear el6); (try clear el4)
          rotate_left 1
        rotate_left 2
        focus
          have HX : Hid (fin (startI 65 0 0) true x = X) := HD 34 (by decide) rfl
          clear HA HB HC HD HE HF
          (try clear e7); (try clear e5); (try clear e40); (try clear e47); (try clear el6); (try clear el4)
        rotate_left 1
      rotate_left 3
      focus
        have q1 : ((gn : Int) != (gm : Int)) = true := by simp; omega
        have HX : Hid (fin (startI 65 0 0) true x = X) := HE (by omega) hq
        clear HA HB HC HD HE HF
        (try clear e7); (try clear e5); (try clear e40); (try clear e47); (try clear el6); (try clear el4)
        clear hq
      rotate_left 1
    rotate_left 4
    focus
      have l8 : ((l : Int) == 8) = false := by simp; omega
      have HX : Hid (fin ({ startI 0 gd 0 with m := gm }) false x = X) := HF (by omega) _
      clear HA HB HC HD HE HF
      (try clear e7); (try clear e5); (try clear e40); (try clear e47); (try clear el6); (try clear el4)
      clear hr
    rotate_left 1
  rotate_left 5
  focus
    obtain rfl : g7 = 1 := by omega
    replace k7 : bits .and .u16 ((h : Int) / 128) 1 = 1 := k7
    have e9 : ((g4 : Int) == 9) = false := by simp; omega
    have e11 : ((g4 : Int) == 11) = false := by simp; omega
    have HX : Hid (fin ({ startI 0 gd 0 with m := gm }) false x = X) := HF (by omega) _
    clear HA HB HC HD HE HF
    (try clear e7); (try clear e5); (try clear e40); (try clear e47); (try clear el6); (try clear el4)
    clear h8
  rotate_left 1
  all_goals
    go_enter Tryz.func75, Tryz.ntmps75
    have S := SH.start w
    go_wp2_with (first
     | ((with_reducible refine g_al 28 ?_); refine S.gal zI ?_; clear S; intro b w1 S)
     | (go_at_call 119; refine (rwide_c _ _).mono ?_; rintro e wf ⟨rfl, hbf⟩; replace S := S.below hbf; clear hbf)
     | ((with_reducible refine g_st 28 ?_); refine S.gst (i := ?_) (c := ?_) rfl rfl ?_ ?_ ?_ ?_ ?_; rotate_left 2; (with_reducible first | exact gi0 | exact gi1 | exact gi2 | exact gi3 | exact gi4 | exact gi5); rfl; rfl; exact sI rfl; clear S; intro w1 S; (try simp only [Cel.cells, zL, List.set_cons_zero, List.set_cons_succ, startI, secondI, noneI, r4] at S))
     | ((with_reducible refine g_st 3 ?_); refine S.gs1 (i := ?_) (c := ?_) (cs := ?_) (.int _ _) s_int rfl rfl rfl ?_ ?_ ?_ ?_; rotate_left 3; (with_reducible first | exact gi0 | exact gi1 | exact gi2 | exact gi3 | exact gi4 | exact gi5); exact of_decide_eq_true rfl; exact rfl; clear S; intro w1 S; (try simp only [Cel.cells, zL, List.set_cons_zero, List.set_cons_succ, startI, secondI, noneI, r4] at S))
     | ((with_reducible refine wpl_isDst 37 ?_); refine S.gsl [.int .i64 17, .int .i64 18, .int .i64 19, .int .i64 20] 3 (by kernel_rfl) ?_; clear S; intro g w1 S)
     | ((with_reducible refine g_ld 3 ?_); first | (refine g_skip rfl ?_) | (refine S.gld (i := ?_) (c := ?_) (v := ?_) Tryz.underlying3 rfl rfl rfl ?_ ?_ ?_; rotate_left 3; (with_reducible first | exact gi0 | exact gi1 | exact gi2 | exact gi3 | exact gi4 | exact gi5); exact rfl))
     | ((with_reducible refine g_st 4 ?_); refine S.gs1 (i := ?_) (c := ?_) (cs := ?_) (.bool _) s_bool rfl rfl rfl ?_ ?_ ?_ ?_; rotate_left 3; (with_reducible first | exact gi0 | exact gi1 | exact gi2 | exact gi3 | exact gi4 | exact gi5); exact of_decide_eq_true rfl; exact rfl; clear S; intro w1 S; (try simp only [Cel.cells, zL, List.set_cons_zero, List.set_cons_succ, startI, secondI, noneI, r4] at S))
     | (go_at_call 120; first | (with_reducible refine (QD.out _).mono ?_; rintro e wf ⟨rfl, rfl⟩) | (with_reducible refine (QM.out _).mono ?_; rintro e wf ⟨rfl, rfl⟩) | (with_reducible refine (QN.out _).mono ?_; rintro e wf ⟨rfl, rfl⟩))
     | (go_at_call 118; refine (runp_c _).mono ?_; rintro e wf ⟨rfl, hbf⟩; replace S := S.below hbf; clear hbf)
     | ((with_reducible refine g_ld 28 ?_); first | (refine g_skip rfl ?_) | (refine S.gla (i := ?_) (c := ?_) Tryz.underlying28 rfl rfl rfl ?_ ?_ ?_; rotate_left 2; (with_reducible first | exact gi0 | exact gi1 | exact gi2 | exact gi3 | exact gi4 | exact gi5); exact sI rfl))
     | ((with_reducible refine wpl_isDst 98 ?_); refine S.gsl [.int .i64 36, .int .i64 37, .int .i64 35, .int .i64 38] 3 (by kernel_rfl) ?_; clear S; intro g w1 S))
    (try simp only [Exit.inBlock, Exit.then])
    apply bodyPost_ret
    refine S.gR2 (i := ?_) (c := ?_) Tryz.underlying28 rfl rfl rfl ?_ ?_
    rotate_left 2
    (with_reducible first | exact gi0 | exact gi1 | exact gi2 | exact gi3 | exact gi4 | exact gi5)
    exact sI rfl
    rfl
    exact ⟨_, _, rfl, HX.out, S.low⟩
end Go.Proofs.YtplhblhopaheeaaGreatDoor
