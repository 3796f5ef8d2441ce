/- Stage 9: the document: shifted. -/
import Derived.Test.YtigmekboikgoaaaWg6
namespace Go.Proofs.Ytigmekboikgoaaa
open Go.ChangeShapes Go.WideShapes Go.ChangeAt Go.RowKit
set_option linter.unusedVariables false
set_option linter.unusedSimpArgs false

set_option maxHeartbeats 20000000 in
set_option maxRecDepth 100000 in
theorem rshi_g (h k x g5 gd gn g4 gm g15 t g12 g6 b : Nat) (s okF mj : Bool) (J X : IV) (k5 : bits .and .u16 ((h : Int) / 32) 15 = (g5 : Int)) (k0 : bits .and .u16 (h : Int) 15 = (gn : Int)) (k4 : bits .and .u16 ((h : Int) / 16) 1 = (g4 : Int)) (k8 : bits .and .u16 ((k : Int) / 256) 15 = (gd : Int)) (km : bits .and .u16 (k : Int) 15 = (gm : Int)) (k15 : (k : Int) / 32768 = (g15 : Int)) (kt : bits .and .u16 ((k : Int) / 16) 3 = (t : Int)) (k12 : bits .and .u16 ((k : Int) / 4096) 7 = (g12 : Int)) (k6 : bits .and .u16 ((k : Int) / 64) 3 = (g6 : Int))
    (b5 : g5 < 16) (bd : gd < 16) (bn : gn < 16) (b4 : g4 < 2) (bm : gm < 16) (b15 : g15 < 2) (bt : t < 4) (b12 : g12 < 8) (b6 : g6 < 4) (hs : ((g4 : Int) == 1) = s) (j1 : bits .or .u16 ((g12 : Int) * 4) (g6 : Int) = (b : Int)) (bb : b < 32)
    (CF : ∀ w, Calls Try.prog 59 #[.int .i64 g5, .int .i64 gd, .int .i64 gn, .bool s] w fun e w' => e = .returned (.tuple #[J.val, .bool okF]) ∧ Below w.heap.size w w')
    (CM : ∀ s1 s2 w, Calls Try.prog 60 #[(regI J gm s1 s2).val, .bool false] w fun e w' => e = .returned (.bool mj) ∧ Below w.heap.size w w')
    (H1 : (okF = false ∨ g15 = 1) → fin J false x = X) (H2 : okF = true → g15 = 0 → (mj = false ∨ oddS gm = true) → fin (startI 65 0 0) true x = X) (H4 : okF = true → g15 = 0 → mj = true → oddS gm = false → fin (regI J gm (shiftG t b).1 (shiftG t b).2) true x = X)
    (w : World) : Calls Try.prog 29 #[.int .u16 h, .int .u16 k] w fun e w' => Two w X x e w' := by
  have QF : Hid _ := CF
  have QM : Hid _ := CM
  have QO : Hid _ := fun w => rodd_c gm w
  clear CF CM
  generalize oddS gm = om at *
  cases okF
  focus
    have HX : Hid _ := H1 (.inl rfl)
    clear H1 H2 H4
    have QP : Hid _ := QM.out (0) (0)
  rotate_left 1
  focus
    rcases (show g15 = 0 ∨ g15 = 1 by omega) with rfl | rfl
    focus
      replace k15 : (k : Int) / 32768 = 0 := k15
      rcases Nat.eq_zero_or_pos b with rfl | hb
      focus
        rw [show ((0 : Nat) : Int) = 0 from rfl] at j1
        rcases (show t = 0 ∨ t = 1 ∨ t = 2 ∨ t = 3 by omega) with rfl | rfl | rfl | rfl
        focus
          replace kt : bits .and .u16 ((k : Int) / 16) 3 = 0 := kt
          cases mj
          focus
            have HX : Hid _ := H2 rfl rfl (.inl rfl)
            clear H1 H2 H4
            have QP : Hid _ := QM.out (0) (0)
          rotate_left 1
          focus
            cases om
            focus
              have HX : Hid _ := H4 rfl rfl rfl rfl
              clear H1 H2 H4
              have QP : Hid _ := QM.out (0) (0)
            rotate_left 1
            focus
              have HX : Hid _ := H2 rfl rfl (.inr rfl)
              clear H1 H2 H4
              have QP : Hid _ := QM.out (0) (0)
            rotate_left 1
          rotate_left 2
        rotate_left 3
        focus
          replace kt : bits .and .u16 ((k : Int) / 16) 3 = 1 := kt
          cases mj
          focus
            have HX : Hid _ := H2 rfl rfl (.inl rfl)
            clear H1 H2 H4
            have QP : Hid _ := QM.out (2) (32)
          rotate_left 1
          focus
            cases om
            focus
              have HX : Hid _ := H4 rfl rfl rfl rfl
              clear H1 H2 H4
              have QP : Hid _ := QM.out (2) (32)
            rotate_left 1
            focus
              have HX : Hid _ := H2 rfl rfl (.inr rfl)
              clear H1 H2 H4
              have QP : Hid _ := QM.out (2) (32)
            rotate_left 1
          rotate_left 2
        rotate_left 3
        focus
          replace kt : bits .and .u16 ((k : Int) / 16) 3 = 2 := kt
          cases mj
          focus
            have HX : Hid _ := H2 rfl rfl (.inl rfl)
            clear H1 H2 H4
            have QP : Hid _ := QM.out (3) (32)
          rotate_left 1
          focus
            cases om
            focus
              have HX : Hid _ := H4 rfl rfl rfl rfl
              clear H1 H2 H4
              have QP : Hid _ := QM.out (3) (32)
            rotate_left 1
            focus
              have HX : Hid _ := H2 rfl rfl (.inr rfl)
              clear H1 H2 H4
              have QP : Hid _ := QM.out (3) (32)
            rotate_left 1
          rotate_left 2
        rotate_left 3
        focus
          replace kt : bits .and .u16 ((k : Int) / 16) 3 = 3 := kt
          cases mj
          focus
            have HX : Hid _ := H2 rfl rfl (.inl rfl)
            clear H1 H2 H4
            have QP : Hid _ := QM.out (5) (1)
          rotate_left 1
          focus
            cases om
            focus
              have HX : Hid _ := H4 rfl rfl rfl rfl
              clear H1 H2 H4
              have QP : Hid _ := QM.out (5) (1)
            rotate_left 1
            focus
              have HX : Hid _ := H2 rfl rfl (.inr rfl)
              clear H1 H2 H4
              have QP : Hid _ := QM.out (5) (1)
            rotate_left 1
          rotate_left 2
        rotate_left 3
      rotate_left 12
      focus
        rcases (show t = 0 ∨ t = 1 ∨ t = 2 ∨ t = 3 by omega) with rfl | rfl | rfl | rfl
        focus
          replace kt : bits .and .u16 ((k : Int) / 16) 3 = 0 := kt
          have hs2 : shiftG 0 b = (1, (b : Int)) := by
            have eb : Nat.beq b 0 = false := by rw [nbeq]; simp; omega
            unfold shiftG; rw [eb]; rfl
          rw [hs2] at H4
          clear hs2
          have t1 : ((0 : Int) < (b : Int)) = True := by simp; omega
          have t2 : decide ((0 : Int) < (b : Int)) = true := by simp; omega
          cases mj
          focus
            have HX : Hid _ := H2 rfl rfl (.inl rfl)
            clear H1 H2 H4
            have QP : Hid _ := QM.out (1) ((b : Int))
          rotate_left 1
          focus
            cases om
            focus
              have HX : Hid _ := H4 rfl rfl rfl rfl
              clear H1 H2 H4
              have QP : Hid _ := QM.out (1) ((b : Int))
            rotate_left 1
            focus
              have HX : Hid _ := H2 rfl rfl (.inr rfl)
              clear H1 H2 H4
              have QP : Hid _ := QM.out (1) ((b : Int))
            rotate_left 1
          rotate_left 2
        rotate_left 3
        focus
          replace kt : bits .and .u16 ((k : Int) / 16) 3 = 1 := kt
          have hs2 : shiftG 1 b = (2, (b : Int)) := by
            have eb : Nat.beq b 0 = false := by rw [nbeq]; simp; omega
            unfold shiftG; rw [eb]; rfl
          rw [hs2] at H4
          clear hs2
          have t1 : ((0 : Int) < (b : Int)) = True := by simp; omega
          have t2 : decide ((0 : Int) < (b : Int)) = true := by simp; omega
          cases mj
          focus
            have HX : Hid _ := H2 rfl rfl (.inl rfl)
            clear H1 H2 H4
            have QP : Hid _ := QM.out (2) ((b : Int))
          rotate_left 1
          focus
            cases om
            focus
              have HX : Hid _ := H4 rfl rfl rfl rfl
              clear H1 H2 H4
              have QP : Hid _ := QM.out (2) ((b : Int))
            rotate_left 1
            focus
              have HX : Hid _ := H2 rfl rfl (.inr rfl)
              clear H1 H2 H4
              have QP : Hid _ := QM.out (2) ((b : Int))
            rotate_left 1
          rotate_left 2
        rotate_left 3
        focus
          replace kt : bits .and .u16 ((k : Int) / 16) 3 = 2 := kt
          have hs2 : shiftG 2 b = (3, (b : Int)) := by
            have eb : Nat.beq b 0 = false := by rw [nbeq]; simp; omega
            unfold shiftG; rw [eb]; rfl
          rw [hs2] at H4
          clear hs2
          have t1 : ((0 : Int) < (b : Int)) = True := by simp; omega
          have t2 : decide ((0 : Int) < (b : Int)) = true := by simp; omega
          cases mj
          focus
            have HX : Hid _ := H2 rfl rfl (.inl rfl)
            clear H1 H2 H4
            have QP : Hid _ := QM.out (3) ((b : Int))
          rotate_left 1
          focus
            cases om
            focus
              have HX : Hid _ := H4 rfl rfl rfl rfl
              clear H1 H2 H4
              have QP : Hid _ := QM.out (3) ((b : Int))
            rotate_left 1
            focus
              have HX : Hid _ := H2 rfl rfl (.inr rfl)
              clear H1 H2 H4
              have QP : Hid _ := QM.out (3) ((b : Int))
            rotate_left 1
          rotate_left 2
        rotate_left 3
        focus
          replace kt : bits .and .u16 ((k : Int) / 16) 3 = 3 := kt
          have hs2 : shiftG 3 b = (4, (b : Int)) := by
            have eb : Nat.beq b 0 = false := by rw [nbeq]; simp; omega
            unfold shiftG; rw [eb]; rfl
          rw [hs2] at H4
          clear hs2
          have t1 : ((0 : Int) < (b : Int)) = True := by simp; omega
          have t2 : decide ((0 : Int) < (b : Int)) = true := by simp; omega
          cases mj
          focus
            have HX : Hid _ := H2 rfl rfl (.inl rfl)
            clear H1 H2 H4
            have QP : Hid _ := QM.out (4) ((b : Int))
          rotate_left 1
          focus
            cases om
            focus
              have HX : Hid _ := H4 rfl rfl rfl rfl
              clear H1 H2 H4
              have QP : Hid _ := QM.out (4) ((b : Int))
            rotate_left 1
            focus
              have HX : Hid _ := H2 rfl rfl (.inr rfl)
              clear H1 H2 H4
              have QP : Hid _ := QM.out (4) ((b : Int))
            rotate_left 1
          rotate_left 2
        rotate_left 3
      rotate_left 12
    rotate_left 24
    focus
      replace k15 : (k : Int) / 32768 = 1 := k15
      have HX : Hid _ := H1 (.inr rfl)
      clear H1 H2 H4
      have QP : Hid _ := QM.out (0) (0)
    rotate_left 1
  rotate_left 25
  all_goals
    go_enter Try.func29, Try.ntmps29
    have S := SH.start w
    go_wp2_with (first
      | ((with_reducible refine wpl_isDst 4 ?_); (first | refine S.alloc rfl 30 rfl (Cel.any zeroL) zeroA ?_ | refine SH.alloc (L := []) S rfl 30 rfl (Cel.any zeroL) zeroA ?_); clear S; intro b4 w4 S)
      | (go_at_call 59; refine (QF.out _).mono ?_; rintro e wf ⟨rfl, hbf⟩; replace S := S.below hbf; clear hbf)
      | ((with_reducible refine wpl_isDst 6 ?_); (first | refine S.alloc rfl 30 rfl (Cel.any zeroL) zeroA ?_ | refine SH.alloc (L := []) S rfl 30 rfl (Cel.any zeroL) zeroA ?_); clear S; intro b6 w6 S)
      | ((with_reducible refine wpl_isStoreAt 6 ?_); (first | refine S.storeA rfl 30 _ _ rfl b6 _ rfl rfl 0 _ rfl rfl rfl (szA _ rfl) ?_ | refine S.storeA rfl 30 _ _ rfl b6 _ rfl rfl 1 _ rfl rfl rfl (szA _ rfl) ?_ | refine S.storeA rfl 30 _ _ rfl b6 _ rfl rfl 2 _ rfl rfl rfl (szA _ rfl) ?_); clear S; intro w2 S; (simp only [Cel.cells, IV.cellsL, zeroL, List.set_cons_zero, List.set_cons_succ, startI, secondI, noneI, startI, regI] at S))
      | ((with_reducible refine wpl_isDst 35 ?_); (first | refine S.ldAll 30 _ rfl b6 rfl 0 _ rfl _ Try.underlying30 rfl (szA _ rfl) rfl ?_ | refine S.ldAll 30 _ rfl b6 rfl 1 _ rfl _ Try.underlying30 rfl (szA _ rfl) rfl ?_ | refine S.ldAll 30 _ rfl b6 rfl 2 _ rfl _ Try.underlying30 rfl (szA _ rfl) rfl ?_))
      | ((with_reducible refine wpl_isStoreAt 4 ?_); (first | refine S.storeA rfl 30 _ _ rfl b4 _ rfl rfl 0 _ rfl rfl rfl (szA _ rfl) ?_ | refine S.storeA rfl 30 _ _ rfl b4 _ rfl rfl 1 _ rfl rfl rfl (szA _ rfl) ?_ | refine S.storeA rfl 30 _ _ rfl b4 _ rfl rfl 2 _ rfl rfl rfl (szA _ rfl) ?_); clear S; intro w2 S; (simp only [Cel.cells, IV.cellsL, zeroL, List.set_cons_zero, List.set_cons_succ, startI, secondI, noneI, startI, regI] at S))
      | ((with_reducible refine wpl_isStoreAt 39 ?_); (first | refine S.store1 rfl 3 _ _ rfl b6 6 (.int _ _) rfl rfl 0 _ rfl rfl (of_decide_eq_true rfl) (Cel.any _) rfl (by kernel_rfl) ?_ | refine S.store1 rfl 3 _ _ rfl b6 6 (.int _ _) rfl rfl 1 _ rfl rfl (of_decide_eq_true rfl) (Cel.any _) rfl (by kernel_rfl) ?_ | refine S.store1 rfl 3 _ _ rfl b6 6 (.int _ _) rfl rfl 2 _ rfl rfl (of_decide_eq_true rfl) (Cel.any _) rfl (by kernel_rfl) ?_); clear S; intro w2 S; (simp only [Cel.cells, IV.cellsL, zeroL, List.set_cons_zero, List.set_cons_succ, startI, secondI, noneI, startI, regI] at S))
      | ((with_reducible refine wpl_isDst 49 ?_); (first | refine S.sliceA rfl 66 4 _ rfl [.int .i64 1, .int .i64 2, .int .i64 3, .int .i64 4] 3 (by kernel_rfl) ?_ | refine SH.sliceA (L := []) S rfl 66 4 _ rfl [.int .i64 1, .int .i64 2, .int .i64 3, .int .i64 4] 3 (by kernel_rfl) ?_); clear S; intro g49 w49 S)
      | ((with_reducible refine wpl_isDst 54 ?_); (first | refine S.ld 3 _ rfl _ _ rfl 0 _ rfl _ rfl _ Try.underlying3 rfl rfl ?_ | refine S.ld 3 _ rfl _ _ rfl 1 _ rfl _ rfl _ Try.underlying3 rfl rfl ?_ | refine S.ld 3 _ rfl _ _ rfl 2 _ rfl _ rfl _ Try.underlying3 rfl rfl ?_))
      | ((with_reducible refine wpl_isStoreAt 56 ?_); (first | refine S.store1 rfl 3 _ _ rfl b6 10 (.int _ _) rfl rfl 0 _ rfl rfl (of_decide_eq_true rfl) (Cel.any _) rfl (by kernel_rfl) ?_ | refine S.store1 rfl 3 _ _ rfl b6 10 (.int _ _) rfl rfl 1 _ rfl rfl (of_decide_eq_true rfl) (Cel.any _) rfl (by kernel_rfl) ?_ | refine S.store1 rfl 3 _ _ rfl b6 10 (.int _ _) rfl rfl 2 _ rfl rfl (of_decide_eq_true rfl) (Cel.any _) rfl (by kernel_rfl) ?_); clear S; intro w2 S; (simp only [Cel.cells, IV.cellsL, zeroL, List.set_cons_zero, List.set_cons_succ, startI, secondI, noneI, startI, regI] at S))
      | ((with_reducible refine wpl_isStoreAt 57 ?_); (first | refine S.store1 rfl 3 _ _ rfl b6 11 (.int _ _) rfl rfl 0 _ rfl rfl (of_decide_eq_true rfl) (Cel.any _) rfl (by kernel_rfl) ?_ | refine S.store1 rfl 3 _ _ rfl b6 11 (.int _ _) rfl rfl 1 _ rfl rfl (of_decide_eq_true rfl) (Cel.any _) rfl (by kernel_rfl) ?_ | refine S.store1 rfl 3 _ _ rfl b6 11 (.int _ _) rfl rfl 2 _ rfl rfl (of_decide_eq_true rfl) (Cel.any _) rfl (by kernel_rfl) ?_); clear S; intro w2 S; (simp only [Cel.cells, IV.cellsL, zeroL, List.set_cons_zero, List.set_cons_succ, startI, secondI, noneI, startI, regI] at S))
      | ((with_reducible refine wpl_isDst 64 ?_); (first | refine S.ld 3 _ rfl b6 10 rfl 0 _ rfl _ rfl _ Try.underlying3 rfl rfl ?_ | refine S.ld 3 _ rfl b6 10 rfl 1 _ rfl _ rfl _ Try.underlying3 rfl rfl ?_ | refine S.ld 3 _ rfl b6 10 rfl 2 _ rfl _ rfl _ Try.underlying3 rfl rfl ?_))
      | ((with_reducible refine wpl_isStoreAt 66 ?_); (first | refine S.store1 rfl 3 _ _ rfl b6 10 (.int _ _) rfl rfl 0 _ rfl rfl (of_decide_eq_true rfl) (Cel.any _) rfl (by kernel_rfl) ?_ | refine S.store1 rfl 3 _ _ rfl b6 10 (.int _ _) rfl rfl 1 _ rfl rfl (of_decide_eq_true rfl) (Cel.any _) rfl (by kernel_rfl) ?_ | refine S.store1 rfl 3 _ _ rfl b6 10 (.int _ _) rfl rfl 2 _ rfl rfl (of_decide_eq_true rfl) (Cel.any _) rfl (by kernel_rfl) ?_); clear S; intro w2 S; (simp only [Cel.cells, IV.cellsL, zeroL, List.set_cons_zero, List.set_cons_succ, startI, secondI, noneI, startI, regI] at S))
      | ((with_reducible refine wpl_isDst 73 ?_); (first | refine S.ldAll 30 _ rfl b6 rfl 0 _ rfl _ Try.underlying30 rfl (szA _ rfl) rfl ?_ | refine S.ldAll 30 _ rfl b6 rfl 1 _ rfl _ Try.underlying30 rfl (szA _ rfl) rfl ?_ | refine S.ldAll 30 _ rfl b6 rfl 2 _ rfl _ Try.underlying30 rfl (szA _ rfl) rfl ?_))
      | (go_at_call 60; refine (QP.out _).mono ?_; rintro e wf ⟨rfl, hbf⟩; replace S := S.below hbf; clear hbf)
      | ((with_reducible refine wpl_isDst 78 ?_); first | (refine wpl_skip rfl ?_) | (first | refine S.ld 3 _ rfl b6 6 rfl 0 _ rfl _ rfl _ Try.underlying3 rfl rfl ?_ | refine S.ld 3 _ rfl b6 6 rfl 1 _ rfl _ rfl _ Try.underlying3 rfl rfl ?_ | refine S.ld 3 _ rfl b6 6 rfl 2 _ rfl _ rfl _ Try.underlying3 rfl rfl ?_))
      | (go_at_call 63; refine (QO.out _).mono ?_; rintro e wf ⟨rfl, rfl⟩)
      | (go_at_call 61; refine (runp_c _).mono ?_; rintro e wf ⟨rfl, hbf⟩; replace S := S.below hbf; clear hbf)
      | ((with_reducible refine wpl_isDst 84 ?_); (first | refine S.ldAll 30 _ rfl b6 rfl 0 _ rfl _ Try.underlying30 rfl (szA _ rfl) rfl ?_ | refine S.ldAll 30 _ rfl b6 rfl 1 _ rfl _ Try.underlying30 rfl (szA _ rfl) rfl ?_ | refine S.ldAll 30 _ rfl b6 rfl 2 _ rfl _ Try.underlying30 rfl (szA _ rfl) rfl ?_))
      | ((with_reducible refine wpl_isDst 69 ?_); (first | refine S.ld 3 _ rfl b6 10 rfl 0 _ rfl _ rfl _ Try.underlying3 rfl rfl ?_ | refine S.ld 3 _ rfl b6 10 rfl 1 _ rfl _ rfl _ Try.underlying3 rfl rfl ?_ | refine S.ld 3 _ rfl b6 10 rfl 2 _ rfl _ rfl _ Try.underlying3 rfl rfl ?_))
      | ((with_reducible refine wpl_isStoreAt 58 ?_); (first | refine S.store1 rfl 3 _ _ rfl b6 11 (.int _ _) rfl rfl 0 _ rfl rfl (of_decide_eq_true rfl) (Cel.any _) rfl (by kernel_rfl) ?_ | refine S.store1 rfl 3 _ _ rfl b6 11 (.int _ _) rfl rfl 1 _ rfl rfl (of_decide_eq_true rfl) (Cel.any _) rfl (by kernel_rfl) ?_ | refine S.store1 rfl 3 _ _ rfl b6 11 (.int _ _) rfl rfl 2 _ rfl rfl (of_decide_eq_true rfl) (Cel.any _) rfl (by kernel_rfl) ?_); clear S; intro w2 S; (simp only [Cel.cells, IV.cellsL, zeroL, List.set_cons_zero, List.set_cons_succ, startI, secondI, noneI, startI, regI] at S))
      | ((with_reducible refine wpl_isStoreAt 71 ?_); (first | refine S.store1 rfl 3 _ _ rfl b6 10 (.int _ _) rfl rfl 0 _ rfl rfl (of_decide_eq_true rfl) (Cel.any _) rfl (by kernel_rfl) ?_ | refine S.store1 rfl 3 _ _ rfl b6 10 (.int _ _) rfl rfl 1 _ rfl rfl (of_decide_eq_true rfl) (Cel.any _) rfl (by kernel_rfl) ?_ | refine S.store1 rfl 3 _ _ rfl b6 10 (.int _ _) rfl rfl 2 _ rfl rfl (of_decide_eq_true rfl) (Cel.any _) rfl (by kernel_rfl) ?_); clear S; intro w2 S; (simp only [Cel.cells, IV.cellsL, zeroL, List.set_cons_zero, List.set_cons_succ, startI, secondI, noneI, startI, regI] at S))
      | ((with_reducible refine wpl_isStoreAt 72 ?_); (first | refine S.store1 rfl 3 _ _ rfl b6 11 (.int _ _) rfl rfl 0 _ rfl rfl (of_decide_eq_true rfl) (Cel.any _) rfl (by kernel_rfl) ?_ | refine S.store1 rfl 3 _ _ rfl b6 11 (.int _ _) rfl rfl 1 _ rfl rfl (of_decide_eq_true rfl) (Cel.any _) rfl (by kernel_rfl) ?_ | refine S.store1 rfl 3 _ _ rfl b6 11 (.int _ _) rfl rfl 2 _ rfl rfl (of_decide_eq_true rfl) (Cel.any _) rfl (by kernel_rfl) ?_); clear S; intro w2 S; (simp only [Cel.cells, IV.cellsL, zeroL, List.set_cons_zero, List.set_cons_succ, startI, secondI, noneI, startI, regI] at S)))
    (try simp only [Exit.inBlock, Exit.then])
    (first | refine bodyPost_ret (S.results2 rfl _ _ rfl 0 _ rfl _ Try.underlying30 rfl (szA _ rfl)) rfl ?_ | refine bodyPost_ret (S.results2 rfl _ _ rfl 1 _ rfl _ Try.underlying30 rfl (szA _ rfl)) rfl ?_ | refine bodyPost_ret (S.results2 rfl _ _ rfl 2 _ rfl _ Try.underlying30 rfl (szA _ rfl)) rfl ?_)
    exact ⟨_, _, rfl, HX.out, S.low⟩
end Go.Proofs.Ytigmekboikgoaaa
