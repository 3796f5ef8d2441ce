/- Stage 9: the document: many registers. -/
import Derived.Test.YtigmekboikgoaaaWg1
namespace Go.Proofs.Ytigmekboikgoaaa
open Go.ChangeShapes Go.WideShapes Go.ChangeAt Go.RowKit
set_option linter.unusedVariables false
set_option linter.unusedSimpArgs false

set_option maxHeartbeats 20000000 in
set_option maxRecDepth 100000 in
theorem rmany_g (h k gn p gl b5 g13 g14 g15 gN pp x : Nat) (X : IV) (kn : bits .and .u16 (h : Int) 15 = (gn : Int)) (kp : bits .and .u16 ((h : Int) / 128) 3 = (p : Int)) (kl : bits .and .u16 ((h : Int) / 16) 1 = (gl : Int)) (k5 : bits .and .u16 ((h : Int) / 32) 1 = (b5 : Int)) (k13 : bits .and .u16 ((k : Int) / 8192) 1 = (g13 : Int)) (k14 : (k : Int) / 16384 = (g14 : Int)) (k15 : (k : Int) / 32768 = (g15 : Int)) (kN : bits .and .i64 ((k : Int) / 2 ^ gn) 1 = (gN : Int))
    (bk : k < 65536) (bn : gn < 16) (bp : p < 4) (bl : gl < 2) (bb5 : b5 < 2) (b13 : g13 < 2) (b14 : g14 < 4) (b15 : g15 < 2) (bN : gN < 2)
    (CL : ∀ w, Calls Try.prog 65 #[.int .i64 k, .bool true] w fun e w' => (∃ p n c, e = .returned (.slice p n c) ∧ n = pp) ∧ Below w.heap.size w w')
    (HU : (p = 1 ∨ p = 2) → (gn = 15 ∨ g13 = 1 ∨ pp < 2 ∨ (gl = 0 ∧ g15 = 1) ∨ (gl = 1 ∧ g14 = 3) ∨ (b5 = 1 ∧ gN = 1)) → fin (startI 65 0 0) true x = X)
    (HG : ∀ ldm back down : Bool, ((p = 1 ∧ down = false) ∨ (p = 2 ∧ down = true)) → ((gl = 0 ∧ ldm = false ∧ g15 = 0) ∨ (gl = 1 ∧ ldm = true ∧ g14 ≠ 3)) → ((b5 = 0 ∧ back = false) ∨ (b5 = 1 ∧ back = true ∧ gN = 0)) → gn ≠ 15 → g13 = 0 → 2 ≤ pp → fin (manyI ldm gn k back down) true x = X)
    (HZ : (p = 0 ∨ p = 3) → fin IV.zero false x = X)
    (w : World) : Calls Try.prog 33 #[.int .u16 h, .int .u16 k] w fun e w' => Two w X x e w' := by
  have QL : Hid _ := CL
  clear CL
  have nn0 : (0 : Int) ≤ (gn : Int) := by omega
  rcases (show p = 0 ∨ p = 3 ∨ (p = 1 ∨ p = 2) by omega) with rfl | rfl | hp12
  focus
    replace kp : bits .and .u16 ((h : Int) / 128) 3 = 0 := kp
    have HX : Hid (fin (IV.zero) false x = X) := HZ (.inl rfl)
    clear HU HG HZ
  rotate_left 1
  focus
    replace kp : bits .and .u16 ((h : Int) / 128) 3 = 3 := kp
    have HX : Hid (fin (IV.zero) false x = X) := HZ (.inr rfl)
    clear HU HG HZ
  rotate_left 1
  focus
    have p0 : ((p : Int) == 0) = false := by simp; omega
    have p3 : ((p : Int) == 3) = false := by simp; omega
    obtain ⟨dn, hdn2⟩ : ∃ dn, ((p : Int) == 2) = dn := ⟨_, rfl⟩
    have hdn : Hid ((p = 1 ∧ dn = false) ∨ (p = 2 ∧ dn = true)) := by
      rcases hp12 with rfl | rfl
      · exact .inl ⟨rfl, by rw [← hdn2]; rfl⟩
      · exact .inr ⟨rfl, by rw [← hdn2]; rfl⟩
    rcases (show gl = 0 ∨ gl = 1 by omega) with rfl | rfl
    focus
      replace kl : bits .and .u16 ((h : Int) / 16) 1 = 0 := kl
      rcases (show gn = 15 ∨ gn ≠ 15 by omega) with hn | hn
      focus
        have n1 : ((gn : Int) == 15) = true := by simp; omega
        have HX : Hid (fin (startI 65 0 0) true x = X) := HU (by omega) (.inl hn)
        clear HU HG HZ
        clear hp12 hdn
        clear hn
      rotate_left 1
      focus
        have n1 : ((gn : Int) == 15) = false := by simp; omega
        rcases (show g13 = 0 ∨ g13 = 1 by omega) with rfl | rfl
        focus
          replace k13 : bits .and .u16 ((k : Int) / 8192) 1 = 0 := k13
          rcases (show pp < 2 ∨ 2 ≤ pp by omega) with hp | hp
          focus
            have p2 : decide ((pp : Int) < 2) = true := by simp; omega
            have p3 : ((pp : Int) < 2) = True := by simp; omega
            have HX : Hid (fin (startI 65 0 0) true x = X) := HU (by omega) (.inr (.inr (.inl hp)))
            clear HU HG HZ
            clear hp12 hdn
            clear hn hp
          rotate_left 1
          focus
            have p2 : decide ((pp : Int) < 2) = false := by simp; omega
            have p3 : ((pp : Int) < 2) = False := by simp; omega
            rcases (show g15 = 0 ∨ g15 = 1 by omega) with rfl | rfl
            focus
              replace k15 : (k : Int) / 32768 = 0 := k15
              rcases (show b5 = 0 ∨ b5 = 1 by omega) with rfl | rfl
              focus
                replace k5 : bits .and .u16 ((h : Int) / 32) 1 = 0 := k5
                have HX : Hid (fin (manyI false gn k false dn) true x = X) := HG false false dn hdn (.inl ⟨rfl, rfl, rfl⟩) (.inl ⟨rfl, rfl⟩) hn rfl hp
                clear HU HG HZ
                clear hp12 hdn
                clear hn hp
              rotate_left 1
              focus
                replace k5 : bits .and .u16 ((h : Int) / 32) 1 = 1 := k5
                rcases (show gN = 0 ∨ gN = 1 by omega) with rfl | rfl
                focus
                  replace kN : bits .and .i64 ((k : Int) / 2 ^ gn) 1 = 0 := kN
                  have HX : Hid (fin (manyI false gn k true dn) true x = X) := HG false true dn hdn (.inl ⟨rfl, rfl, rfl⟩) (.inr ⟨rfl, rfl, rfl⟩) hn rfl hp
                  clear HU HG HZ
                  clear hp12 hdn
                  clear hn hp
                rotate_left 1
                focus
                  replace kN : bits .and .i64 ((k : Int) / 2 ^ gn) 1 = 1 := kN
                  have HX : Hid (fin (startI 65 0 0) true x = X) := HU (by omega) (.inr (.inr (.inr (.inr (.inr ⟨rfl, rfl⟩)))))
                  clear HU HG HZ
                  clear hp12 hdn
                  clear hn hp
                rotate_left 1
              rotate_left 2
            rotate_left 3
            focus
              replace k15 : (k : Int) / 32768 = 1 := k15
              have HX : Hid (fin (startI 65 0 0) true x = X) := HU (by omega) (.inr (.inr (.inr (.inl ⟨rfl, rfl⟩))))
              clear HU HG HZ
              clear hp12 hdn
              clear hn hp
            rotate_left 1
          rotate_left 4
        rotate_left 5
        focus
          replace k13 : bits .and .u16 ((k : Int) / 8192) 1 = 1 := k13
          have HX : Hid (fin (startI 65 0 0) true x = X) := HU (by omega) (.inr (.inl rfl))
          clear HU HG HZ
          clear hp12 hdn
          clear hn
        rotate_left 1
      rotate_left 6
    rotate_left 7
    focus
      replace kl : bits .and .u16 ((h : Int) / 16) 1 = 1 := kl
      rcases (show gn = 15 ∨ gn ≠ 15 by omega) with hn | hn
      focus
        have n1 : ((gn : Int) == 15) = true := by simp; omega
        have HX : Hid (fin (startI 65 0 0) true x = X) := HU (by omega) (.inl hn)
        clear HU HG HZ
        clear hp12 hdn
        clear hn
      rotate_left 1
      focus
        have n1 : ((gn : Int) == 15) = false := by simp; omega
        rcases (show g13 = 0 ∨ g13 = 1 by omega) with rfl | rfl
        focus
          replace k13 : bits .and .u16 ((k : Int) / 8192) 1 = 0 := k13
          rcases (show pp < 2 ∨ 2 ≤ pp by omega) with hp | hp
          focus
            have p2 : decide ((pp : Int) < 2) = true := by simp; omega
            have p3 : ((pp : Int) < 2) = True := by simp; omega
            have HX : Hid (fin (startI 65 0 0) true x = X) := HU (by omega) (.inr (.inr (.inl hp)))
            clear HU HG HZ
            clear hp12 hdn
            clear hn hp
          rotate_left 1
          focus
            have p2 : decide ((pp : Int) < 2) = false := by simp; omega
            have p3 : ((pp : Int) < 2) = False := by simp; omega
            rcases (show g14 = 3 ∨ g14 ≠ 3 by omega) with rfl | h14
            focus
              replace k14 : (k : Int) / 16384 = 3 := k14
              have HX : Hid (fin (startI 65 0 0) true x = X) := HU (by omega) (.inr (.inr (.inr (.inr (.inl ⟨rfl, rfl⟩)))))
              clear HU HG HZ
              clear hp12 hdn
              clear hn hp
            rotate_left 1
            focus
              have n14 : ((g14 : Int) == 3) = false := by simp; omega
              rcases (show b5 = 0 ∨ b5 = 1 by omega) with rfl | rfl
              focus
                replace k5 : bits .and .u16 ((h : Int) / 32) 1 = 0 := k5
                have HX : Hid (fin (manyI true gn k false dn) true x = X) := HG true false dn hdn (.inr ⟨rfl, rfl, h14⟩) (.inl ⟨rfl, rfl⟩) hn rfl hp
                clear HU HG HZ
                clear hp12 hdn
                clear hn hp h14
              rotate_left 1
              focus
                replace k5 : bits .and .u16 ((h : Int) / 32) 1 = 1 := k5
                rcases (show gN = 0 ∨ gN = 1 by omega) with rfl | rfl
                focus
                  replace kN : bits .and .i64 ((k : Int) / 2 ^ gn) 1 = 0 := kN
                  have HX : Hid (fin (manyI true gn k true dn) true x = X) := HG true true dn hdn (.inr ⟨rfl, rfl, h14⟩) (.inr ⟨rfl, rfl, rfl⟩) hn rfl hp
                  clear HU HG HZ
                  clear hp12 hdn
                  clear hn hp h14
                rotate_left 1
                focus
                  replace kN : bits .and .i64 ((k : Int) / 2 ^ gn) 1 = 1 := kN
                  have HX : Hid (fin (startI 65 0 0) true x = X) := HU (by omega) (.inr (.inr (.inr (.inr (.inr ⟨rfl, rfl⟩)))))
                  clear HU HG HZ
                  clear hp12 hdn
                  clear hn hp h14
                rotate_left 1
              rotate_left 2
            rotate_left 3
          rotate_left 4
        rotate_left 5
        focus
          replace k13 : bits .and .u16 ((k : Int) / 8192) 1 = 1 := k13
          have HX : Hid (fin (startI 65 0 0) true x = X) := HU (by omega) (.inr (.inl rfl))
          clear HU HG HZ
          clear hp12 hdn
          clear hn
        rotate_left 1
      rotate_left 6
    rotate_left 7
  rotate_left 14
  all_goals
    go_enter Try.func33, Try.ntmps33
    have S := SH.start w
    go_wp2_with (first
      | ((with_reducible refine wpl_isDst 4 ?_); (first | refine S.alloc rfl 30 rfl (Cel.any zeroL) zeroA ?_ | refine SH.alloc (L := []) S rfl 30 rfl (Cel.any zeroL) zeroA ?_); clear S; intro b4 w4 S)
      | ((with_reducible refine wpl_isStoreAt 4 ?_); (first | refine S.storeA rfl 30 _ _ rfl b4 _ rfl rfl 0 _ rfl rfl rfl (szA _ rfl) ?_ | refine S.storeA rfl 30 _ _ rfl b4 _ rfl rfl 1 _ rfl rfl rfl (szA _ rfl) ?_ | refine S.storeA rfl 30 _ _ rfl b4 _ rfl rfl 2 _ rfl rfl rfl (szA _ rfl) ?_); clear S; intro w2 S; (simp only [Cel.cells, IV.cellsL, zeroL, List.set_cons_zero, List.set_cons_succ, startI, secondI, noneI, startI, manyI] at S))
      | ((with_reducible refine wpl_isDst 19 ?_); (first | refine S.sliceA rfl 66 2 _ rfl [.int .i64 53, .int .i64 52] 3 (by kernel_rfl) ?_ | refine SH.sliceA (L := []) S rfl 66 2 _ rfl [.int .i64 53, .int .i64 52] 3 (by kernel_rfl) ?_); clear S; intro g19 w19 S)
      | ((with_reducible refine wpl_isDst 24 ?_); (first | refine S.ld 3 _ rfl _ _ rfl 0 _ rfl _ rfl _ Try.underlying3 rfl rfl ?_ | refine S.ld 3 _ rfl _ _ rfl 1 _ rfl _ rfl _ Try.underlying3 rfl rfl ?_ | refine S.ld 3 _ rfl _ _ rfl 2 _ rfl _ rfl _ Try.underlying3 rfl rfl ?_))
      | (go_at_call 62; refine (rwide_c _ _).mono ?_; rintro e wf ⟨rfl, hbf⟩; replace S := S.below hbf; clear hbf)
      | ((with_reducible refine wpl_isDst 7 ?_); (first | refine S.alloc rfl 30 rfl (Cel.any zeroL) zeroA ?_ | refine SH.alloc (L := []) S rfl 30 rfl (Cel.any zeroL) zeroA ?_); clear S; intro b7 w7 S)
      | ((with_reducible refine wpl_isStoreAt 7 ?_); (first | refine S.storeA rfl 30 _ _ rfl b7 _ rfl rfl 0 _ rfl rfl rfl (szA _ rfl) ?_ | refine S.storeA rfl 30 _ _ rfl b7 _ rfl rfl 1 _ rfl rfl rfl (szA _ rfl) ?_ | refine S.storeA rfl 30 _ _ rfl b7 _ rfl rfl 2 _ rfl rfl rfl (szA _ rfl) ?_); clear S; intro w2 S; (simp only [Cel.cells, IV.cellsL, zeroL, List.set_cons_zero, List.set_cons_succ, startI, secondI, noneI, startI, manyI] at S))
      | ((with_reducible refine wpl_isStoreAt 37 ?_); (first | refine S.store1 rfl 3 _ _ rfl b7 5 (.int _ _) rfl rfl 0 _ rfl rfl (of_decide_eq_true rfl) (Cel.any _) rfl (by kernel_rfl) ?_ | refine S.store1 rfl 3 _ _ rfl b7 5 (.int _ _) rfl rfl 1 _ rfl rfl (of_decide_eq_true rfl) (Cel.any _) rfl (by kernel_rfl) ?_ | refine S.store1 rfl 3 _ _ rfl b7 5 (.int _ _) rfl rfl 2 _ rfl rfl (of_decide_eq_true rfl) (Cel.any _) rfl (by kernel_rfl) ?_); clear S; intro w2 S; (simp only [Cel.cells, IV.cellsL, zeroL, List.set_cons_zero, List.set_cons_succ, startI, secondI, noneI, startI, manyI] at S))
      | ((with_reducible refine wpl_isStoreAt 38 ?_); (first | refine S.store1 rfl 3 _ _ rfl b7 12 (.int _ _) rfl rfl 0 _ rfl rfl (of_decide_eq_true rfl) (Cel.any _) rfl (by kernel_rfl) ?_ | refine S.store1 rfl 3 _ _ rfl b7 12 (.int _ _) rfl rfl 1 _ rfl rfl (of_decide_eq_true rfl) (Cel.any _) rfl (by kernel_rfl) ?_ | refine S.store1 rfl 3 _ _ rfl b7 12 (.int _ _) rfl rfl 2 _ rfl rfl (of_decide_eq_true rfl) (Cel.any _) rfl (by kernel_rfl) ?_); clear S; intro w2 S; (simp only [Cel.cells, IV.cellsL, zeroL, List.set_cons_zero, List.set_cons_succ, startI, secondI, noneI, startI, manyI] at S))
      | ((with_reducible refine wpl_isStoreAt 39 ?_); (first | refine S.store1 rfl 4 _ _ rfl b7 13 (.bool _) rfl rfl 0 _ rfl rfl (of_decide_eq_true rfl) (Cel.any _) rfl (by kernel_rfl) ?_ | refine S.store1 rfl 4 _ _ rfl b7 13 (.bool _) rfl rfl 1 _ rfl rfl (of_decide_eq_true rfl) (Cel.any _) rfl (by kernel_rfl) ?_ | refine S.store1 rfl 4 _ _ rfl b7 13 (.bool _) rfl rfl 2 _ rfl rfl (of_decide_eq_true rfl) (Cel.any _) rfl (by kernel_rfl) ?_); clear S; intro w2 S; (simp only [Cel.cells, IV.cellsL, zeroL, List.set_cons_zero, List.set_cons_succ, startI, secondI, noneI, startI, manyI] at S))
      | ((with_reducible refine wpl_isStoreAt 40 ?_); (first | refine S.store1 rfl 4 _ _ rfl b7 14 (.bool _) rfl rfl 0 _ rfl rfl (of_decide_eq_true rfl) (Cel.any _) rfl (by kernel_rfl) ?_ | refine S.store1 rfl 4 _ _ rfl b7 14 (.bool _) rfl rfl 1 _ rfl rfl (of_decide_eq_true rfl) (Cel.any _) rfl (by kernel_rfl) ?_ | refine S.store1 rfl 4 _ _ rfl b7 14 (.bool _) rfl rfl 2 _ rfl rfl (of_decide_eq_true rfl) (Cel.any _) rfl (by kernel_rfl) ?_); clear S; intro w2 S; (simp only [Cel.cells, IV.cellsL, zeroL, List.set_cons_zero, List.set_cons_succ, startI, secondI, noneI, startI, manyI] at S))
      | ((with_reducible refine wpl_isDst 42 ?_); (first | refine S.ld 3 _ rfl b7 12 rfl 0 _ rfl _ rfl _ Try.underlying3 rfl rfl ?_ | refine S.ld 3 _ rfl b7 12 rfl 1 _ rfl _ rfl _ Try.underlying3 rfl rfl ?_ | refine S.ld 3 _ rfl b7 12 rfl 2 _ rfl _ rfl _ Try.underlying3 rfl rfl ?_))
      | (go_at_call 65; refine (QL.out _).mono ?_; rintro e wf ⟨⟨pq, nq, cq, rfl, hnq⟩, hbf⟩; subst hnq; replace S := S.below hbf; clear hbf)
      | ((with_reducible refine wpl_isDst 47 ?_); (first | refine S.ld 3 _ rfl b7 5 rfl 0 _ rfl _ rfl _ Try.underlying3 rfl rfl ?_ | refine S.ld 3 _ rfl b7 5 rfl 1 _ rfl _ rfl _ Try.underlying3 rfl rfl ?_ | refine S.ld 3 _ rfl b7 5 rfl 2 _ rfl _ rfl _ Try.underlying3 rfl rfl ?_))
      | ((with_reducible refine wpl_isDst 56 ?_); (first | refine S.ld 3 _ rfl b7 0 rfl 0 _ rfl _ rfl _ Try.underlying3 rfl rfl ?_ | refine S.ld 3 _ rfl b7 0 rfl 1 _ rfl _ rfl _ Try.underlying3 rfl rfl ?_ | refine S.ld 3 _ rfl b7 0 rfl 2 _ rfl _ rfl _ Try.underlying3 rfl rfl ?_))
      | ((with_reducible refine wpl_isDst 64 ?_); (first | refine S.ld 3 _ rfl b7 0 rfl 0 _ rfl _ rfl _ Try.underlying3 rfl rfl ?_ | refine S.ld 3 _ rfl b7 0 rfl 1 _ rfl _ rfl _ Try.underlying3 rfl rfl ?_ | refine S.ld 3 _ rfl b7 0 rfl 2 _ rfl _ rfl _ Try.underlying3 rfl rfl ?_))
      | ((with_reducible refine wpl_isDst 72 ?_); (first | refine S.ld 4 _ rfl b7 13 rfl 0 _ rfl _ rfl _ Try.underlying4 rfl rfl ?_ | refine S.ld 4 _ rfl b7 13 rfl 1 _ rfl _ rfl _ Try.underlying4 rfl rfl ?_ | refine S.ld 4 _ rfl b7 13 rfl 2 _ rfl _ rfl _ Try.underlying4 rfl rfl ?_))
      | ((with_reducible refine wpl_isDst 75 ?_); first | (refine wpl_skip rfl ?_) | (first | refine S.ld 3 _ rfl b7 12 rfl 0 _ rfl _ rfl _ Try.underlying3 rfl rfl ?_ | refine S.ld 3 _ rfl b7 12 rfl 1 _ rfl _ rfl _ Try.underlying3 rfl rfl ?_ | refine S.ld 3 _ rfl b7 12 rfl 2 _ rfl _ rfl _ Try.underlying3 rfl rfl ?_))
      | ((with_reducible refine wpl_isDst 77 ?_); first | (refine wpl_skip rfl ?_) | (first | refine S.ld 3 _ rfl b7 5 rfl 0 _ rfl _ rfl _ Try.underlying3 rfl rfl ?_ | refine S.ld 3 _ rfl b7 5 rfl 1 _ rfl _ rfl _ Try.underlying3 rfl rfl ?_ | refine S.ld 3 _ rfl b7 5 rfl 2 _ rfl _ rfl _ Try.underlying3 rfl rfl ?_))
      | (go_at_call 61; refine (runp_c _).mono ?_; rintro e wf ⟨rfl, hbf⟩; replace S := S.below hbf; clear hbf)
      | ((with_reducible refine wpl_isDst 85 ?_); (first | refine S.ldAll 30 _ rfl b7 rfl 0 _ rfl _ Try.underlying30 rfl (szA _ rfl) rfl ?_ | refine S.ldAll 30 _ rfl b7 rfl 1 _ rfl _ Try.underlying30 rfl (szA _ rfl) rfl ?_ | refine S.ldAll 30 _ rfl b7 rfl 2 _ rfl _ Try.underlying30 rfl (szA _ rfl) rfl ?_)))
    (try simp only [Exit.inBlock, Exit.then])
    (first | refine bodyPost_ret (S.results2 rfl _ _ rfl 0 _ rfl _ Try.underlying30 rfl (szA _ rfl)) rfl ?_ | refine bodyPost_ret (S.results2 rfl _ _ rfl 1 _ rfl _ Try.underlying30 rfl (szA _ rfl)) rfl ?_ | refine bodyPost_ret (S.results2 rfl _ _ rfl 2 _ rfl _ Try.underlying30 rfl (szA _ rfl)) rfl ?_)
    exact ⟨_, _, rfl, HX.out, S.low⟩
end Go.Proofs.Ytigmekboikgoaaa
