/- ThumbFlags, walked. -/
import Derived.Test.YtblcklknlfofgaaDoorThK
import Derived.Test.YtblcklknlfofgaaDoorThF0
namespace Go.Proofs.YtblcklknlfofgaaDoor
open Go.ChangeShapes Go.WideShapes Go.ChangeAt Go.RowKit
set_option linter.unusedVariables false
set_option linter.unusedSimpArgs false

set_option maxHeartbeats 8000000 in
set_option maxRecDepth 100000 in
theorem flags_c (h : Nat) (hh : h < 65536) (w : World) (HT : LT w) : Calls Tryd.prog 6 #[.int .u16 h] w fun e w' => e = .returned (.bool true) ∧ Below w.heap.size w w' := by
  have CK : Hid (∀ w1, LT w1 → Calls Tryd.prog 8 #[] w1 fun e w' => e = .returned (.bool true) ∧ Below w1.heap.size w1 w') := known_c
  have F := all16_at flags_all h hh
  obtain ⟨A, hA⟩ : ∃ A, aloneN h = A := ⟨_, rfl⟩
  obtain ⟨B, hB⟩ : ∃ B, withinN A h = B := ⟨_, rfl⟩
  have D0 : Hid (∀ w1, LT w1 → Calls Tryd.prog 12 #[.int .u16 (h : Int), .bool false] w1 fun e w' => e = .returned A.iv.val ∧ Below w1.heap.size w1 w') := fun w1 h1 => by
    have := decode_c h hh false w1 h1
    unfold Says decN at this
    simp only [cond_false, hA] at this
    exact this
  have D1 : Hid (∀ w1, LT w1 → Calls Tryd.prog 12 #[.int .u16 (h : Int), .bool true] w1 fun e w' => e = .returned B.iv.val ∧ Below w1.heap.size w1 w') := fun w1 h1 => by
    have := decode_c h hh true w1 h1
    unfold Says decN at this
    simp only [cond_true, hA, hB] at this
    exact this
  unfold flagsN at F
  simp only [hA, hB, nbeq] at F
  clear hA hB
  have HEQ : True := trivial
  by_cases p1 : A.op = 64
  · have q1 : B.op = 64 := by simpa [p1] using F
    clear F
    have tA64 : ((A.iv.op : Int) == 64) = true := by simp [NV.iv]; omega
    have nA64 : ((A.iv.op : Int) != 64) = false := by simp [NV.iv]; omega
    have tB64 : ((B.iv.op : Int) == 64) = true := by simp [NV.iv]; omega
    go_enter Tryd.func6, Tryd.ntmps6
    have S := SH.start w
    go_wp2_with (first
      | ((with_reducible refine wpl_isLoad ?_); first
        | (refine S.ld 3 _ rfl b3 0 rfl 1 (Cel.iv A.iv) rfl _ rfl _ Tryd.underlying3 rfl rfl ?_)
        | (refine S.ld 3 _ rfl b4 0 rfl 0 (Cel.iv B.iv) rfl _ rfl _ Tryd.underlying3 rfl rfl ?_)
        | (refine S.ld 4 _ rfl b4 2 rfl 0 (Cel.iv B.iv) rfl _ rfl _ Tryd.underlying4 rfl rfl ?_)
        | (refine S.ld 4 _ rfl b3 2 rfl 1 (Cel.iv A.iv) rfl _ rfl _ Tryd.underlying4 rfl rfl ?_)
        | (refine S.ldAll 29 _ rfl b3 rfl 1 (Cel.iv A.iv) rfl _ Tryd.underlying29 rfl (szIV _) rfl ?_)
        | (refine S.ldAll 29 _ rfl b4 rfl 0 (Cel.iv B.iv) rfl _ Tryd.underlying29 rfl (szIV _) rfl ?_)
        | (refine S.ld 4 _ rfl b3 1 rfl 1 (Cel.iv A.iv) rfl _ rfl _ Tryd.underlying4 rfl rfl ?_)
        | (refine S.ld 3 _ rfl b3 3 rfl 1 (Cel.iv A.iv) rfl _ rfl _ Tryd.underlying3 rfl rfl ?_))
      | ((with_reducible refine wpl_isStore ?_); first
        | (refine S.storeAll rfl 29 _ _ rfl b3 (Cel.iv A.iv) rfl rfl 1 _ rfl rfl (one_iv _) (szIV _) ?_; clear S; intro w2 S; simp only [List.set_cons_zero, List.set_cons_succ] at S)
        | (refine S.storeAll rfl 29 _ _ rfl b4 (Cel.iv B.iv) rfl rfl 0 _ rfl rfl (one_iv _) (szIV _) ?_; clear S; intro w2 S; simp only [List.set_cons_zero, List.set_cons_succ] at S)
        | (refine S.store1 rfl 4 _ _ rfl b3 2 _ rfl rfl 1 (Cel.iv A.iv) rfl rfl (by simp [Cel.cells, IV.cellsL]) (Cel.iv A.iv) rfl (by kernel_rfl) ?_; clear S; intro w2 S; simp only [List.set_cons_zero, List.set_cons_succ] at S))
      | ((with_reducible refine wpl_isDst 3 ?_); refine SH.alloc (L := []) S rfl 29 rfl (Cel.iv IV.zero) zeroIV ?_; clear S; intro b3 w1 S)
      | ((with_reducible refine wpl_isDst 4 ?_); refine S.alloc rfl 29 rfl (Cel.iv IV.zero) zeroIV ?_; clear S; intro b4 w1 S)
      | ((with_reducible refine wpl_isDst 65 ?_); refine wpl_eqlB _ _ _ rfl A.iv B.iv rfl rfl true HEQ rfl ?_)
      | (go_at_call 8; refine (CK.out _ (HT.next S.low)).mono ?_; rintro e wf ⟨rfl, hbf⟩; replace S := S.below hbf; clear hbf)
      | (go_at_call 12; (first | with_reducible refine (D0.out _ (HT.next S.low)).mono ?_ | with_reducible refine (D1.out _ (HT.next S.low)).mono ?_); rintro e wf ⟨rfl, hbf⟩; replace S := S.below hbf; clear hbf))
    (try simp only [Exit.inBlock, Exit.then])
    go_ret
    exact ⟨rfl, S.low⟩
  · by_cases p2 : B.op = 65
    · clear F
      have tA64 : ((A.iv.op : Int) == 64) = false := by simp [NV.iv]; omega
      have nA64 : ((A.iv.op : Int) != 64) = true := by simp [NV.iv]; omega
      have tB65 : ((B.iv.op : Int) == 65) = true := by simp [NV.iv]; omega
      go_enter Tryd.func6, Tryd.ntmps6
      have S := SH.start w
      go_wp2_with (first
        | ((with_reducible refine wpl_isLoad ?_); first
          | (refine S.ld 3 _ rfl b3 0 rfl 1 (Cel.iv A.iv) rfl _ rfl _ Tryd.underlying3 rfl rfl ?_)
          | (refine S.ld 3 _ rfl b4 0 rfl 0 (Cel.iv B.iv) rfl _ rfl _ Tryd.underlying3 rfl rfl ?_)
          | (refine S.ld 4 _ rfl b4 2 rfl 0 (Cel.iv B.iv) rfl _ rfl _ Tryd.underlying4 rfl rfl ?_)
          | (refine S.ld 4 _ rfl b3 2 rfl 1 (Cel.iv A.iv) rfl _ rfl _ Tryd.underlying4 rfl rfl ?_)
          | (refine S.ldAll 29 _ rfl b3 rfl 1 (Cel.iv A.iv) rfl _ Tryd.underlying29 rfl (szIV _) rfl ?_)
          | (refine S.ldAll 29 _ rfl b4 rfl 0 (Cel.iv B.iv) rfl _ Tryd.underlying29 rfl (szIV _) rfl ?_)
          | (refine S.ld 4 _ rfl b3 1 rfl 1 (Cel.iv A.iv) rfl _ rfl _ Tryd.underlying4 rfl rfl ?_)
          | (refine S.ld 3 _ rfl b3 3 rfl 1 (Cel.iv A.iv) rfl _ rfl _ Tryd.underlying3 rfl rfl ?_))
        | ((with_reducible refine wpl_isStore ?_); first
          | (refine S.storeAll rfl 29 _ _ rfl b3 (Cel.iv A.iv) rfl rfl 1 _ rfl rfl (one_iv _) (szIV _) ?_; clear S; intro w2 S; simp only [List.set_cons_zero, List.set_cons_succ] at S)
          | (refine S.storeAll rfl 29 _ _ rfl b4 (Cel.iv B.iv) rfl rfl 0 _ rfl rfl (one_iv _) (szIV _) ?_; clear S; intro w2 S; simp only [List.set_cons_zero, List.set_cons_succ] at S)
          | (refine S.store1 rfl 4 _ _ rfl b3 2 _ rfl rfl 1 (Cel.iv A.iv) rfl rfl (by simp [Cel.cells, IV.cellsL]) (Cel.iv A.iv) rfl (by kernel_rfl) ?_; clear S; intro w2 S; simp only [List.set_cons_zero, List.set_cons_succ] at S))
        | ((with_reducible refine wpl_isDst 3 ?_); refine SH.alloc (L := []) S rfl 29 rfl (Cel.iv IV.zero) zeroIV ?_; clear S; intro b3 w1 S)
        | ((with_reducible refine wpl_isDst 4 ?_); refine S.alloc rfl 29 rfl (Cel.iv IV.zero) zeroIV ?_; clear S; intro b4 w1 S)
        | ((with_reducible refine wpl_isDst 65 ?_); refine wpl_eqlB _ _ _ rfl A.iv B.iv rfl rfl true HEQ rfl ?_)
        | (go_at_call 8; refine (CK.out _ (HT.next S.low)).mono ?_; rintro e wf ⟨rfl, hbf⟩; replace S := S.below hbf; clear hbf)
        | (go_at_call 12; (first | with_reducible refine (D0.out _ (HT.next S.low)).mono ?_ | with_reducible refine (D1.out _ (HT.next S.low)).mono ?_); rintro e wf ⟨rfl, hbf⟩; replace S := S.below hbf; clear hbf))
      (try simp only [Exit.inBlock, Exit.then])
      go_ret
      exact ⟨rfl, S.low⟩
    · by_cases p3 : A.op = 65
      · clear F
        have tA64 : ((A.iv.op : Int) == 64) = false := by simp [NV.iv]; omega
        have nA64 : ((A.iv.op : Int) != 64) = true := by simp [NV.iv]; omega
        have tB65 : ((B.iv.op : Int) == 65) = false := by simp [NV.iv]; omega
        have tA65 : ((A.iv.op : Int) == 65) = true := by simp [NV.iv]; omega
        go_enter Tryd.func6, Tryd.ntmps6
        have S := SH.start w
        go_wp2_with (first
          | ((with_reducible refine wpl_isLoad ?_); first
            | (refine S.ld 3 _ rfl b3 0 rfl 1 (Cel.iv A.iv) rfl _ rfl _ Tryd.underlying3 rfl rfl ?_)
            | (refine S.ld 3 _ rfl b4 0 rfl 0 (Cel.iv B.iv) rfl _ rfl _ Tryd.underlying3 rfl rfl ?_)
            | (refine S.ld 4 _ rfl b4 2 rfl 0 (Cel.iv B.iv) rfl _ rfl _ Tryd.underlying4 rfl rfl ?_)
            | (refine S.ld 4 _ rfl b3 2 rfl 1 (Cel.iv A.iv) rfl _ rfl _ Tryd.underlying4 rfl rfl ?_)
            | (refine S.ldAll 29 _ rfl b3 rfl 1 (Cel.iv A.iv) rfl _ Tryd.underlying29 rfl (szIV _) rfl ?_)
            | (refine S.ldAll 29 _ rfl b4 rfl 0 (Cel.iv B.iv) rfl _ Tryd.underlying29 rfl (szIV _) rfl ?_)
            | (refine S.ld 4 _ rfl b3 1 rfl 1 (Cel.iv A.iv) rfl _ rfl _ Tryd.underlying4 rfl rfl ?_)
            | (refine S.ld 3 _ rfl b3 3 rfl 1 (Cel.iv A.iv) rfl _ rfl _ Tryd.underlying3 rfl rfl ?_))
          | ((with_reducible refine wpl_isStore ?_); first
            | (refine S.storeAll rfl 29 _ _ rfl b3 (Cel.iv A.iv) rfl rfl 1 _ rfl rfl (one_iv _) (szIV _) ?_; clear S; intro w2 S; simp only [List.set_cons_zero, List.set_cons_succ] at S)
            | (refine S.storeAll rfl 29 _ _ rfl b4 (Cel.iv B.iv) rfl rfl 0 _ rfl rfl (one_iv _) (szIV _) ?_; clear S; intro w2 S; simp only [List.set_cons_zero, List.set_cons_succ] at S)
            | (refine S.store1 rfl 4 _ _ rfl b3 2 _ rfl rfl 1 (Cel.iv A.iv) rfl rfl (by simp [Cel.cells, IV.cellsL]) (Cel.iv A.iv) rfl (by kernel_rfl) ?_; clear S; intro w2 S; simp only [List.set_cons_zero, List.set_cons_succ] at S))
          | ((with_reducible refine wpl_isDst 3 ?_); refine SH.alloc (L := []) S rfl 29 rfl (Cel.iv IV.zero) zeroIV ?_; clear S; intro b3 w1 S)
          | ((with_reducible refine wpl_isDst 4 ?_); refine S.alloc rfl 29 rfl (Cel.iv IV.zero) zeroIV ?_; clear S; intro b4 w1 S)
          | ((with_reducible refine wpl_isDst 65 ?_); refine wpl_eqlB _ _ _ rfl A.iv B.iv rfl rfl true HEQ rfl ?_)
          | (go_at_call 8; refine (CK.out _ (HT.next S.low)).mono ?_; rintro e wf ⟨rfl, hbf⟩; replace S := S.below hbf; clear hbf)
          | (go_at_call 12; (first | with_reducible refine (D0.out _ (HT.next S.low)).mono ?_ | with_reducible refine (D1.out _ (HT.next S.low)).mono ?_); rintro e wf ⟨rfl, hbf⟩; replace S := S.below hbf; clear hbf))
        (try simp only [Exit.inBlock, Exit.then])
        go_ret
        exact ⟨rfl, S.low⟩
      · simp only [p1, p2, p3, decide_false, Bool.or_false, cond_false, Bool.and_eq_true, Bool.or_eq_true, decide_eq_true_eq] at F
        obtain ⟨F1, F2, F3⟩ := F
        replace F2 := NV.eq_of_beq F2
        replace F1 := bEq_eq F1
        rcases (show A.op = 8 ∨ A.op = 10 ∨ A.op = 11 ∨ (A.op ≠ 8 ∧ A.op ≠ 10 ∧ A.op ≠ 11) by omega) with k | k | k | ⟨k1, k2, k3⟩
        · have hs : B.s = true := by rw [← F1]; simp [k]
          have hsA : A.s = true := by
            have := congrArg NV.s F2
            simp [hs, k] at this
            exact this
          have hc14 : A.cond = 14 := by
            rcases F3 with g | g
            · exact g
            · omega
          have hBs : B.iv.s = true := hs
          have hAs : A.iv.s = true := hsA
          have hAB : ({ A.iv with s := true } : IV) = B.iv := by
            rw [← F2]
            simp [NV.iv, k, hsA]
          replace HEQ : ivEq ({ A.iv with s := true } : IV) B.iv = true := by rw [hAB]; exact ivEq_self _
          clear F1 F2 F3 hs hsA hAB
          have tA64 : ((A.iv.op : Int) == 64) = false := by simp [NV.iv]; omega
          have nA64 : ((A.iv.op : Int) != 64) = true := by simp [NV.iv]; omega
          have tB65 : ((B.iv.op : Int) == 65) = false := by simp [NV.iv]; omega
          have tA65 : ((A.iv.op : Int) == 65) = false := by simp [NV.iv]; omega
          have tA8 : ((A.iv.op : Int) == 8) = true := by simp [NV.iv]; omega
          have tc : ((A.iv.cond : Int) == 14) = true := by simp [NV.iv]; omega
          go_enter Tryd.func6, Tryd.ntmps6
          have S := SH.start w
          go_wp2_with (first
            | ((with_reducible refine wpl_isLoad ?_); first
              | (refine S.ld 3 _ rfl b3 0 rfl 1 (Cel.iv A.iv) rfl _ rfl _ Tryd.underlying3 rfl rfl ?_)
              | (refine S.ld 3 _ rfl b4 0 rfl 0 (Cel.iv B.iv) rfl _ rfl _ Tryd.underlying3 rfl rfl ?_)
              | (refine S.ld 4 _ rfl b4 2 rfl 0 (Cel.iv B.iv) rfl _ rfl _ Tryd.underlying4 rfl rfl ?_)
              | (refine S.ld 4 _ rfl b3 2 rfl 1 (Cel.iv A.iv) rfl _ rfl _ Tryd.underlying4 rfl rfl ?_)
              | (refine S.ldAll 29 _ rfl b3 rfl 1 (Cel.iv ({ A.iv with s := true } : IV)) rfl _ Tryd.underlying29 rfl (szIV _) rfl ?_)
              | (refine S.ldAll 29 _ rfl b4 rfl 0 (Cel.iv B.iv) rfl _ Tryd.underlying29 rfl (szIV _) rfl ?_)
              | (refine S.ld 4 _ rfl b3 1 rfl 1 (Cel.iv ({ A.iv with s := true } : IV)) rfl _ rfl _ Tryd.underlying4 rfl rfl ?_)
              | (refine S.ld 3 _ rfl b3 3 rfl 1 (Cel.iv ({ A.iv with s := true } : IV)) rfl _ rfl _ Tryd.underlying3 rfl rfl ?_)
              | (refine S.ld 3 _ rfl b3 0 rfl 1 (Cel.iv ({ A.iv with s := true } : IV)) rfl _ rfl _ Tryd.underlying3 rfl rfl ?_))
            | ((with_reducible refine wpl_isStore ?_); first
              | (refine S.storeAll rfl 29 _ _ rfl b3 (Cel.iv A.iv) rfl rfl 1 _ rfl rfl (one_iv _) (szIV _) ?_; clear S; intro w2 S; simp only [List.set_cons_zero, List.set_cons_succ] at S)
              | (refine S.storeAll rfl 29 _ _ rfl b4 (Cel.iv B.iv) rfl rfl 0 _ rfl rfl (one_iv _) (szIV _) ?_; clear S; intro w2 S; simp only [List.set_cons_zero, List.set_cons_succ] at S)
              | (refine S.store1 rfl 4 _ _ rfl b3 2 _ rfl rfl 1 (Cel.iv A.iv) rfl rfl (by simp [Cel.cells, IV.cellsL]) (Cel.iv ({ A.iv with s := true } : IV)) rfl (by kernel_rfl) ?_; clear S; intro w2 S; simp only [List.set_cons_zero, List.set_cons_succ] at S))
            | ((with_reducible refine wpl_isDst 3 ?_); refine SH.alloc (L := []) S rfl 29 rfl (Cel.iv IV.zero) zeroIV ?_; clear S; intro b3 w1 S)
            | ((with_reducible refine wpl_isDst 4 ?_); refine S.alloc rfl 29 rfl (Cel.iv IV.zero) zeroIV ?_; clear S; intro b4 w1 S)
            | ((with_reducible refine wpl_isDst 65 ?_); refine wpl_eqlB _ _ _ rfl ({ A.iv with s := true } : IV) B.iv rfl rfl true HEQ rfl ?_)
            | (go_at_call 8; refine (CK.out _ (HT.next S.low)).mono ?_; rintro e wf ⟨rfl, hbf⟩; replace S := S.below hbf; clear hbf)
            | (go_at_call 12; (first | with_reducible refine (D0.out _ (HT.next S.low)).mono ?_ | with_reducible refine (D1.out _ (HT.next S.low)).mono ?_); rintro e wf ⟨rfl, hbf⟩; replace S := S.below hbf; clear hbf))
          (try simp only [Exit.inBlock, Exit.then])
          go_ret
          exact ⟨rfl, S.low⟩
        · have hs : B.s = true := by rw [← F1]; simp [k]
          have hsA : A.s = true := by
            have := congrArg NV.s F2
            simp [hs, k] at this
            exact this
          have hc14 : A.cond = 14 := by
            rcases F3 with g | g
            · exact g
            · omega
          have hBs : B.iv.s = true := hs
          have hAs : A.iv.s = true := hsA
          have hAB : ({ A.iv with s := true } : IV) = B.iv := by
            rw [← F2]
            simp [NV.iv, k, hsA]
          replace HEQ : ivEq ({ A.iv with s := true } : IV) B.iv = true := by rw [hAB]; exact ivEq_self _
          clear F1 F2 F3 hs hsA hAB
          have tA64 : ((A.iv.op : Int) == 64) = false := by simp [NV.iv]; omega
          have nA64 : ((A.iv.op : Int) != 64) = true := by simp [NV.iv]; omega
          have tB65 : ((B.iv.op : Int) == 65) = false := by simp [NV.iv]; omega
          have tA65 : ((A.iv.op : Int) == 65) = false := by simp [NV.iv]; omega
          have tA8 : ((A.iv.op : Int) == 8) = false := by simp [NV.iv]; omega
          have tA10 : ((A.iv.op : Int) == 10) = true := by simp [NV.iv]; omega
          have tc : ((A.iv.cond : Int) == 14) = true := by simp [NV.iv]; omega
          go_enter Tryd.func6, Tryd.ntmps6
          have S := SH.start w
          go_wp2_with (first
            | ((with_reducible refine wpl_isLoad ?_); first
              | (refine S.ld 3 _ rfl b3 0 rfl 1 (Cel.iv A.iv) rfl _ rfl _ Tryd.underlying3 rfl rfl ?_)
              | (refine S.ld 3 _ rfl b4 0 rfl 0 (Cel.iv B.iv) rfl _ rfl _ Tryd.underlying3 rfl rfl ?_)
              | (refine S.ld 4 _ rfl b4 2 rfl 0 (Cel.iv B.iv) rfl _ rfl _ Tryd.underlying4 rfl rfl ?_)
              | (refine S.ld 4 _ rfl b3 2 rfl 1 (Cel.iv A.iv) rfl _ rfl _ Tryd.underlying4 rfl rfl ?_)
              | (refine S.ldAll 29 _ rfl b3 rfl 1 (Cel.iv ({ A.iv with s := true } : IV)) rfl _ Tryd.underlying29 rfl (szIV _) rfl ?_)
              | (refine S.ldAll 29 _ rfl b4 rfl 0 (Cel.iv B.iv) rfl _ Tryd.underlying29 rfl (szIV _) rfl ?_)
              | (refine S.ld 4 _ rfl b3 1 rfl 1 (Cel.iv ({ A.iv with s := true } : IV)) rfl _ rfl _ Tryd.underlying4 rfl rfl ?_)
              | (refine S.ld 3 _ rfl b3 3 rfl 1 (Cel.iv ({ A.iv with s := true } : IV)) rfl _ rfl _ Tryd.underlying3 rfl rfl ?_)
              | (refine S.ld 3 _ rfl b3 0 rfl 1 (Cel.iv ({ A.iv with s := true } : IV)) rfl _ rfl _ Tryd.underlying3 rfl rfl ?_))
            | ((with_reducible refine wpl_isStore ?_); first
              | (refine S.storeAll rfl 29 _ _ rfl b3 (Cel.iv A.iv) rfl rfl 1 _ rfl rfl (one_iv _) (szIV _) ?_; clear S; intro w2 S; simp only [List.set_cons_zero, List.set_cons_succ] at S)
              | (refine S.storeAll rfl 29 _ _ rfl b4 (Cel.iv B.iv) rfl rfl 0 _ rfl rfl (one_iv _) (szIV _) ?_; clear S; intro w2 S; simp only [List.set_cons_zero, List.set_cons_succ] at S)
              | (refine S.store1 rfl 4 _ _ rfl b3 2 _ rfl rfl 1 (Cel.iv A.iv) rfl rfl (by simp [Cel.cells, IV.cellsL]) (Cel.iv ({ A.iv with s := true } : IV)) rfl (by kernel_rfl) ?_; clear S; intro w2 S; simp only [List.set_cons_zero, List.set_cons_succ] at S))
            | ((with_reducible refine wpl_isDst 3 ?_); refine SH.alloc (L := []) S rfl 29 rfl (Cel.iv IV.zero) zeroIV ?_; clear S; intro b3 w1 S)
            | ((with_reducible refine wpl_isDst 4 ?_); refine S.alloc rfl 29 rfl (Cel.iv IV.zero) zeroIV ?_; clear S; intro b4 w1 S)
            | ((with_reducible refine wpl_isDst 65 ?_); refine wpl_eqlB _ _ _ rfl ({ A.iv with s := true } : IV) B.iv rfl rfl true HEQ rfl ?_)
            | (go_at_call 8; refine (CK.out _ (HT.next S.low)).mono ?_; rintro e wf ⟨rfl, hbf⟩; replace S := S.below hbf; clear hbf)
            | (go_at_call 12; (first | with_reducible refine (D0.out _ (HT.next S.low)).mono ?_ | with_reducible refine (D1.out _ (HT.next S.low)).mono ?_); rintro e wf ⟨rfl, hbf⟩; replace S := S.below hbf; clear hbf))
          (try simp only [Exit.inBlock, Exit.then])
          go_ret
          exact ⟨rfl, S.low⟩
        · have hs : B.s = true := by rw [← F1]; simp [k]
          have hsA : A.s = true := by
            have := congrArg NV.s F2
            simp [hs, k] at this
            exact this
          have hc14 : A.cond = 14 := by
            rcases F3 with g | g
            · exact g
            · omega
          have hBs : B.iv.s = true := hs
          have hAs : A.iv.s = true := hsA
          have hAB : ({ A.iv with s := true } : IV) = B.iv := by
            rw [← F2]
            simp [NV.iv, k, hsA]
          replace HEQ : ivEq ({ A.iv with s := true } : IV) B.iv = true := by rw [hAB]; exact ivEq_self _
          clear F1 F2 F3 hs hsA hAB
          have tA64 : ((A.iv.op : Int) == 64) = false := by simp [NV.iv]; omega
          have nA64 : ((A.iv.op : Int) != 64) = true := by simp [NV.iv]; omega
          have tB65 : ((B.iv.op : Int) == 65) = false := by simp [NV.iv]; omega
          have tA65 : ((A.iv.op : Int) == 65) = false := by simp [NV.iv]; omega
          have tA8 : ((A.iv.op : Int) == 8) = false := by simp [NV.iv]; omega
          have tA10 : ((A.iv.op : Int) == 10) = false := by simp [NV.iv]; omega
          have tA11 : ((A.iv.op : Int) == 11) = true := by simp [NV.iv]; omega
          have tc : ((A.iv.cond : Int) == 14) = true := by simp [NV.iv]; omega
          go_enter Tryd.func6, Tryd.ntmps6
          have S := SH.start w
          go_wp2_with (first
            | ((with_reducible refine wpl_isLoad ?_); first
              | (refine S.ld 3 _ rfl b3 0 rfl 1 (Cel.iv A.iv) rfl _ rfl _ Tryd.underlying3 rfl rfl ?_)
              | (refine S.ld 3 _ rfl b4 0 rfl 0 (Cel.iv B.iv) rfl _ rfl _ Tryd.underlying3 rfl rfl ?_)
              | (refine S.ld 4 _ rfl b4 2 rfl 0 (Cel.iv B.iv) rfl _ rfl _ Tryd.underlying4 rfl rfl ?_)
              | (refine S.ld 4 _ rfl b3 2 rfl 1 (Cel.iv A.iv) rfl _ rfl _ Tryd.underlying4 rfl rfl ?_)
              | (refine S.ldAll 29 _ rfl b3 rfl 1 (Cel.iv ({ A.iv with s := true } : IV)) rfl _ Tryd.underlying29 rfl (szIV _) rfl ?_)
              | (refine S.ldAll 29 _ rfl b4 rfl 0 (Cel.iv B.iv) rfl _ Tryd.underlying29 rfl (szIV _) rfl ?_)
              | (refine S.ld 4 _ rfl b3 1 rfl 1 (Cel.iv ({ A.iv with s := true } : IV)) rfl _ rfl _ Tryd.underlying4 rfl rfl ?_)
              | (refine S.ld 3 _ rfl b3 3 rfl 1 (Cel.iv ({ A.iv with s := true } : IV)) rfl _ rfl _ Tryd.underlying3 rfl rfl ?_)
              | (refine S.ld 3 _ rfl b3 0 rfl 1 (Cel.iv ({ A.iv with s := true } : IV)) rfl _ rfl _ Tryd.underlying3 rfl rfl ?_))
            | ((with_reducible refine wpl_isStore ?_); first
              | (refine S.storeAll rfl 29 _ _ rfl b3 (Cel.iv A.iv) rfl rfl 1 _ rfl rfl (one_iv _) (szIV _) ?_; clear S; intro w2 S; simp only [List.set_cons_zero, List.set_cons_succ] at S)
              | (refine S.storeAll rfl 29 _ _ rfl b4 (Cel.iv B.iv) rfl rfl 0 _ rfl rfl (one_iv _) (szIV _) ?_; clear S; intro w2 S; simp only [List.set_cons_zero, List.set_cons_succ] at S)
              | (refine S.store1 rfl 4 _ _ rfl b3 2 _ rfl rfl 1 (Cel.iv A.iv) rfl rfl (by simp [Cel.cells, IV.cellsL]) (Cel.iv ({ A.iv with s := true } : IV)) rfl (by kernel_rfl) ?_; clear S; intro w2 S; simp only [List.set_cons_zero, List.set_cons_succ] at S))
            | ((with_reducible refine wpl_isDst 3 ?_); refine SH.alloc (L := []) S rfl 29 rfl (Cel.iv IV.zero) zeroIV ?_; clear S; intro b3 w1 S)
            | ((with_reducible refine wpl_isDst 4 ?_); refine S.alloc rfl 29 rfl (Cel.iv IV.zero) zeroIV ?_; clear S; intro b4 w1 S)
            | ((with_reducible refine wpl_isDst 65 ?_); refine wpl_eqlB _ _ _ rfl ({ A.iv with s := true } : IV) B.iv rfl rfl true HEQ rfl ?_)
            | (go_at_call 8; refine (CK.out _ (HT.next S.low)).mono ?_; rintro e wf ⟨rfl, hbf⟩; replace S := S.below hbf; clear hbf)
            | (go_at_call 12; (first | with_reducible refine (D0.out _ (HT.next S.low)).mono ?_ | with_reducible refine (D1.out _ (HT.next S.low)).mono ?_); rintro e wf ⟨rfl, hbf⟩; replace S := S.below hbf; clear hbf))
          (try simp only [Exit.inBlock, Exit.then])
          go_ret
          exact ⟨rfl, S.low⟩
        · have hs : B.s = false := by rw [← F1]; simp [k1, k2, k3]
          have hBs : B.iv.s = false := hs
          have hAB : ({ A.iv with s := false } : IV) = B.iv := by
            rw [← F2]
            simp [NV.iv, k1, k2, k3]
          replace HEQ : ivEq ({ A.iv with s := false } : IV) B.iv = true := by rw [hAB]; exact ivEq_self _
          rcases (Bool.eq_false_or_eq_true A.s) with z | z
          · rcases (show A.cond = 14 ∨ (A.cond ≠ 14 ∧ A.op = 54) by rcases F3 with g | g; exact .inl g; omega) with g | ⟨g, g2⟩
            · have hAs : A.iv.s = true := z
              clear F1 F2 F3 hs hAB
              have tA64 : ((A.iv.op : Int) == 64) = false := by simp [NV.iv]; omega
              have nA64 : ((A.iv.op : Int) != 64) = true := by simp [NV.iv]; omega
              have tB65 : ((B.iv.op : Int) == 65) = false := by simp [NV.iv]; omega
              have tA65 : ((A.iv.op : Int) == 65) = false := by simp [NV.iv]; omega
              have tA8 : ((A.iv.op : Int) == 8) = false := by simp [NV.iv]; omega
              have tA10 : ((A.iv.op : Int) == 10) = false := by simp [NV.iv]; omega
              have tA11 : ((A.iv.op : Int) == 11) = false := by simp [NV.iv]; omega
              have tc : ((A.iv.cond : Int) == 14) = true := by simp [NV.iv]; omega
              go_enter Tryd.func6, Tryd.ntmps6
              have S := SH.start w
              go_wp2_with (first
                | ((with_reducible refine wpl_isLoad ?_); first
                  | (refine S.ld 3 _ rfl b3 0 rfl 1 (Cel.iv A.iv) rfl _ rfl _ Tryd.underlying3 rfl rfl ?_)
                  | (refine S.ld 3 _ rfl b4 0 rfl 0 (Cel.iv B.iv) rfl _ rfl _ Tryd.underlying3 rfl rfl ?_)
                  | (refine S.ld 4 _ rfl b4 2 rfl 0 (Cel.iv B.iv) rfl _ rfl _ Tryd.underlying4 rfl rfl ?_)
                  | (refine S.ld 4 _ rfl b3 2 rfl 1 (Cel.iv A.iv) rfl _ rfl _ Tryd.underlying4 rfl rfl ?_)
                  | (refine S.ldAll 29 _ rfl b3 rfl 1 (Cel.iv ({ A.iv with s := false } : IV)) rfl _ Tryd.underlying29 rfl (szIV _) rfl ?_)
                  | (refine S.ldAll 29 _ rfl b4 rfl 0 (Cel.iv B.iv) rfl _ Tryd.underlying29 rfl (szIV _) rfl ?_)
                  | (refine S.ld 4 _ rfl b3 1 rfl 1 (Cel.iv ({ A.iv with s := false } : IV)) rfl _ rfl _ Tryd.underlying4 rfl rfl ?_)
                  | (refine S.ld 3 _ rfl b3 3 rfl 1 (Cel.iv ({ A.iv with s := false } : IV)) rfl _ rfl _ Tryd.underlying3 rfl rfl ?_)
                  | (refine S.ld 3 _ rfl b3 0 rfl 1 (Cel.iv ({ A.iv with s := false } : IV)) rfl _ rfl _ Tryd.underlying3 rfl rfl ?_))
                | ((with_reducible refine wpl_isStore ?_); first
                  | (refine S.storeAll rfl 29 _ _ rfl b3 (Cel.iv A.iv) rfl rfl 1 _ rfl rfl (one_iv _) (szIV _) ?_; clear S; intro w2 S; simp only [List.set_cons_zero, List.set_cons_succ] at S)
                  | (refine S.storeAll rfl 29 _ _ rfl b4 (Cel.iv B.iv) rfl rfl 0 _ rfl rfl (one_iv _) (szIV _) ?_; clear S; intro w2 S; simp only [List.set_cons_zero, List.set_cons_succ] at S)
                  | (refine S.store1 rfl 4 _ _ rfl b3 2 _ rfl rfl 1 (Cel.iv A.iv) rfl rfl (by simp [Cel.cells, IV.cellsL]) (Cel.iv ({ A.iv with s := false } : IV)) rfl (by kernel_rfl) ?_; clear S; intro w2 S; simp only [List.set_cons_zero, List.set_cons_succ] at S))
                | ((with_reducible refine wpl_isDst 3 ?_); refine SH.alloc (L := []) S rfl 29 rfl (Cel.iv IV.zero) zeroIV ?_; clear S; intro b3 w1 S)
                | ((with_reducible refine wpl_isDst 4 ?_); refine S.alloc rfl 29 rfl (Cel.iv IV.zero) zeroIV ?_; clear S; intro b4 w1 S)
                | ((with_reducible refine wpl_isDst 65 ?_); refine wpl_eqlB _ _ _ rfl ({ A.iv with s := false } : IV) B.iv rfl rfl true HEQ rfl ?_)
                | (go_at_call 8; refine (CK.out _ (HT.next S.low)).mono ?_; rintro e wf ⟨rfl, hbf⟩; replace S := S.below hbf; clear hbf)
                | (go_at_call 12; (first | with_reducible refine (D0.out _ (HT.next S.low)).mono ?_ | with_reducible refine (D1.out _ (HT.next S.low)).mono ?_); rintro e wf ⟨rfl, hbf⟩; replace S := S.below hbf; clear hbf))
              (try simp only [Exit.inBlock, Exit.then])
              go_ret
              exact ⟨rfl, S.low⟩
            · have hAs : A.iv.s = true := z
              clear F1 F2 F3 hs hAB
              have tA64 : ((A.iv.op : Int) == 64) = false := by simp [NV.iv]; omega
              have nA64 : ((A.iv.op : Int) != 64) = true := by simp [NV.iv]; omega
              have tB65 : ((B.iv.op : Int) == 65) = false := by simp [NV.iv]; omega
              have tA65 : ((A.iv.op : Int) == 65) = false := by simp [NV.iv]; omega
              have tA8 : ((A.iv.op : Int) == 8) = false := by simp [NV.iv]; omega
              have tA10 : ((A.iv.op : Int) == 10) = false := by simp [NV.iv]; omega
              have tA11 : ((A.iv.op : Int) == 11) = false := by simp [NV.iv]; omega
              have tc : ((A.iv.cond : Int) == 14) = false := by simp [NV.iv]; omega
              have tA54 : ((A.iv.op : Int) == 54) = true := by simp [NV.iv]; omega
              go_enter Tryd.func6, Tryd.ntmps6
              have S := SH.start w
              go_wp2_with (first
                | ((with_reducible refine wpl_isLoad ?_); first
                  | (refine S.ld 3 _ rfl b3 0 rfl 1 (Cel.iv A.iv) rfl _ rfl _ Tryd.underlying3 rfl rfl ?_)
                  | (refine S.ld 3 _ rfl b4 0 rfl 0 (Cel.iv B.iv) rfl _ rfl _ Tryd.underlying3 rfl rfl ?_)
                  | (refine S.ld 4 _ rfl b4 2 rfl 0 (Cel.iv B.iv) rfl _ rfl _ Tryd.underlying4 rfl rfl ?_)
                  | (refine S.ld 4 _ rfl b3 2 rfl 1 (Cel.iv A.iv) rfl _ rfl _ Tryd.underlying4 rfl rfl ?_)
                  | (refine S.ldAll 29 _ rfl b3 rfl 1 (Cel.iv ({ A.iv with s := false } : IV)) rfl _ Tryd.underlying29 rfl (szIV _) rfl ?_)
                  | (refine S.ldAll 29 _ rfl b4 rfl 0 (Cel.iv B.iv) rfl _ Tryd.underlying29 rfl (szIV _) rfl ?_)
                  | (refine S.ld 4 _ rfl b3 1 rfl 1 (Cel.iv ({ A.iv with s := false } : IV)) rfl _ rfl _ Tryd.underlying4 rfl rfl ?_)
                  | (refine S.ld 3 _ rfl b3 3 rfl 1 (Cel.iv ({ A.iv with s := false } : IV)) rfl _ rfl _ Tryd.underlying3 rfl rfl ?_)
                  | (refine S.ld 3 _ rfl b3 0 rfl 1 (Cel.iv ({ A.iv with s := false } : IV)) rfl _ rfl _ Tryd.underlying3 rfl rfl ?_))
                | ((with_reducible refine wpl_isStore ?_); first
                  | (refine S.storeAll rfl 29 _ _ rfl b3 (Cel.iv A.iv) rfl rfl 1 _ rfl rfl (one_iv _) (szIV _) ?_; clear S; intro w2 S; simp only [List.set_cons_zero, List.set_cons_succ] at S)
                  | (refine S.storeAll rfl 29 _ _ rfl b4 (Cel.iv B.iv) rfl rfl 0 _ rfl rfl (one_iv _) (szIV _) ?_; clear S; intro w2 S; simp only [List.set_cons_zero, List.set_cons_succ] at S)
                  | (refine S.store1 rfl 4 _ _ rfl b3 2 _ rfl rfl 1 (Cel.iv A.iv) rfl rfl (by simp [Cel.cells, IV.cellsL]) (Cel.iv ({ A.iv with s := false } : IV)) rfl (by kernel_rfl) ?_; clear S; intro w2 S; simp only [List.set_cons_zero, List.set_cons_succ] at S))
                | ((with_reducible refine wpl_isDst 3 ?_); refine SH.alloc (L := []) S rfl 29 rfl (Cel.iv IV.zero) zeroIV ?_; clear S; intro b3 w1 S)
                | ((with_reducible refine wpl_isDst 4 ?_); refine S.alloc rfl 29 rfl (Cel.iv IV.zero) zeroIV ?_; clear S; intro b4 w1 S)
                | ((with_reducible refine wpl_isDst 65 ?_); refine wpl_eqlB _ _ _ rfl ({ A.iv with s := false } : IV) B.iv rfl rfl true HEQ rfl ?_)
                | (go_at_call 8; refine (CK.out _ (HT.next S.low)).mono ?_; rintro e wf ⟨rfl, hbf⟩; replace S := S.below hbf; clear hbf)
                | (go_at_call 12; (first | with_reducible refine (D0.out _ (HT.next S.low)).mono ?_ | with_reducible refine (D1.out _ (HT.next S.low)).mono ?_); rintro e wf ⟨rfl, hbf⟩; replace S := S.below hbf; clear hbf))
              (try simp only [Exit.inBlock, Exit.then])
              go_ret
              exact ⟨rfl, S.low⟩
          · rcases (show A.cond = 14 ∨ (A.cond ≠ 14 ∧ A.op = 54) by rcases F3 with g | g; exact .inl g; omega) with g | ⟨g, g2⟩
            · have hAs : A.iv.s = false := z
              clear F1 F2 F3 hs hAB
              have tA64 : ((A.iv.op : Int) == 64) = false := by simp [NV.iv]; omega
              have nA64 : ((A.iv.op : Int) != 64) = true := by simp [NV.iv]; omega
              have tB65 : ((B.iv.op : Int) == 65) = false := by simp [NV.iv]; omega
              have tA65 : ((A.iv.op : Int) == 65) = false := by simp [NV.iv]; omega
              have tA8 : ((A.iv.op : Int) == 8) = false := by simp [NV.iv]; omega
              have tA10 : ((A.iv.op : Int) == 10) = false := by simp [NV.iv]; omega
              have tA11 : ((A.iv.op : Int) == 11) = false := by simp [NV.iv]; omega
              have tc : ((A.iv.cond : Int) == 14) = true := by simp [NV.iv]; omega
              go_enter Tryd.func6, Tryd.ntmps6
              have S := SH.start w
              go_wp2_with (first
                | ((with_reducible refine wpl_isLoad ?_); first
                  | (refine S.ld 3 _ rfl b3 0 rfl 1 (Cel.iv A.iv) rfl _ rfl _ Tryd.underlying3 rfl rfl ?_)
                  | (refine S.ld 3 _ rfl b4 0 rfl 0 (Cel.iv B.iv) rfl _ rfl _ Tryd.underlying3 rfl rfl ?_)
                  | (refine S.ld 4 _ rfl b4 2 rfl 0 (Cel.iv B.iv) rfl _ rfl _ Tryd.underlying4 rfl rfl ?_)
                  | (refine S.ld 4 _ rfl b3 2 rfl 1 (Cel.iv A.iv) rfl _ rfl _ Tryd.underlying4 rfl rfl ?_)
                  | (refine S.ldAll 29 _ rfl b3 rfl 1 (Cel.iv ({ A.iv with s := false } : IV)) rfl _ Tryd.underlying29 rfl (szIV _) rfl ?_)
                  | (refine S.ldAll 29 _ rfl b4 rfl 0 (Cel.iv B.iv) rfl _ Tryd.underlying29 rfl (szIV _) rfl ?_)
                  | (refine S.ld 4 _ rfl b3 1 rfl 1 (Cel.iv ({ A.iv with s := false } : IV)) rfl _ rfl _ Tryd.underlying4 rfl rfl ?_)
                  | (refine S.ld 3 _ rfl b3 3 rfl 1 (Cel.iv ({ A.iv with s := false } : IV)) rfl _ rfl _ Tryd.underlying3 rfl rfl ?_)
                  | (refine S.ld 3 _ rfl b3 0 rfl 1 (Cel.iv ({ A.iv with s := false } : IV)) rfl _ rfl _ Tryd.underlying3 rfl rfl ?_))
                | ((with_reducible refine wpl_isStore ?_); first
                  | (refine S.storeAll rfl 29 _ _ rfl b3 (Cel.iv A.iv) rfl rfl 1 _ rfl rfl (one_iv _) (szIV _) ?_; clear S; intro w2 S; simp only [List.set_cons_zero, List.set_cons_succ] at S)
                  | (refine S.storeAll rfl 29 _ _ rfl b4 (Cel.iv B.iv) rfl rfl 0 _ rfl rfl (one_iv _) (szIV _) ?_; clear S; intro w2 S; simp only [List.set_cons_zero, List.set_cons_succ] at S)
                  | (refine S.store1 rfl 4 _ _ rfl b3 2 _ rfl rfl 1 (Cel.iv A.iv) rfl rfl (by simp [Cel.cells, IV.cellsL]) (Cel.iv ({ A.iv with s := false } : IV)) rfl (by kernel_rfl) ?_; clear S; intro w2 S; simp only [List.set_cons_zero, List.set_cons_succ] at S))
                | ((with_reducible refine wpl_isDst 3 ?_); refine SH.alloc (L := []) S rfl 29 rfl (Cel.iv IV.zero) zeroIV ?_; clear S; intro b3 w1 S)
                | ((with_reducible refine wpl_isDst 4 ?_); refine S.alloc rfl 29 rfl (Cel.iv IV.zero) zeroIV ?_; clear S; intro b4 w1 S)
                | ((with_reducible refine wpl_isDst 65 ?_); refine wpl_eqlB _ _ _ rfl ({ A.iv with s := false } : IV) B.iv rfl rfl true HEQ rfl ?_)
                | (go_at_call 8; refine (CK.out _ (HT.next S.low)).mono ?_; rintro e wf ⟨rfl, hbf⟩; replace S := S.below hbf; clear hbf)
                | (go_at_call 12; (first | with_reducible refine (D0.out _ (HT.next S.low)).mono ?_ | with_reducible refine (D1.out _ (HT.next S.low)).mono ?_); rintro e wf ⟨rfl, hbf⟩; replace S := S.below hbf; clear hbf))
              (try simp only [Exit.inBlock, Exit.then])
              go_ret
              exact ⟨rfl, S.low⟩
            · have hAs : A.iv.s = false := z
              clear F1 F2 F3 hs hAB
              have tA64 : ((A.iv.op : Int) == 64) = false := by simp [NV.iv]; omega
              have nA64 : ((A.iv.op : Int) != 64) = true := by simp [NV.iv]; omega
              have tB65 : ((B.iv.op : Int) == 65) = false := by simp [NV.iv]; omega
              have tA65 : ((A.iv.op : Int) == 65) = false := by simp [NV.iv]; omega
              have tA8 : ((A.iv.op : Int) == 8) = false := by simp [NV.iv]; omega
              have tA10 : ((A.iv.op : Int) == 10) = false := by simp [NV.iv]; omega
              have tA11 : ((A.iv.op : Int) == 11) = false := by simp [NV.iv]; omega
              have tc : ((A.iv.cond : Int) == 14) = false := by simp [NV.iv]; omega
              have tA54 : ((A.iv.op : Int) == 54) = true := by simp [NV.iv]; omega
              go_enter Tryd.func6, Tryd.ntmps6
              have S := SH.start w
              go_wp2_with (first
                | ((with_reducible refine wpl_isLoad ?_); first
                  | (refine S.ld 3 _ rfl b3 0 rfl 1 (Cel.iv A.iv) rfl _ rfl _ Tryd.underlying3 rfl rfl ?_)
                  | (refine S.ld 3 _ rfl b4 0 rfl 0 (Cel.iv B.iv) rfl _ rfl _ Tryd.underlying3 rfl rfl ?_)
                  | (refine S.ld 4 _ rfl b4 2 rfl 0 (Cel.iv B.iv) rfl _ rfl _ Tryd.underlying4 rfl rfl ?_)
                  | (refine S.ld 4 _ rfl b3 2 rfl 1 (Cel.iv A.iv) rfl _ rfl _ Tryd.underlying4 rfl rfl ?_)
                  | (refine S.ldAll 29 _ rfl b3 rfl 1 (Cel.iv ({ A.iv with s := false } : IV)) rfl _ Tryd.underlying29 rfl (szIV _) rfl ?_)
                  | (refine S.ldAll 29 _ rfl b4 rfl 0 (Cel.iv B.iv) rfl _ Tryd.underlying29 rfl (szIV _) rfl ?_)
                  | (refine S.ld 4 _ rfl b3 1 rfl 1 (Cel.iv ({ A.iv with s := false } : IV)) rfl _ rfl _ Tryd.underlying4 rfl rfl ?_)
                  | (refine S.ld 3 _ rfl b3 3 rfl 1 (Cel.iv ({ A.iv with s := false } : IV)) rfl _ rfl _ Tryd.underlying3 rfl rfl ?_)
                  | (refine S.ld 3 _ rfl b3 0 rfl 1 (Cel.iv ({ A.iv with s := false } : IV)) rfl _ rfl _ Tryd.underlying3 rfl rfl ?_))
                | ((with_reducible refine wpl_isStore ?_); first
                  | (refine S.storeAll rfl 29 _ _ rfl b3 (Cel.iv A.iv) rfl rfl 1 _ rfl rfl (one_iv _) (szIV _) ?_; clear S; intro w2 S; simp only [List.set_cons_zero, List.set_cons_succ] at S)
                  | (refine S.storeAll rfl 29 _ _ rfl b4 (Cel.iv B.iv) rfl rfl 0 _ rfl rfl (one_iv _) (szIV _) ?_; clear S; intro w2 S; simp only [List.set_cons_zero, List.set_cons_succ] at S)
                  | (refine S.store1 rfl 4 _ _ rfl b3 2 _ rfl rfl 1 (Cel.iv A.iv) rfl rfl (by simp [Cel.cells, IV.cellsL]) (Cel.iv ({ A.iv with s := false } : IV)) rfl (by kernel_rfl) ?_; clear S; intro w2 S; simp only [List.set_cons_zero, List.set_cons_succ] at S))
                | ((with_reducible refine wpl_isDst 3 ?_); refine SH.alloc (L := []) S rfl 29 rfl (Cel.iv IV.zero) zeroIV ?_; clear S; intro b3 w1 S)
                | ((with_reducible refine wpl_isDst 4 ?_); refine S.alloc rfl 29 rfl (Cel.iv IV.zero) zeroIV ?_; clear S; intro b4 w1 S)
                | ((with_reducible refine wpl_isDst 65 ?_); refine wpl_eqlB _ _ _ rfl ({ A.iv with s := false } : IV) B.iv rfl rfl true HEQ rfl ?_)
                | (go_at_call 8; refine (CK.out _ (HT.next S.low)).mono ?_; rintro e wf ⟨rfl, hbf⟩; replace S := S.below hbf; clear hbf)
                | (go_at_call 12; (first | with_reducible refine (D0.out _ (HT.next S.low)).mono ?_ | with_reducible refine (D1.out _ (HT.next S.low)).mono ?_); rintro e wf ⟨rfl, hbf⟩; replace S := S.below hbf; clear hbf))
              (try simp only [Exit.inBlock, Exit.then])
              go_ret
              exact ⟨rfl, S.low⟩
end Go.Proofs.YtblcklknlfofgaaDoor
