/- Stage 9: the document's taken, as a mask (b) -/
import Derived.Test.YtplhblhopaheeaaGreatDoorYc
import Derived.Test.YtplhblhopaheeaaGreatDoorYa
namespace Go.Proofs.YtplhblhopaheeaaGreatDoor
open Go.ChangeShapes Go.WideShapes Go.ChangeAt Go.RowKit
set_option linter.unusedVariables false
set_option linter.unusedSimpArgs false
set_option maxHeartbeats 20000000
set_option maxRecDepth 100000

theorem rtaken_b1 (i : IV) (d n m a l : Nat) (hd : i.d = d) (hn : i.n = n) (hm : i.m = m) (ha : i.a = a) (hl : i.list = l) (hd2 : d < 16) (hn2 : n < 16) (hm2 : m < 16) (ha2 : a < 16) (l2 : l < 65536) (w : World)
    (CC : Hid (∀ w1, Calls Tryz.prog 51 #[.int .i64 i.op] w1 fun e w' => e = .returned (.int .i64 (classS i.op)) ∧ w' = w1)) (CS : Hid (∀ w1, Calls Tryz.prog 48 #[i.val] w1 fun e w' => e = .returned (.bool (storesI i.op)) ∧ Below w1.heap.size w1 w')) (hrr : i.op = 21 ∨ i.op = 22 ∨ i.op = 23 ∨ (24 ≤ i.op ∧ i.op ≤ 25) ∨ (28 ≤ i.op ∧ i.op ≤ 29)) :
    Calls Tryz.prog 79 #[i.val] w fun e w' => e = .returned (.int .i64 ((maskOf (2 ^ d) (2 ^ n) (2 ^ m) (2 ^ a) l (takesN i) : Nat) : Int)) ∧ Below w.heap.size w w' := by
  have HD : Hid ((Cel.iv i).cells[4]? = some (.int .i64 (d : Int))) := by
    show some (Value.int .i64 i.d) = _
    rw [hd]
  have HN : Hid ((Cel.iv i).cells[5]? = some (.int .i64 (n : Int))) := by
    show some (Value.int .i64 i.n) = _
    rw [hn]
  have HM : Hid ((Cel.iv i).cells[6]? = some (.int .i64 (m : Int))) := by
    show some (Value.int .i64 i.m) = _
    rw [hm]
  have HA : Hid ((Cel.iv i).cells[7]? = some (.int .i64 (a : Int))) := by
    show some (Value.int .i64 i.a) = _
    rw [ha]
  have HL : Hid ((Cel.iv i).cells[12]? = some (.int .i64 (l : Int))) := by
    show some (Value.int .i64 i.list) = _
    rw [hl]
  obtain ⟨o, ho⟩ : ∃ o, i.op = o := ⟨_, rfl⟩
  obtain ⟨ub, hu⟩ : ∃ u, i.useImm = u := ⟨_, rfl⟩
  have HOP : Hid ((Cel.iv i).cells[0]? = some (.int .i64 o)) := by
    show some (Value.int .i64 i.op) = _
    rw [ho]
  have HU : Hid ((Cel.iv i).cells[9]? = some (.bool ub)) := by
    show some (Value.bool i.useImm) = _
    rw [hu]
  rw [ho] at CC CS hrr
  obtain ⟨pd, hpd⟩ : ∃ p, p = 2 ^ d := ⟨_, rfl⟩
  obtain ⟨pn, hpn⟩ : ∃ p, p = 2 ^ n := ⟨_, rfl⟩
  obtain ⟨pm, hpm⟩ : ∃ p, p = 2 ^ m := ⟨_, rfl⟩
  obtain ⟨pa, hpa⟩ : ∃ p, p = 2 ^ a := ⟨_, rfl⟩
  have pd2 : pd < 65536 := by rw [hpd]; exact (w2 d hd2).2
  have pn2 : pn < 65536 := by rw [hpn]; exact (w2 n hn2).2
  have pm2 : pm < 65536 := by rw [hpm]; exact (w2 m hm2).2
  have pa2 : pa < 65536 := by rw [hpa]; exact (w2 a ha2).2
  have HPD : Hid (wrap64 ((2 : Int) ^ d) = (pd : Int)) := by rw [hpd]; exact (w2 d hd2).1
  have HPN : Hid (wrap64 ((2 : Int) ^ n) = (pn : Int)) := by rw [hpn]; exact (w2 n hn2).1
  have HPM : Hid (wrap64 ((2 : Int) ^ m) = (pm : Int)) := by rw [hpm]; exact (w2 m hm2).1
  have HPA : Hid (wrap64 ((2 : Int) ^ a) = (pa : Int)) := by rw [hpa]; exact (w2 a ha2).1
  rw [← hpd, ← hpn, ← hpm, ← hpa]
  have hd0 : 0 ≤ (d : Int) := by omega
  have hn0 : 0 ≤ (n : Int) := by omega
  have hm0 : 0 ≤ (m : Int) := by omega
  have ha0 : 0 ≤ (a : Int) := by omega
  have hd3 : (d : Int) < 16 := by omega
  have hn3 : (n : Int) < 16 := by omega
  have hm3 : (m : Int) < 16 := by omega
  have ha3 : (a : Int) < 16 := by omega
  clear hpd hpn hpm hpa hd hn hm ha hl
  rcases hrr with hr | hr | hr | hr | hr
  focus
    subst hr
    have hc : classS 21 = 2 := by rfl
    rw [hc] at CC
    have hx : longTakesS 21 = 0 := by rfl
    have hW : takesN i = 6 := by
      unfold takesN takesS secondS
      rw [ho, hc, hx]
      rfl
    have HR : Hid (maskOf pd pn pm pa l (takesN i) = pn ||| pm) := by
      show _ = _
      rw [hW]
      show 0 ||| pn ||| pm ||| 0 ||| 0 ||| 0 ||| 0 ||| 0 = _
      simp only [Nat.zero_or, Nat.or_zero]
    clear hW ho hc hx
  rotate_left 1
  focus
    subst hr
    have hc : classS 22 = 2 := by rfl
    rw [hc] at CC
    have hx : longTakesS 22 = 8 := by rfl
    have hW : takesN i = 14 := by
      unfold takesN takesS secondS
      rw [ho, hc, hx]
      rfl
    have HR : Hid (maskOf pd pn pm pa l (takesN i) = pn ||| pm ||| pa) := by
      show _ = _
      rw [hW]
      show 0 ||| pn ||| pm ||| pa ||| 0 ||| 0 ||| 0 ||| 0 = _
      simp only [Nat.zero_or, Nat.or_zero]
    clear hW ho hc hx
  rotate_left 1
  focus
    subst hr
    have hc : classS 23 = 2 := by rfl
    rw [hc] at CC
    have hx : longTakesS 23 = 8 := by rfl
    have hW : takesN i = 14 := by
      unfold takesN takesS secondS
      rw [ho, hc, hx]
      rfl
    have HR : Hid (maskOf pd pn pm pa l (takesN i) = pn ||| pm ||| pa) := by
      show _ = _
      rw [hW]
      show 0 ||| pn ||| pm ||| pa ||| 0 ||| 0 ||| 0 ||| 0 = _
      simp only [Nat.zero_or, Nat.or_zero]
    clear hW ho hc hx
  rotate_left 1
  focus
    have hc : classS o = 2 := by unfold classS; (repeat' split) <;> omega
    rw [hc] at CC
    have hx : longTakesS o = 0 := by unfold longTakesS; (repeat' split) <;> omega
    have hW : takesN i = 6 := by
      unfold takesN takesS secondS
      rw [ho, hc, hx]
      rfl
    have HR : Hid (maskOf pd pn pm pa l (takesN i) = pn ||| pm) := by
      show _ = _
      rw [hW]
      show 0 ||| pn ||| pm ||| 0 ||| 0 ||| 0 ||| 0 ||| 0 = _
      simp only [Nat.zero_or, Nat.or_zero]
    have e13 : (o == 13) = false := by simp; omega
    have n13 : (o != 13) = true := by simp; omega
    have e15 : (o == 15) = false := by simp; omega
    have n15 : (o != 15) = true := by simp; omega
    have e43 : (o == 43) = false := by simp; omega
    have n43 : (o != 43) = true := by simp; omega
    have e22 : (o == 22) = false := by simp; omega
    have n22 : (o != 22) = true := by simp; omega
    have e23 : (o == 23) = false := by simp; omega
    have n23 : (o != 23) = true := by simp; omega
    have e26 : (o == 26) = false := by simp; omega
    have n26 : (o != 26) = true := by simp; omega
    have e27 : (o == 27) = false := by simp; omega
    have n27 : (o != 27) = true := by simp; omega
    have e30 : (o == 30) = false := by simp; omega
    have n30 : (o != 30) = true := by simp; omega
    have e33 : (o == 33) = false := by simp; omega
    have n33 : (o != 33) = true := by simp; omega
    have e31 : (o == 31) = false := by simp; omega
    have n31 : (o != 31) = true := by simp; omega
    have e32 : (o == 32) = false := by simp; omega
    have n32 : (o != 32) = true := by simp; omega
    have e53 : (o == 53) = false := by simp; omega
    have n53 : (o != 53) = true := by simp; omega
    have e56 : (o == 56) = false := by simp; omega
    have n56 : (o != 56) = true := by simp; omega
    have e57 : (o == 57) = false := by simp; omega
    have n57 : (o != 57) = true := by simp; omega
    have e58 : (o == 58) = false := by simp; omega
    have n58 : (o != 58) = true := by simp; omega
    have e59 : (o == 59) = false := by simp; omega
    have n59 : (o != 59) = true := by simp; omega
    have e62 : (o == 62) = false := by simp; omega
    have n62 : (o != 62) = true := by simp; omega
    have g34 : decide (34 ≤ o) = false := by simp; omega
    clear hW ho hc hx
  rotate_left 1
  focus
    have hc : classS o = 2 := by unfold classS; (repeat' split) <;> omega
    rw [hc] at CC
    have hx : longTakesS o = 0 := by unfold longTakesS; (repeat' split) <;> omega
    have hW : takesN i = 6 := by
      unfold takesN takesS secondS
      rw [ho, hc, hx]
      rfl
    have HR : Hid (maskOf pd pn pm pa l (takesN i) = pn ||| pm) := by
      show _ = _
      rw [hW]
      show 0 ||| pn ||| pm ||| 0 ||| 0 ||| 0 ||| 0 ||| 0 = _
      simp only [Nat.zero_or, Nat.or_zero]
    have e13 : (o == 13) = false := by simp; omega
    have n13 : (o != 13) = true := by simp; omega
    have e15 : (o == 15) = false := by simp; omega
    have n15 : (o != 15) = true := by simp; omega
    have e43 : (o == 43) = false := by simp; omega
    have n43 : (o != 43) = true := by simp; omega
    have e22 : (o == 22) = false := by simp; omega
    have n22 : (o != 22) = true := by simp; omega
    have e23 : (o == 23) = false := by simp; omega
    have n23 : (o != 23) = true := by simp; omega
    have e26 : (o == 26) = false := by simp; omega
    have n26 : (o != 26) = true := by simp; omega
    have e27 : (o == 27) = false := by simp; omega
    have n27 : (o != 27) = true := by simp; omega
    have e30 : (o == 30) = false := by simp; omega
    have n30 : (o != 30) = true := by simp; omega
    have e33 : (o == 33) = false := by simp; omega
    have n33 : (o != 33) = true := by simp; omega
    have e31 : (o == 31) = false := by simp; omega
    have n31 : (o != 31) = true := by simp; omega
    have e32 : (o == 32) = false := by simp; omega
    have n32 : (o != 32) = true := by simp; omega
    have e53 : (o == 53) = false := by simp; omega
    have n53 : (o != 53) = true := by simp; omega
    have e56 : (o == 56) = false := by simp; omega
    have n56 : (o != 56) = true := by simp; omega
    have e57 : (o == 57) = false := by simp; omega
    have n57 : (o != 57) = true := by simp; omega
    have e58 : (o == 58) = false := by simp; omega
    have n58 : (o != 58) = true := by simp; omega
    have e59 : (o == 59) = false := by simp; omega
    have n59 : (o != 59) = true := by simp; omega
    have e62 : (o == 62) = false := by simp; omega
    have n62 : (o != 62) = true := by simp; omega
    have g34 : decide (34 ≤ o) = false := by simp; omega
    clear hW ho hc hx
  rotate_left 1
  all_goals
    go_enter Tryz.func79, Tryz.ntmps79
    have S := SH.start w
    go_upto_region 9 with (first
      | ((with_reducible refine wpl_isDst 1 ?_); refine SH.box (L := []) S rfl 28 _ rfl (Cel.iv i) rfl ?_; clear S; intro b1 w1 S)
      | ((with_reducible refine wpl_isDst 5 ?_); refine S.ld 3 _ rfl b1 0 rfl 0 _ rfl (.int .i64 _) HOP.out _ Tryz.underlying3 rfl rfl ?_)
      | (go_at_call 51; refine (CC.out _).mono ?_; rintro e wf ⟨rfl, rfl⟩)
      | ((with_reducible refine wpl_isDst 10 ?_); refine S.ld 3 _ rfl b1 0 rfl 0 _ rfl (.int .i64 _) HOP.out _ Tryz.underlying3 rfl rfl ?_)
      | ((with_reducible refine wpl_isDst 14 ?_); first | (refine wpl_skip rfl ?_) | refine S.ld 3 _ rfl b1 0 rfl 0 _ rfl (.int .i64 _) HOP.out _ Tryz.underlying3 rfl rfl ?_)
      | ((with_reducible refine wpl_isDst 19 ?_); first | (refine wpl_skip rfl ?_) | refine S.ld 3 _ rfl b1 0 rfl 0 _ rfl (.int .i64 _) HOP.out _ Tryz.underlying3 rfl rfl ?_)
      | ((with_reducible refine wpl_isDst 24 ?_); refine S.ld 3 _ rfl b1 5 rfl 0 _ rfl (.int .i64 _) HN.out _ Tryz.underlying3 rfl rfl ?_)
      | ((with_reducible refine wpl_isDst 28 ?_); refine S.ld 4 _ rfl b1 9 rfl 0 _ rfl (.bool _) HU.out _ Tryz.underlying4 rfl rfl ?_)
      | ((with_reducible refine wpl_isDst 32 ?_); refine S.ld 3 _ rfl b1 6 rfl 0 _ rfl (.int .i64 _) HM.out _ Tryz.underlying3 rfl rfl ?_)
      | ((with_reducible refine wpl_isDst 39 ?_); refine S.ld 3 _ rfl b1 5 rfl 0 _ rfl (.int .i64 _) HN.out _ Tryz.underlying3 rfl rfl ?_)
      | ((with_reducible refine wpl_isDst 42 ?_); refine S.ld 3 _ rfl b1 6 rfl 0 _ rfl (.int .i64 _) HM.out _ Tryz.underlying3 rfl rfl ?_)
      | ((with_reducible refine wpl_isDst 47 ?_); refine S.ld 3 _ rfl b1 0 rfl 0 _ rfl (.int .i64 _) HOP.out _ Tryz.underlying3 rfl rfl ?_)
      | ((with_reducible refine wpl_isDst 51 ?_); first | (refine wpl_skip rfl ?_) | refine S.ld 3 _ rfl b1 0 rfl 0 _ rfl (.int .i64 _) HOP.out _ Tryz.underlying3 rfl rfl ?_)
      | ((with_reducible refine wpl_isDst 56 ?_); refine S.ld 3 _ rfl b1 7 rfl 0 _ rfl (.int .i64 _) HA.out _ Tryz.underlying3 rfl rfl ?_)
      | ((with_reducible refine wpl_isDst 60 ?_); refine S.ld 3 _ rfl b1 0 rfl 0 _ rfl (.int .i64 _) HOP.out _ Tryz.underlying3 rfl rfl ?_)
      | ((with_reducible refine wpl_isDst 64 ?_); first | (refine wpl_skip rfl ?_) | refine S.ld 3 _ rfl b1 0 rfl 0 _ rfl (.int .i64 _) HOP.out _ Tryz.underlying3 rfl rfl ?_)
      | ((with_reducible refine wpl_isDst 69 ?_); refine S.ld 3 _ rfl b1 7 rfl 0 _ rfl (.int .i64 _) HA.out _ Tryz.underlying3 rfl rfl ?_)
      | ((with_reducible refine wpl_isDst 72 ?_); refine S.ld 3 _ rfl b1 4 rfl 0 _ rfl (.int .i64 _) HD.out _ Tryz.underlying3 rfl rfl ?_)
      | ((with_reducible refine wpl_isDst 79 ?_); refine S.ld 3 _ rfl b1 0 rfl 0 _ rfl (.int .i64 _) HOP.out _ Tryz.underlying3 rfl rfl ?_)
      | ((with_reducible refine wpl_isDst 83 ?_); first | (refine wpl_skip rfl ?_) | refine S.ld 3 _ rfl b1 0 rfl 0 _ rfl (.int .i64 _) HOP.out _ Tryz.underlying3 rfl rfl ?_)
      | ((with_reducible refine wpl_isDst 88 ?_); refine S.ld 3 _ rfl b1 4 rfl 0 _ rfl (.int .i64 _) HD.out _ Tryz.underlying3 rfl rfl ?_)
      | ((with_reducible refine wpl_isDst 92 ?_); refine S.ld 3 _ rfl b1 0 rfl 0 _ rfl (.int .i64 _) HOP.out _ Tryz.underlying3 rfl rfl ?_)
      | ((with_reducible refine wpl_isDst 96 ?_); first | (refine wpl_skip rfl ?_) | refine S.ld 3 _ rfl b1 0 rfl 0 _ rfl (.int .i64 _) HOP.out _ Tryz.underlying3 rfl rfl ?_)
      | ((with_reducible refine wpl_isDst 101 ?_); first | (refine wpl_skip rfl ?_) | refine S.ld 3 _ rfl b1 0 rfl 0 _ rfl (.int .i64 _) HOP.out _ Tryz.underlying3 rfl rfl ?_)
      | ((with_reducible refine wpl_isDst 106 ?_); refine S.ld 3 _ rfl b1 5 rfl 0 _ rfl (.int .i64 _) HN.out _ Tryz.underlying3 rfl rfl ?_)
      | ((with_reducible refine wpl_isDst 110 ?_); refine S.ld 3 _ rfl b1 0 rfl 0 _ rfl (.int .i64 _) HOP.out _ Tryz.underlying3 rfl rfl ?_)
      | ((with_reducible refine wpl_isDst 114 ?_); refine S.ld 3 _ rfl b1 6 rfl 0 _ rfl (.int .i64 _) HM.out _ Tryz.underlying3 rfl rfl ?_)
      | ((with_reducible refine wpl_isDst 121 ?_); refine S.ld 3 _ rfl b1 5 rfl 0 _ rfl (.int .i64 _) HN.out _ Tryz.underlying3 rfl rfl ?_)
      | ((with_reducible refine wpl_isDst 125 ?_); refine S.ld 4 _ rfl b1 9 rfl 0 _ rfl (.bool _) HU.out _ Tryz.underlying4 rfl rfl ?_)
      | ((with_reducible refine wpl_isDst 129 ?_); refine S.ld 3 _ rfl b1 6 rfl 0 _ rfl (.int .i64 _) HM.out _ Tryz.underlying3 rfl rfl ?_)
      | ((with_reducible refine wpl_isDst 132 ?_); refine S.ldAll 28 _ rfl b1 rfl 0 _ rfl _ Tryz.underlying28 rfl (szIV _) rfl ?_)
      | (go_at_call 48; refine (CS.out _).mono ?_; rintro e wf ⟨rfl, hbf⟩; replace S := S.below hbf; clear hbf)
      | ((with_reducible refine wpl_isDst 136 ?_); refine S.ld 3 _ rfl b1 4 rfl 0 _ rfl (.int .i64 _) HD.out _ Tryz.underlying3 rfl rfl ?_)
      | ((with_reducible refine wpl_isDst 143 ?_); refine S.ld 3 _ rfl b1 5 rfl 0 _ rfl (.int .i64 _) HN.out _ Tryz.underlying3 rfl rfl ?_)
      | ((with_reducible refine wpl_isDst 147 ?_); refine S.ld 3 _ rfl b1 0 rfl 0 _ rfl (.int .i64 _) HOP.out _ Tryz.underlying3 rfl rfl ?_)
      | ((with_reducible refine wpl_isDst 151 ?_); refine S.ld 3 _ rfl b1 12 rfl 0 _ rfl (.int .i64 _) HL.out _ Tryz.underlying3 rfl rfl ?_)
      | ((with_reducible refine wpl_isDst 154 ?_); refine S.ld 3 _ rfl b1 0 rfl 0 _ rfl (.int .i64 _) HOP.out _ Tryz.underlying3 rfl rfl ?_)
      | ((with_reducible refine wpl_isDst 160 ?_); refine S.ld 3 _ rfl b1 6 rfl 0 _ rfl (.int .i64 _) HM.out _ Tryz.underlying3 rfl rfl ?_)
      | ((with_reducible refine wpl_isDst 168 ?_); refine S.ld 3 _ rfl b1 5 rfl 0 _ rfl (.int .i64 _) HN.out _ Tryz.underlying3 rfl rfl ?_))
    refine Upto.start (S := fun w' => SH noZ w w' [(b1, Cel.iv i)]) 9 (by kernel_rfl) ?_
    replace S := S.drew
    refine Upto.take (i := 0) (oi := { dst := some 37, op := Op.move (Operand.tmp 3), type := 3, pos := "sourdineref7.go:94", after := #[], guard := none }) (v := ?_) rfl (by kernel_rfl) (by kernel_rfl) (by kernel_rfl) (by kernel_rfl) (fun _ _ _ h => h) (Or.inl ⟨by rfl, ?_⟩) (by exact S) ?_
    rotate_left 1
    · intro w hSw
      clear hSw
      go_simp
      try with_reducible rfl
    simp only [Act.put, List.setIfInBounds_toArray, List.set_cons_zero, List.set_cons_succ]
    refine Upto.take (i := 1) (oi := { dst := some 38, op := Op.fieldAddr 28 (Operand.tmp 1) 5, type := 0, pos := "sourdineref7.go:94", after := #[], guard := none }) (v := ?_) rfl (by kernel_rfl) (by kernel_rfl) (by kernel_rfl) (by kernel_rfl) (fun _ _ _ h => h) (Or.inl ⟨by rfl, ?_⟩) (by exact S) ?_
    rotate_left 1
    · intro w hSw
      clear hSw
      go_simp
      try with_reducible rfl
    simp only [Act.put, List.setIfInBounds_toArray, List.set_cons_zero, List.set_cons_succ]
    refine Upto.take (i := 2) (oi := { dst := some 39, op := Op.load 3 (Operand.tmp 38), type := 3, pos := "sourdineref7.go:94", after := #[{ on := 1, ground := Ground.data }], guard := none }) (v := _) rfl (by kernel_rfl) (by kernel_rfl) (by kernel_rfl) (by kernel_rfl) (fun _ _ _ h => h) (y_load1 (by rfl) _ _ rfl _ _ rfl 0 _ rfl _ HN.out _ Tryz.underlying3 rfl) (by exact S) ?_
    simp only [Act.put, List.setIfInBounds_toArray, List.set_cons_zero, List.set_cons_succ]
    refine Upto.take (i := 3) (oi := { dst := some 40, op := Op.binOp BinOp.shl 3 (Operand.const (Value.int IntKind.i64 1)) (Operand.tmp 39) 3, type := 3, pos := "sourdineref7.go:94", after := #[{ on := 2, ground := Ground.data }], guard := none }) (v := ?_) rfl (by kernel_rfl) (by kernel_rfl) (by kernel_rfl) (by kernel_rfl) (fun _ _ _ h => h) (Or.inl ⟨by rfl, ?_⟩) (by exact S) ?_
    rotate_left 1
    · intro w hSw
      clear hSw
      go_simp
      try with_reducible rfl
    simp only [Act.put, List.setIfInBounds_toArray, List.set_cons_zero, List.set_cons_succ]
    refine Upto.take (i := 4) (oi := { dst := some 41, op := Op.fieldAddr 28 (Operand.tmp 1) 6, type := 0, pos := "sourdineref7.go:94", after := #[], guard := none }) (v := ?_) rfl (by kernel_rfl) (by kernel_rfl) (by kernel_rfl) (by kernel_rfl) (fun _ _ _ h => h) (Or.inl ⟨by rfl, ?_⟩) (by exact S) ?_
    rotate_left 1
    · intro w hSw
      clear hSw
      go_simp
      try with_reducible rfl
    simp only [Act.put, List.setIfInBounds_toArray, List.set_cons_zero, List.set_cons_succ]
    refine Upto.take (i := 5) (oi := { dst := some 42, op := Op.load 3 (Operand.tmp 41), type := 3, pos := "sourdineref7.go:94", after := #[{ on := 4, ground := Ground.data }], guard := none }) (v := _) rfl (by kernel_rfl) (by kernel_rfl) (by kernel_rfl) (by kernel_rfl) (fun _ _ _ h => h) (y_load1 (by rfl) _ _ rfl _ _ rfl 0 _ rfl _ HM.out _ Tryz.underlying3 rfl) (by exact S) ?_
    simp only [Act.put, List.setIfInBounds_toArray, List.set_cons_zero, List.set_cons_succ]
    refine Upto.take (i := 6) (oi := { dst := some 43, op := Op.binOp BinOp.shl 3 (Operand.const (Value.int IntKind.i64 1)) (Operand.tmp 42) 3, type := 3, pos := "sourdineref7.go:94", after := #[{ on := 5, ground := Ground.data }], guard := none }) (v := ?_) rfl (by kernel_rfl) (by kernel_rfl) (by kernel_rfl) (by kernel_rfl) (fun _ _ _ h => h) (Or.inl ⟨by rfl, ?_⟩) (by exact S) ?_
    rotate_left 1
    · intro w hSw
      clear hSw
      go_simp
      try with_reducible rfl
    simp only [Act.put, List.setIfInBounds_toArray, List.set_cons_zero, List.set_cons_succ]
    refine Upto.take (i := 7) (oi := { dst := some 44, op := Op.binOp BinOp.or 3 (Operand.tmp 40) (Operand.tmp 43) 3, type := 3, pos := "sourdineref7.go:94", after := #[{ on := 3, ground := Ground.data }, { on := 6, ground := Ground.data }], guard := none }) (v := ?_) rfl (by kernel_rfl) (by kernel_rfl) (by kernel_rfl) (by kernel_rfl) (fun _ _ _ h => h) (Or.inl ⟨by rfl, ?_⟩) (by exact S) ?_
    rotate_left 1
    · intro w hSw
      clear hSw
      go_simp
      try with_reducible rfl
    simp only [Act.put, List.setIfInBounds_toArray, List.set_cons_zero, List.set_cons_succ]
    refine Upto.take (i := 8) (oi := { dst := some 45, op := Op.binOp BinOp.or 3 (Operand.tmp 37) (Operand.tmp 44) 3, type := 3, pos := "sourdineref7.go:94", after := #[{ on := 0, ground := Ground.data }, { on := 7, ground := Ground.data }], guard := none }) (v := ?_) rfl (by kernel_rfl) (by kernel_rfl) (by kernel_rfl) (by kernel_rfl) (fun _ _ _ h => h) (Or.inl ⟨by rfl, ?_⟩) (by exact S) ?_
    rotate_left 1
    · intro w hSw
      clear hSw
      go_simp
      try with_reducible rfl
    simp only [Act.put, List.setIfInBounds_toArray, List.set_cons_zero, List.set_cons_succ]
    refine Upto.ready (rs := [9]) (by kernel_rfl) (by simp) ?_
    refine Nexts.last rfl (fun K hK => ?_)
    go_simp
    refine hK.out _ _ ?_
    clear hK K
    refine Upto.done (by kernel_rfl) ?_ _
    go_wp2_with (first
     | ((with_reducible refine wpl_isDst 1 ?_); refine SH.box (L := []) S rfl 28 _ rfl (Cel.iv i) rfl ?_; clear S; intro b1 w1 S)
     | ((with_reducible refine g_ld 3 ?_); first | (refine wpl_skip rfl ?_) | (refine S.ld 3 _ rfl b1 0 rfl 0 _ rfl (.int .i64 _) HOP.out _ Tryz.underlying3 rfl rfl ?_) | (refine S.ld 3 _ rfl b1 5 rfl 0 _ rfl (.int .i64 _) HN.out _ Tryz.underlying3 rfl rfl ?_) | (refine S.ld 3 _ rfl b1 6 rfl 0 _ rfl (.int .i64 _) HM.out _ Tryz.underlying3 rfl rfl ?_) | (refine S.ld 3 _ rfl b1 7 rfl 0 _ rfl (.int .i64 _) HA.out _ Tryz.underlying3 rfl rfl ?_) | (refine S.ld 3 _ rfl b1 4 rfl 0 _ rfl (.int .i64 _) HD.out _ Tryz.underlying3 rfl rfl ?_) | (refine S.ld 3 _ rfl b1 12 rfl 0 _ rfl (.int .i64 _) HL.out _ Tryz.underlying3 rfl rfl ?_))
     | (go_at_call 51; refine (CC.out _).mono ?_; rintro e wf ⟨rfl, rfl⟩)
     | ((with_reducible refine g_ld 4 ?_); (refine S.ld 4 _ rfl b1 9 rfl 0 _ rfl (.bool _) HU.out _ Tryz.underlying4 rfl rfl ?_))
     | ((with_reducible refine wpl_isDst 132 ?_); refine S.ldAll 28 _ rfl b1 rfl 0 _ rfl _ Tryz.underlying28 rfl (szIV _) rfl ?_)
     | (go_at_call 48; refine (CS.out _).mono ?_; rintro e wf ⟨rfl, hbf⟩; replace S := S.below hbf; clear hbf))
    go_ret
    refine ⟨congrArg (fun x : Int => Ending.returned (Value.int .i64 x)) ?_, S.low⟩
    rw [HR.out]
    try simp only [HPD.out, HPN.out, HPM.out, HPA.out, or0, orC, or0l, or_lt, pd2, pn2, pm2, pa2, l2]
    all_goals first | rfl | (refine congrArg (fun x : Nat => (x : Int)) ?_; ac_rfl)
theorem rtaken_b2 (i : IV) (d n m a l : Nat) (hd : i.d = d) (hn : i.n = n) (hm : i.m = m) (ha : i.a = a) (hl : i.list = l) (hd2 : d < 16) (hn2 : n < 16) (hm2 : m < 16) (ha2 : a < 16) (l2 : l < 65536) (w : World)
    (CC : Hid (∀ w1, Calls Tryz.prog 51 #[.int .i64 i.op] w1 fun e w' => e = .returned (.int .i64 (classS i.op)) ∧ w' = w1)) (CS : Hid (∀ w1, Calls Tryz.prog 48 #[i.val] w1 fun e w' => e = .returned (.bool (storesI i.op)) ∧ Below w1.heap.size w1 w')) (hrr : i.op = 26 ∨ i.op = 27) :
    Calls Tryz.prog 79 #[i.val] w fun e w' => e = .returned (.int .i64 ((maskOf (2 ^ d) (2 ^ n) (2 ^ m) (2 ^ a) l (takesN i) : Nat) : Int)) ∧ Below w.heap.size w w' := by
  have HD : Hid ((Cel.iv i).cells[4]? = some (.int .i64 (d : Int))) := by
    show some (Value.int .i64 i.d) = _
    rw [hd]
  have HN : Hid ((Cel.iv i).cells[5]? = some (.int .i64 (n : Int))) := by
    show some (Value.int .i64 i.n) = _
    rw [hn]
  have HM : Hid ((Cel.iv i).cells[6]? = some (.int .i64 (m : Int))) := by
    show some (Value.int .i64 i.m) = _
    rw [hm]
  have HA : Hid ((Cel.iv i).cells[7]? = some (.int .i64 (a : Int))) := by
    show some (Value.int .i64 i.a) = _
    rw [ha]
  have HL : Hid ((Cel.iv i).cells[12]? = some (.int .i64 (l : Int))) := by
    show some (Value.int .i64 i.list) = _
    rw [hl]
  obtain ⟨o, ho⟩ : ∃ o, i.op = o := ⟨_, rfl⟩
  obtain ⟨ub, hu⟩ : ∃ u, i.useImm = u := ⟨_, rfl⟩
  have HOP : Hid ((Cel.iv i).cells[0]? = some (.int .i64 o)) := by
    show some (Value.int .i64 i.op) = _
    rw [ho]
  have HU : Hid ((Cel.iv i).cells[9]? = some (.bool ub)) := by
    show some (Value.bool i.useImm) = _
    rw [hu]
  rw [ho] at CC CS hrr
  obtain ⟨pd, hpd⟩ : ∃ p, p = 2 ^ d := ⟨_, rfl⟩
  obtain ⟨pn, hpn⟩ : ∃ p, p = 2 ^ n := ⟨_, rfl⟩
  obtain ⟨pm, hpm⟩ : ∃ p, p = 2 ^ m := ⟨_, rfl⟩
  obtain ⟨pa, hpa⟩ : ∃ p, p = 2 ^ a := ⟨_, rfl⟩
  have pd2 : pd < 65536 := by rw [hpd]; exact (w2 d hd2).2
  have pn2 : pn < 65536 := by rw [hpn]; exact (w2 n hn2).2
  have pm2 : pm < 65536 := by rw [hpm]; exact (w2 m hm2).2
  have pa2 : pa < 65536 := by rw [hpa]; exact (w2 a ha2).2
  have HPD : Hid (wrap64 ((2 : Int) ^ d) = (pd : Int)) := by rw [hpd]; exact (w2 d hd2).1
  have HPN : Hid (wrap64 ((2 : Int) ^ n) = (pn : Int)) := by rw [hpn]; exact (w2 n hn2).1
  have HPM : Hid (wrap64 ((2 : Int) ^ m) = (pm : Int)) := by rw [hpm]; exact (w2 m hm2).1
  have HPA : Hid (wrap64 ((2 : Int) ^ a) = (pa : Int)) := by rw [hpa]; exact (w2 a ha2).1
  rw [← hpd, ← hpn, ← hpm, ← hpa]
  have hd0 : 0 ≤ (d : Int) := by omega
  have hn0 : 0 ≤ (n : Int) := by omega
  have hm0 : 0 ≤ (m : Int) := by omega
  have ha0 : 0 ≤ (a : Int) := by omega
  have hd3 : (d : Int) < 16 := by omega
  have hn3 : (n : Int) < 16 := by omega
  have hm3 : (m : Int) < 16 := by omega
  have ha3 : (a : Int) < 16 := by omega
  clear hpd hpn hpm hpa hd hn hm ha hl
  rcases hrr with hr | hr
  focus
    subst hr
    have hc : classS 26 = 2 := by rfl
    rw [hc] at CC
    have hx : longTakesS 26 = 9 := by rfl
    have hW : takesN i = 15 := by
      unfold takesN takesS secondS
      rw [ho, hc, hx]
      rfl
    have HR : Hid (maskOf pd pn pm pa l (takesN i) = pd ||| pn ||| pm ||| pa) := by
      show _ = _
      rw [hW]
      show pd ||| pn ||| pm ||| pa ||| 0 ||| 0 ||| 0 ||| 0 = _
      simp only [Nat.zero_or, Nat.or_zero]
    clear hW ho hc hx
  rotate_left 1
  focus
    subst hr
    have hc : classS 27 = 2 := by rfl
    rw [hc] at CC
    have hx : longTakesS 27 = 9 := by rfl
    have hW : takesN i = 15 := by
      unfold takesN takesS secondS
      rw [ho, hc, hx]
      rfl
    have HR : Hid (maskOf pd pn pm pa l (takesN i) = pd ||| pn ||| pm ||| pa) := by
      show _ = _
      rw [hW]
      show pd ||| pn ||| pm ||| pa ||| 0 ||| 0 ||| 0 ||| 0 = _
      simp only [Nat.zero_or, Nat.or_zero]
    clear hW ho hc hx
  rotate_left 1
  all_goals
    go_enter Tryz.func79, Tryz.ntmps79
    have S := SH.start w
    go_upto_region 9 with (first
      | ((with_reducible refine wpl_isDst 1 ?_); refine SH.box (L := []) S rfl 28 _ rfl (Cel.iv i) rfl ?_; clear S; intro b1 w1 S)
      | ((with_reducible refine wpl_isDst 5 ?_); refine S.ld 3 _ rfl b1 0 rfl 0 _ rfl (.int .i64 _) HOP.out _ Tryz.underlying3 rfl rfl ?_)
      | (go_at_call 51; refine (CC.out _).mono ?_; rintro e wf ⟨rfl, rfl⟩)
      | ((with_reducible refine wpl_isDst 10 ?_); refine S.ld 3 _ rfl b1 0 rfl 0 _ rfl (.int .i64 _) HOP.out _ Tryz.underlying3 rfl rfl ?_)
      | ((with_reducible refine wpl_isDst 14 ?_); first | (refine wpl_skip rfl ?_) | refine S.ld 3 _ rfl b1 0 rfl 0 _ rfl (.int .i64 _) HOP.out _ Tryz.underlying3 rfl rfl ?_)
      | ((with_reducible refine wpl_isDst 19 ?_); first | (refine wpl_skip rfl ?_) | refine S.ld 3 _ rfl b1 0 rfl 0 _ rfl (.int .i64 _) HOP.out _ Tryz.underlying3 rfl rfl ?_)
      | ((with_reducible refine wpl_isDst 24 ?_); refine S.ld 3 _ rfl b1 5 rfl 0 _ rfl (.int .i64 _) HN.out _ Tryz.underlying3 rfl rfl ?_)
      | ((with_reducible refine wpl_isDst 28 ?_); refine S.ld 4 _ rfl b1 9 rfl 0 _ rfl (.bool _) HU.out _ Tryz.underlying4 rfl rfl ?_)
      | ((with_reducible refine wpl_isDst 32 ?_); refine S.ld 3 _ rfl b1 6 rfl 0 _ rfl (.int .i64 _) HM.out _ Tryz.underlying3 rfl rfl ?_)
      | ((with_reducible refine wpl_isDst 39 ?_); refine S.ld 3 _ rfl b1 5 rfl 0 _ rfl (.int .i64 _) HN.out _ Tryz.underlying3 rfl rfl ?_)
      | ((with_reducible refine wpl_isDst 42 ?_); refine S.ld 3 _ rfl b1 6 rfl 0 _ rfl (.int .i64 _) HM.out _ Tryz.underlying3 rfl rfl ?_)
      | ((with_reducible refine wpl_isDst 47 ?_); refine S.ld 3 _ rfl b1 0 rfl 0 _ rfl (.int .i64 _) HOP.out _ Tryz.underlying3 rfl rfl ?_)
      | ((with_reducible refine wpl_isDst 51 ?_); first | (refine wpl_skip rfl ?_) | refine S.ld 3 _ rfl b1 0 rfl 0 _ rfl (.int .i64 _) HOP.out _ Tryz.underlying3 rfl rfl ?_)
      | ((with_reducible refine wpl_isDst 56 ?_); refine S.ld 3 _ rfl b1 7 rfl 0 _ rfl (.int .i64 _) HA.out _ Tryz.underlying3 rfl rfl ?_)
      | ((with_reducible refine wpl_isDst 60 ?_); refine S.ld 3 _ rfl b1 0 rfl 0 _ rfl (.int .i64 _) HOP.out _ Tryz.underlying3 rfl rfl ?_)
      | ((with_reducible refine wpl_isDst 64 ?_); first | (refine wpl_skip rfl ?_) | refine S.ld 3 _ rfl b1 0 rfl 0 _ rfl (.int .i64 _) HOP.out _ Tryz.underlying3 rfl rfl ?_)
      | ((with_reducible refine wpl_isDst 69 ?_); refine S.ld 3 _ rfl b1 7 rfl 0 _ rfl (.int .i64 _) HA.out _ Tryz.underlying3 rfl rfl ?_)
      | ((with_reducible refine wpl_isDst 72 ?_); refine S.ld 3 _ rfl b1 4 rfl 0 _ rfl (.int .i64 _) HD.out _ Tryz.underlying3 rfl rfl ?_)
      | ((with_reducible refine wpl_isDst 79 ?_); refine S.ld 3 _ rfl b1 0 rfl 0 _ rfl (.int .i64 _) HOP.out _ Tryz.underlying3 rfl rfl ?_)
      | ((with_reducible refine wpl_isDst 83 ?_); first | (refine wpl_skip rfl ?_) | refine S.ld 3 _ rfl b1 0 rfl 0 _ rfl (.int .i64 _) HOP.out _ Tryz.underlying3 rfl rfl ?_)
      | ((with_reducible refine wpl_isDst 88 ?_); refine S.ld 3 _ rfl b1 4 rfl 0 _ rfl (.int .i64 _) HD.out _ Tryz.underlying3 rfl rfl ?_)
      | ((with_reducible refine wpl_isDst 92 ?_); refine S.ld 3 _ rfl b1 0 rfl 0 _ rfl (.int .i64 _) HOP.out _ Tryz.underlying3 rfl rfl ?_)
      | ((with_reducible refine wpl_isDst 96 ?_); first | (refine wpl_skip rfl ?_) | refine S.ld 3 _ rfl b1 0 rfl 0 _ rfl (.int .i64 _) HOP.out _ Tryz.underlying3 rfl rfl ?_)
      | ((with_reducible refine wpl_isDst 101 ?_); first | (refine wpl_skip rfl ?_) | refine S.ld 3 _ rfl b1 0 rfl 0 _ rfl (.int .i64 _) HOP.out _ Tryz.underlying3 rfl rfl ?_)
      | ((with_reducible refine wpl_isDst 106 ?_); refine S.ld 3 _ rfl b1 5 rfl 0 _ rfl (.int .i64 _) HN.out _ Tryz.underlying3 rfl rfl ?_)
      | ((with_reducible refine wpl_isDst 110 ?_); refine S.ld 3 _ rfl b1 0 rfl 0 _ rfl (.int .i64 _) HOP.out _ Tryz.underlying3 rfl rfl ?_)
      | ((with_reducible refine wpl_isDst 114 ?_); refine S.ld 3 _ rfl b1 6 rfl 0 _ rfl (.int .i64 _) HM.out _ Tryz.underlying3 rfl rfl ?_)
      | ((with_reducible refine wpl_isDst 121 ?_); refine S.ld 3 _ rfl b1 5 rfl 0 _ rfl (.int .i64 _) HN.out _ Tryz.underlying3 rfl rfl ?_)
      | ((with_reducible refine wpl_isDst 125 ?_); refine S.ld 4 _ rfl b1 9 rfl 0 _ rfl (.bool _) HU.out _ Tryz.underlying4 rfl rfl ?_)
      | ((with_reducible refine wpl_isDst 129 ?_); refine S.ld 3 _ rfl b1 6 rfl 0 _ rfl (.int .i64 _) HM.out _ Tryz.underlying3 rfl rfl ?_)
      | ((with_reducible refine wpl_isDst 132 ?_); refine S.ldAll 28 _ rfl b1 rfl 0 _ rfl _ Tryz.underlying28 rfl (szIV _) rfl ?_)
      | (go_at_call 48; refine (CS.out _).mono ?_; rintro e wf ⟨rfl, hbf⟩; replace S := S.below hbf; clear hbf)
      | ((with_reducible refine wpl_isDst 136 ?_); refine S.ld 3 _ rfl b1 4 rfl 0 _ rfl (.int .i64 _) HD.out _ Tryz.underlying3 rfl rfl ?_)
      | ((with_reducible refine wpl_isDst 143 ?_); refine S.ld 3 _ rfl b1 5 rfl 0 _ rfl (.int .i64 _) HN.out _ Tryz.underlying3 rfl rfl ?_)
      | ((with_reducible refine wpl_isDst 147 ?_); refine S.ld 3 _ rfl b1 0 rfl 0 _ rfl (.int .i64 _) HOP.out _ Tryz.underlying3 rfl rfl ?_)
      | ((with_reducible refine wpl_isDst 151 ?_); refine S.ld 3 _ rfl b1 12 rfl 0 _ rfl (.int .i64 _) HL.out _ Tryz.underlying3 rfl rfl ?_)
      | ((with_reducible refine wpl_isDst 154 ?_); refine S.ld 3 _ rfl b1 0 rfl 0 _ rfl (.int .i64 _) HOP.out _ Tryz.underlying3 rfl rfl ?_)
      | ((with_reducible refine wpl_isDst 160 ?_); refine S.ld 3 _ rfl b1 6 rfl 0 _ rfl (.int .i64 _) HM.out _ Tryz.underlying3 rfl rfl ?_)
      | ((with_reducible refine wpl_isDst 168 ?_); refine S.ld 3 _ rfl b1 5 rfl 0 _ rfl (.int .i64 _) HN.out _ Tryz.underlying3 rfl rfl ?_))
    refine Upto.start (S := fun w' => SH noZ w w' [(b1, Cel.iv i)]) 9 (by kernel_rfl) ?_
    replace S := S.drew
    refine Upto.take (i := 0) (oi := { dst := some 37, op := Op.move (Operand.tmp 3), type := 3, pos := "sourdineref7.go:94", after := #[], guard := none }) (v := ?_) rfl (by kernel_rfl) (by kernel_rfl) (by kernel_rfl) (by kernel_rfl) (fun _ _ _ h => h) (Or.inl ⟨by rfl, ?_⟩) (by exact S) ?_
    rotate_left 1
    · intro w hSw
      clear hSw
      go_simp
      try with_reducible rfl
    simp only [Act.put, List.setIfInBounds_toArray, List.set_cons_zero, List.set_cons_succ]
    refine Upto.take (i := 1) (oi := { dst := some 38, op := Op.fieldAddr 28 (Operand.tmp 1) 5, type := 0, pos := "sourdineref7.go:94", after := #[], guard := none }) (v := ?_) rfl (by kernel_rfl) (by kernel_rfl) (by kernel_rfl) (by kernel_rfl) (fun _ _ _ h => h) (Or.inl ⟨by rfl, ?_⟩) (by exact S) ?_
    rotate_left 1
    · intro w hSw
      clear hSw
      go_simp
      try with_reducible rfl
    simp only [Act.put, List.setIfInBounds_toArray, List.set_cons_zero, List.set_cons_succ]
    refine Upto.take (i := 2) (oi := { dst := some 39, op := Op.load 3 (Operand.tmp 38), type := 3, pos := "sourdineref7.go:94", after := #[{ on := 1, ground := Ground.data }], guard := none }) (v := _) rfl (by kernel_rfl) (by kernel_rfl) (by kernel_rfl) (by kernel_rfl) (fun _ _ _ h => h) (y_load1 (by rfl) _ _ rfl _ _ rfl 0 _ rfl _ HN.out _ Tryz.underlying3 rfl) (by exact S) ?_
    simp only [Act.put, List.setIfInBounds_toArray, List.set_cons_zero, List.set_cons_succ]
    refine Upto.take (i := 3) (oi := { dst := some 40, op := Op.binOp BinOp.shl 3 (Operand.const (Value.int IntKind.i64 1)) (Operand.tmp 39) 3, type := 3, pos := "sourdineref7.go:94", after := #[{ on := 2, ground := Ground.data }], guard := none }) (v := ?_) rfl (by kernel_rfl) (by kernel_rfl) (by kernel_rfl) (by kernel_rfl) (fun _ _ _ h => h) (Or.inl ⟨by rfl, ?_⟩) (by exact S) ?_
    rotate_left 1
    · intro w hSw
      clear hSw
      go_simp
      try with_reducible rfl
    simp only [Act.put, List.setIfInBounds_toArray, List.set_cons_zero, List.set_cons_succ]
    refine Upto.take (i := 4) (oi := { dst := some 41, op := Op.fieldAddr 28 (Operand.tmp 1) 6, type := 0, pos := "sourdineref7.go:94", after := #[], guard := none }) (v := ?_) rfl (by kernel_rfl) (by kernel_rfl) (by kernel_rfl) (by kernel_rfl) (fun _ _ _ h => h) (Or.inl ⟨by rfl, ?_⟩) (by exact S) ?_
    rotate_left 1
    · intro w hSw
      clear hSw
      go_simp
      try with_reducible rfl
    simp only [Act.put, List.setIfInBounds_toArray, List.set_cons_zero, List.set_cons_succ]
    refine Upto.take (i := 5) (oi := { dst := some 42, op := Op.load 3 (Operand.tmp 41), type := 3, pos := "sourdineref7.go:94", after := #[{ on := 4, ground := Ground.data }], guard := none }) (v := _) rfl (by kernel_rfl) (by kernel_rfl) (by kernel_rfl) (by kernel_rfl) (fun _ _ _ h => h) (y_load1 (by rfl) _ _ rfl _ _ rfl 0 _ rfl _ HM.out _ Tryz.underlying3 rfl) (by exact S) ?_
    simp only [Act.put, List.setIfInBounds_toArray, List.set_cons_zero, List.set_cons_succ]
    refine Upto.take (i := 6) (oi := { dst := some 43, op := Op.binOp BinOp.shl 3 (Operand.const (Value.int IntKind.i64 1)) (Operand.tmp 42) 3, type := 3, pos := "sourdineref7.go:94", after := #[{ on := 5, ground := Ground.data }], guard := none }) (v := ?_) rfl (by kernel_rfl) (by kernel_rfl) (by kernel_rfl) (by kernel_rfl) (fun _ _ _ h => h) (Or.inl ⟨by rfl, ?_⟩) (by exact S) ?_
    rotate_left 1
    · intro w hSw
      clear hSw
      go_simp
      try with_reducible rfl
    simp only [Act.put, List.setIfInBounds_toArray, List.set_cons_zero, List.set_cons_succ]
    refine Upto.take (i := 7) (oi := { dst := some 44, op := Op.binOp BinOp.or 3 (Operand.tmp 40) (Operand.tmp 43) 3, type := 3, pos := "sourdineref7.go:94", after := #[{ on := 3, ground := Ground.data }, { on := 6, ground := Ground.data }], guard := none }) (v := ?_) rfl (by kernel_rfl) (by kernel_rfl) (by kernel_rfl) (by kernel_rfl) (fun _ _ _ h => h) (Or.inl ⟨by rfl, ?_⟩) (by exact S) ?_
    rotate_left 1
    · intro w hSw
      clear hSw
      go_simp
      try with_reducible rfl
    simp only [Act.put, List.setIfInBounds_toArray, List.set_cons_zero, List.set_cons_succ]
    refine Upto.take (i := 8) (oi := { dst := some 45, op := Op.binOp BinOp.or 3 (Operand.tmp 37) (Operand.tmp 44) 3, type := 3, pos := "sourdineref7.go:94", after := #[{ on := 0, ground := Ground.data }, { on := 7, ground := Ground.data }], guard := none }) (v := ?_) rfl (by kernel_rfl) (by kernel_rfl) (by kernel_rfl) (by kernel_rfl) (fun _ _ _ h => h) (Or.inl ⟨by rfl, ?_⟩) (by exact S) ?_
    rotate_left 1
    · intro w hSw
      clear hSw
      go_simp
      try with_reducible rfl
    simp only [Act.put, List.setIfInBounds_toArray, List.set_cons_zero, List.set_cons_succ]
    refine Upto.ready (rs := [9]) (by kernel_rfl) (by simp) ?_
    refine Nexts.last rfl (fun K hK => ?_)
    go_simp
    refine hK.out _ _ ?_
    clear hK K
    refine Upto.done (by kernel_rfl) ?_ _
    go_upto_region 13 with (first
      | ((with_reducible refine wpl_isDst 1 ?_); refine SH.box (L := []) S rfl 28 _ rfl (Cel.iv i) rfl ?_; clear S; intro b1 w1 S)
      | ((with_reducible refine wpl_isDst 5 ?_); refine S.ld 3 _ rfl b1 0 rfl 0 _ rfl (.int .i64 _) HOP.out _ Tryz.underlying3 rfl rfl ?_)
      | (go_at_call 51; refine (CC.out _).mono ?_; rintro e wf ⟨rfl, rfl⟩)
      | ((with_reducible refine wpl_isDst 10 ?_); refine S.ld 3 _ rfl b1 0 rfl 0 _ rfl (.int .i64 _) HOP.out _ Tryz.underlying3 rfl rfl ?_)
      | ((with_reducible refine wpl_isDst 14 ?_); first | (refine wpl_skip rfl ?_) | refine S.ld 3 _ rfl b1 0 rfl 0 _ rfl (.int .i64 _) HOP.out _ Tryz.underlying3 rfl rfl ?_)
      | ((with_reducible refine wpl_isDst 19 ?_); first | (refine wpl_skip rfl ?_) | refine S.ld 3 _ rfl b1 0 rfl 0 _ rfl (.int .i64 _) HOP.out _ Tryz.underlying3 rfl rfl ?_)
      | ((with_reducible refine wpl_isDst 24 ?_); refine S.ld 3 _ rfl b1 5 rfl 0 _ rfl (.int .i64 _) HN.out _ Tryz.underlying3 rfl rfl ?_)
      | ((with_reducible refine wpl_isDst 28 ?_); refine S.ld 4 _ rfl b1 9 rfl 0 _ rfl (.bool _) HU.out _ Tryz.underlying4 rfl rfl ?_)
      | ((with_reducible refine wpl_isDst 32 ?_); refine S.ld 3 _ rfl b1 6 rfl 0 _ rfl (.int .i64 _) HM.out _ Tryz.underlying3 rfl rfl ?_)
      | ((with_reducible refine wpl_isDst 39 ?_); refine S.ld 3 _ rfl b1 5 rfl 0 _ rfl (.int .i64 _) HN.out _ Tryz.underlying3 rfl rfl ?_)
      | ((with_reducible refine wpl_isDst 42 ?_); refine S.ld 3 _ rfl b1 6 rfl 0 _ rfl (.int .i64 _) HM.out _ Tryz.underlying3 rfl rfl ?_)
      | ((with_reducible refine wpl_isDst 47 ?_); refine S.ld 3 _ rfl b1 0 rfl 0 _ rfl (.int .i64 _) HOP.out _ Tryz.underlying3 rfl rfl ?_)
      | ((with_reducible refine wpl_isDst 51 ?_); first | (refine wpl_skip rfl ?_) | refine S.ld 3 _ rfl b1 0 rfl 0 _ rfl (.int .i64 _) HOP.out _ Tryz.underlying3 rfl rfl ?_)
      | ((with_reducible refine wpl_isDst 56 ?_); refine S.ld 3 _ rfl b1 7 rfl 0 _ rfl (.int .i64 _) HA.out _ Tryz.underlying3 rfl rfl ?_)
      | ((with_reducible refine wpl_isDst 60 ?_); refine S.ld 3 _ rfl b1 0 rfl 0 _ rfl (.int .i64 _) HOP.out _ Tryz.underlying3 rfl rfl ?_)
      | ((with_reducible refine wpl_isDst 64 ?_); first | (refine wpl_skip rfl ?_) | refine S.ld 3 _ rfl b1 0 rfl 0 _ rfl (.int .i64 _) HOP.out _ Tryz.underlying3 rfl rfl ?_)
      | ((with_reducible refine wpl_isDst 69 ?_); refine S.ld 3 _ rfl b1 7 rfl 0 _ rfl (.int .i64 _) HA.out _ Tryz.underlying3 rfl rfl ?_)
      | ((with_reducible refine wpl_isDst 72 ?_); refine S.ld 3 _ rfl b1 4 rfl 0 _ rfl (.int .i64 _) HD.out _ Tryz.underlying3 rfl rfl ?_)
      | ((with_reducible refine wpl_isDst 79 ?_); refine S.ld 3 _ rfl b1 0 rfl 0 _ rfl (.int .i64 _) HOP.out _ Tryz.underlying3 rfl rfl ?_)
      | ((with_reducible refine wpl_isDst 83 ?_); first | (refine wpl_skip rfl ?_) | refine S.ld 3 _ rfl b1 0 rfl 0 _ rfl (.int .i64 _) HOP.out _ Tryz.underlying3 rfl rfl ?_)
      | ((with_reducible refine wpl_isDst 88 ?_); refine S.ld 3 _ rfl b1 4 rfl 0 _ rfl (.int .i64 _) HD.out _ Tryz.underlying3 rfl rfl ?_)
      | ((with_reducible refine wpl_isDst 92 ?_); refine S.ld 3 _ rfl b1 0 rfl 0 _ rfl (.int .i64 _) HOP.out _ Tryz.underlying3 rfl rfl ?_)
      | ((with_reducible refine wpl_isDst 96 ?_); first | (refine wpl_skip rfl ?_) | refine S.ld 3 _ rfl b1 0 rfl 0 _ rfl (.int .i64 _) HOP.out _ Tryz.underlying3 rfl rfl ?_)
      | ((with_reducible refine wpl_isDst 101 ?_); first | (refine wpl_skip rfl ?_) | refine S.ld 3 _ rfl b1 0 rfl 0 _ rfl (.int .i64 _) HOP.out _ Tryz.underlying3 rfl rfl ?_)
      | ((with_reducible refine wpl_isDst 106 ?_); refine S.ld 3 _ rfl b1 5 rfl 0 _ rfl (.int .i64 _) HN.out _ Tryz.underlying3 rfl rfl ?_)
      | ((with_reducible refine wpl_isDst 110 ?_); refine S.ld 3 _ rfl b1 0 rfl 0 _ rfl (.int .i64 _) HOP.out _ Tryz.underlying3 rfl rfl ?_)
      | ((with_reducible refine wpl_isDst 114 ?_); refine S.ld 3 _ rfl b1 6 rfl 0 _ rfl (.int .i64 _) HM.out _ Tryz.underlying3 rfl rfl ?_)
      | ((with_reducible refine wpl_isDst 121 ?_); refine S.ld 3 _ rfl b1 5 rfl 0 _ rfl (.int .i64 _) HN.out _ Tryz.underlying3 rfl rfl ?_)
      | ((with_reducible refine wpl_isDst 125 ?_); refine S.ld 4 _ rfl b1 9 rfl 0 _ rfl (.bool _) HU.out _ Tryz.underlying4 rfl rfl ?_)
      | ((with_reducible refine wpl_isDst 129 ?_); refine S.ld 3 _ rfl b1 6 rfl 0 _ rfl (.int .i64 _) HM.out _ Tryz.underlying3 rfl rfl ?_)
      | ((with_reducible refine wpl_isDst 132 ?_); refine S.ldAll 28 _ rfl b1 rfl 0 _ rfl _ Tryz.underlying28 rfl (szIV _) rfl ?_)
      | (go_at_call 48; refine (CS.out _).mono ?_; rintro e wf ⟨rfl, hbf⟩; replace S := S.below hbf; clear hbf)
      | ((with_reducible refine wpl_isDst 136 ?_); refine S.ld 3 _ rfl b1 4 rfl 0 _ rfl (.int .i64 _) HD.out _ Tryz.underlying3 rfl rfl ?_)
      | ((with_reducible refine wpl_isDst 143 ?_); refine S.ld 3 _ rfl b1 5 rfl 0 _ rfl (.int .i64 _) HN.out _ Tryz.underlying3 rfl rfl ?_)
      | ((with_reducible refine wpl_isDst 147 ?_); refine S.ld 3 _ rfl b1 0 rfl 0 _ rfl (.int .i64 _) HOP.out _ Tryz.underlying3 rfl rfl ?_)
      | ((with_reducible refine wpl_isDst 151 ?_); refine S.ld 3 _ rfl b1 12 rfl 0 _ rfl (.int .i64 _) HL.out _ Tryz.underlying3 rfl rfl ?_)
      | ((with_reducible refine wpl_isDst 154 ?_); refine S.ld 3 _ rfl b1 0 rfl 0 _ rfl (.int .i64 _) HOP.out _ Tryz.underlying3 rfl rfl ?_)
      | ((with_reducible refine wpl_isDst 160 ?_); refine S.ld 3 _ rfl b1 6 rfl 0 _ rfl (.int .i64 _) HM.out _ Tryz.underlying3 rfl rfl ?_)
      | ((with_reducible refine wpl_isDst 168 ?_); refine S.ld 3 _ rfl b1 5 rfl 0 _ rfl (.int .i64 _) HN.out _ Tryz.underlying3 rfl rfl ?_))
    refine Upto.start (S := fun w' => SH noZ w w' [(b1, Cel.iv i)]) 9 (by kernel_rfl) ?_
    replace S := S.drew
    refine Upto.take (i := 0) (oi := { dst := some 67, op := Op.move (Operand.tmp 3), type := 3, pos := "sourdineref7.go:99", after := #[], guard := none }) (v := ?_) rfl (by kernel_rfl) (by kernel_rfl) (by kernel_rfl) (by kernel_rfl) (fun _ _ _ h => h) (Or.inl ⟨by rfl, ?_⟩) (by exact S) ?_
    rotate_left 1
    · intro w hSw
      clear hSw
      go_simp
      try with_reducible rfl
    simp only [Act.put, List.setIfInBounds_toArray, List.set_cons_zero, List.set_cons_succ]
    refine Upto.take (i := 1) (oi := { dst := some 68, op := Op.fieldAddr 28 (Operand.tmp 1) 7, type := 0, pos := "sourdineref7.go:99", after := #[], guard := none }) (v := ?_) rfl (by kernel_rfl) (by kernel_rfl) (by kernel_rfl) (by kernel_rfl) (fun _ _ _ h => h) (Or.inl ⟨by rfl, ?_⟩) (by exact S) ?_
    rotate_left 1
    · intro w hSw
      clear hSw
      go_simp
      try with_reducible rfl
    simp only [Act.put, List.setIfInBounds_toArray, List.set_cons_zero, List.set_cons_succ]
    refine Upto.take (i := 2) (oi := { dst := some 69, op := Op.load 3 (Operand.tmp 68), type := 3, pos := "sourdineref7.go:99", after := #[{ on := 1, ground := Ground.data }], guard := none }) (v := _) rfl (by kernel_rfl) (by kernel_rfl) (by kernel_rfl) (by kernel_rfl) (fun _ _ _ h => h) (y_load1 (by rfl) _ _ rfl _ _ rfl 0 _ rfl _ HA.out _ Tryz.underlying3 rfl) (by exact S) ?_
    simp only [Act.put, List.setIfInBounds_toArray, List.set_cons_zero, List.set_cons_succ]
    refine Upto.take (i := 3) (oi := { dst := some 70, op := Op.binOp BinOp.shl 3 (Operand.const (Value.int IntKind.i64 1)) (Operand.tmp 69) 3, type := 3, pos := "sourdineref7.go:99", after := #[{ on := 2, ground := Ground.data }], guard := none }) (v := ?_) rfl (by kernel_rfl) (by kernel_rfl) (by kernel_rfl) (by kernel_rfl) (fun _ _ _ h => h) (Or.inl ⟨by rfl, ?_⟩) (by exact S) ?_
    rotate_left 1
    · intro w hSw
      clear hSw
      go_simp
      try with_reducible rfl
    simp only [Act.put, List.setIfInBounds_toArray, List.set_cons_zero, List.set_cons_succ]
    refine Upto.take (i := 4) (oi := { dst := some 71, op := Op.fieldAddr 28 (Operand.tmp 1) 4, type := 0, pos := "sourdineref7.go:99", after := #[], guard := none }) (v := ?_) rfl (by kernel_rfl) (by kernel_rfl) (by kernel_rfl) (by kernel_rfl) (fun _ _ _ h => h) (Or.inl ⟨by rfl, ?_⟩) (by exact S) ?_
    rotate_left 1
    · intro w hSw
      clear hSw
      go_simp
      try with_reducible rfl
    simp only [Act.put, List.setIfInBounds_toArray, List.set_cons_zero, List.set_cons_succ]
    refine Upto.take (i := 5) (oi := { dst := some 72, op := Op.load 3 (Operand.tmp 71), type := 3, pos := "sourdineref7.go:99", after := #[{ on := 4, ground := Ground.data }], guard := none }) (v := _) rfl (by kernel_rfl) (by kernel_rfl) (by kernel_rfl) (by kernel_rfl) (fun _ _ _ h => h) (y_load1 (by rfl) _ _ rfl _ _ rfl 0 _ rfl _ HD.out _ Tryz.underlying3 rfl) (by exact S) ?_
    simp only [Act.put, List.setIfInBounds_toArray, List.set_cons_zero, List.set_cons_succ]
    refine Upto.take (i := 6) (oi := { dst := some 73, op := Op.binOp BinOp.shl 3 (Operand.const (Value.int IntKind.i64 1)) (Operand.tmp 72) 3, type := 3, pos := "sourdineref7.go:99", after := #[{ on := 5, ground := Ground.data }], guard := none }) (v := ?_) rfl (by kernel_rfl) (by kernel_rfl) (by kernel_rfl) (by kernel_rfl) (fun _ _ _ h => h) (Or.inl ⟨by rfl, ?_⟩) (by exact S) ?_
    rotate_left 1
    · intro w hSw
      clear hSw
      go_simp
      try with_reducible rfl
    simp only [Act.put, List.setIfInBounds_toArray, List.set_cons_zero, List.set_cons_succ]
    refine Upto.take (i := 7) (oi := { dst := some 74, op := Op.binOp BinOp.or 3 (Operand.tmp 70) (Operand.tmp 73) 3, type := 3, pos := "sourdineref7.go:99", after := #[{ on := 3, ground := Ground.data }, { on := 6, ground := Ground.data }], guard := none }) (v := ?_) rfl (by kernel_rfl) (by kernel_rfl) (by kernel_rfl) (by kernel_rfl) (fun _ _ _ h => h) (Or.inl ⟨by rfl, ?_⟩) (by exact S) ?_
    rotate_left 1
    · intro w hSw
      clear hSw
      go_simp
      try with_reducible rfl
    simp only [Act.put, List.setIfInBounds_toArray, List.set_cons_zero, List.set_cons_succ]
    refine Upto.take (i := 8) (oi := { dst := some 75, op := Op.binOp BinOp.or 3 (Operand.tmp 67) (Operand.tmp 74) 3, type := 3, pos := "sourdineref7.go:99", after := #[{ on := 0, ground := Ground.data }, { on := 7, ground := Ground.data }], guard := none }) (v := ?_) rfl (by kernel_rfl) (by kernel_rfl) (by kernel_rfl) (by kernel_rfl) (fun _ _ _ h => h) (Or.inl ⟨by rfl, ?_⟩) (by exact S) ?_
    rotate_left 1
    · intro w hSw
      clear hSw
      go_simp
      try with_reducible rfl
    simp only [Act.put, List.setIfInBounds_toArray, List.set_cons_zero, List.set_cons_succ]
    refine Upto.ready (rs := [9]) (by kernel_rfl) (by simp) ?_
    refine Nexts.last rfl (fun K hK => ?_)
    go_simp
    refine hK.out _ _ ?_
    clear hK K
    refine Upto.done (by kernel_rfl) ?_ _
    go_wp2_with (first
     | ((with_reducible refine wpl_isDst 1 ?_); refine SH.box (L := []) S rfl 28 _ rfl (Cel.iv i) rfl ?_; clear S; intro b1 w1 S)
     | ((with_reducible refine g_ld 3 ?_); first | (refine wpl_skip rfl ?_) | (refine S.ld 3 _ rfl b1 0 rfl 0 _ rfl (.int .i64 _) HOP.out _ Tryz.underlying3 rfl rfl ?_) | (refine S.ld 3 _ rfl b1 5 rfl 0 _ rfl (.int .i64 _) HN.out _ Tryz.underlying3 rfl rfl ?_) | (refine S.ld 3 _ rfl b1 6 rfl 0 _ rfl (.int .i64 _) HM.out _ Tryz.underlying3 rfl rfl ?_) | (refine S.ld 3 _ rfl b1 7 rfl 0 _ rfl (.int .i64 _) HA.out _ Tryz.underlying3 rfl rfl ?_) | (refine S.ld 3 _ rfl b1 4 rfl 0 _ rfl (.int .i64 _) HD.out _ Tryz.underlying3 rfl rfl ?_) | (refine S.ld 3 _ rfl b1 12 rfl 0 _ rfl (.int .i64 _) HL.out _ Tryz.underlying3 rfl rfl ?_))
     | (go_at_call 51; refine (CC.out _).mono ?_; rintro e wf ⟨rfl, rfl⟩)
     | ((with_reducible refine g_ld 4 ?_); (refine S.ld 4 _ rfl b1 9 rfl 0 _ rfl (.bool _) HU.out _ Tryz.underlying4 rfl rfl ?_))
     | ((with_reducible refine wpl_isDst 132 ?_); refine S.ldAll 28 _ rfl b1 rfl 0 _ rfl _ Tryz.underlying28 rfl (szIV _) rfl ?_)
     | (go_at_call 48; refine (CS.out _).mono ?_; rintro e wf ⟨rfl, hbf⟩; replace S := S.below hbf; clear hbf))
    go_ret
    refine ⟨congrArg (fun x : Int => Ending.returned (Value.int .i64 x)) ?_, S.low⟩
    rw [HR.out]
    try simp only [HPD.out, HPN.out, HPM.out, HPA.out, or0, orC, or0l, or_lt, pd2, pn2, pm2, pa2, l2]
    all_goals first | rfl | (refine congrArg (fun x : Nat => (x : Int)) ?_; ac_rfl)
theorem rtaken_b (i : IV) (d n m a l : Nat) (hd : i.d = d) (hn : i.n = n) (hm : i.m = m) (ha : i.a = a) (hl : i.list = l) (hd2 : d < 16) (hn2 : n < 16) (hm2 : m < 16) (ha2 : a < 16) (l2 : l < 65536) (w : World)
    (CC : Hid (∀ w1, Calls Tryz.prog 51 #[.int .i64 i.op] w1 fun e w' => e = .returned (.int .i64 (classS i.op)) ∧ w' = w1)) (CS : Hid (∀ w1, Calls Tryz.prog 48 #[i.val] w1 fun e w' => e = .returned (.bool (storesI i.op)) ∧ Below w1.heap.size w1 w')) (hrr : (21 ≤ i.op ∧ i.op ≤ 29)) :
    Calls Tryz.prog 79 #[i.val] w fun e w' => e = .returned (.int .i64 ((maskOf (2 ^ d) (2 ^ n) (2 ^ m) (2 ^ a) l (takesN i) : Nat) : Int)) ∧ Below w.heap.size w w' := by
  by_cases h : i.op = 26 ∨ i.op = 27
  · exact rtaken_b2 i d n m a l hd hn hm ha hl hd2 hn2 hm2 ha2 l2 w CC CS h
  · exact rtaken_b1 i d n m a l hd hn hm ha hl hd2 hn2 hm2 ha2 l2 w CC CS (by omega)
end Go.Proofs.YtplhblhopaheeaaGreatDoor
