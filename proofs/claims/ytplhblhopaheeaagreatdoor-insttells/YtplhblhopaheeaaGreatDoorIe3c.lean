/- Stage 9: the document's taken, as a mask (c) -/
import Derived.Test.YtplhblhopaheeaaGreatDoorYc
import Derived.Test.YtplhblhopaheeaaGreatDoorYa
namespace Go.Proofs.YtplhblhopaheeaaGreatDoor
open Go.ChangeShapes Go.WideShapes Go.ChangeAt Go.RowKit
set_option linter.unusedVariables false
set_option linter.unusedSimpArgs false
set_option maxHeartbeats 20000000
set_option maxRecDepth 100000

theorem rtaken_c1 (i : IV) (d n m a l : Nat) (hd : i.d = d) (hn : i.n = n) (hm : i.m = m) (ha : i.a = a) (hl : i.list = l) (hd2 : d < 16) (hn2 : n < 16) (hm2 : m < 16) (ha2 : a < 16) (l2 : l < 65536) (w : World)
    (CC : Hid (∀ w1, Calls Tryz.prog 51 #[.int .i64 i.op] w1 fun e w' => e = .returned (.int .i64 (classS i.op)) ∧ w' = w1)) (CS : Hid (∀ w1, Calls Tryz.prog 48 #[i.val] w1 fun e w' => e = .returned (.bool (storesI i.op)) ∧ Below w1.heap.size w1 w')) (hrr : (30 ≤ i.op ∧ i.op ≤ 43)) :
    Calls Tryz.prog 79 #[i.val] w fun e w' => e = .returned (.int .i64 ((maskOf (2 ^ d) (2 ^ n) (2 ^ m) (2 ^ a) l (takesN i) : Nat) : Int)) ∧ Below w.heap.size w w' := by
  have HD : Hid ((Cel.iv i).cells[4]? = some (.int .i64 (d : Int))) := by
    show some (Value.int .i64 i.d) = _
    rw [hd]
  have HN : Hid ((Cel.iv i).cells[5]? = some (.int .i64 (n : Int))) := by
    show some (Value.int .i64 i.n) = _
    rw [hn]
  have HM : Hid ((Cel.iv i).cells[6]? = some (.int .i64 (m : Int))) := by
    show some (Value.int .i64 i.m) = _
    rw [hm]
  have HA : Hid ((Cel.iv i).cells[7]? = some (.int .i64 (a : Int))) := by
    show some (Value.int .i64 i.a) = _
    rw [ha]
  have HL : Hid ((Cel.iv i).cells[12]? = some (.int .i64 (l : Int))) := by
    show some (Value.int .i64 i.list) = _
    rw [hl]
  obtain ⟨o, ho⟩ : ∃ o, i.op = o := ⟨_, rfl⟩
  obtain ⟨ub, hu⟩ : ∃ u, i.useImm = u := ⟨_, rfl⟩
  have HOP : Hid ((Cel.iv i).cells[0]? = some (.int .i64 o)) := by
    show some (Value.int .i64 i.op) = _
    rw [ho]
  have HU : Hid ((Cel.iv i).cells[9]? = some (.bool ub)) := by
    show some (Value.bool i.useImm) = _
    rw [hu]
  rw [ho] at CC CS hrr
  obtain ⟨pd, hpd⟩ : ∃ p, p = 2 ^ d := ⟨_, rfl⟩
  obtain ⟨pn, hpn⟩ : ∃ p, p = 2 ^ n := ⟨_, rfl⟩
  obtain ⟨pm, hpm⟩ : ∃ p, p = 2 ^ m := ⟨_, rfl⟩
  obtain ⟨pa, hpa⟩ : ∃ p, p = 2 ^ a := ⟨_, rfl⟩
  have pd2 : pd < 65536 := by rw [hpd]; exact (w2 d hd2).2
  have pn2 : pn < 65536 := by rw [hpn]; exact (w2 n hn2).2
  have pm2 : pm < 65536 := by rw [hpm]; exact (w2 m hm2).2
  have pa2 : pa < 65536 := by rw [hpa]; exact (w2 a ha2).2
  have HPD : Hid (wrap64 ((2 : Int) ^ d) = (pd : Int)) := by rw [hpd]; exact (w2 d hd2).1
  have HPN : Hid (wrap64 ((2 : Int) ^ n) = (pn : Int)) := by rw [hpn]; exact (w2 n hn2).1
  have HPM : Hid (wrap64 ((2 : Int) ^ m) = (pm : Int)) := by rw [hpm]; exact (w2 m hm2).1
  have HPA : Hid (wrap64 ((2 : Int) ^ a) = (pa : Int)) := by rw [hpa]; exact (w2 a ha2).1
  rw [← hpd, ← hpn, ← hpm, ← hpa]
  have hd0 : 0 ≤ (d : Int) := by omega
  have hn0 : 0 ≤ (n : Int) := by omega
  have hm0 : 0 ≤ (m : Int) := by omega
  have ha0 : 0 ≤ (a : Int) := by omega
  have hd3 : (d : Int) < 16 := by omega
  have hn3 : (n : Int) < 16 := by omega
  have hm3 : (m : Int) < 16 := by omega
  have ha3 : (a : Int) < 16 := by omega
  clear hpd hpn hpm hpa hd hn hm ha hl
  have hr0 : (30 ≤ o ∧ o ≤ 43) := hrr
  rcases (show o = 30 ∨ o = 31 ∨ o = 32 ∨ o = 33 ∨ (34 ≤ o ∧ o ≤ 42) ∨ o = 43 by omega) with hr | hr | hr | hr | hr | hr
  focus
    subst hr
    have hc : classS 30 = 3 := by rfl
    rw [hc] at CC
    have hx : unaryTakesS 30 = 1 := by rfl
    have hW : takesN i = 1 := by
      unfold takesN takesS secondS
      rw [ho, hc, hx]
      rfl
    have HR : Hid (maskOf pd pn pm pa l (takesN i) = pd) := by
      show _ = _
      rw [hW]
      show pd ||| 0 ||| 0 ||| 0 ||| 0 ||| 0 ||| 0 ||| 0 = _
      simp only [Nat.zero_or, Nat.or_zero]
    clear hW ho hc hx
  rotate_left 1
  focus
    subst hr
    have hc : classS 31 = 3 := by rfl
    rw [hc] at CC
    have hx : unaryTakesS 31 = 2 := by rfl
    have hW : takesN i = 2 := by
      unfold takesN takesS secondS
      rw [ho, hc, hx]
      rfl
    have HR : Hid (maskOf pd pn pm pa l (takesN i) = pn) := by
      show _ = _
      rw [hW]
      show 0 ||| pn ||| 0 ||| 0 ||| 0 ||| 0 ||| 0 ||| 0 = _
      simp only [Nat.zero_or, Nat.or_zero]
    clear hW ho hc hx
  rotate_left 1
  focus
    subst hr
    have hc : classS 32 = 3 := by rfl
    rw [hc] at CC
    have hx : unaryTakesS 32 = 2 := by rfl
    have hW : takesN i = 2 := by
      unfold takesN takesS secondS
      rw [ho, hc, hx]
      rfl
    have HR : Hid (maskOf pd pn pm pa l (takesN i) = pn) := by
      show _ = _
      rw [hW]
      show 0 ||| pn ||| 0 ||| 0 ||| 0 ||| 0 ||| 0 ||| 0 = _
      simp only [Nat.zero_or, Nat.or_zero]
    clear hW ho hc hx
  rotate_left 1
  focus
    subst hr
    have hc : classS 33 = 3 := by rfl
    rw [hc] at CC
    have hx : unaryTakesS 33 = 3 := by rfl
    have hW : takesN i = 3 := by
      unfold takesN takesS secondS
      rw [ho, hc, hx]
      rfl
    have HR : Hid (maskOf pd pn pm pa l (takesN i) = pd ||| pn) := by
      show _ = _
      rw [hW]
      show pd ||| pn ||| 0 ||| 0 ||| 0 ||| 0 ||| 0 ||| 0 = _
      simp only [Nat.zero_or, Nat.or_zero]
    clear hW ho hc hx
  rotate_left 1
  focus
    have hc : classS o = 3 := by unfold classS; (repeat' split) <;> omega
    rw [hc] at CC
    have hx : unaryTakesS o = 4 := by unfold unaryTakesS; (repeat' split) <;> omega
    have hW : takesN i = 4 := by
      unfold takesN takesS secondS
      rw [ho, hc, hx]
      rfl
    have HR : Hid (maskOf pd pn pm pa l (takesN i) = pm) := by
      show _ = _
      rw [hW]
      show 0 ||| 0 ||| pm ||| 0 ||| 0 ||| 0 ||| 0 ||| 0 = _
      simp only [Nat.zero_or, Nat.or_zero]
    have e13 : (o == 13) = false := by simp; omega
    have n13 : (o != 13) = true := by simp; omega
    have e15 : (o == 15) = false := by simp; omega
    have n15 : (o != 15) = true := by simp; omega
    have e43 : (o == 43) = false := by simp; omega
    have n43 : (o != 43) = true := by simp; omega
    have e22 : (o == 22) = false := by simp; omega
    have n22 : (o != 22) = true := by simp; omega
    have e23 : (o == 23) = false := by simp; omega
    have n23 : (o != 23) = true := by simp; omega
    have e26 : (o == 26) = false := by simp; omega
    have n26 : (o != 26) = true := by simp; omega
    have e27 : (o == 27) = false := by simp; omega
    have n27 : (o != 27) = true := by simp; omega
    have e30 : (o == 30) = false := by simp; omega
    have n30 : (o != 30) = true := by simp; omega
    have e33 : (o == 33) = false := by simp; omega
    have n33 : (o != 33) = true := by simp; omega
    have e31 : (o == 31) = false := by simp; omega
    have n31 : (o != 31) = true := by simp; omega
    have e32 : (o == 32) = false := by simp; omega
    have n32 : (o != 32) = true := by simp; omega
    have e53 : (o == 53) = false := by simp; omega
    have n53 : (o != 53) = true := by simp; omega
    have e56 : (o == 56) = false := by simp; omega
    have n56 : (o != 56) = true := by simp; omega
    have e57 : (o == 57) = false := by simp; omega
    have n57 : (o != 57) = true := by simp; omega
    have e58 : (o == 58) = false := by simp; omega
    have n58 : (o != 58) = true := by simp; omega
    have e59 : (o == 59) = false := by simp; omega
    have n59 : (o != 59) = true := by simp; omega
    have e62 : (o == 62) = false := by simp; omega
    have n62 : (o != 62) = true := by simp; omega
    have g34 : decide (34 ≤ o) = true := by simp; omega
    clear hW ho hc hx
  rotate_left 1
  focus
    cases ub
    focus
      subst hr
      have hc : classS 43 = 1 := by rfl
      rw [hc] at CC
      have hx : dataTakesS 43 = 0 := by rfl
      have hW : takesN i = 4 := by
        unfold takesN takesS secondS
        rw [ho, hc, hx, hu]
        rfl
      have HR : Hid (maskOf pd pn pm pa l (takesN i) = pm) := by
        show _ = _
        rw [hW]
        show 0 ||| 0 ||| pm ||| 0 ||| 0 ||| 0 ||| 0 ||| 0 = _
        simp only [Nat.zero_or, Nat.or_zero]
      clear hW ho hc hu hx
    rotate_left 1
    focus
      subst hr
      have hc : classS 43 = 1 := by rfl
      rw [hc] at CC
      have hx : dataTakesS 43 = 0 := by rfl
      have hW : takesN i = 0 := by
        unfold takesN takesS secondS
        rw [ho, hc, hx, hu]
        rfl
      have HR : Hid (maskOf pd pn pm pa l (takesN i) = 0) := by
        show _ = _
        rw [hW]
        show 0 ||| 0 ||| 0 ||| 0 ||| 0 ||| 0 ||| 0 ||| 0 = _
        simp only [Nat.zero_or, Nat.or_zero]
      clear hW ho hc hu hx
    rotate_left 1
  rotate_left 2
  all_goals
    go_enter Tryz.func79, Tryz.ntmps79
    have S := SH.start w
    go_wp2_with (first
     | ((with_reducible refine wpl_isDst 1 ?_); refine SH.box (L := []) S rfl 28 _ rfl (Cel.iv i) rfl ?_; clear S; intro b1 w1 S)
     | ((with_reducible refine g_ld 3 ?_); first | (refine wpl_skip rfl ?_) | (refine S.ld 3 _ rfl b1 0 rfl 0 _ rfl (.int .i64 _) HOP.out _ Tryz.underlying3 rfl rfl ?_) | (refine S.ld 3 _ rfl b1 5 rfl 0 _ rfl (.int .i64 _) HN.out _ Tryz.underlying3 rfl rfl ?_) | (refine S.ld 3 _ rfl b1 6 rfl 0 _ rfl (.int .i64 _) HM.out _ Tryz.underlying3 rfl rfl ?_) | (refine S.ld 3 _ rfl b1 7 rfl 0 _ rfl (.int .i64 _) HA.out _ Tryz.underlying3 rfl rfl ?_) | (refine S.ld 3 _ rfl b1 4 rfl 0 _ rfl (.int .i64 _) HD.out _ Tryz.underlying3 rfl rfl ?_) | (refine S.ld 3 _ rfl b1 12 rfl 0 _ rfl (.int .i64 _) HL.out _ Tryz.underlying3 rfl rfl ?_))
     | (go_at_call 51; refine (CC.out _).mono ?_; rintro e wf ⟨rfl, rfl⟩)
     | ((with_reducible refine g_ld 4 ?_); (refine S.ld 4 _ rfl b1 9 rfl 0 _ rfl (.bool _) HU.out _ Tryz.underlying4 rfl rfl ?_))
     | ((with_reducible refine wpl_isDst 132 ?_); refine S.ldAll 28 _ rfl b1 rfl 0 _ rfl _ Tryz.underlying28 rfl (szIV _) rfl ?_)
     | (go_at_call 48; refine (CS.out _).mono ?_; rintro e wf ⟨rfl, hbf⟩; replace S := S.below hbf; clear hbf))
    go_ret
    refine ⟨congrArg (fun x : Int => Ending.returned (Value.int .i64 x)) ?_, S.low⟩
    rw [HR.out]
    try simp only [HPD.out, HPN.out, HPM.out, HPA.out, or0, orC, or0l, or_lt, pd2, pn2, pm2, pa2, l2]
    all_goals first | rfl | (refine congrArg (fun x : Nat => (x : Int)) ?_; ac_rfl)
end Go.Proofs.YtplhblhopaheeaaGreatDoor
