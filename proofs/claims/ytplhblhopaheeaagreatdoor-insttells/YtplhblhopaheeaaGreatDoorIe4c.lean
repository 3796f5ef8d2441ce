/- Stage 9: the document's written, as a mask (c) -/
import Derived.Test.YtplhblhopaheeaaGreatDoorYc
import Derived.Test.YtplhblhopaheeaaGreatDoorYa
namespace Go.Proofs.YtplhblhopaheeaaGreatDoor
open Go.ChangeShapes Go.WideShapes Go.ChangeAt Go.RowKit
set_option linter.unusedVariables false
set_option linter.unusedSimpArgs false
set_option maxHeartbeats 20000000
set_option maxRecDepth 100000

theorem rwritten_c1 (i : IV) (d n m a l : Nat) (hd : i.d = d) (hn : i.n = n) (hm : i.m = m) (ha : i.a = a) (hl : i.list = l) (hd2 : d < 16) (hn2 : n < 16) (hm2 : m < 16) (ha2 : a < 16) (l2 : l < 65536) (w : World)
    (CC : Hid (∀ w1, Calls Tryz.prog 51 #[.int .i64 i.op] w1 fun e w' => e = .returned (.int .i64 (classS i.op)) ∧ w' = w1)) (CS : Hid (∀ w1, Calls Tryz.prog 48 #[i.val] w1 fun e w' => e = .returned (.bool (storesI i.op)) ∧ Below w1.heap.size w1 w')) (CB : Hid (∀ w1, Calls Tryz.prog 46 #[i.val] w1 fun e w' => e = .returned (.bool (branchesI i l)) ∧ Below w1.heap.size w1 w')) (CF : Hid (∀ w1, Calls Tryz.prog 53 #[.int .i64 i.op] w1 fun e w' => e = .returned (.bool (comparesS i.op)) ∧ w' = w1)) (hrr : 54 ≤ i.op) :
    Calls Tryz.prog 80 #[i.val] w fun e w' => e = .returned (.int .i64 ((maskOf (2 ^ d) (2 ^ n) (2 ^ m) (2 ^ a) l (givesN i) : Nat) : Int)) ∧ Below w.heap.size w w' := by
  have HD : Hid ((Cel.iv i).cells[4]? = some (.int .i64 (d : Int))) := by
    show some (Value.int .i64 i.d) = _
    rw [hd]
  have HN : Hid ((Cel.iv i).cells[5]? = some (.int .i64 (n : Int))) := by
    show some (Value.int .i64 i.n) = _
    rw [hn]
  have HM : Hid ((Cel.iv i).cells[6]? = some (.int .i64 (m : Int))) := by
    show some (Value.int .i64 i.m) = _
    rw [hm]
  have HA : Hid ((Cel.iv i).cells[7]? = some (.int .i64 (a : Int))) := by
    show some (Value.int .i64 i.a) = _
    rw [ha]
  have HL : Hid ((Cel.iv i).cells[12]? = some (.int .i64 (l : Int))) := by
    show some (Value.int .i64 i.list) = _
    rw [hl]
  obtain ⟨o, ho⟩ : ∃ o, i.op = o := ⟨_, rfl⟩
  obtain ⟨ub, hu⟩ : ∃ u, i.back = u := ⟨_, rfl⟩
  have HOP : Hid ((Cel.iv i).cells[0]? = some (.int .i64 o)) := by
    show some (Value.int .i64 i.op) = _
    rw [ho]
  have HU : Hid ((Cel.iv i).cells[13]? = some (.bool ub)) := by
    show some (Value.bool i.back) = _
    rw [hu]
  rw [ho] at CC CS CF hrr
  obtain ⟨pd, hpd⟩ : ∃ p, p = 2 ^ d := ⟨_, rfl⟩
  obtain ⟨pn, hpn⟩ : ∃ p, p = 2 ^ n := ⟨_, rfl⟩
  obtain ⟨pm, hpm⟩ : ∃ p, p = 2 ^ m := ⟨_, rfl⟩
  obtain ⟨pa, hpa⟩ : ∃ p, p = 2 ^ a := ⟨_, rfl⟩
  have pd2 : pd < 65536 := by rw [hpd]; exact (w2 d hd2).2
  have pn2 : pn < 65536 := by rw [hpn]; exact (w2 n hn2).2
  have pm2 : pm < 65536 := by rw [hpm]; exact (w2 m hm2).2
  have pa2 : pa < 65536 := by rw [hpa]; exact (w2 a ha2).2
  have HPD : Hid (wrap64 ((2 : Int) ^ d) = (pd : Int)) := by rw [hpd]; exact (w2 d hd2).1
  have HPN : Hid (wrap64 ((2 : Int) ^ n) = (pn : Int)) := by rw [hpn]; exact (w2 n hn2).1
  have HPM : Hid (wrap64 ((2 : Int) ^ m) = (pm : Int)) := by rw [hpm]; exact (w2 m hm2).1
  have HPA : Hid (wrap64 ((2 : Int) ^ a) = (pa : Int)) := by rw [hpa]; exact (w2 a ha2).1
  rw [← hpd, ← hpn, ← hpm, ← hpa]
  have hd0 : 0 ≤ (d : Int) := by omega
  have hn0 : 0 ≤ (n : Int) := by omega
  have hm0 : 0 ≤ (m : Int) := by omega
  have ha0 : 0 ≤ (a : Int) := by omega
  have hd3 : (d : Int) < 16 := by omega
  have hn3 : (n : Int) < 16 := by omega
  have hm3 : (m : Int) < 16 := by omega
  have ha3 : (a : Int) < 16 := by omega
  clear hpd hpn hpm hpa hd hn hm ha hl
  have hr0 : 54 ≤ o := hrr
  rcases (show o = 54 ∨ o = 55 ∨ o = 56 ∨ o = 57 ∨ (58 ≤ o ∧ o ≤ 59) ∨ (60 ≤ o ∧ o ≤ 61) ∨ o = 62 ∨ (63 ≤ o ∧ o ≤ 65) ∨ 66 ≤ o by omega) with hr | hr | hr | hr | hr | hr | hr | hr | hr
  focus
    subst hr
    have hc : classS 54 = 6 := by rfl
    have hf : comparesS 54 = false := by rfl
    have hs : storesI 54 = false := by rfl
    have hld : loadsI 54 = false := by rfl
    have hbr : branchesI i l = true := by
      unfold branchesI
      rw [ho, hc]
      rfl
    rw [hc] at CC
    rw [hf] at CF
    rw [hs] at CS
    rw [hbr] at CB
    have hx : restGivesS 54 = 128 := by rfl
    have hW : givesN i = 128 := by
      unfold givesN givesS manyGivesS
      simp only [ho, hc, hf, hld, hx]
      first | rfl | (rw [if_neg (by omega)]; rfl) | (rw [if_pos (by decide), if_neg (by omega)]; rfl) | (simp; done) | (simp; omega)
    have HR : Hid (maskOf pd pn pm pa l (givesN i) = 32768) := by
      show _ = _
      rw [hW]
      show 0 ||| 0 ||| 0 ||| 0 ||| 0 ||| 0 ||| 0 ||| 32768 = _
      simp only [Nat.zero_or, Nat.or_zero]
    have HTB : Hid (l ||| 32768 = l ∨ True) := .inr trivial
    clear hW ho hc hf hs hbr hld hx
  rotate_left 1
  focus
    subst hr
    have hc : classS 55 = 6 := by rfl
    have hf : comparesS 55 = false := by rfl
    have hs : storesI 55 = false := by rfl
    have hld : loadsI 55 = false := by rfl
    have hbr : branchesI i l = true := by
      unfold branchesI
      rw [ho, hc]
      rfl
    rw [hc] at CC
    rw [hf] at CF
    rw [hs] at CS
    rw [hbr] at CB
    have hx : restGivesS 55 = 192 := by rfl
    have hW : givesN i = 192 := by
      unfold givesN givesS manyGivesS
      simp only [ho, hc, hf, hld, hx]
      first | rfl | (rw [if_neg (by omega)]; rfl) | (rw [if_pos (by decide), if_neg (by omega)]; rfl) | (simp; done) | (simp; omega)
    have HR : Hid (maskOf pd pn pm pa l (givesN i) = 16384 ||| 32768) := by
      show _ = _
      rw [hW]
      show 0 ||| 0 ||| 0 ||| 0 ||| 0 ||| 0 ||| 16384 ||| 32768 = _
      simp only [Nat.zero_or, Nat.or_zero]
    have HTB : Hid (l ||| 32768 = l ∨ True) := .inr trivial
    clear hW ho hc hf hs hbr hld hx
  rotate_left 1
  focus
    subst hr
    have hc : classS 56 = 6 := by rfl
    have hf : comparesS 56 = false := by rfl
    have hs : storesI 56 = false := by rfl
    have hld : loadsI 56 = false := by rfl
    have hbr : branchesI i l = true := by
      unfold branchesI
      rw [ho, hc]
      rfl
    rw [hc] at CC
    rw [hf] at CF
    rw [hs] at CS
    rw [hbr] at CB
    have hx : restGivesS 56 = 128 := by rfl
    have hW : givesN i = 128 := by
      unfold givesN givesS manyGivesS
      simp only [ho, hc, hf, hld, hx]
      first | rfl | (rw [if_neg (by omega)]; rfl) | (rw [if_pos (by decide), if_neg (by omega)]; rfl) | (simp; done) | (simp; omega)
    have HR : Hid (maskOf pd pn pm pa l (givesN i) = 32768) := by
      show _ = _
      rw [hW]
      show 0 ||| 0 ||| 0 ||| 0 ||| 0 ||| 0 ||| 0 ||| 32768 = _
      simp only [Nat.zero_or, Nat.or_zero]
    have HTB : Hid (l ||| 32768 = l ∨ True) := .inr trivial
    clear hW ho hc hf hs hbr hld hx
  rotate_left 1
  focus
    subst hr
    have hc : classS 57 = 6 := by rfl
    have hf : comparesS 57 = false := by rfl
    have hs : storesI 57 = false := by rfl
    have hld : loadsI 57 = false := by rfl
    have hbr : branchesI i l = true := by
      unfold branchesI
      rw [ho, hc]
      rfl
    rw [hc] at CC
    rw [hf] at CF
    rw [hs] at CS
    rw [hbr] at CB
    have hx : restGivesS 57 = 192 := by rfl
    have hW : givesN i = 192 := by
      unfold givesN givesS manyGivesS
      simp only [ho, hc, hf, hld, hx]
      first | rfl | (rw [if_neg (by omega)]; rfl) | (rw [if_pos (by decide), if_neg (by omega)]; rfl) | (simp; done) | (simp; omega)
    have HR : Hid (maskOf pd pn pm pa l (givesN i) = 16384 ||| 32768) := by
      show _ = _
      rw [hW]
      show 0 ||| 0 ||| 0 ||| 0 ||| 0 ||| 0 ||| 16384 ||| 32768 = _
      simp only [Nat.zero_or, Nat.or_zero]
    have HTB : Hid (l ||| 32768 = l ∨ True) := .inr trivial
    clear hW ho hc hf hs hbr hld hx
  rotate_left 1
  focus
    have hc : classS o = 6 := by unfold classS; (repeat' split) <;> omega
    have hf : comparesS o = false := by unfold comparesS; (repeat' split) <;> first | rfl | omega
    have e52 : (o == 52) = false := by simp; omega
    have n52 : (o != 52) = true := by simp; omega
    have e55 : (o == 55) = false := by simp; omega
    have n55 : (o != 55) = true := by simp; omega
    have e57 : (o == 57) = false := by simp; omega
    have n57 : (o != 57) = true := by simp; omega
    have e62 : (o == 62) = false := by simp; omega
    have n62 : (o != 62) = true := by simp; omega
    have g24 : decide (24 ≤ o) = true := by simp; omega
    have g27 : decide (o ≤ 27) = false := by simp; omega
    have hs : storesI o = false := by simp [storesI]; omega
    have hld : loadsI o = false := by simp [loadsI]; omega
    have hbr : branchesI i l = true := by
      unfold branchesI
      rw [ho, hc]
      simp [e52]
    rw [hc] at CC
    rw [hf] at CF
    rw [hs] at CS
    rw [hbr] at CB
    have hx : restGivesS o = 128 := by unfold restGivesS; (repeat' split) <;> omega
    have hW : givesN i = 128 := by
      unfold givesN givesS manyGivesS
      simp only [ho, hc, hf, hld, hx]
      first | rfl | (rw [if_neg (by omega)]; rfl) | (rw [if_pos (by decide), if_neg (by omega)]; rfl) | (simp; done) | (simp; omega)
    have HR : Hid (maskOf pd pn pm pa l (givesN i) = 32768) := by
      show _ = _
      rw [hW]
      show 0 ||| 0 ||| 0 ||| 0 ||| 0 ||| 0 ||| 0 ||| 32768 = _
      simp only [Nat.zero_or, Nat.or_zero]
    have HTB : Hid (l ||| 32768 = l ∨ True) := .inr trivial
    clear hW ho hc hf hs hbr hld hx
  rotate_left 1
  focus
    have hc : classS o = 7 := by unfold classS; (repeat' split) <;> omega
    have hf : comparesS o = false := by unfold comparesS; (repeat' split) <;> first | rfl | omega
    have e52 : (o == 52) = false := by simp; omega
    have n52 : (o != 52) = true := by simp; omega
    have e55 : (o == 55) = false := by simp; omega
    have n55 : (o != 55) = true := by simp; omega
    have e57 : (o == 57) = false := by simp; omega
    have n57 : (o != 57) = true := by simp; omega
    have e62 : (o == 62) = false := by simp; omega
    have n62 : (o != 62) = true := by simp; omega
    have g24 : decide (24 ≤ o) = true := by simp; omega
    have g27 : decide (o ≤ 27) = false := by simp; omega
    have hs : storesI o = false := by simp [storesI]; omega
    have hld : loadsI o = false := by simp [loadsI]; omega
    have hbr : branchesI i l = false := by
      unfold branchesI
      rw [ho, hc]
      simp [e52]
    rw [hc] at CC
    rw [hf] at CF
    rw [hs] at CS
    rw [hbr] at CB
    have hx : restGivesS o = 0 := by unfold restGivesS; (repeat' split) <;> omega
    have hW : givesN i = 0 := by
      unfold givesN givesS manyGivesS
      simp only [ho, hc, hf, hld, hx]
      first | rfl | (rw [if_neg (by omega)]; rfl) | (rw [if_pos (by decide), if_neg (by omega)]; rfl) | (simp; done) | (simp; omega)
    have HR : Hid (maskOf pd pn pm pa l (givesN i) = 0) := by
      show _ = _
      rw [hW]
      show 0 ||| 0 ||| 0 ||| 0 ||| 0 ||| 0 ||| 0 ||| 0 = _
      simp only [Nat.zero_or, Nat.or_zero]
    have HTB : Hid (l ||| 32768 = l ∨ True) := .inr trivial
    clear hW ho hc hf hs hbr hld hx
  rotate_left 1
  focus
    subst hr
    have hc : classS 62 = 7 := by rfl
    have hf : comparesS 62 = false := by rfl
    have hs : storesI 62 = false := by rfl
    have hld : loadsI 62 = false := by rfl
    have hbr : branchesI i l = false := by
      unfold branchesI
      rw [ho, hc]
      cases l.testBit 15 <;> rfl
    rw [hc] at CC
    rw [hf] at CF
    rw [hs] at CS
    rw [hbr] at CB
    have hx : restGivesS 62 = 32 := by rfl
    have hW : givesN i = 32 := by
      unfold givesN givesS manyGivesS
      simp only [ho, hc, hf, hld, hx]
      first | rfl | (rw [if_neg (by omega)]; rfl) | (rw [if_pos (by decide), if_neg (by omega)]; rfl) | (simp; done) | (simp; omega)
    have HR : Hid (maskOf pd pn pm pa l (givesN i) = 1) := by
      show _ = _
      rw [hW]
      show 0 ||| 0 ||| 0 ||| 0 ||| 0 ||| 1 ||| 0 ||| 0 = _
      simp only [Nat.zero_or, Nat.or_zero]
    have HTB : Hid (l ||| 32768 = l ∨ True) := .inr trivial
    clear hW ho hc hf hs hbr hld hx
  rotate_left 1
  focus
    have hc : classS o = 7 := by unfold classS; (repeat' split) <;> omega
    have hf : comparesS o = false := by unfold comparesS; (repeat' split) <;> first | rfl | omega
    have e52 : (o == 52) = false := by simp; omega
    have n52 : (o != 52) = true := by simp; omega
    have e55 : (o == 55) = false := by simp; omega
    have n55 : (o != 55) = true := by simp; omega
    have e57 : (o == 57) = false := by simp; omega
    have n57 : (o != 57) = true := by simp; omega
    have e62 : (o == 62) = false := by simp; omega
    have n62 : (o != 62) = true := by simp; omega
    have g24 : decide (24 ≤ o) = true := by simp; omega
    have g27 : decide (o ≤ 27) = false := by simp; omega
    have hs : storesI o = false := by simp [storesI]; omega
    have hld : loadsI o = false := by simp [loadsI]; omega
    have hbr : branchesI i l = false := by
      unfold branchesI
      rw [ho, hc]
      simp [e52]
    rw [hc] at CC
    rw [hf] at CF
    rw [hs] at CS
    rw [hbr] at CB
    have hx : restGivesS o = 0 := by unfold restGivesS; (repeat' split) <;> omega
    have hW : givesN i = 0 := by
      unfold givesN givesS manyGivesS
      simp only [ho, hc, hf, hld, hx]
      first | rfl | (rw [if_neg (by omega)]; rfl) | (rw [if_pos (by decide), if_neg (by omega)]; rfl) | (simp; done) | (simp; omega)
    have HR : Hid (maskOf pd pn pm pa l (givesN i) = 0) := by
      show _ = _
      rw [hW]
      show 0 ||| 0 ||| 0 ||| 0 ||| 0 ||| 0 ||| 0 ||| 0 = _
      simp only [Nat.zero_or, Nat.or_zero]
    have HTB : Hid (l ||| 32768 = l ∨ True) := .inr trivial
    clear hW ho hc hf hs hbr hld hx
  rotate_left 1
  focus
    have hc : classS o = 0 := by unfold classS; (repeat' split) <;> omega
    have hf : comparesS o = false := by unfold comparesS; (repeat' split) <;> first | rfl | omega
    have e52 : (o == 52) = false := by simp; omega
    have n52 : (o != 52) = true := by simp; omega
    have e55 : (o == 55) = false := by simp; omega
    have n55 : (o != 55) = true := by simp; omega
    have e57 : (o == 57) = false := by simp; omega
    have n57 : (o != 57) = true := by simp; omega
    have e62 : (o == 62) = false := by simp; omega
    have n62 : (o != 62) = true := by simp; omega
    have g24 : decide (24 ≤ o) = true := by simp; omega
    have g27 : decide (o ≤ 27) = false := by simp; omega
    have hs : storesI o = false := by simp [storesI]; omega
    have hld : loadsI o = false := by simp [loadsI]; omega
    have hbr : branchesI i l = false := by
      unfold branchesI
      rw [ho, hc]
      simp [e52]
    rw [hc] at CC
    rw [hf] at CF
    rw [hs] at CS
    rw [hbr] at CB
    have hx : restGivesS o = 0 := by unfold restGivesS; (repeat' split) <;> omega
    have hW : givesN i = 0 := by
      unfold givesN givesS manyGivesS
      simp only [ho, hc, hf, hld, hx]
      first | rfl | (rw [if_neg (by omega)]; rfl) | (rw [if_pos (by decide), if_neg (by omega)]; rfl) | (simp; done) | (simp; omega)
    have HR : Hid (maskOf pd pn pm pa l (givesN i) = 0) := by
      show _ = _
      rw [hW]
      show 0 ||| 0 ||| 0 ||| 0 ||| 0 ||| 0 ||| 0 ||| 0 = _
      simp only [Nat.zero_or, Nat.or_zero]
    have HTB : Hid (l ||| 32768 = l ∨ True) := .inr trivial
    clear hW ho hc hf hs hbr hld hx
  rotate_left 1
  all_goals
    go_enter Tryz.func80, Tryz.ntmps80
    have S := SH.start w
    go_wp2_with (first
     | ((with_reducible refine wpl_isDst 1 ?_); refine SH.box (L := []) S rfl 28 _ rfl (Cel.iv i) rfl ?_; clear S; intro b1 w1 S)
     | ((with_reducible refine g_ld 3 ?_); first | (refine wpl_skip rfl ?_) | (refine S.ld 3 _ rfl b1 0 rfl 0 _ rfl (.int .i64 _) HOP.out _ Tryz.underlying3 rfl rfl ?_) | (refine S.ld 3 _ rfl b1 4 rfl 0 _ rfl (.int .i64 _) HD.out _ Tryz.underlying3 rfl rfl ?_) | (refine S.ld 3 _ rfl b1 7 rfl 0 _ rfl (.int .i64 _) HA.out _ Tryz.underlying3 rfl rfl ?_) | (refine S.ld 3 _ rfl b1 12 rfl 0 _ rfl (.int .i64 _) HL.out _ Tryz.underlying3 rfl rfl ?_) | (refine S.ld 3 _ rfl b1 5 rfl 0 _ rfl (.int .i64 _) HN.out _ Tryz.underlying3 rfl rfl ?_))
     | (go_at_call 51; refine (CC.out _).mono ?_; rintro e wf ⟨rfl, rfl⟩)
     | (go_at_call 53; refine (CF.out _).mono ?_; rintro e wf ⟨rfl, rfl⟩)
     | ((with_reducible refine wpl_isDst 47 ?_); refine S.ldAll 28 _ rfl b1 rfl 0 _ rfl _ Tryz.underlying28 rfl (szIV _) rfl ?_)
     | (go_at_call 48; refine (CS.out _).mono ?_; rintro e wf ⟨rfl, hbf⟩; replace S := S.below hbf; clear hbf)
     | ((with_reducible refine g_ld 4 ?_); (refine S.ld 4 _ rfl b1 13 rfl 0 _ rfl (.bool _) HU.out _ Tryz.underlying4 rfl rfl ?_))
     | ((with_reducible refine wpl_isDst 86 ?_); refine S.ldAll 28 _ rfl b1 rfl 0 _ rfl _ Tryz.underlying28 rfl (szIV _) rfl ?_)
     | (go_at_call 46; refine (CB.out _).mono ?_; rintro e wf ⟨rfl, hbf⟩; replace S := S.below hbf; clear hbf))
    go_ret
    refine ⟨congrArg (fun x : Int => Ending.returned (Value.int .i64 x)) ?_, S.low⟩
    rw [HR.out]
    try simp only [HPD.out, HPN.out, HPM.out, HPA.out, or0, orC, or0l, or014, or015, orK14, orK15, or_lt, pd2, pn2, pm2, pa2, l2, k14]
    all_goals first | rfl | (refine congrArg (fun x : Nat => (x : Int)) ?_; first | rfl | ac_rfl | exact orT _ _ HTB.out | exact orT0 _ HTB.out)
end Go.Proofs.YtplhblhopaheeaaGreatDoor
