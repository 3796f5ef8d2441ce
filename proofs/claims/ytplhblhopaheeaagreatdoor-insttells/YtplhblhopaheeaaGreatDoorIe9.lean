/- Stage 7: whatever the document's wide decoder tells is told alike by both sides (built in /work/z: mkz7.sh). -/
import Derived.Test.YtplhblhopaheeaaGreatDoorYe
import Derived.Test.YtplhblhopaheeaaGreatDoorYj
namespace Go.Proofs.YtplhblhopaheeaaGreatDoor
open Go.ChangeShapes Go.WideShapes Go.ChangeAt Go.RowKit
set_option linter.unusedVariables false
set_option linter.unusedSimpArgs false

def R16 (x : Int) : Prop := 0 ≤ x ∧ x < 16
theorem r16_0 : R16 0 := ⟨by decide, by decide⟩
theorem r16_1 : R16 1 := ⟨by decide, by decide⟩
theorem r16_2 : R16 2 := ⟨by decide, by decide⟩
theorem r16_fd (x a : Nat) : R16 (fd_w x a 4 : Nat) := by
  have : fd_w x a 4 < 16 := Nat.mod_lt _ (by decide)
  exact ⟨by omega, by omega⟩
def FitP (i : IV) : Prop := R16 i.d ∧ R16 i.n ∧ R16 i.m ∧ R16 i.a ∧ i.list = 0 ∧ i.back = false ∧ (i.op = 43 → i.s = false)
theorem fit_none (op w : Nat) : FitI (noneI op w) :=
  fit_of (noneI op w) 0 0 0 0 0 rfl rfl rfl rfl rfl (by decide) (by decide) (by decide) (by decide) (by decide) (fun _ => rfl) (.inr ⟨by decide, fun _ => by decide, fun e => (by cases e), fun e => (by cases e)⟩)
theorem mayD_15 (i : IV) (h : mayD i = true) : i.d ≠ 15 := fun e => by
  unfold mayD at h
  rw [e] at h
  simp [resS] at h
theorem fit_checked (i : IV) (ok : Bool) (w : Nat) (h : FitP i) : FitI (checkedI i ok w) := by
  unfold checkedI
  cases hc : (!ok || (resS i.m || (resS i.a || (!mayD i || !mayN i))))
  · simp only [Bool.or_eq_false_iff, Bool.not_eq_false'] at hc
    obtain ⟨h1, h2, h3, h4, h5⟩ := hc
    obtain ⟨⟨d1, d2⟩, ⟨n1, n2⟩, ⟨m1, m2⟩, ⟨a1, a2⟩, hl, hb, h43⟩ := h
    have hd := mayD_15 i h4
    have ha : i.a ≠ 15 := fun e => by
      rw [e] at h3
      cases h3
    show FitI i
    refine fit_of i i.d.toNat i.n.toNat i.m.toNat i.a.toNat 0 (by omega) (by omega) (by omega) (by omega) hl (by omega) (by omega) (by omega) (by omega) (by decide) h43 (.inr ⟨by omega, fun _ => by omega, fun e => ?_, fun e => (by cases e)⟩)
    rw [hb] at e
    cases e
  · exact fit_none 65 w
theorem fit_many (ldm back down ok : Bool) (n l x w : Nat) (hn : n < 16) (hl : l < 65536) (hok : ok = mayL ldm l n back) : FitI (checkedI (manyI ldm n l back down) ok w) := by
  unfold checkedI
  cases hc : (!ok || (resS (manyI ldm n l back down).m || (resS (manyI ldm n l back down).a || (!mayD (manyI ldm n l back down) || !mayN (manyI ldm n l back down)))))
  · simp only [Bool.or_eq_false_iff, Bool.not_eq_false'] at hc
    obtain ⟨h1, h2, h3, h4, h5⟩ := hc
    rw [hok] at h1
    have hn15 : n ≠ 15 := fun e => by
      subst e
      cases ldm <;> cases back <;> cases down <;> cases h5
    have hs : ldm = false → l.testBit 15 = false := fun e => by
      subst e
      unfold mayL at h1
      simp only [Bool.and_eq_true, cond_false] at h1
      have h2 := Nat.eq_of_beq_eq_true h1.2
      unfold fd_w at h2
      rw [Nat.testBit_eq_decide_div_mod_eq]
      simp only [decide_eq_false_iff_not]
      omega
    show FitI (manyI ldm n l back down)
    refine fit_of (manyI ldm n l back down) 0 n 0 0 l rfl rfl rfl rfl rfl (by decide) hn (by decide) (by decide) hl ?_ (.inr ⟨by decide, fun _ => by decide, fun _ => hn15, fun e => ?_⟩)
    · intro e
      cases ldm <;> cases e
    · cases ldm
      · rw [hs rfl] at e
        cases e
      · rfl
  · exact fit_none 65 w
theorem fit_br (op cond v : Int) (h : op = 54 ∨ op = 55) : FitI (brI op cond v) := by
  refine fit_of (brI op cond v) 0 0 0 0 0 rfl rfl rfl rfl rfl (by decide) (by decide) (by decide) (by decide) (by decide) (fun _ => rfl) (.inl ?_)
  rcases h with rfl | rfl <;> rfl
theorem fit_branch (x : Nat) : FitI (branchI x) := by
  unfold branchI branchG condI
  cases Nat.beq (fd_w x 12 1) 0
  · cases Nat.beq (fd_w x 14 1) 0
    · exact fit_br 55 14 _ (.inr rfl)
    · exact fit_br 54 14 _ (.inl rfl)
  · cases Nat.beq (fd_w x 14 1) 0
    · exact fit_none 64 x
    · cases Nat.ble 14 (fd_w x 22 4)
      · exact fit_br 54 _ _ (.inl rfl)
      · exact fit_none 64 x
theorem less_ne (q : Int) (h : q ≠ 43) : lessD q ≠ 43 ∧ lessN q ≠ 43 := by
  constructor
  · unfold lessD
    (repeat' split) <;> omega
  · unfold lessN
    (repeat' split) <;> omega
theorem dataJ_p (q d n : Int) (s : Bool) (hq : q ≠ 43) (hd : R16 d) (hn : R16 n) : FitP (dataJ q d n s) := by
  have h1 := less_ne q hq
  have h2 := less_ne (lessD q) h1.1
  unfold dataJ
  cases lessD q != q && (s && d == 15)
  · cases lessN q != q && n == 15
    · exact ⟨hd, hn, r16_0, r16_0, rfl, rfl, fun e => absurd e hq⟩
    · exact ⟨hd, r16_0, r16_0, r16_0, rfl, rfl, fun e => absurd e h1.2⟩
  · cases lessN (lessD q) != lessD q && n == 15
    · exact ⟨r16_0, hn, r16_0, r16_0, rfl, rfl, fun e => absurd e h1.1⟩
    · exact ⟨r16_0, r16_0, r16_0, r16_0, rfl, rfl, fun e => absurd e h2.2⟩
theorem dataX_p (x : Nat) : FitP (dataX x) := by
  unfold dataX
  refine dataJ_p _ _ _ _ ?_ (r16_fd _ _) (r16_fd _ _)
  unfold dataOpS
  (repeat' split) <;> omega
theorem second_p (i : IV) (v a : Int) (h : FitP i) (ha : R16 a) : FitP (secondI i v a) := ⟨h.1, h.2.1, h.2.2.1, ha, h.2.2.2.2⟩
theorem reg_p (i : IV) (m sh amt : Int) (h : FitP i) (hm : R16 m) : FitP (regI i m sh amt) := ⟨h.1, h.2.1, hm, h.2.2.2⟩
theorem mem_p (i : IV) (m amt : Int) (h : FitP i) (hm : R16 m) : FitP (memI i m amt) := ⟨h.1, h.2.1, hm, h.2.2.2⟩
theorem imm_p (i : IV) (v : Int) (h : FitP i) : FitP (immI i v) := h
theorem start_p (op d n : Int) (hd : R16 d) (hn : R16 n) : FitP (startI op d n) := ⟨hd, hn, r16_0, r16_0, rfl, rfl, fun _ => rfl⟩
theorem r4_p (op : Int) (s : Bool) (d n m a : Int) (hd : R16 d) (hn : R16 n) (hm : R16 m) (ha : R16 a) (h : op = 43 → s = false) : FitP (r4 op s d n m a) := ⟨hd, hn, hm, ha, rfl, rfl, h⟩
theorem fit_mod (x : Nat) : FitI (modX x) := by
  unfold modX
  cases (dataX x).op == 64
  · refine fit_checked _ _ _ (second_p _ _ _ (dataX_p x) ?_)
    cases Nat.beq (numX x / 1024) 0
    · exact r16_1
    · exact r16_0
  · exact fit_none 64 x
theorem fit_shi (x : Nat) : FitI (shiX x) := by
  unfold shiX
  cases (dataX x).op == 64 || fd_w x 15 1 != 0
  · exact fit_checked _ _ _ (reg_p _ _ _ _ (dataX_p x) (r16_fd _ _))
  · exact fit_none 64 x
theorem fit_bit (op : Int) (x : Nat) : FitI (bitX op x) := by
  unfold bitX
  cases fd_w x 26 1 != 0 || fd_w x 5 1 != 0
  · exact fit_checked _ _ _ (imm_p _ _ (start_p _ _ _ (r16_fd _ _) (r16_fd _ _)))
  · exact fit_none 64 x
theorem fit_pla (x : Nat) : FitI (plaX x) := by
  unfold plaX
  cases Nat.beq (fd_w x 20 5) 0
  · cases Nat.beq (fd_w x 20 5) 10
    · cases Nat.beq (fd_w x 20 5) 4
      · cases Nat.beq (fd_w x 20 5) 12
        · cases Nat.beq (fd_w x 20 5) 20
          · cases Nat.beq (fd_w x 20 5) 28
            · cases Nat.beq (fd_w x 20 5) 22
              · exact fit_none 64 x
              · exact fit_bit _ _
            · exact fit_bit _ _
          · exact fit_bit _ _
        · exact fit_checked _ _ _ (imm_p _ _ (start_p _ _ _ (r16_fd _ _) r16_0))
      · exact fit_checked _ _ _ (second_p _ _ _ (start_p _ _ _ (r16_fd _ _) r16_0) r16_2)
    · exact fit_checked _ _ _ (second_p _ _ _ (start_p _ _ _ (r16_fd _ _) (r16_fd _ _)) r16_2)
  · exact fit_checked _ _ _ (second_p _ _ _ (start_p _ _ _ (r16_fd _ _) (r16_fd _ _)) r16_2)
theorem fit_mem (x : Nat) : FitI (memX x) := by
  unfold memX litX
  cases memOp_w (fd_w x 24 1) (fd_w x 20 3) == 64
  · cases Nat.beq (fd_w x 16 4) 15
    · cases Nat.beq (fd_w x 23 1) 0
      · exact fit_checked _ _ _ (second_p _ _ _ (start_p _ _ _ (r16_fd _ _) (r16_fd _ _)) r16_0)
      · cases Nat.beq (fd_w x 6 6) 0
        · exact fit_none 64 x
        · exact fit_checked _ _ _ (mem_p _ _ _ (start_p _ _ _ (r16_fd _ _) (r16_fd _ _)) (r16_fd _ _))
    · cases Nat.beq (fd_w x 20 1) 0
      · cases Nat.beq (fd_w x 23 1) 0
        · exact fit_checked _ _ _ (second_p _ _ _ (start_p _ _ _ (r16_fd _ _) (r16_fd _ _)) r16_0)
        · exact fit_checked _ _ _ (second_p _ _ _ (start_p _ _ _ (r16_fd _ _) (r16_fd _ _)) r16_0)
      · exact fit_none 64 x
  · exact fit_none 64 x
theorem fit_man (x : Nat) : FitI (manX x) := by
  have h1 : fd_w x 16 4 < 16 := Nat.mod_lt _ (by decide)
  have h2 : fd_w x 0 16 < 65536 := Nat.mod_lt _ (by decide)
  unfold manX
  cases Nat.beq (fd_w x 22 3) 2
  · cases Nat.beq (fd_w x 22 3) 4
    · exact fit_none 64 x
    · exact fit_many _ _ _ _ _ _ x x h1 h2 rfl
  · exact fit_many _ _ _ _ _ _ x x h1 h2 rfl
theorem if_Q (P : Int → Prop) (c : Prop) [Decidable c] (a b : Int) (ha : P a) (hb : P b) : P (if c then a else b) := by
  split
  · exact ha
  · exact hb
theorem regOpY_ne (y : Int) : regOpY y ≠ 43 := by
  show (fun z : Int => z ≠ 43) (regOpY y)
  unfold regOpY
  repeat (first | (exact (by decide : (64 : Int) ≠ 43)) | refine if_Q (fun z : Int => z ≠ 43) _ _ _ (by decide) ?_)
theorem regOp_ne (x : Nat) : regOp x ≠ 43 := regOpY_ne _
theorem fit_regG (p d n m a : Int) (s : Bool) (x : Nat) (hp : p ≠ 43) (hd : R16 d) (hn : R16 n) (hm : R16 m) (ha : R16 a) : FitI (regG p d n m a s x) := by
  have q : ∀ t : Bool, p = 43 → t = false := fun _ e => absurd e hp
  unfold regG unaG
  cases p == 64
  · cases p == 25 || (p == 24 || (p == 27 || p == 26))
    · cases p == 22 || p == 23
      · cases a != 15
        · cases classS p == 3
          · exact fit_checked _ _ _ (r4_p _ _ _ _ _ _ hd hn hm r16_0 (q _))
          · cases p == 40 || (p == 42 || (p == 39 || p == 41))
            · exact fit_checked _ _ _ (r4_p _ _ _ _ _ _ hd r16_0 hm r16_0 (q _))
            · cases n == 15
              · exact fit_none 64 x
              · exact fit_checked _ _ _ (r4_p _ _ _ _ _ _ hd r16_0 hm r16_0 (q _))
        · exact fit_none 64 x
      · cases p == 22 && a == 15
        · exact fit_checked _ _ _ (r4_p _ _ _ _ _ _ hd hn hm ha (q _))
        · exact fit_checked _ _ _ (r4_p _ _ _ _ _ _ hd hn hm r16_0 (fun e => by cases e))
    · exact fit_checked _ _ _ (r4_p _ _ _ _ _ _ ha hn hm hd (q _))
  · exact fit_none 64 x
theorem fit_reg (x : Nat) : FitI (regX x) := by
  unfold regX
  have hp := regOp_ne x
  generalize regOp x = p at *
  exact fit_regG p _ _ _ _ _ x hp (r16_fd x 8) (r16_fd x 16) (r16_fd x 0) (r16_fd x 12)
theorem fit_bif (c : Bool) (A B : IV) (ha : FitI A) (hb : FitI B) : FitI (bif c then A else B) := by
  cases c
  · exact hb
  · exact ha
theorem fit_alo (x : Nat) : FitI (aloX x) := by
  unfold aloX
  refine fit_bif _ _ _ (fit_branch x) ?_
  refine fit_bif _ _ _ (fit_man x) ?_
  refine fit_bif _ _ _ (fit_shi x) ?_
  refine fit_bif _ _ _ (fit_mod x) ?_
  refine fit_bif _ _ _ (fit_pla x) ?_
  refine fit_bif _ _ _ (fit_mem x) ?_
  refine fit_bif _ _ _ (fit_reg x) ?_
  exact fit_none 64 x
theorem fit_dec (b : Bool) (J : IV) (x : Nat) (h : FitI J) : FitI (decI b J x) := by
  unfold decI
  cases b && (J.op == 54 && J.cond != 14)
  · exact h
  · exact fit_none 65 x
theorem fit_wide (b : Bool) (x : Nat) : FitI (decI b (aloX x) x) := fit_dec b (aloX x) x (fit_alo x)
end Go.Proofs.YtplhblhopaheeaaGreatDoor
