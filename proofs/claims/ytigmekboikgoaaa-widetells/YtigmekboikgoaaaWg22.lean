/- Stage 9: the document: shifts by registers, single operands, at every pair of halves. -/
import Derived.Test.YtigmekboikgoaaaWg21
import Derived.Test.YtigmekboikgoaaaWe6
namespace Go.Proofs.Ytigmekboikgoaaa
open Go.ChangeShapes Go.WideShapes Go.ChangeAt Go.RowKit
set_option linter.unusedVariables false
set_option linter.unusedSimpArgs false

theorem gen_chk (op : Int) (s : Bool) (c4 : (classS op == 4) = false) (c5 : (classS op == 5) = false) (c3 : (op == 33) = false) (d n m : Int) (ok : Bool) (x : Nat) : checkedI (r4 op s d n m 0) ok x = (bif !ok || (oddS n || (oddS d || oddS m)) then noneI 65 x else r4 op s d n m 0) := by
  unfold checkedI
  have e1 : mayN (r4 op s d n m 0) = !oddS n := by
    unfold mayN oddS
    show (bif n == 13 then (classS op == 4 || (classS op == 5 || (false && sumW op))) else bif n == 15 then (classS op == 4 || op == 33) else true) = !(n == 13 || n == 15)
    rw [c4, c5, c3]
    cases (n == 13) <;> cases (n == 15) <;> rfl
  have e2 : mayD (r4 op s d n m 0) = !oddS d := by
    unfold mayD
    show (bif (d == 13 && (n == 13 && false)) then (op == 5 || op == 3) else !resS d) = !oddS d
    rw [Bool.and_false, Bool.and_false, cond_false]
    rfl
  have e3 : resS (r4 op s d n m 0).m = oddS m := rfl
  have e4 : resS (r4 op s d n m 0).a = false := rfl
  rw [e1, e2, e3, e4]
  cases ok <;> cases oddS d <;> cases oddS n <;> cases oddS m <;> rfl
def unaRP (r low : Nat) : Int := regOpY (((4000 + r) * 1048576 + low * 16 : Nat) : Int)
def unaRS (r low : Nat) : Int := bif Nat.beq low 0 then (bif Nat.ble r 7 then ((17 + r / 2 : Nat) : Int) else 64) else bif Nat.beq low 8 then (bif Nat.beq r 0 then 40 else bif Nat.beq r 1 then 42 else bif Nat.beq r 4 then 39 else bif Nat.beq r 5 then 41 else bif Nat.beq r 9 then 36 else bif Nat.beq r 11 then 34 else 64) else bif Nat.beq r 9 then (bif Nat.beq low 9 then 37 else bif Nat.beq low 10 then 35 else bif Nat.beq low 11 then 38 else 64) else 64
theorem unaRP_all : (List.range 16).all (fun r => (List.range 16).all fun l => unaRP r l == unaRS r l) = true := by decide +kernel
theorem unaRP_at (r l : Nat) (hr : r < 16) (hl : l < 16) : unaRP r l = unaRS r l := by
  have := List.all_eq_true.1 (List.all_eq_true.1 unaRP_all r (List.mem_range.2 hr)) l (List.mem_range.2 hl)
  simpa using this
theorem f20_12' (x : Nat) : fd x 20 12 = fd x 24 8 * 16 + fd x 20 4 := by
  unfold fd
  omega
theorem regOp_una (x : Nat) (h : fd x 24 8 = 250) : regOp x = unaRS (fd x 20 4) (fd x 4 4) := by
  rw [← unaRP_at _ _ (fd_lt x 20 4) (fd_lt x 4 4)]
  unfold regOp unaRP
  rw [f20_12', h]
def unaN (r l n : Nat) : Bool := (Nat.ble r 7 && (Nat.beq l 0 || (Nat.beq l 8 && (Nat.beq n 15 && (Nat.beq r 0 || (Nat.beq r 1 || (Nat.beq r 4 || Nat.beq r 5))))))) || ((Nat.beq r 9 && Nat.beq (l / 4) 2) || (Nat.beq r 11 && Nat.beq l 8))
def unaNone (r l n : Nat) : Bool := (unaN r l n || (unaRS r l == 64 || (!(unaRS r l == 25 || (unaRS r l == 24 || (unaRS r l == 27 || unaRS r l == 26))) && (!(unaRS r l == 22 || unaRS r l == 23) && (classS (unaRS r l) == 3 && ((unaRS r l == 40 || (unaRS r l == 42 || (unaRS r l == 39 || unaRS r l == 41))) && !(Nat.beq n 15)))))))
theorem unaNone_all : (List.range 16).all (fun r => (List.range 16).all fun l => (List.range 16).all fun n => unaNone r l n) = true := by decide +kernel
theorem una_none (r l d n m x : Nat) (s : Bool) (hr : r < 16) (hl : l < 16) (hn : n < 16) (h : unaN r l n = false) : regG (unaRS r l) d n m (15 : Nat) s x = noneI 64 x := by
  have c := List.all_eq_true.1 (List.all_eq_true.1 (List.all_eq_true.1 unaNone_all r (List.mem_range.2 hr)) l (List.mem_range.2 hl)) n (List.mem_range.2 hn)
  unfold unaNone at c
  rw [h, Bool.false_or] at c
  generalize unaRS r l = p at *
  unfold regG
  cases e : (p == 64)
  · rw [e, Bool.false_or] at c
    simp only [Bool.and_eq_true, Bool.not_eq_true'] at c
    obtain ⟨c1, c2, c3, c4, c5⟩ := c
    rw [c1, c2, c3]
    show unaG p d n m x = _
    unfold unaG
    rw [c4]
    have : ((n : Int) == 15) = false := by rw [nbeq] at c5; simp at c5 ⊢; omega
    rw [this]
    rfl
  · rfl
theorem fin_y (i : IV) (x : Nat) (h : (i.op == 65) = false) : fin i true x = i := by
  unfold fin
  rw [h]
  rfl
set_option maxHeartbeats 20000000 in
set_option maxRecDepth 100000 in
theorem runary_c (h k x : Nat) (hh : h < 65536) (hk : k < 65536) (hx0 : x = h * 65536 + k) (h24 : fd x 24 8 = 250) (h12 : fd x 12 4 = 15) (w : World) : Calls Try.prog 30 #[.int .u16 h, .int .u16 k] w fun e w' => Two w (regX x) x e w' := by
  have h4_4 : bits .and .u16 ((h : Int) / 16) 15 = ((fd x 20 4 : Nat) : Int) := by rw [hx0, fdh h k 4 4 hk]; exact fd_u16 h 4 4 hh (by decide) _ _ (by simp) rfl
  have h7_1 : bits .and .u16 ((h : Int) / 128) 1 = ((fd x 23 1 : Nat) : Int) := by rw [hx0, fdh h k 7 1 hk]; exact fd_u16 h 7 1 hh (by decide) _ _ (by simp) rfl
  have h5_2 : bits .and .u16 ((h : Int) / 32) 3 = ((fd x 21 2 : Nat) : Int) := by rw [hx0, fdh h k 5 2 hk]; exact fd_u16 h 5 2 hh (by decide) _ _ (by simp) rfl
  have h4_1 : bits .and .u16 ((h : Int) / 16) 1 = ((fd x 20 1 : Nat) : Int) := by rw [hx0, fdh h k 4 1 hk]; exact fd_u16 h 4 1 hh (by decide) _ _ (by simp) rfl
  have h4_3 : bits .and .u16 ((h : Int) / 16) 7 = ((fd x 20 3 : Nat) : Int) := by rw [hx0, fdh h k 4 3 hk]; exact fd_u16 h 4 3 hh (by decide) _ _ (by simp) rfl
  have h0_4 : bits .and .u16 ((h : Int)) 15 = ((fd x 16 4 : Nat) : Int) := by rw [hx0, fdh h k 0 4 hk]; exact fd_u16 h 0 4 hh (by decide) _ _ (by simp) rfl
  have k8_4 : bits .and .u16 ((k : Int) / 256) 15 = ((fd x 8 4 : Nat) : Int) := by rw [hx0, fdk h k 8 4 (by decide)]; exact fd_u16 k 8 4 hk (by decide) _ _ (by simp) rfl
  have k0_4 : bits .and .u16 ((k : Int)) 15 = ((fd x 0 4 : Nat) : Int) := by rw [hx0, fdk h k 0 4 (by decide)]; exact fd_u16 k 0 4 hk (by decide) _ _ (by simp) rfl
  have k4_4 : bits .and .u16 ((k : Int) / 16) 15 = ((fd x 4 4 : Nat) : Int) := by rw [hx0, fdk h k 4 4 (by decide)]; exact fd_u16 k 4 4 hk (by decide) _ _ (by simp) rfl
  have k6_2 : bits .and .u16 ((k : Int) / 64) 3 = ((fd x 6 2 : Nat) : Int) := by rw [hx0, fdk h k 6 2 (by decide)]; exact fd_u16 k 6 2 hk (by decide) _ _ (by simp) rfl
  have k4_2 : bits .and .u16 ((k : Int) / 16) 3 = ((fd x 4 2 : Nat) : Int) := by rw [hx0, fdk h k 4 2 (by decide)]; exact fd_u16 k 4 2 hk (by decide) _ _ (by simp) rfl
  have e7 : fd x 23 1 = fd x 20 4 / 8 := by unfold fd; omega
  have e5 : fd x 21 2 = fd x 20 4 / 2 % 4 := by unfold fd; omega
  have e40 : fd x 20 1 = fd x 20 4 % 2 := by unfold fd; omega
  have e47 : fd x 20 3 = fd x 20 4 % 8 := by unfold fd; omega
  have el6 : fd x 6 2 = fd x 4 4 / 4 := by unfold fd; omega
  have el4 : fd x 4 2 = fd x 4 4 % 4 := by unfold fd; omega
  have hR : regX x = regG (unaRS (fd x 20 4) (fd x 4 4)) (fd x 8 4 : Nat) (fd x 16 4 : Nat) (fd x 0 4 : Nat) (15 : Nat) (fd x 20 4 % 2 != 0) x := by unfold regX; rw [regOp_una x h24, h12, e40]
  have fdd := fd_lt x 8 4
  have fn := fd_lt x 16 4
  have fm := fd_lt x 0 4
  have fr := fd_lt x 20 4
  have fl := fd_lt x 4 4
  refine run_g h k (fd x 8 4) (fd x 16 4) (fd x 0 4) (fd x 20 4) (fd x 4 4) (fd x 23 1) (fd x 21 2) (fd x 20 1) (fd x 20 3) (fd x 6 2) (fd x 4 2) x (regX x) k8_4 h0_4 k0_4 h4_4 h7_1 h5_2 h4_1 h4_3 k4_4 k6_2 k4_2 e7 e5 e40 e47 el6 el4 fdd fn fm fr fl ?_ ?_ ?_ ?_ ?_ ?_ w
  all_goals
    rw [hR]
    clear hR h4_4 h7_1 h5_2 h4_1 h4_3 h0_4 k8_4 k0_4 k4_4 k6_2 k4_2 e7 e5 e40 e47 el6 el4 h24 h12
    generalize fd x 20 4 = r at *
    generalize fd x 4 4 = l at *
    generalize fd x 8 4 = gd at *
    generalize fd x 16 4 = gn at *
    generalize fd x 0 4 = gm at *
  · intro op s h8 hl ho hs
    subst hl ho hs
    have e2 : (r % 2 != 0) = (r % 2 == 1) := by
      rcases (show r % 2 = 0 ∨ r % 2 = 1 by omega) with e | e <;> rw [e] <;> rfl
    rw [e2]
    have hA := fun (op : Int) c4 c5 c3 => gen_chk op (r % 2 == 1) c4 c5 c3 gd gn gm true x
    rcases (show r / 2 = 0 ∨ r / 2 = 1 ∨ r / 2 = 2 ∨ r / 2 = 3 by omega) with e | e | e | e
    · rw [e, show unaRS r 0 = 17 by unfold unaRS; rw [show Nat.ble r 7 = true by rw [nble]; simp; omega, e]; rfl]
      show fin _ true x = checkedI (r4 17 (r % 2 == 1) gd gn gm 0) true x
      rw [hA 17 rfl rfl rfl]
      cases oddS gn <;> cases oddS gd <;> cases oddS gm <;> rfl
    · rw [e, show unaRS r 0 = 18 by unfold unaRS; rw [show Nat.ble r 7 = true by rw [nble]; simp; omega, e]; rfl]
      show fin _ true x = checkedI (r4 18 (r % 2 == 1) gd gn gm 0) true x
      rw [hA 18 rfl rfl rfl]
      cases oddS gn <;> cases oddS gd <;> cases oddS gm <;> rfl
    · rw [e, show unaRS r 0 = 19 by unfold unaRS; rw [show Nat.ble r 7 = true by rw [nble]; simp; omega, e]; rfl]
      show fin _ true x = checkedI (r4 19 (r % 2 == 1) gd gn gm 0) true x
      rw [hA 19 rfl rfl rfl]
      cases oddS gn <;> cases oddS gd <;> cases oddS gm <;> rfl
    · rw [e, show unaRS r 0 = 20 by unfold unaRS; rw [show Nat.ble r 7 = true by rw [nble]; simp; omega, e]; rfl]
      show fin _ true x = checkedI (r4 20 (r % 2 == 1) gd gn gm 0) true x
      rw [hA 20 rfl rfl rfl]
      cases oddS gn <;> cases oddS gd <;> cases oddS gm <;> rfl
  · intro op hl hn ho
    subst hl hn
    have hB := fun (op : Int) c4 c5 c3 => gen_chk op false c4 c5 c3 gd 0 gm true x
    rcases ho with ⟨rfl, rfl⟩ | ⟨rfl, rfl⟩ | ⟨rfl, rfl⟩ | ⟨rfl, rfl⟩
    · show fin _ true x = checkedI (r4 40 false gd 0 gm 0) true x
      rw [hB 40 rfl rfl rfl]
      cases oddS gd <;> cases oddS gm <;> rfl
    · show fin _ true x = checkedI (r4 42 false gd 0 gm 0) true x
      rw [hB 42 rfl rfl rfl]
      cases oddS gd <;> cases oddS gm <;> rfl
    · show fin _ true x = checkedI (r4 39 false gd 0 gm 0) true x
      rw [hB 39 rfl rfl rfl]
      cases oddS gd <;> cases oddS gm <;> rfl
    · show fin _ true x = checkedI (r4 41 false gd 0 gm 0) true x
      rw [hB 41 rfl rfl rfl]
      cases oddS gd <;> cases oddS gm <;> rfl
  · intro hl hn ho i
    rw [una_none r l gd gn gm x _ fr fl fn (by subst hl hn; rcases ho with rfl | rfl | rfl | rfl <;> rfl)]
    rfl
  · intro op ho hn
    subst hn
    have hB := fun (op : Int) c4 c5 c3 => gen_chk op false c4 c5 c3 gd 0 gn true x
    rcases ho with ⟨rfl, ⟨rfl, rfl⟩ | ⟨rfl, rfl⟩ | ⟨rfl, rfl⟩ | ⟨rfl, rfl⟩⟩ | ⟨rfl, rfl, rfl⟩
    · show fin _ true x = checkedI (r4 36 false gd 0 gn 0) ((gn : Int) == gn) x
      rw [beq_self_eq_true, hB 36 rfl rfl rfl]
      cases oddS gd <;> cases oddS gn <;> rfl
    · show fin _ true x = checkedI (r4 37 false gd 0 gn 0) ((gn : Int) == gn) x
      rw [beq_self_eq_true, hB 37 rfl rfl rfl]
      cases oddS gd <;> cases oddS gn <;> rfl
    · show fin _ true x = checkedI (r4 35 false gd 0 gn 0) ((gn : Int) == gn) x
      rw [beq_self_eq_true, hB 35 rfl rfl rfl]
      cases oddS gd <;> cases oddS gn <;> rfl
    · show fin _ true x = checkedI (r4 38 false gd 0 gn 0) ((gn : Int) == gn) x
      rw [beq_self_eq_true, hB 38 rfl rfl rfl]
      cases oddS gd <;> cases oddS gn <;> rfl
    · show fin _ true x = checkedI (r4 34 false gd 0 gn 0) ((gn : Int) == gn) x
      rw [beq_self_eq_true, hB 34 rfl rfl rfl]
      cases oddS gd <;> cases oddS gn <;> rfl
  · intro ho hn
    have e : ((gn : Int) == gm) = false := by simp; omega
    have hB := fun (op : Int) c4 c5 c3 => gen_chk op false c4 c5 c3 gd 0 gm false x
    rcases (show (r = 9 ∧ l = 8) ∨ (r = 9 ∧ l = 9) ∨ (r = 9 ∧ l = 10) ∨ (r = 9 ∧ l = 11) ∨ (r = 11 ∧ l = 8) by omega) with ⟨rfl, rfl⟩ | ⟨rfl, rfl⟩ | ⟨rfl, rfl⟩ | ⟨rfl, rfl⟩ | ⟨rfl, rfl⟩
    · show fin (startI 65 0 0) true x = checkedI (r4 36 false gd 0 gm 0) ((gn : Int) == gm) x
      rw [e, hB 36 rfl rfl rfl]
      rfl
    · show fin (startI 65 0 0) true x = checkedI (r4 37 false gd 0 gm 0) ((gn : Int) == gm) x
      rw [e, hB 37 rfl rfl rfl]
      rfl
    · show fin (startI 65 0 0) true x = checkedI (r4 35 false gd 0 gm 0) ((gn : Int) == gm) x
      rw [e, hB 35 rfl rfl rfl]
      rfl
    · show fin (startI 65 0 0) true x = checkedI (r4 38 false gd 0 gm 0) ((gn : Int) == gm) x
      rw [e, hB 38 rfl rfl rfl]
      rfl
    · show fin (startI 65 0 0) true x = checkedI (r4 34 false gd 0 gm 0) ((gn : Int) == gm) x
      rw [e, hB 34 rfl rfl rfl]
      rfl
  · intro ho i
    rw [una_none r l gd gn gm x _ fr fl fn ?_]
    · rfl
    · unfold unaN
      simp only [nbeq, nble]
      simp
      omega
end Go.Proofs.Ytigmekboikgoaaa
