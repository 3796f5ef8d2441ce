/- Stage 9: the document: products, at every pair of halves. -/
import Derived.Test.YtplhblhopaheeaaGreatDoorWg17
import Derived.Test.YtplhblhopaheeaaGreatDoorWg18
import Derived.Test.YtplhblhopaheeaaGreatDoorWg19
import Derived.Test.YtplhblhopaheeaaGreatDoorYj
import Derived.Test.YtplhblhopaheeaaGreatDoorWg21
import Derived.Test.YtplhblhopaheeaaGreatDoorWg23
import Derived.Test.YtplhblhopaheeaaGreatDoorYm
import Derived.Test.YtplhblhopaheeaaGreatDoorYp
import Derived.Test.YtplhblhopaheeaaGreatDoorWg14
import Derived.Test.YtplhblhopaheeaaGreatDoorYn
import Derived.Test.YtplhblhopaheeaaGreatDoorYa
namespace Go.Proofs.YtplhblhopaheeaaGreatDoor
open Go.ChangeShapes Go.WideShapes Go.ChangeAt Go.RowKit
set_option linter.unusedVariables false
set_option linter.unusedSimpArgs false

theorem mul_chk (op : Int) (ho : 21 ≤ op ∧ op ≤ 29) (d n m a : Int) (ok : Bool) (x : Nat) : checkedI (r4 op false d n m a) ok x = (bif !ok || (oddS a || (oddS d || (oddS n || oddS m))) then noneI 65 x else r4 op false d n m a) := by
  have c1 : classS op = 2 := by unfold classS; rw [if_neg (by omega), if_neg (by omega), if_pos (by omega)]
  have c3 : (op == 33) = false := by simp; omega
  unfold checkedI
  have e1 : mayN (r4 op false d n m a) = !oddS n := by
    unfold mayN oddS
    show (bif n == 13 then (classS op == 4 || (classS op == 5 || (false && sumW op))) else bif n == 15 then (classS op == 4 || op == 33) else true) = !(n == 13 || n == 15)
    rw [c1, c3]
    cases (n == 13) <;> cases (n == 15) <;> rfl
  have e2 : mayD (r4 op false d n m a) = !oddS d := by
    unfold mayD
    show (bif (d == 13 && (n == 13 && false)) then (op == 5 || op == 3) else !resS d) = !oddS d
    rw [Bool.and_false, Bool.and_false, cond_false]
    rfl
  have e3 : resS (r4 op false d n m a).m = oddS m := rfl
  have e4 : resS (r4 op false d n m a).a = oddS a := rfl
  rw [e1, e2, e3, e4]
  cases ok <;> cases oddS d <;> cases oddS n <;> cases oddS m <;> cases oddS a <;> rfl
theorem fin_none (i : IV) (x : Nat) : fin i false x = noneI 64 x := rfl
def mulRP (r low : Nat) : Int := regOpY (((4016 + r) * 1048576 + low * 16 : Nat) : Int)
def mulRS (r low : Nat) : Int := bif Nat.beq low 0 then (bif Nat.beq r 0 then 22 else bif Nat.beq r 8 then 25 else bif Nat.beq r 10 then 24 else bif Nat.beq r 12 then 27 else bif Nat.beq r 14 then 26 else 64) else bif Nat.beq low 1 then (bif Nat.beq r 0 then 23 else 64) else bif Nat.beq low 15 then (bif Nat.beq r 9 then 29 else bif Nat.beq r 11 then 28 else 64) else 64
theorem mulRP_all : (List.range 16).all (fun r => (List.range 16).all fun l => mulRP r l == mulRS r l) = true := by decide +kernel
theorem mulRP_at (r l : Nat) (hr : r < 16) (hl : l < 16) : mulRP r l = mulRS r l := by
  have := List.all_eq_true.1 (List.all_eq_true.1 mulRP_all r (List.mem_range.2 hr)) l (List.mem_range.2 hl)
  simpa using this
theorem f20_12 (x : Nat) : fd_w x 20 12 = fd_w x 24 8 * 16 + fd_w x 20 4 := by
  unfold fd_w
  omega
theorem regOp_mul (x : Nat) (h : fd_w x 24 8 = 251) : regOp x = mulRS (fd_w x 20 4) (fd_w x 4 4) := by
  rw [← mulRP_at _ _ (fd_lt_w x 20 4) (fd_lt_w x 4 4)]
  unfold regOp mulRP
  rw [f20_12, h]
theorem odd_no (op : Int) (ho : 21 ≤ op ∧ op ≤ 29) (d n m a : Int) (x : Nat) (X : IV) (hX : X = checkedI (r4 op false d n m a) true x) : ((oddS a || (oddS d || (oddS n || oddS m))) = false → fin (r4 op false d n m a) true x = X) ∧ ((oddS a || (oddS d || (oddS n || oddS m))) = true → fin (startI 65 0 0) true x = X) := by
  rw [mul_chk op ho] at hX
  refine ⟨fun h => ?_, fun h => ?_⟩
  · rw [hX, h]
    have : (op == 65) = false := by simp; omega
    unfold fin
    show (bif true then (bif op == 65 then noneI 65 x else r4 op false d n m a) else noneI 64 x) = _
    rw [this]
    rfl
  · rw [hX, h]
    rfl
theorem rmultiply_c (h k x : Nat) (hh : h < 65536) (hk : k < 65536) (hx0 : x = h * 65536 + k) (h24 : fd_w x 24 8 = 251) (w : World) : Calls Tryz.prog 76 #[.int .u16 h, .int .u16 k] w fun e w' => Two w (regX x) x e w' := by
  have kh : bits .and .u16 ((h : Int) / 16) 15 = ((fd_w x 20 4 : Nat) : Int) := by rw [hx0, fdh h k 4 4 hk]; exact fd_u16 h 4 4 hh (by decide) _ _ (by simp) rfl
  have kw : bits .and .u16 ((k : Int) / 16) 15 = ((fd_w x 4 4 : Nat) : Int) := by rw [hx0, fdk h k 4 4 (by decide)]; exact fd_u16 k 4 4 hk (by decide) _ _ (by simp) rfl
  have kd : bits .and .u16 ((k : Int) / 256) 15 = ((fd_w x 8 4 : Nat) : Int) := by rw [hx0, fdk h k 8 4 (by decide)]; exact fd_u16 k 8 4 hk (by decide) _ _ (by simp) rfl
  have kn : bits .and .u16 ((h : Int)) 15 = ((fd_w x 16 4 : Nat) : Int) := by rw [hx0, fdh h k 0 4 hk]; exact fd_u16 h 0 4 hh (by decide) _ _ (by simp) rfl
  have km : bits .and .u16 ((k : Int)) 15 = ((fd_w x 0 4 : Nat) : Int) := by rw [hx0, fdk h k 0 4 (by decide)]; exact fd_u16 k 0 4 hk (by decide) _ _ (by simp) rfl
  have kz : bits .and .u16 ((h : Int) / 32) 3 = ((fd_w x 21 2 : Nat) : Int) := by rw [hx0, fdh h k 5 2 hk]; exact fd_u16 h 5 2 hh (by decide) _ _ (by simp) rfl
  have ka : (k : Int) / 4096 = ((fd_w x 12 4 : Nat) : Int) := by
    rw [hx0, fdk h k 12 4 (by decide)]
    unfold fd_w
    omega
  have fa := fd_lt_w x 12 4
  have fdd := fd_lt_w x 8 4
  have fn := fd_lt_w x 16 4
  have fm := fd_lt_w x 0 4
  have fr := fd_lt_w x 20 4
  have fl := fd_lt_w x 4 4
  have fz : fd_w x 21 2 = fd_w x 20 4 / 2 % 4 := by unfold fd_w; omega
  have hR : regX x = regG (mulRS (fd_w x 20 4) (fd_w x 4 4)) (fd_w x 8 4 : Nat) (fd_w x 16 4 : Nat) (fd_w x 0 4 : Nat) (fd_w x 12 4 : Nat) (fd_w x 20 1 != 0) x := by unfold regX; rw [regOp_mul x h24]
  generalize regX x = X at *
  generalize fd_w x 20 4 = r at *
  generalize fd_w x 4 4 = l at *
  generalize fd_w x 12 4 = ga at *
  generalize fd_w x 8 4 = gd at *
  generalize fd_w x 16 4 = gn at *
  generalize fd_w x 0 4 = gm at *
  generalize (fd_w x 20 1 != 0) = s at *
  generalize fd_w x 21 2 = gz at *
  have none : mulRS r l = 64 → ∀ i : IV, fin i false x = X := fun e i => by
    rw [hR, e]
    rfl
  rcases (show l = 0 ∨ l = 1 ∨ l = 15 ∨ (l ≠ 0 ∧ l ≠ 1 ∧ l ≠ 15) by omega) with rfl | rfl | rfl | ⟨l0, l1, l15⟩
  · rcases (show r = 0 ∨ r = 8 ∨ r = 10 ∨ r = 12 ∨ r = 14 ∨ (r ≠ 0 ∧ r ≠ 8 ∧ r ≠ 10 ∧ r ≠ 12 ∧ r ≠ 14) by omega) with rfl | rfl | rfl | rfl | rfl | hr
    · rcases (show ga = 15 ∨ ga ≠ 15 by omega) with rfl | hc
      · have q := odd_no 21 (by decide) gd gn gm 0 x X (by rw [hR]; rfl)
        exact rmul_mul h k 15 gd gn gm x X kh kw ka kd kn km fa fdd fn fm rfl q.1 q.2 w
      · have hc2 : ((ga : Int) == 15) = false := by simp; omega
        have q := odd_no 22 (by decide) gd gn gm ga x X (by rw [hR]; exact regG_a 22 _ _ _ _ _ _ rfl rfl rfl (by rw [hc2]; rfl))
        exact rmul_mla h k ga gd gn gm x X kh kw ka kd kn km fa fdd fn fm hc q.1 q.2 w
    · have q := mul_chk 25 (by decide) ga gn gm gd ((ga : Int) != gd) x
      have hX : X = checkedI (r4 25 false ga gn gm gd) ((ga : Int) != gd) x := by rw [hR]; rfl
      rw [q] at hX
      have z2 : bits .and .u16 ((h : Int) / 32) 3 = 0 := by rw [kz, fz]; rfl
      refine rmul_long8 h k ga gd gn gm x X kh kw ka kd kn km fa fdd fn fm trivial z2 ?_ ?_ ?_ w
      · intro ho hne
        have e : ((ga : Int) != gd) = true := by simp; omega
        rw [hX, e, ho]
        rfl
      · intro ho
        rw [hX, ho, Bool.or_true]
        rfl
      · intro he
        have e : ((ga : Int) != gd) = false := by rw [he]; simp
        rw [hX, e]
        rfl
    · have q := mul_chk 24 (by decide) ga gn gm gd ((ga : Int) != gd) x
      have hX : X = checkedI (r4 24 false ga gn gm gd) ((ga : Int) != gd) x := by rw [hR]; rfl
      rw [q] at hX
      have z2 : bits .and .u16 ((h : Int) / 32) 3 = 1 := by rw [kz, fz]; rfl
      refine rmul_long10 h k ga gd gn gm x X kh kw ka kd kn km fa fdd fn fm trivial z2 ?_ ?_ ?_ w
      · intro ho hne
        have e : ((ga : Int) != gd) = true := by simp; omega
        rw [hX, e, ho]
        rfl
      · intro ho
        rw [hX, ho, Bool.or_true]
        rfl
      · intro he
        have e : ((ga : Int) != gd) = false := by rw [he]; simp
        rw [hX, e]
        rfl
    · have q := mul_chk 27 (by decide) ga gn gm gd ((ga : Int) != gd) x
      have hX : X = checkedI (r4 27 false ga gn gm gd) ((ga : Int) != gd) x := by rw [hR]; rfl
      rw [q] at hX
      have z2 : bits .and .u16 ((h : Int) / 32) 3 = 2 := by rw [kz, fz]; rfl
      refine rmul_long12 h k ga gd gn gm x X kh kw ka kd kn km fa fdd fn fm trivial z2 ?_ ?_ ?_ w
      · intro ho hne
        have e : ((ga : Int) != gd) = true := by simp; omega
        rw [hX, e, ho]
        rfl
      · intro ho
        rw [hX, ho, Bool.or_true]
        rfl
      · intro he
        have e : ((ga : Int) != gd) = false := by rw [he]; simp
        rw [hX, e]
        rfl
    · have q := mul_chk 26 (by decide) ga gn gm gd ((ga : Int) != gd) x
      have hX : X = checkedI (r4 26 false ga gn gm gd) ((ga : Int) != gd) x := by rw [hR]; rfl
      rw [q] at hX
      have z2 : bits .and .u16 ((h : Int) / 32) 3 = 3 := by rw [kz, fz]; rfl
      refine rmul_long14 h k ga gd gn gm x X kh kw ka kd kn km fa fdd fn fm trivial z2 ?_ ?_ ?_ w
      · intro ho hne
        have e : ((ga : Int) != gd) = true := by simp; omega
        rw [hX, e, ho]
        rfl
      · intro ho
        rw [hX, ho, Bool.or_true]
        rfl
      · intro he
        have e : ((ga : Int) != gd) = false := by rw [he]; simp
        rw [hX, e]
        rfl
    · exact rmul_n0 h k ga gd gn gm x r 0 X kh kw ka kd kn km fr fa fdd fn fm hr (none (by
        obtain ⟨r0, r8, r10, r12, r14⟩ := hr
        unfold mulRS
        simp [nbeq_w, r0, r8, r10, r12, r14])) w
  · rcases (show r = 0 ∨ r ≠ 0 by omega) with rfl | hr
    · have q := odd_no 23 (by decide) gd gn gm ga x X (by rw [hR]; rfl)
      exact rmul_mls h k ga gd gn gm x X kh kw ka kd kn km fa fdd fn fm trivial q.1 q.2 w
    · exact rmul_n1 h k ga gd gn gm x r 1 X kh kw ka kd kn km fr fa fdd fn fm hr (none (by unfold mulRS; simp [nbeq_w, hr])) w
  · rcases (show r = 9 ∨ r = 11 ∨ (r ≠ 9 ∧ r ≠ 11) by omega) with rfl | rfl | hr
    · rcases (show ga = 15 ∨ ga ≠ 15 by omega) with rfl | hc
      · have q := odd_no 29 (by decide) gd gn gm 0 x X (by rw [hR]; rfl)
        exact rmul_sdiv h k 15 gd gn gm x X kh kw ka kd kn km fa fdd fn fm rfl q.1 q.2 w
      · have hc2 : ((ga : Int) != 15) = true := by simp; omega
        exact rmul_n15 h k ga gd gn gm x 9 15 X kh kw ka kd kn km fr fa fdd fn fm (fun _ => hc) (fun i => by
          rw [hR, show mulRS 9 15 = 29 from rfl, regG_o 29 _ _ _ _ _ _ rfl rfl rfl hc2]
          rfl) w
    · rcases (show ga = 15 ∨ ga ≠ 15 by omega) with rfl | hc
      · have q := odd_no 28 (by decide) gd gn gm 0 x X (by rw [hR]; rfl)
        exact rmul_udiv h k 15 gd gn gm x X kh kw ka kd kn km fa fdd fn fm rfl q.1 q.2 w
      · have hc2 : ((ga : Int) != 15) = true := by simp; omega
        exact rmul_n15 h k ga gd gn gm x 11 15 X kh kw ka kd kn km fr fa fdd fn fm (fun _ => hc) (fun i => by
          rw [hR, show mulRS 11 15 = 28 from rfl, regG_o 28 _ _ _ _ _ _ rfl rfl rfl hc2]
          rfl) w
    · exact rmul_n15 h k ga gd gn gm x r 15 X kh kw ka kd kn km fr fa fdd fn fm (fun e => by omega) (none (by unfold mulRS; simp [nbeq_w, hr.1, hr.2])) w
  · exact rmul_nx h k ga gd gn gm x r l X kh kw l0 l1 l15 ka kd kn km fr fa fdd fn fm (none (by unfold mulRS; simp [nbeq_w, l0, l1, l15])) w
end Go.Proofs.YtplhblhopaheeaaGreatDoor
namespace Go.Proofs.YtplhblhopaheeaaGreatDoor
open Go.ChangeShapes Go.WideShapes Go.ChangeAt Go.RowKit
set_option linter.unusedVariables false
set_option linter.unusedSimpArgs false
set_option maxHeartbeats 20000000
set_option maxRecDepth 100000

theorem gen_chk (op : Int) (s : Bool) (c4 : (classS op == 4) = false) (c5 : (classS op == 5) = false) (c3 : (op == 33) = false) (d n m : Int) (ok : Bool) (x : Nat) : checkedI (r4 op s d n m 0) ok x = (bif !ok || (oddS n || (oddS d || oddS m)) then noneI 65 x else r4 op s d n m 0) := by
  unfold checkedI
  have e1 : mayN (r4 op s d n m 0) = !oddS n := by
    unfold mayN oddS
    show (bif n == 13 then (classS op == 4 || (classS op == 5 || (false && sumW op))) else bif n == 15 then (classS op == 4 || op == 33) else true) = !(n == 13 || n == 15)
    rw [c4, c5, c3]
    cases (n == 13) <;> cases (n == 15) <;> rfl
  have e2 : mayD (r4 op s d n m 0) = !oddS d := by
    unfold mayD
    show (bif (d == 13 && (n == 13 && false)) then (op == 5 || op == 3) else !resS d) = !oddS d
    rw [Bool.and_false, Bool.and_false, cond_false]
    rfl
  have e3 : resS (r4 op s d n m 0).m = oddS m := rfl
  have e4 : resS (r4 op s d n m 0).a = false := rfl
  rw [e1, e2, e3, e4]
  cases ok <;> cases oddS d <;> cases oddS n <;> cases oddS m <;> rfl
def unaRP (r low : Nat) : Int := regOpY (((4000 + r) * 1048576 + low * 16 : Nat) : Int)
def unaRS (r low : Nat) : Int := bif Nat.beq low 0 then (bif Nat.ble r 7 then ((17 + r / 2 : Nat) : Int) else 64) else bif Nat.beq low 8 then (bif Nat.beq r 0 then 40 else bif Nat.beq r 1 then 42 else bif Nat.beq r 4 then 39 else bif Nat.beq r 5 then 41 else bif Nat.beq r 9 then 36 else bif Nat.beq r 11 then 34 else 64) else bif Nat.beq r 9 then (bif Nat.beq low 9 then 37 else bif Nat.beq low 10 then 35 else bif Nat.beq low 11 then 38 else 64) else 64
theorem unaRP_all : (List.range 16).all (fun r => (List.range 16).all fun l => unaRP r l == unaRS r l) = true := by decide +kernel
theorem unaRP_at (r l : Nat) (hr : r < 16) (hl : l < 16) : unaRP r l = unaRS r l := by
  have := List.all_eq_true.1 (List.all_eq_true.1 unaRP_all r (List.mem_range.2 hr)) l (List.mem_range.2 hl)
  simpa using this
theorem f20_12' (x : Nat) : fd_w x 20 12 = fd_w x 24 8 * 16 + fd_w x 20 4 := by
  unfold fd_w
  omega
theorem regOp_una (x : Nat) (h : fd_w x 24 8 = 250) : regOp x = unaRS (fd_w x 20 4) (fd_w x 4 4) := by
  rw [← unaRP_at _ _ (fd_lt_w x 20 4) (fd_lt_w x 4 4)]
  unfold regOp unaRP
  rw [f20_12', h]
def unaN (r l n : Nat) : Bool := (Nat.ble r 7 && (Nat.beq l 0 || (Nat.beq l 8 && (Nat.beq n 15 && (Nat.beq r 0 || (Nat.beq r 1 || (Nat.beq r 4 || Nat.beq r 5))))))) || ((Nat.beq r 9 && Nat.beq (l / 4) 2) || (Nat.beq r 11 && Nat.beq l 8))
def unaNone (r l n : Nat) : Bool := (unaN r l n || (unaRS r l == 64 || (!(unaRS r l == 25 || (unaRS r l == 24 || (unaRS r l == 27 || unaRS r l == 26))) && (!(unaRS r l == 22 || unaRS r l == 23) && (classS (unaRS r l) == 3 && ((unaRS r l == 40 || (unaRS r l == 42 || (unaRS r l == 39 || unaRS r l == 41))) && !(Nat.beq n 15)))))))
theorem unaNone_all : (List.range 16).all (fun r => (List.range 16).all fun l => (List.range 16).all fun n => unaNone r l n) = true := by decide +kernel
theorem una_none (r l d n m x : Nat) (s : Bool) (hr : r < 16) (hl : l < 16) (hn : n < 16) (h : unaN r l n = false) : regG (unaRS r l) d n m (15 : Nat) s x = noneI 64 x := by
  have c := List.all_eq_true.1 (List.all_eq_true.1 (List.all_eq_true.1 unaNone_all r (List.mem_range.2 hr)) l (List.mem_range.2 hl)) n (List.mem_range.2 hn)
  unfold unaNone at c
  rw [h, Bool.false_or] at c
  generalize unaRS r l = p at *
  unfold regG
  cases e : (p == 64)
  · rw [e, Bool.false_or] at c
    simp only [Bool.and_eq_true, Bool.not_eq_true'] at c
    obtain ⟨c1, c2, c3, c4, c5⟩ := c
    rw [c1, c2, c3]
    show unaG p d n m x = _
    unfold unaG
    rw [c4]
    have : ((n : Int) == 15) = false := by rw [nbeq_w] at c5; simp at c5 ⊢; omega
    rw [this]
    rfl
  · rfl
theorem fin_y (i : IV) (x : Nat) (h : (i.op == 65) = false) : fin i true x = i := by
  unfold fin
  rw [h]
  rfl
theorem runary_c (h k x : Nat) (hh : h < 65536) (hk : k < 65536) (hx0 : x = h * 65536 + k) (h24 : fd_w x 24 8 = 250) (h12 : fd_w x 12 4 = 15) (w : World) : Calls Tryz.prog 75 #[.int .u16 h, .int .u16 k] w fun e w' => Two w (regX x) x e w' := by
  have h4_4 : bits .and .u16 ((h : Int) / 16) 15 = ((fd_w x 20 4 : Nat) : Int) := by rw [hx0, fdh h k 4 4 hk]; exact fd_u16 h 4 4 hh (by decide) _ _ (by simp) rfl
  have h7_1 : bits .and .u16 ((h : Int) / 128) 1 = ((fd_w x 23 1 : Nat) : Int) := by rw [hx0, fdh h k 7 1 hk]; exact fd_u16 h 7 1 hh (by decide) _ _ (by simp) rfl
  have h5_2 : bits .and .u16 ((h : Int) / 32) 3 = ((fd_w x 21 2 : Nat) : Int) := by rw [hx0, fdh h k 5 2 hk]; exact fd_u16 h 5 2 hh (by decide) _ _ (by simp) rfl
  have h4_1 : bits .and .u16 ((h : Int) / 16) 1 = ((fd_w x 20 1 : Nat) : Int) := by rw [hx0, fdh h k 4 1 hk]; exact fd_u16 h 4 1 hh (by decide) _ _ (by simp) rfl
  have h4_3 : bits .and .u16 ((h : Int) / 16) 7 = ((fd_w x 20 3 : Nat) : Int) := by rw [hx0, fdh h k 4 3 hk]; exact fd_u16 h 4 3 hh (by decide) _ _ (by simp) rfl
  have h0_4 : bits .and .u16 ((h : Int)) 15 = ((fd_w x 16 4 : Nat) : Int) := by rw [hx0, fdh h k 0 4 hk]; exact fd_u16 h 0 4 hh (by decide) _ _ (by simp) rfl
  have k8_4 : bits .and .u16 ((k : Int) / 256) 15 = ((fd_w x 8 4 : Nat) : Int) := by rw [hx0, fdk h k 8 4 (by decide)]; exact fd_u16 k 8 4 hk (by decide) _ _ (by simp) rfl
  have k0_4 : bits .and .u16 ((k : Int)) 15 = ((fd_w x 0 4 : Nat) : Int) := by rw [hx0, fdk h k 0 4 (by decide)]; exact fd_u16 k 0 4 hk (by decide) _ _ (by simp) rfl
  have k4_4 : bits .and .u16 ((k : Int) / 16) 15 = ((fd_w x 4 4 : Nat) : Int) := by rw [hx0, fdk h k 4 4 (by decide)]; exact fd_u16 k 4 4 hk (by decide) _ _ (by simp) rfl
  have k6_2 : bits .and .u16 ((k : Int) / 64) 3 = ((fd_w x 6 2 : Nat) : Int) := by rw [hx0, fdk h k 6 2 (by decide)]; exact fd_u16 k 6 2 hk (by decide) _ _ (by simp) rfl
  have k4_2 : bits .and .u16 ((k : Int) / 16) 3 = ((fd_w x 4 2 : Nat) : Int) := by rw [hx0, fdk h k 4 2 (by decide)]; exact fd_u16 k 4 2 hk (by decide) _ _ (by simp) rfl
  have e7 : fd_w x 23 1 = fd_w x 20 4 / 8 := by unfold fd_w; omega
  have e5 : fd_w x 21 2 = fd_w x 20 4 / 2 % 4 := by unfold fd_w; omega
  have e40 : fd_w x 20 1 = fd_w x 20 4 % 2 := by unfold fd_w; omega
  have e47 : fd_w x 20 3 = fd_w x 20 4 % 8 := by unfold fd_w; omega
  have el6 : fd_w x 6 2 = fd_w x 4 4 / 4 := by unfold fd_w; omega
  have el4 : fd_w x 4 2 = fd_w x 4 4 % 4 := by unfold fd_w; omega
  have hR : regX x = regG (unaRS (fd_w x 20 4) (fd_w x 4 4)) (fd_w x 8 4 : Nat) (fd_w x 16 4 : Nat) (fd_w x 0 4 : Nat) (15 : Nat) (fd_w x 20 4 % 2 != 0) x := by unfold regX; rw [regOp_una x h24, h12, e40]
  have fdd := fd_lt_w x 8 4
  have fn := fd_lt_w x 16 4
  have fm := fd_lt_w x 0 4
  have fr := fd_lt_w x 20 4
  have fl := fd_lt_w x 4 4
  refine run_g h k (fd_w x 8 4) (fd_w x 16 4) (fd_w x 0 4) (fd_w x 20 4) (fd_w x 4 4) (fd_w x 23 1) (fd_w x 21 2) (fd_w x 20 1) (fd_w x 20 3) (fd_w x 6 2) (fd_w x 4 2) x (regX x) k8_4 h0_4 k0_4 h4_4 h7_1 h5_2 h4_1 h4_3 k4_4 k6_2 k4_2 e7 e5 e40 e47 el6 el4 fdd fn fm fr fl ?_ ?_ ?_ ?_ ?_ ?_ w
  all_goals
    rw [hR]
    clear hR h4_4 h7_1 h5_2 h4_1 h4_3 h0_4 k8_4 k0_4 k4_4 k6_2 k4_2 e7 e5 e40 e47 el6 el4 h24 h12
    generalize fd_w x 20 4 = r at *
    generalize fd_w x 4 4 = l at *
    generalize fd_w x 8 4 = gd at *
    generalize fd_w x 16 4 = gn at *
    generalize fd_w x 0 4 = gm at *
  · intro op s h8 hl ho hs
    subst hl ho hs
    have e2 : (r % 2 != 0) = (r % 2 == 1) := by
      rcases (show r % 2 = 0 ∨ r % 2 = 1 by omega) with e | e <;> rw [e] <;> rfl
    rw [e2]
    have hA := fun (op : Int) c4 c5 c3 => gen_chk op (r % 2 == 1) c4 c5 c3 gd gn gm true x
    rcases (show r / 2 = 0 ∨ r / 2 = 1 ∨ r / 2 = 2 ∨ r / 2 = 3 by omega) with e | e | e | e
    · rw [e, show unaRS r 0 = 17 by unfold unaRS; rw [show Nat.ble r 7 = true by rw [nble_w]; simp; omega, e]; rfl]
      show fin _ true x = checkedI (r4 17 (r % 2 == 1) gd gn gm 0) true x
      rw [hA 17 rfl rfl rfl]
      cases oddS gn <;> cases oddS gd <;> cases oddS gm <;> rfl
    · rw [e, show unaRS r 0 = 18 by unfold unaRS; rw [show Nat.ble r 7 = true by rw [nble_w]; simp; omega, e]; rfl]
      show fin _ true x = checkedI (r4 18 (r % 2 == 1) gd gn gm 0) true x
      rw [hA 18 rfl rfl rfl]
      cases oddS gn <;> cases oddS gd <;> cases oddS gm <;> rfl
    · rw [e, show unaRS r 0 = 19 by unfold unaRS; rw [show Nat.ble r 7 = true by rw [nble_w]; simp; omega, e]; rfl]
      show fin _ true x = checkedI (r4 19 (r % 2 == 1) gd gn gm 0) true x
      rw [hA 19 rfl rfl rfl]
      cases oddS gn <;> cases oddS gd <;> cases oddS gm <;> rfl
    · rw [e, show unaRS r 0 = 20 by unfold unaRS; rw [show Nat.ble r 7 = true by rw [nble_w]; simp; omega, e]; rfl]
      show fin _ true x = checkedI (r4 20 (r % 2 == 1) gd gn gm 0) true x
      rw [hA 20 rfl rfl rfl]
      cases oddS gn <;> cases oddS gd <;> cases oddS gm <;> rfl
  · intro op hl hn ho
    subst hl hn
    have hB := fun (op : Int) c4 c5 c3 => gen_chk op false c4 c5 c3 gd 0 gm true x
    rcases ho with ⟨rfl, rfl⟩ | ⟨rfl, rfl⟩ | ⟨rfl, rfl⟩ | ⟨rfl, rfl⟩
    · show fin _ true x = checkedI (r4 40 false gd 0 gm 0) true x
      rw [hB 40 rfl rfl rfl]
      cases oddS gd <;> cases oddS gm <;> rfl
    · show fin _ true x = checkedI (r4 42 false gd 0 gm 0) true x
      rw [hB 42 rfl rfl rfl]
      cases oddS gd <;> cases oddS gm <;> rfl
    · show fin _ true x = checkedI (r4 39 false gd 0 gm 0) true x
      rw [hB 39 rfl rfl rfl]
      cases oddS gd <;> cases oddS gm <;> rfl
    · show fin _ true x = checkedI (r4 41 false gd 0 gm 0) true x
      rw [hB 41 rfl rfl rfl]
      cases oddS gd <;> cases oddS gm <;> rfl
  · intro hl hn ho i
    rw [una_none r l gd gn gm x _ fr fl fn (by subst hl hn; rcases ho with rfl | rfl | rfl | rfl <;> rfl)]
    rfl
  · intro op ho hn
    subst hn
    have hB := fun (op : Int) c4 c5 c3 => gen_chk op false c4 c5 c3 gd 0 gn true x
    rcases ho with ⟨rfl, ⟨rfl, rfl⟩ | ⟨rfl, rfl⟩ | ⟨rfl, rfl⟩ | ⟨rfl, rfl⟩⟩ | ⟨rfl, rfl, rfl⟩
    · show fin _ true x = checkedI (r4 36 false gd 0 gn 0) ((gn : Int) == gn) x
      rw [beq_self_eq_true, hB 36 rfl rfl rfl]
      cases oddS gd <;> cases oddS gn <;> rfl
    · show fin _ true x = checkedI (r4 37 false gd 0 gn 0) ((gn : Int) == gn) x
      rw [beq_self_eq_true, hB 37 rfl rfl rfl]
      cases oddS gd <;> cases oddS gn <;> rfl
    · show fin _ true x = checkedI (r4 35 false gd 0 gn 0) ((gn : Int) == gn) x
      rw [beq_self_eq_true, hB 35 rfl rfl rfl]
      cases oddS gd <;> cases oddS gn <;> rfl
    · show fin _ true x = checkedI (r4 38 false gd 0 gn 0) ((gn : Int) == gn) x
      rw [beq_self_eq_true, hB 38 rfl rfl rfl]
      cases oddS gd <;> cases oddS gn <;> rfl
    · show fin _ true x = checkedI (r4 34 false gd 0 gn 0) ((gn : Int) == gn) x
      rw [beq_self_eq_true, hB 34 rfl rfl rfl]
      cases oddS gd <;> cases oddS gn <;> rfl
  · intro ho hn
    have e : ((gn : Int) == gm) = false := by simp; omega
    have hB := fun (op : Int) c4 c5 c3 => gen_chk op false c4 c5 c3 gd 0 gm false x
    rcases (show (r = 9 ∧ l = 8) ∨ (r = 9 ∧ l = 9) ∨ (r = 9 ∧ l = 10) ∨ (r = 9 ∧ l = 11) ∨ (r = 11 ∧ l = 8) by omega) with ⟨rfl, rfl⟩ | ⟨rfl, rfl⟩ | ⟨rfl, rfl⟩ | ⟨rfl, rfl⟩ | ⟨rfl, rfl⟩
    · show fin (startI 65 0 0) true x = checkedI (r4 36 false gd 0 gm 0) ((gn : Int) == gm) x
      rw [e, hB 36 rfl rfl rfl]
      rfl
    · show fin (startI 65 0 0) true x = checkedI (r4 37 false gd 0 gm 0) ((gn : Int) == gm) x
      rw [e, hB 37 rfl rfl rfl]
      rfl
    · show fin (startI 65 0 0) true x = checkedI (r4 35 false gd 0 gm 0) ((gn : Int) == gm) x
      rw [e, hB 35 rfl rfl rfl]
      rfl
    · show fin (startI 65 0 0) true x = checkedI (r4 38 false gd 0 gm 0) ((gn : Int) == gm) x
      rw [e, hB 38 rfl rfl rfl]
      rfl
    · show fin (startI 65 0 0) true x = checkedI (r4 34 false gd 0 gm 0) ((gn : Int) == gm) x
      rw [e, hB 34 rfl rfl rfl]
      rfl
  · intro ho i
    rw [una_none r l gd gn gm x _ fr fl fn ?_]
    · rfl
    · unfold unaN
      simp only [nbeq_w, nble_w]
      simp
      omega
end Go.Proofs.YtplhblhopaheeaaGreatDoor
namespace Go.Proofs.YtplhblhopaheeaaGreatDoor
open Go.ChangeShapes Go.WideShapes Go.ChangeAt Go.RowKit
set_option linter.unusedVariables false
set_option linter.unusedSimpArgs false
set_option maxHeartbeats 20000000
set_option maxRecDepth 100000

def chkA (d n : Nat) : Bool := ((mayS (secondI (startI 5 d n) 0 2) true == (mayD (secondI (startI 5 d n) 0 2) && mayN (secondI (startI 5 d n) 0 2)))) && ((mayS (secondI (startI 3 d n) 0 2) true == (mayD (secondI (startI 3 d n) 0 2) && mayN (secondI (startI 3 d n) 0 2))))
theorem chkA_all : (List.range 16).all (fun d => (List.range 16).all fun n => chkA d n) = true := by decide +kernel
theorem chkA_at (d n : Nat) (hd : d < 16) (hn : n < 16) : chkA d n = true := List.all_eq_true.1 (List.all_eq_true.1 chkA_all d (List.mem_range.2 hd)) n (List.mem_range.2 hn)
theorem add_fin (op : Int) (ho : (op == 65) = false) (d n : Nat) (v : Int) (x : Nat) (h : mayS (secondI (startI op d n) v 2) true = (mayD (secondI (startI op d n) v 2) && mayN (secondI (startI op d n) v 2))) :
    fin (bif mayS (secondI (startI op d n) v 2) true then secondI (startI op d n) v 2 else startI 65 0 0) true x = checkedI (secondI (startI op d n) v 2) true x := by
  unfold checkedI
  rw [h]
  have e3 : resS (secondI (startI op d n) v 2).m = false := rfl
  have e4 : resS (secondI (startI op d n) v 2).a = false := rfl
  rw [e3, e4]
  unfold fin
  cases mayD (secondI (startI op d n) v 2) <;> cases mayN (secondI (startI op d n) v 2)
  · rfl
  · rfl
  · rfl
  · show (bif true then (bif op == 65 then noneI 65 x else secondI (startI op d n) v 2) else noneI 64 x) = _
    rw [ho]
    rfl
theorem mov_fin (J : IV) (ho : (J.op == 65) = false) (hn : J.n = 0) (hm : J.m = 0) (ha : resS J.a = false) (x : Nat) : fin (bif oddS J.d then startI 65 0 0 else J) true x = checkedI J true x := by
  have e2 : mayD J = !oddS J.d := by
    unfold mayD
    rw [hn]
    show (bif (J.d == 13 && (false && J.useImm)) then (J.op == 5 || J.op == 3) else !resS J.d) = !oddS J.d
    rw [Bool.false_and, Bool.and_false, cond_false]
    rfl
  have e1 : mayN J = true := by
    unfold mayN
    rw [hn]
    rfl
  unfold checkedI
  rw [e1, e2, hm, ha]
  unfold fin
  cases oddS J.d
  · show (bif true then (bif J.op == 65 then noneI 65 x else J) else noneI 64 x) = _
    rw [ho]
    rfl
  · rfl
def bitG (op : Int) (d n at5 w5 x : Nat) : IV := checkedI (immI (startI op d n) (((at5 : Int) + 32 * ((w5 : Int) + 1 - bif op == 33 then (at5 : Int) else 0)) % 4294967296)) (decide (1 ≤ (w5 : Int) + 1 - bif op == 33 then (at5 : Int) else 0) && decide ((at5 : Int) + ((w5 : Int) + 1 - bif op == 33 then (at5 : Int) else 0) ≤ 32)) x
theorem bitX_g (op : Int) (x : Nat) (h26 : fd_w x 26 1 = 0) (h5 : fd_w x 5 1 = 0) : bitX op x = bitG op (fd_w x 8 4) (fd_w x 16 4) (fd_w x 12 3 * 4 + fd_w x 6 2) (fd_w x 0 5) x := by
  unfold bitX
  rw [h26, h5]
  rfl
theorem bitX_z (op : Int) (x : Nat) (h : fd_w x 26 1 = 1 ∨ fd_w x 5 1 = 1) : bitX op x = noneI 64 x := by
  unfold bitX
  rcases h with h | h <;> rw [h]
  · rfl
  · rw [show ((1 : Nat) != 0) = true from rfl, Bool.or_true]
    rfl
theorem bit_chk (op : Int) (ho : op = 31 ∨ op = 32) (d n : Nat) (v : Int) (ok : Bool) (x : Nat) : checkedI (immI (startI op d n) v) ok x = bif !ok || (oddS d || oddS n) then noneI 65 x else immI (startI op d n) v := by
  have e2 : mayD (immI (startI op d n) v) = !oddS d := by
    unfold mayD
    show (bif ((d : Int) == 13 && ((n : Int) == 13 && false)) then (op == 5 || op == 3) else !resS d) = !oddS d
    rw [Bool.and_false, Bool.and_false, cond_false]
    rfl
  have e1 : mayN (immI (startI op d n) v) = !oddS n := by
    unfold mayN oddS
    show (bif (n : Int) == 13 then (classS op == 4 || (classS op == 5 || (false && sumW op))) else bif (n : Int) == 15 then (classS op == 4 || op == 33) else true) = !((n : Int) == 13 || (n : Int) == 15)
    rcases ho with rfl | rfl <;> cases ((n : Int) == 13) <;> cases ((n : Int) == 15) <;> rfl
  have e3 : resS (immI (startI op d n) v).m = false := rfl
  have e4 : resS (immI (startI op d n) v).a = false := rfl
  unfold checkedI
  rw [e1, e2, e3, e4]
  cases ok <;> cases oddS d <;> cases oddS n <;> rfl
theorem bfi_chk (d n : Nat) (v : Int) (ok : Bool) (x : Nat) : checkedI (immI (startI 33 d n) v) ok x = bif !ok || (oddS d || (n : Int) == 13) then noneI 65 x else immI (startI 33 d n) v := by
  have e2 : mayD (immI (startI 33 d n) v) = !oddS d := by
    unfold mayD
    show (bif ((d : Int) == 13 && ((n : Int) == 13 && false)) then _ else !resS d) = !oddS d
    rw [Bool.and_false, Bool.and_false, cond_false]
    rfl
  have e1 : mayN (immI (startI 33 d n) v) = !((n : Int) == 13) := by
    unfold mayN
    show (bif (n : Int) == 13 then (classS 33 == 4 || (classS 33 == 5 || (false && sumW 33))) else bif (n : Int) == 15 then (classS 33 == 4 || (33 : Int) == 33) else true) = !((n : Int) == 13)
    cases ((n : Int) == 13) <;> cases ((n : Int) == 15) <;> rfl
  have e3 : resS (immI (startI 33 d n) v).m = false := rfl
  have e4 : resS (immI (startI 33 d n) v).a = false := rfl
  unfold checkedI
  rw [e1, e2, e3, e4]
  cases ok <;> cases oddS d <;> cases ((n : Int) == 13) <;> rfl
def plaG (g : Nat) (x : Nat) : IV :=
  bif Nat.beq g 0 then checkedI (secondI (startI 5 (fd_w x 8 4 : Nat) (fd_w x 16 4 : Nat)) (numX x : Nat) 2) true x
  else bif Nat.beq g 10 then checkedI (secondI (startI 3 (fd_w x 8 4 : Nat) (fd_w x 16 4 : Nat)) (numX x : Nat) 2) true x
  else bif Nat.beq g 4 then checkedI (secondI (startI 13 (fd_w x 8 4 : Nat) 0) (fd_w x 16 4 * 4096 + numX x : Nat) 2) true x
  else bif Nat.beq g 12 then checkedI (immI (startI 30 (fd_w x 8 4 : Nat) 0) (fd_w x 16 4 * 4096 + numX x : Nat)) true x
  else bif Nat.beq g 20 then bitX 32 x
  else bif Nat.beq g 28 then bitX 31 x
  else bif Nat.beq g 22 then bitX 33 x
  else noneI 64 x
theorem plaX_g (x : Nat) : plaX x = plaG (fd_w x 20 5) x := rfl
theorem rnumbers_c (h k x : Nat) (hh : h < 65536) (hk : k < 65536) (hx0 : x = h * 65536 + k) (w : World) : Calls Tryz.prog 72 #[.int .u16 h, .int .u16 k] w fun e w' => Two w (plaX x) x e w' := by
  have h0_4 : bits .and .u16 ((h : Int)) 15 = ((fd_w x 16 4 : Nat) : Int) := by rw [hx0, fdh h k 0 4 hk]; exact fd_u16 h 0 4 hh (by decide) _ _ (by simp) rfl
  have h4_5 : bits .and .u16 ((h : Int) / 16) 31 = ((fd_w x 20 5 : Nat) : Int) := by rw [hx0, fdh h k 4 5 hk]; exact fd_u16 h 4 5 hh (by decide) _ _ (by simp) rfl
  have h7_1 : bits .and .u16 ((h : Int) / 128) 1 = ((fd_w x 23 1 : Nat) : Int) := by rw [hx0, fdh h k 7 1 hk]; exact fd_u16 h 7 1 hh (by decide) _ _ (by simp) rfl
  have h10_1 : bits .and .u16 ((h : Int) / 1024) 1 = ((fd_w x 26 1 : Nat) : Int) := by rw [hx0, fdh h k 10 1 hk]; exact fd_u16 h 10 1 hh (by decide) _ _ (by simp) rfl
  have k8_4 : bits .and .u16 ((k : Int) / 256) 15 = ((fd_w x 8 4 : Nat) : Int) := by rw [hx0, fdk h k 8 4 (by decide)]; exact fd_u16 k 8 4 hk (by decide) _ _ (by simp) rfl
  have k12_3 : bits .and .u16 ((k : Int) / 4096) 7 = ((fd_w x 12 3 : Nat) : Int) := by rw [hx0, fdk h k 12 3 (by decide)]; exact fd_u16 k 12 3 hk (by decide) _ _ (by simp) rfl
  have k0_8 : bits .and .u16 ((k : Int)) 255 = ((fd_w x 0 8 : Nat) : Int) := by rw [hx0, fdk h k 0 8 (by decide)]; exact fd_u16 k 0 8 hk (by decide) _ _ (by simp) rfl
  have k5_1 : bits .and .u16 ((k : Int) / 32) 1 = ((fd_w x 5 1 : Nat) : Int) := by rw [hx0, fdk h k 5 1 (by decide)]; exact fd_u16 k 5 1 hk (by decide) _ _ (by simp) rfl
  have k6_2 : bits .and .u16 ((k : Int) / 64) 3 = ((fd_w x 6 2 : Nat) : Int) := by rw [hx0, fdk h k 6 2 (by decide)]; exact fd_u16 k 6 2 hk (by decide) _ _ (by simp) rfl
  have k0_5 : bits .and .u16 ((k : Int)) 31 = ((fd_w x 0 5 : Nat) : Int) := by rw [hx0, fdk h k 0 5 (by decide)]; exact fd_u16 k 0 5 hk (by decide) _ _ (by simp) rfl
  have f16_4 : fd_w x 16 4 < 16 := fd_lt_w x 16 4
  have f26_1 : fd_w x 26 1 < 2 := fd_lt_w x 26 1
  have f8_4 : fd_w x 8 4 < 16 := fd_lt_w x 8 4
  have f12_3 : fd_w x 12 3 < 8 := fd_lt_w x 12 3
  have f0_8 : fd_w x 0 8 < 256 := fd_lt_w x 0 8
  have f20_5 : fd_w x 20 5 < 32 := fd_lt_w x 20 5
  have f5_1 : fd_w x 5 1 < 2 := fd_lt_w x 5 1
  have f6_2 : fd_w x 6 2 < 4 := fd_lt_w x 6 2
  have f0_5 : fd_w x 0 5 < 32 := fd_lt_w x 0 5
  have hN := numX_lt x
  have hX : numX x = fd_w x 26 1 * 2048 + fd_w x 12 3 * 256 + fd_w x 0 8 := rfl
  have j1 : bits .or .u32 ((fd_w x 26 1 : Nat) * 2048 : Int) ((fd_w x 12 3 : Nat) * 256 : Int) = ((fd_w x 26 1 * 2048 + fd_w x 12 3 * 256 : Nat) : Int) := u32_join (fd_w x 26 1 * 2048) (fd_w x 12 3 * 256) 11 (by omega) (by omega) (by omega) (by omega)
  have j2 : bits .or .u32 ((fd_w x 26 1 * 2048 + fd_w x 12 3 * 256 : Nat) : Int) (fd_w x 0 8 : Nat) = (numX x : Nat) := u32_join (fd_w x 26 1 * 2048 + fd_w x 12 3 * 256) (fd_w x 0 8) 8 (by omega) (by omega) (by omega) (by omega)
  have j3 : bits .or .u32 ((fd_w x 16 4 : Nat) * 4096 : Int) (numX x : Nat) = ((fd_w x 16 4 * 4096 + numX x : Nat) : Int) := u32_join (fd_w x 16 4 * 4096) (numX x) 12 (by omega) (by omega) (by omega) (by omega)
  have jat : bits .or .u16 ((fd_w x 12 3 : Nat) * 4 : Int) (fd_w x 6 2 : Nat) = ((fd_w x 12 3 * 4 + fd_w x 6 2 : Nat) : Int) := u16_join (fd_w x 12 3 * 4) (fd_w x 6 2) 2 (by omega) (by omega) (by omega) (by omega)
  have e7 : fd_w x 23 1 = fd_w x 20 5 / 8 % 2 := by unfold fd_w; omega
  have cA := chkA_at (fd_w x 8 4) (fd_w x 16 4) f8_4 f16_4
  unfold chkA at cA
  simp only [Bool.and_eq_true, beq_iff_eq] at cA
  have hP := plaX_g x
  refine rnum_g h k (fd_w x 8 4) (fd_w x 16 4) (fd_w x 26 1) (fd_w x 12 3) (fd_w x 0 8) (fd_w x 26 1 * 2048 + fd_w x 12 3 * 256) (numX x) (fd_w x 16 4 * 4096 + numX x) (fd_w x 20 5) (fd_w x 23 1) (fd_w x 5 1) (fd_w x 6 2) (fd_w x 12 3 * 4 + fd_w x 6 2) (fd_w x 0 5) x
    (mayS (secondI (startI 5 (fd_w x 8 4 : Nat) (fd_w x 16 4 : Nat)) (numX x : Nat) 2) true) (mayS (secondI (startI 3 (fd_w x 8 4 : Nat) (fd_w x 16 4 : Nat)) (numX x : Nat) 2) true) (plaX x)
    k8_4 h0_4 h10_1 k12_3 k0_8 j1 j2 j3 h4_5 h7_1 e7 k5_1 k6_2 jat k0_5 f8_4 f16_4 f26_1 f12_3 f0_8 hN (by omega) f20_5 f5_1 f6_2 (by omega) f0_5 (rmay_c _ true) (rmay_c _ true) ?_ ?_ ?_ ?_ ?_ ?_ ?_ ?_ ?_ ?_ w
  all_goals
    rw [hP]
    clear h0_4 h4_5 h7_1 h10_1 k8_4 k12_3 k0_8 k5_1 k6_2 k0_5 j1 j2 j3 jat e7
    generalize fd_w x 20 5 = g at *
  · intro hg
    subst hg
    exact add_fin 5 rfl _ _ _ x cA.1
  · intro hg
    subst hg
    exact add_fin 3 rfl _ _ _ x cA.2
  · intro hg
    subst hg
    exact mov_fin (secondI (startI 13 (fd_w x 8 4 : Nat) 0) (fd_w x 16 4 * 4096 + numX x : Nat) 2) rfl rfl rfl rfl x
  · intro hg
    subst hg
    exact mov_fin (immI (startI 30 (fd_w x 8 4 : Nat) 0) (fd_w x 16 4 * 4096 + numX x : Nat)) rfl rfl rfl rfl x
  · intro hg hz
    rcases hg with rfl | rfl | rfl
    · exact (bitX_z 32 x hz).symm
    · exact (bitX_z 31 x hz).symm
    · exact (bitX_z 33 x hz).symm
  · intro hg h26 h5 hq
    clear hP cA
    have hb : ∀ op : Int, (op = 31 ∨ op = 32) → noneI 65 x = bitX op x := by
      intro op ho
      rw [bitX_g op x h26 h5]
      unfold bitG
      rw [bit_chk op ho, show (op == 33) = false by rcases ho with rfl | rfl <;> rfl]
      rcases hq with hq | hq | hq
      · rw [show decide (((fd_w x 12 3 * 4 + fd_w x 6 2 : Nat) : Int) + ((fd_w x 0 5 : Nat) + 1 - bif false then ((fd_w x 12 3 * 4 + fd_w x 6 2 : Nat) : Int) else 0) ≤ 32) = false by simp; omega, Bool.and_false]
        rfl
      · rw [hq, Bool.true_or, Bool.or_true]
        rfl
      · rw [hq, Bool.or_true, Bool.or_true]
        rfl
    rcases hg with rfl | rfl
    · exact hb 32 (.inr rfl)
    · exact hb 31 (.inl rfl)
  · intro op hg h26 h5 hm hd hn
    clear hP cA
    have hb : ((op : Int) = 31 ∨ (op : Int) = 32) → immI (startI op (fd_w x 8 4 : Nat) (fd_w x 16 4 : Nat)) (((fd_w x 12 3 * 4 + fd_w x 6 2 : Nat) : Int) + 32 * ((fd_w x 0 5 : Nat) + 1)) = bitX op x := by
      intro ho
      rw [bitX_g op x h26 h5]
      unfold bitG
      rw [bit_chk op ho, show ((op : Int) == 33) = false by rcases ho with e | e <;> rw [e] <;> rfl, hd, hn]
      rw [show decide (((fd_w x 12 3 * 4 + fd_w x 6 2 : Nat) : Int) + ((fd_w x 0 5 : Nat) + 1 - bif false then ((fd_w x 12 3 * 4 + fd_w x 6 2 : Nat) : Int) else 0) ≤ 32) = true by simp; omega]
      rw [show decide (1 ≤ ((fd_w x 0 5 : Nat) : Int) + 1 - bif false then ((fd_w x 12 3 * 4 + fd_w x 6 2 : Nat) : Int) else 0) = true by simp; omega]
      have e : (((fd_w x 12 3 * 4 + fd_w x 6 2 : Nat) : Int) + 32 * ((fd_w x 0 5 : Nat) + 1 - bif false then ((fd_w x 12 3 * 4 + fd_w x 6 2 : Nat) : Int) else 0)) % 4294967296 = ((fd_w x 12 3 * 4 + fd_w x 6 2 : Nat) : Int) + 32 * ((fd_w x 0 5 : Nat) + 1) := by simp; omega
      rw [e]
      rfl
    rcases hg with ⟨rfl, rfl⟩ | ⟨rfl, rfl⟩
    · exact hb (.inr rfl)
    · exact hb (.inl rfl)
  · intro hg h26 h5 hq
    clear hP cA
    subst hg
    show noneI 65 x = bitX 33 x
    rw [bitX_g 33 x h26 h5]
    unfold bitG
    rw [bfi_chk, show ((33 : Int) == 33) = true from rfl]
    rcases hq with hq | hq | hq
    · rw [show decide (1 ≤ ((fd_w x 0 5 : Nat) : Int) + 1 - bif true then ((fd_w x 12 3 * 4 + fd_w x 6 2 : Nat) : Int) else 0) = false by simp; omega, Bool.false_and]
      rfl
    · rw [hq, Bool.true_or, Bool.or_true]
      rfl
    · rw [show (((fd_w x 16 4 : Nat) : Int) == 13) = true by simp; omega, Bool.or_true, Bool.or_true]
      rfl
  · intro hg h26 h5 hm hd hn
    clear hP cA
    subst hg
    show immI (startI 33 (fd_w x 8 4 : Nat) (fd_w x 16 4 : Nat)) (((fd_w x 12 3 * 4 + fd_w x 6 2 : Nat) : Int) + 32 * ((fd_w x 0 5 : Nat) + 1 - ((fd_w x 12 3 * 4 + fd_w x 6 2 : Nat) : Int))) = bitX 33 x
    rw [bitX_g 33 x h26 h5]
    unfold bitG
    rw [bfi_chk, show ((33 : Int) == 33) = true from rfl, hd]
    rw [show (((fd_w x 16 4 : Nat) : Int) == 13) = false by simp; omega]
    rw [show decide (((fd_w x 12 3 * 4 + fd_w x 6 2 : Nat) : Int) + ((fd_w x 0 5 : Nat) + 1 - bif true then ((fd_w x 12 3 * 4 + fd_w x 6 2 : Nat) : Int) else 0) ≤ 32) = true by simp; omega]
    rw [show decide (1 ≤ ((fd_w x 0 5 : Nat) : Int) + 1 - bif true then ((fd_w x 12 3 * 4 + fd_w x 6 2 : Nat) : Int) else 0) = true by simp; omega]
    have e : (((fd_w x 12 3 * 4 + fd_w x 6 2 : Nat) : Int) + 32 * ((fd_w x 0 5 : Nat) + 1 - bif true then ((fd_w x 12 3 * 4 + fd_w x 6 2 : Nat) : Int) else 0)) % 4294967296 = ((fd_w x 12 3 * 4 + fd_w x 6 2 : Nat) : Int) + 32 * ((fd_w x 0 5 : Nat) + 1 - ((fd_w x 12 3 * 4 + fd_w x 6 2 : Nat) : Int)) := by simp; omega
    rw [e]
    rfl
  · intro a b c d e f g'
    unfold plaG
    rw [show Nat.beq g 0 = false by rw [nbeq_w]; simp; omega, show Nat.beq g 10 = false by rw [nbeq_w]; simp; omega, show Nat.beq g 4 = false by rw [nbeq_w]; simp; omega, show Nat.beq g 12 = false by rw [nbeq_w]; simp; omega, show Nat.beq g 20 = false by rw [nbeq_w]; simp; omega, show Nat.beq g 28 = false by rw [nbeq_w]; simp; omega, show Nat.beq g 22 = false by rw [nbeq_w]; simp; omega]
    rfl
end Go.Proofs.YtplhblhopaheeaaGreatDoor
namespace Go.Proofs.YtplhblhopaheeaaGreatDoor
open Go.ChangeShapes Go.WideShapes Go.ChangeAt Go.RowKit
set_option linter.unusedVariables false
set_option linter.unusedSimpArgs false

theorem mayL_no (ldm back : Bool) (l n : Nat) (why : fd_w l 13 1 = 1 ∨ popN l 16 < 2 ∨ (ldm = false ∧ fd_w l 15 1 = 1) ∨ (ldm = true ∧ fd_w l 14 2 = 3) ∨ (back = true ∧ fd_w l n 1 = 1)) : mayL ldm l n back = false := by
  unfold mayL
  generalize fd_w l 13 1 = a at *
  generalize popN l 16 = p at *
  generalize fd_w l 15 1 = b at *
  generalize fd_w l 14 2 = c at *
  generalize fd_w l n 1 = d at *
  rcases why with rfl | h | ⟨rfl, rfl⟩ | ⟨rfl, rfl⟩ | ⟨rfl, rfl⟩
  · rfl
  · rw [show Nat.ble p 1 = true by rw [nble_w]; simp; omega, Bool.true_or, Bool.or_true]
    rfl
  · rw [cond_false, show Nat.beq 1 0 = false from rfl, Bool.and_false]
  · rw [cond_true, show Nat.beq 3 3 = true from rfl, Bool.not_true, Bool.and_false]
  · rw [show (true && Nat.beq 1 1) = true from rfl, Bool.or_true, Bool.or_true]
    rfl
theorem mayL_yes (ldm back : Bool) (l n : Nat) (h1 : fd_w l 13 1 = 0) (h2 : 2 ≤ popN l 16) (h3 : (ldm = false ∧ fd_w l 15 1 = 0) ∨ (ldm = true ∧ fd_w l 14 2 ≠ 3)) (h4 : back = false ∨ fd_w l n 1 = 0) : mayL ldm l n back = true := by
  unfold mayL
  rw [h1]
  generalize popN l 16 = p at *
  generalize fd_w l 15 1 = b at *
  generalize fd_w l 14 2 = c at *
  generalize fd_w l n 1 = d at *
  rw [show Nat.beq 0 1 = false from rfl, show Nat.ble p 1 = false by rw [nble_w]; simp; omega]
  rw [show (back && Nat.beq d 1) = false by rcases h4 with rfl | rfl; rfl; exact Bool.and_false _]
  rcases h3 with ⟨rfl, rfl⟩ | ⟨rfl, h⟩
  · rfl
  · rw [show Nat.beq c 3 = false by rw [nbeq_w]; simp; omega]
    rfl
theorem man_chk (ldm back down ok : Bool) (n l x : Nat) : checkedI (manyI ldm n l back down) ok x = bif !ok || (n : Int) == 15 then noneI 65 x else manyI ldm n l back down := by
  have e1 : mayN (manyI ldm n l back down) = !((n : Int) == 15) := by
    unfold mayN
    show (bif (n : Int) == 13 then (classS (bif ldm then 52 else 53) == 4 || (classS (bif ldm then 52 else 53) == 5 || (false && sumW (bif ldm then 52 else 53)))) else bif (n : Int) == 15 then (classS (bif ldm then 52 else 53) == 4 || (bif ldm then (52 : Int) else 53) == 33) else true) = !((n : Int) == 15)
    cases h : ((n : Int) == 13)
    · cases ldm <;> cases ((n : Int) == 15) <;> rfl
    · have : ((n : Int) == 15) = false := by simp at h ⊢; omega
      rw [this]
      cases ldm <;> rfl
  have e2 : mayD (manyI ldm n l back down) = true := by
    unfold mayD
    show (bif (false && ((n : Int) == 13 && false)) then _ else true) = true
    rfl
  have e3 : resS (manyI ldm n l back down).m = false := rfl
  have e4 : resS (manyI ldm n l back down).a = false := rfl
  unfold checkedI
  rw [e1, e2, e3, e4]
  cases ok <;> cases ((n : Int) == 15) <;> rfl
def manK (p n l : Nat) (ldm back : Bool) (x : Nat) : IV := bif Nat.beq p 1 then checkedI (manyI ldm n l back false) (mayL ldm l n back) x else bif Nat.beq p 2 then checkedI (manyI ldm n l back true) (mayL ldm l n back) x else noneI 64 x
theorem manX_k (x : Nat) (h22 : fd_w x 22 1 = 0) : manX x = manK (fd_w x 23 2) (fd_w x 16 4) (fd_w x 0 16) (fd_w x 20 1 != 0) (fd_w x 21 1 != 0) x := by
  have e : fd_w x 22 3 = 2 * fd_w x 23 2 := by unfold fd_w at *; omega
  have hp := fd_lt_w x 23 2
  unfold manX manK
  rw [e]
  generalize fd_w x 23 2 = p at *
  rcases (show p = 0 ∨ p = 1 ∨ p = 2 ∨ p = 3 by omega) with rfl | rfl | rfl | rfl <;> rfl
theorem rmany_c (h k x : Nat) (hh : h < 65536) (hk : k < 65536) (hx0 : x = h * 65536 + k) (h22 : fd_w x 22 1 = 0) (w : World) : Calls Tryz.prog 78 #[.int .u16 h, .int .u16 k] w fun e w' => Two w (manX x) x e w' := by
  have h0_4 : bits .and .u16 ((h : Int)) 15 = ((fd_w x 16 4 : Nat) : Int) := by rw [hx0, fdh h k 0 4 hk]; exact fd_u16 h 0 4 hh (by decide) _ _ (by simp) rfl
  have h7_2 : bits .and .u16 ((h : Int) / 128) 3 = ((fd_w x 23 2 : Nat) : Int) := by rw [hx0, fdh h k 7 2 hk]; exact fd_u16 h 7 2 hh (by decide) _ _ (by simp) rfl
  have h4_1 : bits .and .u16 ((h : Int) / 16) 1 = ((fd_w x 20 1 : Nat) : Int) := by rw [hx0, fdh h k 4 1 hk]; exact fd_u16 h 4 1 hh (by decide) _ _ (by simp) rfl
  have h5_1 : bits .and .u16 ((h : Int) / 32) 1 = ((fd_w x 21 1 : Nat) : Int) := by rw [hx0, fdh h k 5 1 hk]; exact fd_u16 h 5 1 hh (by decide) _ _ (by simp) rfl
  have f16_4 : fd_w x 16 4 < 16 := fd_lt_w x 16 4
  have f23_2 : fd_w x 23 2 < 4 := fd_lt_w x 23 2
  have f20_1 : fd_w x 20 1 < 2 := fd_lt_w x 20 1
  have f21_1 : fd_w x 21 1 < 2 := fd_lt_w x 21 1
  have k13 := fd_u16 k 13 1 hk (by decide) ((k : Int) / 8192) 1 (by simp) rfl
  have k14 : (k : Int) / 16384 = ((fd_w k 14 2 : Nat) : Int) := by
    unfold fd_w
    omega
  have k15 : (k : Int) / 32768 = ((fd_w k 15 1 : Nat) : Int) := by
    unfold fd_w
    omega
  have kN := i64_bitv' k (fd_w x 16 4) hk
  have hK : fd_w x 0 16 = k := by
    rw [hx0]
    unfold fd_w
    omega
  have hX := manX_k x h22
  rw [hK] at hX
  refine rmany_g h k (fd_w x 16 4) (fd_w x 23 2) (fd_w x 20 1) (fd_w x 21 1) (fd_w k 13 1) (fd_w k 14 2) (fd_w k 15 1) (fd_w k (fd_w x 16 4) 1) (popN k 16) x (manX x) h0_4 h7_2 h4_1 h5_1 k13 k14 k15 kN hk f16_4 f23_2 f20_1 f21_1 (fd_lt_w k 13 1) (fd_lt_w k 14 2) (fd_lt_w k 15 1) (fd_lt_w k _ 1) (rlist_c_w k hk) ?_ ?_ ?_ w
  all_goals
    rw [hX]
    clear hX kN k13 k14 k15 h0_4 h7_2 h4_1 h5_1 hK h22
    generalize fd_w x 16 4 = n at *
    generalize fd_w x 23 2 = p at *
    generalize fd_w x 20 1 = gl at *
    generalize fd_w x 21 1 = b5 at *
  · intro hp why
    have hb : ∀ down, checkedI (manyI (gl != 0) n k (b5 != 0) down) (mayL (gl != 0) k n (b5 != 0)) x = noneI 65 x := by
      intro down
      rw [man_chk]
      rcases why with h | h | h | ⟨h, h'⟩ | ⟨h, h'⟩ | ⟨h, h'⟩
      · rw [show ((n : Int) == 15) = true by simp; omega, Bool.or_true]
        rfl
      · rw [mayL_no _ _ _ _ (.inl h)]
        rfl
      · rw [mayL_no _ _ _ _ (.inr (.inl h))]
        rfl
      · rw [mayL_no _ _ _ _ (.inr (.inr (.inl ⟨by rw [h]; rfl, h'⟩)))]
        rfl
      · rw [mayL_no _ _ _ _ (.inr (.inr (.inr (.inl ⟨by rw [h]; rfl, h'⟩))))]
        rfl
      · rw [mayL_no _ _ _ _ (.inr (.inr (.inr (.inr ⟨by rw [h]; rfl, h'⟩))))]
        rfl
    rcases hp with rfl | rfl
    · exact (hb false).symm
    · exact (hb true).symm
  · intro ldm back down hp hl hb hn h13 hpp
    have el : (gl != 0) = ldm := by rcases hl with ⟨rfl, rfl, _⟩ | ⟨rfl, rfl, _⟩ <;> rfl
    have eb : (b5 != 0) = back := by rcases hb with ⟨rfl, rfl⟩ | ⟨rfl, rfl, _⟩ <;> rfl
    have hm : mayL ldm k n back = true := mayL_yes ldm back k n h13 hpp (by rcases hl with ⟨_, h1, h2⟩ | ⟨_, h1, h2⟩; exact .inl ⟨h1, h2⟩; exact .inr ⟨h1, h2⟩) (by rcases hb with ⟨_, h1⟩ | ⟨_, _, h1⟩; exact .inl h1; exact .inr h1)
    have hg : checkedI (manyI ldm n k back down) (mayL ldm k n back) x = manyI ldm n k back down := by
      rw [man_chk, hm, show ((n : Int) == 15) = false by simp; omega]
      rfl
    have hf : fin (manyI ldm n k back down) true x = manyI ldm n k back down := by cases ldm <;> rfl
    rw [el, eb, hf]
    rcases hp with ⟨rfl, rfl⟩ | ⟨rfl, rfl⟩
    · exact hg.symm
    · exact hg.symm
  · intro hp
    rcases hp with rfl | rfl <;> rfl
end Go.Proofs.YtplhblhopaheeaaGreatDoor
namespace Go.Proofs.YtplhblhopaheeaaGreatDoor
open Go.ChangeShapes Go.WideShapes Go.ChangeAt Go.RowKit
set_option linter.unusedVariables false
set_option linter.unusedSimpArgs false
set_option maxHeartbeats 20000000
set_option maxRecDepth 100000

theorem dec14 (b : Bool) (i : IV) (x : Nat) (h : i.cond = 14) : decI b i x = i := by
  unfold decI
  rw [h, show ((14 : Int) != 14) = false from rfl, Bool.and_false, Bool.and_false]
  rfl
theorem chk14 (i : IV) (ok : Bool) (x : Nat) (h : i.cond = 14) : (checkedI i ok x).cond = 14 := by
  unfold checkedI
  cases (!ok || (resS i.m || (resS i.a || (!mayD i || !mayN i))))
  · exact h
  · rfl
theorem b14 (c : Bool) (i j : IV) (hi : i.cond = 14) (hj : j.cond = 14) : (bif c then i else j).cond = 14 := by
  cases c
  · exact hj
  · exact hi
theorem data14 (x : Nat) : (dataX x).cond = 14 := by
  unfold dataX dataJ
  repeat (first | apply b14 | rfl)
theorem mod14 (x : Nat) : (modX x).cond = 14 := by
  unfold modX
  refine b14 _ _ _ rfl (chk14 _ _ _ (data14 x))
theorem shi14 (x : Nat) : (shiX x).cond = 14 := by
  unfold shiX
  refine b14 _ _ _ rfl (chk14 _ _ _ (data14 x))
theorem bit14 (op : Int) (x : Nat) : (bitX op x).cond = 14 := by
  unfold bitX
  refine b14 _ _ _ rfl (chk14 _ _ _ rfl)
theorem pla14 (x : Nat) : (plaX x).cond = 14 := by
  unfold plaX
  repeat (first | apply b14 | apply chk14 | apply bit14 | rfl)
theorem lit14 (op d n : Int) (x : Nat) : (litX (startI op d n) x).cond = 14 := by
  unfold litX
  repeat (first | apply b14 | apply chk14 | rfl)
theorem mem14 (x : Nat) : (memX x).cond = 14 := by
  unfold memX
  repeat (first | apply b14 | apply chk14 | apply lit14 | rfl)
theorem man14 (x : Nat) : (manX x).cond = 14 := by
  unfold manX
  repeat (first | apply b14 | apply chk14 | rfl)
theorem una14 (p d n m : Int) (x : Nat) : (unaG p d n m x).cond = 14 := by
  unfold unaG
  repeat (first | apply b14 | apply chk14 | rfl)
theorem reg14 (x : Nat) : (regX x).cond = 14 := by
  unfold regX regG
  repeat (first | apply b14 | apply chk14 | apply una14 | rfl)
def aloK (a p q x : Nat) : IV :=
  bif Nat.beq a 30 && Nat.beq p 1 then branchI x
  else bif Nat.beq q 116 then manX x
  else bif Nat.beq q 117 then shiX x
  else bif Nat.beq q 120 || Nat.beq q 122 then modX x
  else bif Nat.beq q 121 || Nat.beq q 123 then plaX x
  else bif Nat.beq q 124 then memX x
  else bif Nat.beq q 125 then regX x
  else noneI 64 x
theorem aloX_k (x : Nat) : aloX x = aloK (fd_w x 27 5) (fd_w x 15 1) (fd_w x 25 7) x := rfl
def unaQ (r l : Nat) : Bool := unaRS r l == 64 || (!(unaRS r l == 25 || (unaRS r l == 24 || (unaRS r l == 27 || unaRS r l == 26))) && !(unaRS r l == 22 || unaRS r l == 23))
theorem unaQ_all : (List.range 16).all (fun r => (List.range 16).all fun l => unaQ r l) = true := by decide +kernel
theorem reg_none (x : Nat) (h : fd_w x 24 8 = 250) (h12 : fd_w x 12 4 ≠ 15) : regX x = noneI 64 x := by
  have c := List.all_eq_true.1 (List.all_eq_true.1 unaQ_all (fd_w x 20 4) (List.mem_range.2 (fd_lt_w x 20 4))) (fd_w x 4 4) (List.mem_range.2 (fd_lt_w x 4 4))
  unfold regX
  rw [regOp_una x h]
  unfold unaQ at c
  generalize unaRS (fd_w x 20 4) (fd_w x 4 4) = p at *
  have e15 : (((fd_w x 12 4 : Nat) : Int) != 15) = true := by simp; omega
  unfold regG
  rw [e15]
  cases e : (p == 64)
  · rw [e, Bool.false_or] at c
    simp only [Bool.and_eq_true, Bool.not_eq_true'] at c
    rw [c.1, c.2]
    rfl
  · rfl
theorem rwords_c (h k x : Nat) (hh : h < 65536) (hk : k < 65536) (hx0 : x = h * 65536 + k) (b : Bool) (w : World) : Calls Tryz.prog 39 #[.int .u16 h, .int .u16 k, .bool b] w fun e w' => Two w (decI b (aloX x) x) x e w' := by
  have k11 : (h : Int) / 2048 = ((fd_w x 27 5 : Nat) : Int) := by
    rw [hx0, fdh h k 11 5 hk]
    unfold fd_w
    omega
  have k9 : (h : Int) / 512 = ((fd_w x 25 7 : Nat) : Int) := by
    rw [hx0, fdh h k 9 7 hk]
    unfold fd_w
    omega
  have k8 : (h : Int) / 256 = ((fd_w x 24 8 : Nat) : Int) := by
    rw [hx0, fdh h k 8 8 hk]
    unfold fd_w
    omega
  have k15 : (k : Int) / 32768 = ((fd_w x 15 1 : Nat) : Int) := by
    rw [hx0, fdk h k 15 1 (by decide)]
    unfold fd_w
    omega
  have k12 : (k : Int) / 4096 = ((fd_w x 12 4 : Nat) : Int) := by
    rw [hx0, fdk h k 12 4 (by decide)]
    unfold fd_w
    omega
  have kb : bits .and .u16 ((fd_w x 25 7 : Nat) : Int) 1 = ((fd_w x 25 1 : Nat) : Int) := by
    have h7 := fd_lt_w x 25 7
    have := fd_u16 (fd_w x 25 7) 0 1 (by omega) (by decide) ((fd_w x 25 7 : Nat) : Int) 1 (by simp) rfl
    rw [this]
    congr 1
    unfold fd_w
    omega
  have h6_1 : bits .and .u16 ((h : Int) / 64) 1 = ((fd_w x 22 1 : Nat) : Int) := by rw [hx0, fdh h k 6 1 hk]; exact fd_u16 h 6 1 hh (by decide) _ _ (by simp) rfl
  have e98 : fd_w x 25 7 = fd_w x 24 8 / 2 := by unfold fd_w; omega
  have e11 : fd_w x 27 5 = fd_w x 24 8 / 8 := by unfold fd_w; omega
  have e25 : fd_w x 25 1 = fd_w x 25 7 % 2 := by unfold fd_w; omega
  have e275 : fd_w x 27 5 = fd_w x 25 7 / 4 := by unfold fd_w; omega
  refine rwords_g h k (fd_w x 27 5) (fd_w x 15 1) (fd_w x 25 7) (fd_w x 25 1) (fd_w x 24 8) (fd_w x 12 4) (fd_w x 22 1) x b (decI b (aloX x) x) k11 k15 k9 kb k8 k12 h6_1 (fd_lt_w x 15 1) (fd_lt_w x 25 1) (fd_lt_w x 22 1) e98 e11 ?_ ?_ ?_ ?_ ?_ ?_ ?_ ?_ ?_ w
  · intro c w
    have e : aloX x = modX x := by
      rw [aloX_k, c.1, c.2.1]
      rcases (show fd_w x 25 7 = 120 ∨ fd_w x 25 7 = 122 by omega) with q | q <;> rw [q] <;> rfl
    rw [e, dec14 b _ x (mod14 x)]
    exact rmodified_c h k x hh hk hx0 w
  · intro c w
    have e : aloX x = plaX x := by
      rw [aloX_k, c.1, c.2.1]
      rcases (show fd_w x 25 7 = 121 ∨ fd_w x 25 7 = 123 by omega) with q | q <;> rw [q] <;> rfl
    rw [e, dec14 b _ x (pla14 x)]
    exact rnumbers_c h k x hh hk hx0 w
  · intro c w
    have e : aloX x = branchI x := by
      rw [aloX_k, c.1, c.2]
      rfl
    rw [e]
    exact rbranch_c h k x hh hk hx0 b w
  · intro c w
    have e : aloX x = shiX x := by
      rw [aloX_k, show fd_w x 27 5 = 29 by omega, c]
      rfl
    rw [e, dec14 b _ x (shi14 x)]
    exact rshifted_c h k x hh hk hx0 w
  · intro c w
    have e : aloX x = regX x := by
      rw [aloX_k, show fd_w x 27 5 = 31 by omega, show fd_w x 25 7 = 125 by omega]
      rfl
    rw [e, dec14 b _ x (reg14 x)]
    exact runary_c h k x hh hk hx0 c.1 c.2 w
  · intro c w
    have e : aloX x = regX x := by
      rw [aloX_k, show fd_w x 27 5 = 31 by omega, show fd_w x 25 7 = 125 by omega]
      rfl
    rw [e, dec14 b _ x (reg14 x)]
    exact rmultiply_c h k x hh hk hx0 c w
  · intro c w
    have e : aloX x = memX x := by
      rw [aloX_k, show fd_w x 27 5 = 31 by omega, c]
      rfl
    rw [e, dec14 b _ x (mem14 x)]
    exact rmemory_c h k x hh hk hx0 w
  · intro c w
    have e : aloX x = manX x := by
      rw [aloX_k, show fd_w x 27 5 = 29 by omega, c.1]
      rfl
    rw [e, dec14 b _ x (man14 x)]
    exact rmany_c h k x hh hk hx0 c.2 w
  · intro c
    have hf : fin IV.zero false x = noneI 64 x := rfl
    have hd : decI b (noneI 64 x) x = noneI 64 x := dec14 b _ x rfl
    rw [hf]
    rcases c with ⟨c1, c2⟩ | ⟨c1, c2⟩ | ⟨c1, c2, c3, c4, c5, c6⟩
    · have e : aloX x = noneI 64 x := by
        rw [aloX_k, show fd_w x 27 5 = 29 by omega, c1]
        show manX x = _
        have e22 : fd_w x 22 3 % 2 = 1 := by unfold fd_w at *; omega
        unfold manX
        rw [show Nat.beq (fd_w x 22 3) 2 = false by rw [nbeq_w]; simp; omega, show Nat.beq (fd_w x 22 3) 4 = false by rw [nbeq_w]; simp; omega]
        rfl
      rw [e, hd]
    · have e : aloX x = noneI 64 x := by
        rw [aloX_k, show fd_w x 27 5 = 31 by omega, show fd_w x 25 7 = 125 by omega]
        exact reg_none x c1 c2
      rw [e, hd]
    · have e : aloX x = noneI 64 x := by
        rw [aloX_k]
        unfold aloK
        rw [show Nat.beq (fd_w x 27 5) 30 = false by rw [nbeq_w]; simp; omega, Bool.false_and, show Nat.beq (fd_w x 25 7) 116 = false by rw [nbeq_w]; simp; omega, show Nat.beq (fd_w x 25 7) 117 = false by rw [nbeq_w]; simp; omega, show Nat.beq (fd_w x 25 7) 120 = false by rw [nbeq_w]; simp; omega, show Nat.beq (fd_w x 25 7) 122 = false by rw [nbeq_w]; simp; omega, show Nat.beq (fd_w x 25 7) 121 = false by rw [nbeq_w]; simp; omega, show Nat.beq (fd_w x 25 7) 123 = false by rw [nbeq_w]; simp; omega, show Nat.beq (fd_w x 25 7) 124 = false by rw [nbeq_w]; simp; omega, show Nat.beq (fd_w x 25 7) 125 = false by rw [nbeq_w]; simp; omega]
        rfl
      rw [e, hd]
theorem rdw_g (h k x : Nat) (b : Bool) (X : IV) (bh : h < 65536) (bk : k < 65536) (j1 : bits .or .u32 ((h : Int) * 65536) (k : Int) = (x : Int)) (CW : ∀ w, Calls Tryz.prog 39 #[.int .u16 h, .int .u16 k, .bool b] w fun e w' => Two w X x e w')
    (w : World) : Calls Tryz.prog 8 #[.int .u16 h, .int .u16 k, .bool b] w fun e w' => e = .returned X.val ∧ Below w.heap.size w w' := by
  have QW : Hid _ := CW
  clear CW
  go_enter Tryz.func8, Tryz.ntmps8
  have S := SH.start w
  go_wp2_with (first
   | ((with_reducible refine g_al 28 ?_); refine S.gal zI ?_; clear S; intro b w1 S)
   | ((with_reducible refine g_st 28 ?_); refine S.gst (i := ?_) (c := ?_) rfl rfl ?_ ?_ ?_ ?_ ?_; rotate_left 2; (with_reducible first | exact gi0 | exact gi1 | exact gi2 | exact gi3 | exact gi4 | exact gi5); rfl; rfl; exact sI rfl; clear S; intro w1 S; (try simp only [Cel.cells, zL, List.set_cons_zero, List.set_cons_succ, startI, secondI, noneI] at S))
   | (go_at_call 30; refine (rundef_c_w _ _).mono ?_; rintro e wf ⟨rfl, hbf⟩; replace S := S.below hbf; clear hbf)
   | ((with_reducible refine g_st 4 ?_); refine S.gs1 (i := ?_) (c := ?_) (cs := ?_) (.bool _) s_bool rfl rfl rfl ?_ ?_ ?_ ?_; rotate_left 3; (with_reducible first | exact gi0 | exact gi1 | exact gi2 | exact gi3 | exact gi4 | exact gi5); exact of_decide_eq_true rfl; exact rfl; clear S; intro w1 S; (try simp only [Cel.cells, zL, List.set_cons_zero, List.set_cons_succ, startI, secondI, noneI] at S))
   | ((with_reducible refine g_ld 3 ?_); first | (refine g_skip rfl ?_) | (refine S.gld (i := ?_) (c := ?_) (v := ?_) Tryz.underlying3 rfl rfl rfl ?_ ?_ ?_; rotate_left 3; (with_reducible first | exact gi0 | exact gi1 | exact gi2 | exact gi3 | exact gi4 | exact gi5); exact rfl))
   | (go_at_call 31; refine (rbad_c_w _ _).mono ?_; rintro e wf ⟨rfl, hbf⟩; replace S := S.below hbf; clear hbf)
   | ((with_reducible refine g_ld 28 ?_); first | (refine g_skip rfl ?_) | (refine S.gla (i := ?_) (c := ?_) Tryz.underlying28 rfl rfl rfl ?_ ?_ ?_; rotate_left 2; (with_reducible first | exact gi0 | exact gi1 | exact gi2 | exact gi3 | exact gi4 | exact gi5); exact sI rfl)))
  refine (QW.out _).mono ?_
  rintro e wf ⟨i, ok, rfl, HX, hbf⟩
  clear QW
  replace S := S.below hbf
  clear hbf
  have HX2 : Hid _ := HX
  clear HX
  cases ok
  · obtain rfl : noneI 64 x = X := HX2.out
    clear HX2
    go_wp2_with (first
     | ((with_reducible refine g_al 28 ?_); refine S.gal zI ?_; clear S; intro b w1 S)
     | ((with_reducible refine g_st 28 ?_); refine S.gst (i := ?_) (c := ?_) rfl rfl ?_ ?_ ?_ ?_ ?_; rotate_left 2; (with_reducible first | exact gi0 | exact gi1 | exact gi2 | exact gi3 | exact gi4 | exact gi5); rfl; rfl; exact sI rfl; clear S; intro w1 S; (try simp only [Cel.cells, zL, List.set_cons_zero, List.set_cons_succ, startI, secondI, noneI] at S))
     | (go_at_call 30; refine (rundef_c_w _ _).mono ?_; rintro e wf ⟨rfl, hbf⟩; replace S := S.below hbf; clear hbf)
     | ((with_reducible refine g_st 4 ?_); refine S.gs1 (i := ?_) (c := ?_) (cs := ?_) (.bool _) s_bool rfl rfl rfl ?_ ?_ ?_ ?_; rotate_left 3; (with_reducible first | exact gi0 | exact gi1 | exact gi2 | exact gi3 | exact gi4 | exact gi5); exact of_decide_eq_true rfl; exact rfl; clear S; intro w1 S; (try simp only [Cel.cells, zL, List.set_cons_zero, List.set_cons_succ, startI, secondI, noneI] at S))
     | ((with_reducible refine g_ld 3 ?_); first | (refine g_skip rfl ?_) | (refine S.gld (i := ?_) (c := ?_) (v := ?_) Tryz.underlying3 rfl rfl rfl ?_ ?_ ?_; rotate_left 3; (with_reducible first | exact gi0 | exact gi1 | exact gi2 | exact gi3 | exact gi4 | exact gi5); exact rfl))
     | (go_at_call 31; refine (rbad_c_w _ _).mono ?_; rintro e wf ⟨rfl, hbf⟩; replace S := S.below hbf; clear hbf)
     | ((with_reducible refine g_ld 28 ?_); first | (refine g_skip rfl ?_) | (refine S.gla (i := ?_) (c := ?_) Tryz.underlying28 rfl rfl rfl ?_ ?_ ?_; rotate_left 2; (with_reducible first | exact gi0 | exact gi1 | exact gi2 | exact gi3 | exact gi4 | exact gi5); exact sI rfl)))
    (try simp only [Exit.inBlock, Exit.then])
    apply bodyPost_ret
    refine S.gR (i := ?_) (c := ?_) Tryz.underlying28 rfl rfl rfl ?_ ?_
    rotate_left 2
    (with_reducible first | exact gi0 | exact gi1 | exact gi2 | exact gi3 | exact gi4 | exact gi5)
    exact sI rfl
    rfl
    exact ⟨rfl, S.low⟩
  · cases hq : (i.op == 65)
    · obtain rfl : i = X := by
        have := HX2.out
        unfold fin at this
        rw [hq] at this
        exact this
      clear HX2
      go_wp2_with (first
       | ((with_reducible refine g_al 28 ?_); refine S.gal zI ?_; clear S; intro b w1 S)
       | ((with_reducible refine g_st 28 ?_); refine S.gst (i := ?_) (c := ?_) rfl rfl ?_ ?_ ?_ ?_ ?_; rotate_left 2; (with_reducible first | exact gi0 | exact gi1 | exact gi2 | exact gi3 | exact gi4 | exact gi5); rfl; rfl; exact sI rfl; clear S; intro w1 S; (try simp only [Cel.cells, zL, List.set_cons_zero, List.set_cons_succ, startI, secondI, noneI] at S))
       | (go_at_call 30; refine (rundef_c_w _ _).mono ?_; rintro e wf ⟨rfl, hbf⟩; replace S := S.below hbf; clear hbf)
       | ((with_reducible refine g_st 4 ?_); refine S.gs1 (i := ?_) (c := ?_) (cs := ?_) (.bool _) s_bool rfl rfl rfl ?_ ?_ ?_ ?_; rotate_left 3; (with_reducible first | exact gi0 | exact gi1 | exact gi2 | exact gi3 | exact gi4 | exact gi5); exact of_decide_eq_true rfl; exact rfl; clear S; intro w1 S; (try simp only [Cel.cells, zL, List.set_cons_zero, List.set_cons_succ, startI, secondI, noneI] at S))
       | ((with_reducible refine g_ld 3 ?_); first | (refine g_skip rfl ?_) | (refine S.gld (i := ?_) (c := ?_) (v := ?_) Tryz.underlying3 rfl rfl rfl ?_ ?_ ?_; rotate_left 3; (with_reducible first | exact gi0 | exact gi1 | exact gi2 | exact gi3 | exact gi4 | exact gi5); exact rfl))
       | (go_at_call 31; refine (rbad_c_w _ _).mono ?_; rintro e wf ⟨rfl, hbf⟩; replace S := S.below hbf; clear hbf)
       | ((with_reducible refine g_ld 28 ?_); first | (refine g_skip rfl ?_) | (refine S.gla (i := ?_) (c := ?_) Tryz.underlying28 rfl rfl rfl ?_ ?_ ?_; rotate_left 2; (with_reducible first | exact gi0 | exact gi1 | exact gi2 | exact gi3 | exact gi4 | exact gi5); exact sI rfl)))
      (try simp only [Exit.inBlock, Exit.then])
      apply bodyPost_ret
      refine S.gR (i := ?_) (c := ?_) Tryz.underlying28 rfl rfl rfl ?_ ?_
      rotate_left 2
      (with_reducible first | exact gi0 | exact gi1 | exact gi2 | exact gi3 | exact gi4 | exact gi5)
      exact sI rfl
      rfl
      exact ⟨rfl, S.low⟩
    · obtain rfl : noneI 65 x = X := by
        have := HX2.out
        unfold fin at this
        rw [hq] at this
        exact this
      clear HX2
      go_wp2_with (first
       | ((with_reducible refine g_al 28 ?_); refine S.gal zI ?_; clear S; intro b w1 S)
       | ((with_reducible refine g_st 28 ?_); refine S.gst (i := ?_) (c := ?_) rfl rfl ?_ ?_ ?_ ?_ ?_; rotate_left 2; (with_reducible first | exact gi0 | exact gi1 | exact gi2 | exact gi3 | exact gi4 | exact gi5); rfl; rfl; exact sI rfl; clear S; intro w1 S; (try simp only [Cel.cells, zL, List.set_cons_zero, List.set_cons_succ, startI, secondI, noneI] at S))
       | (go_at_call 30; refine (rundef_c_w _ _).mono ?_; rintro e wf ⟨rfl, hbf⟩; replace S := S.below hbf; clear hbf)
       | ((with_reducible refine g_st 4 ?_); refine S.gs1 (i := ?_) (c := ?_) (cs := ?_) (.bool _) s_bool rfl rfl rfl ?_ ?_ ?_ ?_; rotate_left 3; (with_reducible first | exact gi0 | exact gi1 | exact gi2 | exact gi3 | exact gi4 | exact gi5); exact of_decide_eq_true rfl; exact rfl; clear S; intro w1 S; (try simp only [Cel.cells, zL, List.set_cons_zero, List.set_cons_succ, startI, secondI, noneI] at S))
       | ((with_reducible refine g_ld 3 ?_); first | (refine g_skip rfl ?_) | (refine S.gld (i := ?_) (c := ?_) (v := ?_) Tryz.underlying3 rfl rfl rfl ?_ ?_ ?_; rotate_left 3; (with_reducible first | exact gi0 | exact gi1 | exact gi2 | exact gi3 | exact gi4 | exact gi5); exact rfl))
       | (go_at_call 31; refine (rbad_c_w _ _).mono ?_; rintro e wf ⟨rfl, hbf⟩; replace S := S.below hbf; clear hbf)
       | ((with_reducible refine g_ld 28 ?_); first | (refine g_skip rfl ?_) | (refine S.gla (i := ?_) (c := ?_) Tryz.underlying28 rfl rfl rfl ?_ ?_ ?_; rotate_left 2; (with_reducible first | exact gi0 | exact gi1 | exact gi2 | exact gi3 | exact gi4 | exact gi5); exact sI rfl)))
      (try simp only [Exit.inBlock, Exit.then])
      apply bodyPost_ret
      refine S.gR (i := ?_) (c := ?_) Tryz.underlying28 rfl rfl rfl ?_ ?_
      rotate_left 2
      (with_reducible first | exact gi0 | exact gi1 | exact gi2 | exact gi3 | exact gi4 | exact gi5)
      exact sI rfl
      rfl
      exact ⟨rfl, S.low⟩
theorem rdecodeWide_c (h k : Nat) (hh : h < 65536) (hk : k < 65536) (b : Bool) (w : World) : Calls Tryz.prog 8 #[.int .u16 h, .int .u16 k, .bool b] w fun e w' => e = .returned (decI b (aloX (h * 65536 + k)) (h * 65536 + k)).val ∧ Below w.heap.size w w' :=
  rdw_g h k (h * 65536 + k) b _ hh hk (u32_join (h * 65536) k 16 (by omega) (by omega) hk (by omega)) (rwords_c h k _ hh hk rfl b) w
end Go.Proofs.YtplhblhopaheeaaGreatDoor
