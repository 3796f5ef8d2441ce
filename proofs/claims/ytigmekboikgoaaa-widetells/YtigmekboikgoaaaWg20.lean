/- Stage 9: the document: products, at every pair of halves. -/
import Derived.Test.YtigmekboikgoaaaWg17
import Derived.Test.YtigmekboikgoaaaWg18
import Derived.Test.YtigmekboikgoaaaWg19
import Derived.Test.YtigmekboikgoaaaWe6
namespace Go.Proofs.Ytigmekboikgoaaa
open Go.ChangeShapes Go.WideShapes Go.ChangeAt Go.RowKit
set_option linter.unusedVariables false
set_option linter.unusedSimpArgs false

theorem mul_chk (op : Int) (ho : 21 ≤ op ∧ op ≤ 29) (d n m a : Int) (ok : Bool) (x : Nat) : checkedI (r4 op false d n m a) ok x = (bif !ok || (oddS a || (oddS d || (oddS n || oddS m))) then noneI 65 x else r4 op false d n m a) := by
  have c1 : classS op = 2 := by unfold classS; rw [if_neg (by omega), if_neg (by omega), if_pos (by omega)]
  have c3 : (op == 33) = false := by simp; omega
  unfold checkedI
  have e1 : mayN (r4 op false d n m a) = !oddS n := by
    unfold mayN oddS
    show (bif n == 13 then (classS op == 4 || (classS op == 5 || (false && sumW op))) else bif n == 15 then (classS op == 4 || op == 33) else true) = !(n == 13 || n == 15)
    rw [c1, c3]
    cases (n == 13) <;> cases (n == 15) <;> rfl
  have e2 : mayD (r4 op false d n m a) = !oddS d := by
    unfold mayD
    show (bif (d == 13 && (n == 13 && false)) then (op == 5 || op == 3) else !resS d) = !oddS d
    rw [Bool.and_false, Bool.and_false, cond_false]
    rfl
  have e3 : resS (r4 op false d n m a).m = oddS m := rfl
  have e4 : resS (r4 op false d n m a).a = oddS a := rfl
  rw [e1, e2, e3, e4]
  cases ok <;> cases oddS d <;> cases oddS n <;> cases oddS m <;> cases oddS a <;> rfl
theorem fin_none (i : IV) (x : Nat) : fin i false x = noneI 64 x := rfl
def mulRP (r low : Nat) : Int := regOpY (((4016 + r) * 1048576 + low * 16 : Nat) : Int)
def mulRS (r low : Nat) : Int := bif Nat.beq low 0 then (bif Nat.beq r 0 then 22 else bif Nat.beq r 8 then 25 else bif Nat.beq r 10 then 24 else bif Nat.beq r 12 then 27 else bif Nat.beq r 14 then 26 else 64) else bif Nat.beq low 1 then (bif Nat.beq r 0 then 23 else 64) else bif Nat.beq low 15 then (bif Nat.beq r 9 then 29 else bif Nat.beq r 11 then 28 else 64) else 64
theorem mulRP_all : (List.range 16).all (fun r => (List.range 16).all fun l => mulRP r l == mulRS r l) = true := by decide +kernel
theorem mulRP_at (r l : Nat) (hr : r < 16) (hl : l < 16) : mulRP r l = mulRS r l := by
  have := List.all_eq_true.1 (List.all_eq_true.1 mulRP_all r (List.mem_range.2 hr)) l (List.mem_range.2 hl)
  simpa using this
theorem f20_12 (x : Nat) : fd x 20 12 = fd x 24 8 * 16 + fd x 20 4 := by
  unfold fd
  omega
theorem regOp_mul (x : Nat) (h : fd x 24 8 = 251) : regOp x = mulRS (fd x 20 4) (fd x 4 4) := by
  rw [← mulRP_at _ _ (fd_lt x 20 4) (fd_lt x 4 4)]
  unfold regOp mulRP
  rw [f20_12, h]
theorem odd_no (op : Int) (ho : 21 ≤ op ∧ op ≤ 29) (d n m a : Int) (x : Nat) (X : IV) (hX : X = checkedI (r4 op false d n m a) true x) : ((oddS a || (oddS d || (oddS n || oddS m))) = false → fin (r4 op false d n m a) true x = X) ∧ ((oddS a || (oddS d || (oddS n || oddS m))) = true → fin (startI 65 0 0) true x = X) := by
  rw [mul_chk op ho] at hX
  refine ⟨fun h => ?_, fun h => ?_⟩
  · rw [hX, h]
    have : (op == 65) = false := by simp; omega
    unfold fin
    show (bif true then (bif op == 65 then noneI 65 x else r4 op false d n m a) else noneI 64 x) = _
    rw [this]
    rfl
  · rw [hX, h]
    rfl
theorem rmultiply_c (h k x : Nat) (hh : h < 65536) (hk : k < 65536) (hx0 : x = h * 65536 + k) (h24 : fd x 24 8 = 251) (w : World) : Calls Try.prog 31 #[.int .u16 h, .int .u16 k] w fun e w' => Two w (regX x) x e w' := by
  have kh : bits .and .u16 ((h : Int) / 16) 15 = ((fd x 20 4 : Nat) : Int) := by rw [hx0, fdh h k 4 4 hk]; exact fd_u16 h 4 4 hh (by decide) _ _ (by simp) rfl
  have kw : bits .and .u16 ((k : Int) / 16) 15 = ((fd x 4 4 : Nat) : Int) := by rw [hx0, fdk h k 4 4 (by decide)]; exact fd_u16 k 4 4 hk (by decide) _ _ (by simp) rfl
  have kd : bits .and .u16 ((k : Int) / 256) 15 = ((fd x 8 4 : Nat) : Int) := by rw [hx0, fdk h k 8 4 (by decide)]; exact fd_u16 k 8 4 hk (by decide) _ _ (by simp) rfl
  have kn : bits .and .u16 ((h : Int)) 15 = ((fd x 16 4 : Nat) : Int) := by rw [hx0, fdh h k 0 4 hk]; exact fd_u16 h 0 4 hh (by decide) _ _ (by simp) rfl
  have km : bits .and .u16 ((k : Int)) 15 = ((fd x 0 4 : Nat) : Int) := by rw [hx0, fdk h k 0 4 (by decide)]; exact fd_u16 k 0 4 hk (by decide) _ _ (by simp) rfl
  have kz : bits .and .u16 ((h : Int) / 32) 3 = ((fd x 21 2 : Nat) : Int) := by rw [hx0, fdh h k 5 2 hk]; exact fd_u16 h 5 2 hh (by decide) _ _ (by simp) rfl
  have ka : (k : Int) / 4096 = ((fd x 12 4 : Nat) : Int) := by
    rw [hx0, fdk h k 12 4 (by decide)]
    unfold fd
    omega
  have fa := fd_lt x 12 4
  have fdd := fd_lt x 8 4
  have fn := fd_lt x 16 4
  have fm := fd_lt x 0 4
  have fr := fd_lt x 20 4
  have fl := fd_lt x 4 4
  have fz : fd x 21 2 = fd x 20 4 / 2 % 4 := by unfold fd; omega
  have hR : regX x = regG (mulRS (fd x 20 4) (fd x 4 4)) (fd x 8 4 : Nat) (fd x 16 4 : Nat) (fd x 0 4 : Nat) (fd x 12 4 : Nat) (fd x 20 1 != 0) x := by unfold regX; rw [regOp_mul x h24]
  generalize regX x = X at *
  generalize fd x 20 4 = r at *
  generalize fd x 4 4 = l at *
  generalize fd x 12 4 = ga at *
  generalize fd x 8 4 = gd at *
  generalize fd x 16 4 = gn at *
  generalize fd x 0 4 = gm at *
  generalize (fd x 20 1 != 0) = s at *
  generalize fd x 21 2 = gz at *
  have none : mulRS r l = 64 → ∀ i : IV, fin i false x = X := fun e i => by
    rw [hR, e]
    rfl
  rcases (show l = 0 ∨ l = 1 ∨ l = 15 ∨ (l ≠ 0 ∧ l ≠ 1 ∧ l ≠ 15) by omega) with rfl | rfl | rfl | ⟨l0, l1, l15⟩
  · rcases (show r = 0 ∨ r = 8 ∨ r = 10 ∨ r = 12 ∨ r = 14 ∨ (r ≠ 0 ∧ r ≠ 8 ∧ r ≠ 10 ∧ r ≠ 12 ∧ r ≠ 14) by omega) with rfl | rfl | rfl | rfl | rfl | hr
    · rcases (show ga = 15 ∨ ga ≠ 15 by omega) with rfl | hc
      · have q := odd_no 21 (by decide) gd gn gm 0 x X (by rw [hR]; rfl)
        exact rmul_mul h k 15 gd gn gm x X kh kw ka kd kn km fa fdd fn fm rfl q.1 q.2 w
      · have hc2 : ((ga : Int) == 15) = false := by simp; omega
        have q := odd_no 22 (by decide) gd gn gm ga x X (by rw [hR]; exact regG_a 22 _ _ _ _ _ _ rfl rfl rfl (by rw [hc2]; rfl))
        exact rmul_mla h k ga gd gn gm x X kh kw ka kd kn km fa fdd fn fm hc q.1 q.2 w
    · have q := mul_chk 25 (by decide) ga gn gm gd ((ga : Int) != gd) x
      have hX : X = checkedI (r4 25 false ga gn gm gd) ((ga : Int) != gd) x := by rw [hR]; rfl
      rw [q] at hX
      have z2 : bits .and .u16 ((h : Int) / 32) 3 = 0 := by rw [kz, fz]; rfl
      refine rmul_long8 h k ga gd gn gm x X kh kw ka kd kn km fa fdd fn fm trivial z2 ?_ ?_ ?_ w
      · intro ho hne
        have e : ((ga : Int) != gd) = true := by simp; omega
        rw [hX, e, ho]
        rfl
      · intro ho
        rw [hX, ho, Bool.or_true]
        rfl
      · intro he
        have e : ((ga : Int) != gd) = false := by rw [he]; simp
        rw [hX, e]
        rfl
    · have q := mul_chk 24 (by decide) ga gn gm gd ((ga : Int) != gd) x
      have hX : X = checkedI (r4 24 false ga gn gm gd) ((ga : Int) != gd) x := by rw [hR]; rfl
      rw [q] at hX
      have z2 : bits .and .u16 ((h : Int) / 32) 3 = 1 := by rw [kz, fz]; rfl
      refine rmul_long10 h k ga gd gn gm x X kh kw ka kd kn km fa fdd fn fm trivial z2 ?_ ?_ ?_ w
      · intro ho hne
        have e : ((ga : Int) != gd) = true := by simp; omega
        rw [hX, e, ho]
        rfl
      · intro ho
        rw [hX, ho, Bool.or_true]
        rfl
      · intro he
        have e : ((ga : Int) != gd) = false := by rw [he]; simp
        rw [hX, e]
        rfl
    · have q := mul_chk 27 (by decide) ga gn gm gd ((ga : Int) != gd) x
      have hX : X = checkedI (r4 27 false ga gn gm gd) ((ga : Int) != gd) x := by rw [hR]; rfl
      rw [q] at hX
      have z2 : bits .and .u16 ((h : Int) / 32) 3 = 2 := by rw [kz, fz]; rfl
      refine rmul_long12 h k ga gd gn gm x X kh kw ka kd kn km fa fdd fn fm trivial z2 ?_ ?_ ?_ w
      · intro ho hne
        have e : ((ga : Int) != gd) = true := by simp; omega
        rw [hX, e, ho]
        rfl
      · intro ho
        rw [hX, ho, Bool.or_true]
        rfl
      · intro he
        have e : ((ga : Int) != gd) = false := by rw [he]; simp
        rw [hX, e]
        rfl
    · have q := mul_chk 26 (by decide) ga gn gm gd ((ga : Int) != gd) x
      have hX : X = checkedI (r4 26 false ga gn gm gd) ((ga : Int) != gd) x := by rw [hR]; rfl
      rw [q] at hX
      have z2 : bits .and .u16 ((h : Int) / 32) 3 = 3 := by rw [kz, fz]; rfl
      refine rmul_long14 h k ga gd gn gm x X kh kw ka kd kn km fa fdd fn fm trivial z2 ?_ ?_ ?_ w
      · intro ho hne
        have e : ((ga : Int) != gd) = true := by simp; omega
        rw [hX, e, ho]
        rfl
      · intro ho
        rw [hX, ho, Bool.or_true]
        rfl
      · intro he
        have e : ((ga : Int) != gd) = false := by rw [he]; simp
        rw [hX, e]
        rfl
    · exact rmul_n0 h k ga gd gn gm x r 0 X kh kw ka kd kn km fr fa fdd fn fm hr (none (by
        obtain ⟨r0, r8, r10, r12, r14⟩ := hr
        unfold mulRS
        simp [nbeq, r0, r8, r10, r12, r14])) w
  · rcases (show r = 0 ∨ r ≠ 0 by omega) with rfl | hr
    · have q := odd_no 23 (by decide) gd gn gm ga x X (by rw [hR]; rfl)
      exact rmul_mls h k ga gd gn gm x X kh kw ka kd kn km fa fdd fn fm trivial q.1 q.2 w
    · exact rmul_n1 h k ga gd gn gm x r 1 X kh kw ka kd kn km fr fa fdd fn fm hr (none (by unfold mulRS; simp [nbeq, hr])) w
  · rcases (show r = 9 ∨ r = 11 ∨ (r ≠ 9 ∧ r ≠ 11) by omega) with rfl | rfl | hr
    · rcases (show ga = 15 ∨ ga ≠ 15 by omega) with rfl | hc
      · have q := odd_no 29 (by decide) gd gn gm 0 x X (by rw [hR]; rfl)
        exact rmul_sdiv h k 15 gd gn gm x X kh kw ka kd kn km fa fdd fn fm rfl q.1 q.2 w
      · have hc2 : ((ga : Int) != 15) = true := by simp; omega
        exact rmul_n15 h k ga gd gn gm x 9 15 X kh kw ka kd kn km fr fa fdd fn fm (fun _ => hc) (fun i => by
          rw [hR, show mulRS 9 15 = 29 from rfl, regG_o 29 _ _ _ _ _ _ rfl rfl rfl hc2]
          rfl) w
    · rcases (show ga = 15 ∨ ga ≠ 15 by omega) with rfl | hc
      · have q := odd_no 28 (by decide) gd gn gm 0 x X (by rw [hR]; rfl)
        exact rmul_udiv h k 15 gd gn gm x X kh kw ka kd kn km fa fdd fn fm rfl q.1 q.2 w
      · have hc2 : ((ga : Int) != 15) = true := by simp; omega
        exact rmul_n15 h k ga gd gn gm x 11 15 X kh kw ka kd kn km fr fa fdd fn fm (fun _ => hc) (fun i => by
          rw [hR, show mulRS 11 15 = 28 from rfl, regG_o 28 _ _ _ _ _ _ rfl rfl rfl hc2]
          rfl) w
    · exact rmul_n15 h k ga gd gn gm x r 15 X kh kw ka kd kn km fr fa fdd fn fm (fun e => by omega) (none (by unfold mulRS; simp [nbeq, hr.1, hr.2])) w
  · exact rmul_nx h k ga gd gn gm x r l X kh kw l0 l1 l15 ka kd kn km fr fa fdd fn fm (none (by unfold mulRS; simp [nbeq, l0, l1, l15])) w
end Go.Proofs.Ytigmekboikgoaaa
