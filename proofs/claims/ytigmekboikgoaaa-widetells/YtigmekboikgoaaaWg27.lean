/- Stage 9: the document: many registers, at every pair of halves. -/
import Derived.Test.YtigmekboikgoaaaWg25
import Derived.Test.YtigmekboikgoaaaWg26
import Derived.Test.YtigmekboikgoaaaWe8
namespace Go.Proofs.Ytigmekboikgoaaa
open Go.ChangeShapes Go.WideShapes Go.ChangeAt Go.RowKit
set_option linter.unusedVariables false
set_option linter.unusedSimpArgs false

theorem mayL_no (ldm back : Bool) (l n : Nat) (why : fd l 13 1 = 1 ∨ popN l 16 < 2 ∨ (ldm = false ∧ fd l 15 1 = 1) ∨ (ldm = true ∧ fd l 14 2 = 3) ∨ (back = true ∧ fd l n 1 = 1)) : mayL ldm l n back = false := by
  unfold mayL
  generalize fd l 13 1 = a at *
  generalize popN l 16 = p at *
  generalize fd l 15 1 = b at *
  generalize fd l 14 2 = c at *
  generalize fd l n 1 = d at *
  rcases why with rfl | h | ⟨rfl, rfl⟩ | ⟨rfl, rfl⟩ | ⟨rfl, rfl⟩
  · rfl
  · rw [show Nat.ble p 1 = true by rw [nble]; simp; omega, Bool.true_or, Bool.or_true]
    rfl
  · rw [cond_false, show Nat.beq 1 0 = false from rfl, Bool.and_false]
  · rw [cond_true, show Nat.beq 3 3 = true from rfl, Bool.not_true, Bool.and_false]
  · rw [show (true && Nat.beq 1 1) = true from rfl, Bool.or_true, Bool.or_true]
    rfl
theorem mayL_yes (ldm back : Bool) (l n : Nat) (h1 : fd l 13 1 = 0) (h2 : 2 ≤ popN l 16) (h3 : (ldm = false ∧ fd l 15 1 = 0) ∨ (ldm = true ∧ fd l 14 2 ≠ 3)) (h4 : back = false ∨ fd l n 1 = 0) : mayL ldm l n back = true := by
  unfold mayL
  rw [h1]
  generalize popN l 16 = p at *
  generalize fd l 15 1 = b at *
  generalize fd l 14 2 = c at *
  generalize fd l n 1 = d at *
  rw [show Nat.beq 0 1 = false from rfl, show Nat.ble p 1 = false by rw [nble]; simp; omega]
  rw [show (back && Nat.beq d 1) = false by rcases h4 with rfl | rfl; rfl; exact Bool.and_false _]
  rcases h3 with ⟨rfl, rfl⟩ | ⟨rfl, h⟩
  · rfl
  · rw [show Nat.beq c 3 = false by rw [nbeq]; simp; omega]
    rfl
theorem man_chk (ldm back down ok : Bool) (n l x : Nat) : checkedI (manyI ldm n l back down) ok x = bif !ok || (n : Int) == 15 then noneI 65 x else manyI ldm n l back down := by
  have e1 : mayN (manyI ldm n l back down) = !((n : Int) == 15) := by
    unfold mayN
    show (bif (n : Int) == 13 then (classS (bif ldm then 52 else 53) == 4 || (classS (bif ldm then 52 else 53) == 5 || (false && sumW (bif ldm then 52 else 53)))) else bif (n : Int) == 15 then (classS (bif ldm then 52 else 53) == 4 || (bif ldm then (52 : Int) else 53) == 33) else true) = !((n : Int) == 15)
    cases h : ((n : Int) == 13)
    · cases ldm <;> cases ((n : Int) == 15) <;> rfl
    · have : ((n : Int) == 15) = false := by simp at h ⊢; omega
      rw [this]
      cases ldm <;> rfl
  have e2 : mayD (manyI ldm n l back down) = true := by
    unfold mayD
    show (bif (false && ((n : Int) == 13 && false)) then _ else true) = true
    rfl
  have e3 : resS (manyI ldm n l back down).m = false := rfl
  have e4 : resS (manyI ldm n l back down).a = false := rfl
  unfold checkedI
  rw [e1, e2, e3, e4]
  cases ok <;> cases ((n : Int) == 15) <;> rfl
def manK (p n l : Nat) (ldm back : Bool) (x : Nat) : IV := bif Nat.beq p 1 then checkedI (manyI ldm n l back false) (mayL ldm l n back) x else bif Nat.beq p 2 then checkedI (manyI ldm n l back true) (mayL ldm l n back) x else noneI 64 x
theorem manX_k (x : Nat) (h22 : fd x 22 1 = 0) : manX x = manK (fd x 23 2) (fd x 16 4) (fd x 0 16) (fd x 20 1 != 0) (fd x 21 1 != 0) x := by
  have e : fd x 22 3 = 2 * fd x 23 2 := by unfold fd at *; omega
  have hp := fd_lt x 23 2
  unfold manX manK
  rw [e]
  generalize fd x 23 2 = p at *
  rcases (show p = 0 ∨ p = 1 ∨ p = 2 ∨ p = 3 by omega) with rfl | rfl | rfl | rfl <;> rfl
theorem rmany_c (h k x : Nat) (hh : h < 65536) (hk : k < 65536) (hx0 : x = h * 65536 + k) (h22 : fd x 22 1 = 0) (w : World) : Calls Try.prog 33 #[.int .u16 h, .int .u16 k] w fun e w' => Two w (manX x) x e w' := by
  have h0_4 : bits .and .u16 ((h : Int)) 15 = ((fd x 16 4 : Nat) : Int) := by rw [hx0, fdh h k 0 4 hk]; exact fd_u16 h 0 4 hh (by decide) _ _ (by simp) rfl
  have h7_2 : bits .and .u16 ((h : Int) / 128) 3 = ((fd x 23 2 : Nat) : Int) := by rw [hx0, fdh h k 7 2 hk]; exact fd_u16 h 7 2 hh (by decide) _ _ (by simp) rfl
  have h4_1 : bits .and .u16 ((h : Int) / 16) 1 = ((fd x 20 1 : Nat) : Int) := by rw [hx0, fdh h k 4 1 hk]; exact fd_u16 h 4 1 hh (by decide) _ _ (by simp) rfl
  have h5_1 : bits .and .u16 ((h : Int) / 32) 1 = ((fd x 21 1 : Nat) : Int) := by rw [hx0, fdh h k 5 1 hk]; exact fd_u16 h 5 1 hh (by decide) _ _ (by simp) rfl
  have f16_4 : fd x 16 4 < 16 := fd_lt x 16 4
  have f23_2 : fd x 23 2 < 4 := fd_lt x 23 2
  have f20_1 : fd x 20 1 < 2 := fd_lt x 20 1
  have f21_1 : fd x 21 1 < 2 := fd_lt x 21 1
  have k13 := fd_u16 k 13 1 hk (by decide) ((k : Int) / 8192) 1 (by simp) rfl
  have k14 : (k : Int) / 16384 = ((fd k 14 2 : Nat) : Int) := by
    unfold fd
    omega
  have k15 : (k : Int) / 32768 = ((fd k 15 1 : Nat) : Int) := by
    unfold fd
    omega
  have kN := i64_bitv' k (fd x 16 4) hk
  have hK : fd x 0 16 = k := by
    rw [hx0]
    unfold fd
    omega
  have hX := manX_k x h22
  rw [hK] at hX
  refine rmany_g h k (fd x 16 4) (fd x 23 2) (fd x 20 1) (fd x 21 1) (fd k 13 1) (fd k 14 2) (fd k 15 1) (fd k (fd x 16 4) 1) (popN k 16) x (manX x) h0_4 h7_2 h4_1 h5_1 k13 k14 k15 kN hk f16_4 f23_2 f20_1 f21_1 (fd_lt k 13 1) (fd_lt k 14 2) (fd_lt k 15 1) (fd_lt k _ 1) (rlist_c k hk) ?_ ?_ ?_ w
  all_goals
    rw [hX]
    clear hX kN k13 k14 k15 h0_4 h7_2 h4_1 h5_1 hK h22
    generalize fd x 16 4 = n at *
    generalize fd x 23 2 = p at *
    generalize fd x 20 1 = gl at *
    generalize fd x 21 1 = b5 at *
  · intro hp why
    have hb : ∀ down, checkedI (manyI (gl != 0) n k (b5 != 0) down) (mayL (gl != 0) k n (b5 != 0)) x = noneI 65 x := by
      intro down
      rw [man_chk]
      rcases why with h | h | h | ⟨h, h'⟩ | ⟨h, h'⟩ | ⟨h, h'⟩
      · rw [show ((n : Int) == 15) = true by simp; omega, Bool.or_true]
        rfl
      · rw [mayL_no _ _ _ _ (.inl h)]
        rfl
      · rw [mayL_no _ _ _ _ (.inr (.inl h))]
        rfl
      · rw [mayL_no _ _ _ _ (.inr (.inr (.inl ⟨by rw [h]; rfl, h'⟩)))]
        rfl
      · rw [mayL_no _ _ _ _ (.inr (.inr (.inr (.inl ⟨by rw [h]; rfl, h'⟩))))]
        rfl
      · rw [mayL_no _ _ _ _ (.inr (.inr (.inr (.inr ⟨by rw [h]; rfl, h'⟩))))]
        rfl
    rcases hp with rfl | rfl
    · exact (hb false).symm
    · exact (hb true).symm
  · intro ldm back down hp hl hb hn h13 hpp
    have el : (gl != 0) = ldm := by rcases hl with ⟨rfl, rfl, _⟩ | ⟨rfl, rfl, _⟩ <;> rfl
    have eb : (b5 != 0) = back := by rcases hb with ⟨rfl, rfl⟩ | ⟨rfl, rfl, _⟩ <;> rfl
    have hm : mayL ldm k n back = true := mayL_yes ldm back k n h13 hpp (by rcases hl with ⟨_, h1, h2⟩ | ⟨_, h1, h2⟩; exact .inl ⟨h1, h2⟩; exact .inr ⟨h1, h2⟩) (by rcases hb with ⟨_, h1⟩ | ⟨_, _, h1⟩; exact .inl h1; exact .inr h1)
    have hg : checkedI (manyI ldm n k back down) (mayL ldm k n back) x = manyI ldm n k back down := by
      rw [man_chk, hm, show ((n : Int) == 15) = false by simp; omega]
      rfl
    have hf : fin (manyI ldm n k back down) true x = manyI ldm n k back down := by cases ldm <;> rfl
    rw [el, eb, hf]
    rcases hp with ⟨rfl, rfl⟩ | ⟨rfl, rfl⟩
    · exact hg.symm
    · exact hg.symm
  · intro hp
    rcases hp with rfl | rfl <;> rfl
end Go.Proofs.Ytigmekboikgoaaa
