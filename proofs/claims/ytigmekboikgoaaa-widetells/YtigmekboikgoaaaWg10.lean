/- Stage 9: the document: shifted, at every pair of halves. -/
import Derived.Test.YtigmekboikgoaaaXm
import Derived.Test.YtigmekboikgoaaaWg9
namespace Go.Proofs.Ytigmekboikgoaaa
open Go.ChangeShapes Go.WideShapes Go.ChangeAt Go.RowKit
set_option linter.unusedVariables false
set_option linter.unusedSimpArgs false

theorem u16_join (x y i : Nat) (hx : x % 2 ^ i = 0) (hx1 : x < 65536) (hy : y < 2 ^ i) (hy1 : y < 65536) : bits .or .u16 (x : Int) (y : Int) = ((x + y : Nat) : Int) := by
  rw [(bits_nat .u16 16 (by decide) (fun n h1 h2 => by rw [IntKind.wrap_u16]; omega) x y (by omega) (by omega)).2]
  have hq : x = 2 ^ i * (x / 2 ^ i) := by
    have := Nat.div_add_mod x (2 ^ i)
    omega
  rw [hq, ← Nat.two_pow_add_eq_or_of_lt hy (x / 2 ^ i)]
theorem shi_fin (x : Nat) (hN : (dataOpS (fd x 21 4 : Nat) != 64) = true) (m s1 s2 : Int) :
    checkedI (regI (dataX x) m s1 s2) true x = (bif mayS (dataX x) false && !oddS m then regI (dataX x) m s1 s2 else noneI 65 x) := by
  obtain ⟨h1, h2, h3, h4, h5, h6⟩ := form_yes x hN
  rw [h6]
  unfold checkedI
  have e1 : mayD (regI (dataX x) m s1 s2) = mayD (dataX x) := rfl
  have e2 : mayN (regI (dataX x) m s1 s2) = mayN (dataX x) := rfl
  have e3 : resS (regI (dataX x) m s1 s2).m = oddS m := rfl
  have e4 : resS (regI (dataX x) m s1 s2).a = false := by show resS (dataX x).a = false; rw [h4]; rfl
  rw [e1, e2, e3, e4]
  cases mayD (dataX x) <;> cases mayN (dataX x) <;> cases oddS m <;> rfl
theorem rshifted_c (h k x : Nat) (hh : h < 65536) (hk : k < 65536) (hx0 : x = h * 65536 + k) (w : World) : Calls Try.prog 29 #[.int .u16 h, .int .u16 k] w fun e w' => Two w (shiX x) x e w' := by
  have h5_4 : bits .and .u16 ((h : Int) / 32) 15 = ((fd x 21 4 : Nat) : Int) := by rw [hx0, fdh h k 5 4 hk]; exact fd_u16 h 5 4 hh (by decide) _ _ (by simp) rfl
  have hh0_4 : bits .and .u16 ((h : Int)) 15 = ((fd x 16 4 : Nat) : Int) := by rw [hx0, fdh h k 0 4 hk]; exact fd_u16 h 0 4 hh (by decide) _ _ (by simp) rfl
  have h4_1 : bits .and .u16 ((h : Int) / 16) 1 = ((fd x 20 1 : Nat) : Int) := by rw [hx0, fdh h k 4 1 hk]; exact fd_u16 h 4 1 hh (by decide) _ _ (by simp) rfl
  have k8_4 : bits .and .u16 ((k : Int) / 256) 15 = ((fd x 8 4 : Nat) : Int) := by rw [hx0, fdk h k 8 4 (by decide)]; exact fd_u16 k 8 4 hk (by decide) _ _ (by simp) rfl
  have kk0_4 : bits .and .u16 ((k : Int)) 15 = ((fd x 0 4 : Nat) : Int) := by rw [hx0, fdk h k 0 4 (by decide)]; exact fd_u16 k 0 4 hk (by decide) _ _ (by simp) rfl
  have k4_2 : bits .and .u16 ((k : Int) / 16) 3 = ((fd x 4 2 : Nat) : Int) := by rw [hx0, fdk h k 4 2 (by decide)]; exact fd_u16 k 4 2 hk (by decide) _ _ (by simp) rfl
  have k12_3 : bits .and .u16 ((k : Int) / 4096) 7 = ((fd x 12 3 : Nat) : Int) := by rw [hx0, fdk h k 12 3 (by decide)]; exact fd_u16 k 12 3 hk (by decide) _ _ (by simp) rfl
  have k6_2 : bits .and .u16 ((k : Int) / 64) 3 = ((fd x 6 2 : Nat) : Int) := by rw [hx0, fdk h k 6 2 (by decide)]; exact fd_u16 k 6 2 hk (by decide) _ _ (by simp) rfl
  have f21_4 : fd x 21 4 < 16 := fd_lt x 21 4
  have f16_4 : fd x 16 4 < 16 := fd_lt x 16 4
  have f20_1 : fd x 20 1 < 2 := fd_lt x 20 1
  have f8_4 : fd x 8 4 < 16 := fd_lt x 8 4
  have f0_4 : fd x 0 4 < 16 := fd_lt x 0 4
  have f4_2 : fd x 4 2 < 4 := fd_lt x 4 2
  have f12_3 : fd x 12 3 < 8 := fd_lt x 12 3
  have f6_2 : fd x 6 2 < 4 := fd_lt x 6 2
  have f15_1 : fd x 15 1 < 2 := fd_lt x 15 1
  have k15 : (k : Int) / 32768 = ((fd x 15 1 : Nat) : Int) := by
    rw [hx0, fdk h k 15 1 (by decide)]
    unfold fd
    omega
  have j1 : bits .or .u16 ((fd x 12 3 : Nat) * 4 : Int) (fd x 6 2 : Nat) = ((fd x 12 3 * 4 + fd x 6 2 : Nat) : Int) := u16_join (fd x 12 3 * 4) (fd x 6 2) 2 (by omega) (by omega) (by omega) (by omega)
  have shiE : shiX x = bif (dataX x).op == 64 || fd x 15 1 != 0 then noneI 64 x else checkedI (regI (dataX x) (fd x 0 4 : Nat) (shiftG (fd x 4 2) (fd x 12 3 * 4 + fd x 6 2)).1 (shiftG (fd x 4 2) (fd x 12 3 * 4 + fd x 6 2)).2) true x := rfl
  refine rshi_g h k x (fd x 21 4) (fd x 8 4) (fd x 16 4) (fd x 20 1) (fd x 0 4) (fd x 15 1) (fd x 4 2) (fd x 12 3) (fd x 6 2) (fd x 12 3 * 4 + fd x 6 2) (fd x 20 1 != 0) (dataOpS (fd x 21 4 : Nat) != 64) (mayS (formI (fd x 21 4) (fd x 8 4 : Nat) (fd x 16 4 : Nat) (fd x 20 1 != 0)) false) (formI (fd x 21 4) (fd x 8 4 : Nat) (fd x 16 4 : Nat) (fd x 20 1 != 0)) (shiX x)
    h5_4 hh0_4 h4_1 k8_4 kk0_4 k15 k4_2 k12_3 k6_2 f21_4 f8_4 f16_4 f20_1 f0_4 f15_1 f4_2 f12_3 f6_2 (s_bit _ f20_1) j1 (by omega) (rform_c _ f21_4 _ _ _) (fun s1 s2 => rmay_c (regI _ _ s1 s2) false) ?_ ?_ ?_ w
  · intro hf
    rw [shiE]
    rcases hf with hf | hf
    · rw [form_no x hf]
      rfl
    · rw [hf, show ((1 : Nat) != 0) = true from rfl, Bool.or_true]
      rfl
  · intro hf h15 ho
    obtain ⟨h1, h2, h3, h4, h5, h6⟩ := form_yes x hf
    rw [formI_yes x hf] at ho
    rw [shiE, h1, h15, shi_fin x hf]
    rcases ho with ho | ho <;> rw [ho]
    · rfl
    · cases mayS (dataX x) false <;> rfl
  · intro hf h15 hm ho
    obtain ⟨h1, h2, h3, h4, h5, h6⟩ := form_yes x hf
    rw [formI_yes x hf] at hm ⊢
    rw [shiE, h1, h15, shi_fin x hf, hm, ho]
    exact fin_yes _ x h2
end Go.Proofs.Ytigmekboikgoaaa
