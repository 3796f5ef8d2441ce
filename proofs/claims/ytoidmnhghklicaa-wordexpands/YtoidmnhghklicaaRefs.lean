/- The contracts of the reference's functions (package sourdineref1, layer 1), walked: each returns what the plain arithmetic says. -/
import Derived.Test.YtoidmnhghklicaaMasks
namespace Go.Proofs.Ytoidmnhghklicaa
open Go.ChangeShapes Go.WideShapes Go.ChangeAt Go.RowKit
set_option linter.unusedVariables false
set_option linter.unusedSimpArgs false

theorem rAdd_c (a b : Int) (c : Bool) (a0 : 0 ≤ a) (a1 : a < 4294967296) (b0 : 0 ≤ b) (b1 : b < 4294967296) (w : World) :
    Calls Try.prog 13 #[.int .u32 a, .int .u32 b, .bool c] w fun e w' => e = .returned (.tuple #[.int .u32 (addS a b c), .bool (outS a b c), .bool (overS a b c)]) ∧ w' = w := by
  cases c
  · have hm := mask32_u64 (a + b) (by omega) (by omega)
    go_enter Try.func13, Try.ntmps13
    go_wp2
    go_ret3
    refine ⟨ret3_eq ?_ ?_ ?_, rfl⟩
    · simp only [addS, carryN, if_false, Bool.false_eq_true]; try omega
    · rw [Bool.eq_iff_iff]; simp only [outS, carryN, if_false, Bool.false_eq_true, beq_iff_eq, decide_eq_true_eq]; omega
    · rw [Bool.eq_iff_iff]; simp only [overS, addS, carryN, if_false, Bool.false_eq_true, bne_iff_ne, wrap64, wrap32]; omega
  · have hm := mask32_u64 (a + b + 1) (by omega) (by omega)
    go_enter Try.func13, Try.ntmps13
    go_wp2
    go_ret3
    refine ⟨ret3_eq ?_ ?_ ?_, rfl⟩
    · simp only [addS, carryN, if_true]; try omega
    · rw [Bool.eq_iff_iff]; simp only [outS, carryN, if_true, beq_iff_eq, decide_eq_true_eq]; omega
    · rw [Bool.eq_iff_iff]; simp only [overS, addS, carryN, if_true, bne_iff_ne, wrap64, wrap32]; omega

theorem rMul_c (a b : Int) (s : Bool) (a0 : 0 ≤ a) (a1 : a < 4294967296) (b0 : 0 ≤ b) (b1 : b < 4294967296) (w : World) :
    Calls Try.prog 33 #[.int .u32 a, .int .u32 b, .bool s] w fun e w' => e = .returned (.tuple #[.int .u32 (mulS a b s % 4294967296), .int .u32 (mulS a b s / 4294967296 % 4294967296)]) ∧ w' = w := by
  cases s
  · have hq := mul_u a b
    have hm := mask32_u64 (mulS a b false) (by rw [← hq, IntKind.wrap_u64]; omega) (by rw [← hq, IntKind.wrap_u64]; omega)
    generalize mulS a b false = r at *
    go_enter Try.func33, Try.ntmps33
    go_wp2
    go_ret2
    refine ⟨ret2i_eq ?_ ?_, rfl⟩ <;> first | rfl | omega
  · have hq := mul_s a b
    have hm := mask32_u64 (mulS a b true) (by rw [← hq, IntKind.wrap_u64]; omega) (by rw [← hq, IntKind.wrap_u64]; omega)
    generalize mulS a b true = r at *
    go_enter Try.func33, Try.ntmps33
    go_wp2
    go_ret2
    refine ⟨ret2i_eq ?_ ?_, rfl⟩ <;> first | rfl | omega
theorem rDivu_c (a b : Int) (a0 : 0 ≤ a) (a1 : a < 4294967296) (b0 : 0 ≤ b) (b1 : b < 4294967296) (w : World) :
    Calls Try.prog 35 #[.int .u32 a, .int .u32 b] w fun e w' => e = .returned (.int .u32 (divuS a b)) ∧ w' = w := by
  by_cases hb : b = 0
  · subst hb
    go_enter Try.func35, Try.ntmps35
    go_wp2
    go_ret
    exact ⟨rfl, rfl⟩
  · have hb' : (b == 0) = false := by simpa using hb
    have hd : a / b = divuS a b := by unfold divuS; rw [if_neg hb]
    rw [← hd]
    clear hd
    go_enter Try.func35, Try.ntmps35
    go_wp2
    go_ret
    exact ⟨rfl, rfl⟩
theorem rDivs_c (a b : Int) (a0 : 0 ≤ a) (a1 : a < 4294967296) (b0 : 0 ≤ b) (b1 : b < 4294967296) (w : World) :
    Calls Try.prog 37 #[.int .u32 a, .int .u32 b] w fun e w' => e = .returned (.int .u32 (divsS a b)) ∧ w' = w := by
  by_cases hb : b = 0
  · subst hb
    go_enter Try.func37, Try.ntmps37
    go_wp2
    go_ret
    exact ⟨rfl, rfl⟩
  · have hb' : (b == 0) = false := by simpa using hb
    have hz : ¬ wrap64 (wrap32 b) = 0 := by unfold wrap64 wrap32; omega
    have hd := divs_eq a b hb
    have hm := mask32_i64 (wrap64 ((wrap64 (wrap32 a)).tdiv (wrap64 (wrap32 b))))
    rw [hd] at hm
    have hs := divsS_bounds a b
    clear hd
    generalize divsS a b = r at *
    obtain ⟨r0, r1⟩ := hs
    go_enter Try.func37, Try.ntmps37
    go_wp2
    go_ret
    exact ⟨rfl, rfl⟩
theorem rRev_c (x : Int) (x0 : 0 ≤ x) (x1 : x < 4294967296) (w : World) :
    Calls Try.prog 23 #[.int .u32 x] w fun e w' => e = .returned (.int .u32 (ofB revB x)) ∧ w' = w := by
  rw [← refRev_eq x x0 x1]
  go_enter Try.func23, Try.ntmps23
  go_wp2
  go_ret
  exact ⟨rfl, rfl⟩
theorem rRev16_c (x : Int) (x0 : 0 ≤ x) (x1 : x < 4294967296) (w : World) :
    Calls Try.prog 25 #[.int .u32 x] w fun e w' => e = .returned (.int .u32 (ofB rev16B x)) ∧ w' = w := by
  rw [← refRev16_eq x x0 x1]
  go_enter Try.func25, Try.ntmps25
  go_wp2
  go_ret
  exact ⟨rfl, rfl⟩
theorem rZero_c (v k : Int) (h0 : -9223372036854775808 ≤ k) (h1 : k ≤ 9223372036854775807) (v0 : 0 ≤ v) (v1 : v < 4294967296) (w : World) :
    Calls Try.prog 31 #[.int .u32 v, .int .i64 k] w fun e w' => e = .returned (.int .u32 (zeroS v (clampW k))) ∧ w' = w := by
  have hb := zeroS_bounds v (clampW k) v0 v1
  rcases (show k < 1 ∨ 32 < k ∨ (1 ≤ k ∧ k ≤ 32) by omega) with c | c | ⟨c, c'⟩
  · rw [clampW_low k c] at hb ⊢
    have hm : bits .and .u64 v 1 = zeroS v 1 := and_mask_u64 v 1 v0 v1 (by decide)
    generalize zeroS v 1 = r at *
    obtain ⟨r0, r1⟩ := hb
    go_enter Try.func31, Try.ntmps31
    go_wp2
    go_ret
    exact ⟨rfl, rfl⟩
  · rw [clampW_high k c] at hb ⊢
    have hm : bits .and .u64 v 4294967295 = zeroS v 32 := and_mask_u64 v 32 v0 v1 (by decide)
    generalize zeroS v 32 = r at *
    obtain ⟨r0, r1⟩ := hb
    go_enter Try.func31, Try.ntmps31
    go_wp2
    go_ret
    exact ⟨rfl, rfl⟩
  · rw [clampW_mid k c c'] at hb ⊢
    have hm : bits .and .u64 v (2 ^ k.toNat - 1) = zeroS v k.toNat := and_mask_u64 v _ v0 v1 (by omega)
    rw [← up_eq _ (by omega)] at hm
    generalize zeroS v k.toNat = r at *
    obtain ⟨r0, r1⟩ := hb
    have kn : 0 ≤ k := by omega
    go_enter Try.func31, Try.ntmps31
    go_wp2
    go_ret
    exact ⟨rfl, rfl⟩
end Go.Proofs.Ytoidmnhghklicaa
