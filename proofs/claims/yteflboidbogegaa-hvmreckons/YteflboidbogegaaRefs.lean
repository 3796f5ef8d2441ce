/- The contracts of the reference's functions (package sourdineref1, layer 1), walked: each returns what the plain arithmetic says. -/
import Derived.Test.YteflboidbogegaaMasks
namespace Go.Proofs.Yteflboidbogegaa
open Go.ChangeShapes Go.WideShapes Go.ChangeAt Go.RowKit
set_option linter.unusedVariables false
set_option linter.unusedSimpArgs false

theorem rMul_c (a b : Int) (s : Bool) (a0 : 0 ≤ a) (a1 : a < 4294967296) (b0 : 0 ≤ b) (b1 : b < 4294967296) (w : World) :
    Calls Try.prog 73 #[.int .u32 a, .int .u32 b, .bool s] w fun e w' => e = .returned (.tuple #[.int .u32 (mulS a b s % 4294967296), .int .u32 (mulS a b s / 4294967296 % 4294967296)]) ∧ w' = w := by
  cases s
  · have hq := mul_u a b
    have hm := mask32_u64 (mulS a b false) (by rw [← hq, IntKind.wrap_u64]; omega) (by rw [← hq, IntKind.wrap_u64]; omega)
    generalize mulS a b false = r at *
    go_enter Try.func73, Try.ntmps73
    go_wp2
    go_ret2
    refine ⟨ret2i_eq ?_ ?_, rfl⟩ <;> first | rfl | omega
  · have hq := mul_s a b
    have hm := mask32_u64 (mulS a b true) (by rw [← hq, IntKind.wrap_u64]; omega) (by rw [← hq, IntKind.wrap_u64]; omega)
    generalize mulS a b true = r at *
    go_enter Try.func73, Try.ntmps73
    go_wp2
    go_ret2
    refine ⟨ret2i_eq ?_ ?_, rfl⟩ <;> first | rfl | omega
theorem rDivu_c (a b : Int) (a0 : 0 ≤ a) (a1 : a < 4294967296) (b0 : 0 ≤ b) (b1 : b < 4294967296) (w : World) :
    Calls Try.prog 74 #[.int .u32 a, .int .u32 b] w fun e w' => e = .returned (.int .u32 (divuS a b)) ∧ w' = w := by
  by_cases hb : b = 0
  · subst hb
    go_enter Try.func74, Try.ntmps74
    go_wp2
    go_ret
    exact ⟨rfl, rfl⟩
  · have hb' : (b == 0) = false := by simpa using hb
    have hd : a / b = divuS a b := by unfold divuS; rw [if_neg hb]
    rw [← hd]
    clear hd
    go_enter Try.func74, Try.ntmps74
    go_wp2
    go_ret
    exact ⟨rfl, rfl⟩
theorem rDivs_c (a b : Int) (a0 : 0 ≤ a) (a1 : a < 4294967296) (b0 : 0 ≤ b) (b1 : b < 4294967296) (w : World) :
    Calls Try.prog 75 #[.int .u32 a, .int .u32 b] w fun e w' => e = .returned (.int .u32 (divsS a b)) ∧ w' = w := by
  by_cases hb : b = 0
  · subst hb
    go_enter Try.func75, Try.ntmps75
    go_wp2
    go_ret
    exact ⟨rfl, rfl⟩
  · have hb' : (b == 0) = false := by simpa using hb
    have hz : ¬ wrap64 (wrap32 b) = 0 := by unfold wrap64 wrap32; omega
    have hd := divs_eq a b hb
    have hm := mask32_i64 (wrap64 ((wrap64 (wrap32 a)).tdiv (wrap64 (wrap32 b))))
    rw [hd] at hm
    have hs := divsS_bounds a b
    clear hd
    generalize divsS a b = r at *
    obtain ⟨r0, r1⟩ := hs
    go_enter Try.func75, Try.ntmps75
    go_wp2
    go_ret
    exact ⟨rfl, rfl⟩
end Go.Proofs.Yteflboidbogegaa
