/- The contracts of package word's functions, walked: each returns what the plain arithmetic says, and leaves the world as it was (but for draws). -/
import Derived.Test.YteflboidbogegaaRows
import Derived.Test.YteflboidbogegaaPure2
import Derived.WalkKit
import Derived.ProofKit
import Derived.OpenShut
import Derived.Deep.QuietTactic
import Derived.BigQuiet
namespace Go.Proofs.Yteflboidbogegaa
open Go.ChangeShapes Go.WideShapes Go.ChangeAt Go.RowKit
set_option linter.unusedVariables false
set_option linter.unusedSimpArgs false

theorem clampW_low (k : Int) (h : k < 1) : clampW k = 1 := by simp [clampW, h]
theorem clampW_high (k : Int) (h : 32 < k) : clampW k = 32 := by unfold clampW; rw [if_neg (by omega), if_pos h]; rfl
theorem clampW_mid (k : Int) (h : 1 ≤ k) (h' : k ≤ 32) : clampW k = k.toNat := by unfold clampW; rw [if_neg (by omega), if_neg (by omega)]

theorem mul64_c (a b : Int) (s : Bool) (a0 : 0 ≤ a) (a1 : a < 4294967296) (b0 : 0 ≤ b) (b1 : b < 4294967296) (w : World) :
    Calls Try.prog 83 #[.int .u32 a, .int .u32 b, .bool s] w fun e w' => e = .returned (.tuple #[.int .u32 (mulS a b s % 4294967296), .int .u32 (mulS a b s / 4294967296 % 4294967296)]) ∧ w' = w := by
  cases s
  · rw [← mul_u]
    go_enter Try.func83, Try.ntmps83
    go_wp2
    go_ret2
    exact ⟨rfl, rfl⟩
  · rw [← mul_s]
    go_enter Try.func83, Try.ntmps83
    go_wp2
    go_ret2
    exact ⟨rfl, rfl⟩
theorem divu_c (a b : Int) (a0 : 0 ≤ a) (a1 : a < 4294967296) (b0 : 0 ≤ b) (b1 : b < 4294967296) (w : World) :
    Calls Try.prog 50 #[.int .u32 a, .int .u32 b] w fun e w' => e = .returned (.int .u32 (divuS a b)) ∧ w' = w := by
  by_cases hb : b = 0
  · subst hb
    go_enter Try.func50, Try.ntmps50
    go_wp2
    go_ret
    exact ⟨rfl, rfl⟩
  · have hb' : (b == 0) = false := by simpa using hb
    have hd : a / b = divuS a b := by unfold divuS; rw [if_neg hb]
    rw [← hd]
    clear hd
    go_enter Try.func50, Try.ntmps50
    go_wp2
    go_ret
    exact ⟨rfl, rfl⟩
theorem divs_c (a b : Int) (a0 : 0 ≤ a) (a1 : a < 4294967296) (b0 : 0 ≤ b) (b1 : b < 4294967296) (w : World) :
    Calls Try.prog 52 #[.int .u32 a, .int .u32 b] w fun e w' => e = .returned (.int .u32 (divsS a b)) ∧ w' = w := by
  by_cases hb : b = 0
  · subst hb
    go_enter Try.func52, Try.ntmps52
    go_wp2
    go_ret
    exact ⟨rfl, rfl⟩
  · have hb' : (b == 0) = false := by simpa using hb
    have hz : ¬ wrap64 (wrap32 b) = 0 := by unfold wrap64 wrap32; omega
    have hd := divs_eq a b hb
    rw [← hd]
    clear hd
    go_enter Try.func52, Try.ntmps52
    go_wp2
    go_ret
    exact ⟨rfl, rfl⟩
end Go.Proofs.Yteflboidbogegaa
