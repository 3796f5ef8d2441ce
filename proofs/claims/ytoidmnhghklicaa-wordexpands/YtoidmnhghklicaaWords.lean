/- The contracts of package word's functions, walked: each returns what the plain arithmetic says, and leaves the world as it was (but for draws). -/
import Derived.Test.YtoidmnhghklicaaRows
import Derived.Test.YtoidmnhghklicaaPure2
import Derived.WalkKit
import Derived.ProofKit
import Derived.OpenShut
import Derived.Deep.QuietTactic
import Derived.BigQuiet
namespace Go.Proofs.Ytoidmnhghklicaa
open Go.ChangeShapes Go.WideShapes Go.ChangeAt Go.RowKit
set_option linter.unusedVariables false
set_option linter.unusedSimpArgs false

theorem clampW_low (k : Int) (h : k < 1) : clampW k = 1 := by simp [clampW, h]
theorem clampW_high (k : Int) (h : 32 < k) : clampW k = 32 := by unfold clampW; rw [if_neg (by omega), if_pos h]; rfl
theorem clampW_mid (k : Int) (h : 1 ≤ k) (h' : k ≤ 32) : clampW k = k.toNat := by unfold clampW; rw [if_neg (by omega), if_neg (by omega)]

theorem sign_c (v k : Int) (h0 : -9223372036854775808 ≤ k) (h1 : k ≤ 9223372036854775807) (v0 : 0 ≤ v) (v1 : v < 4294967296) (w : World) :
    Calls Try.prog 28 #[.int .u32 v, .int .i64 k] w fun e w' => e = .returned (.int .u32 (signS v (clampW k))) ∧ w' = w := by
  have hs := sign_eq v (clampW k) v0 v1 (clampW_bounds k).1 (clampW_bounds k).2
  rcases (show k < 1 ∨ 32 < k ∨ (1 ≤ k ∧ k ≤ 32) by omega) with c | c | ⟨c, c'⟩
  · rw [clampW_low k c] at hs ⊢
    generalize signS v 1 = r at *
    go_enter Try.func28, Try.ntmps28
    go_wp2
    go_ret
    exact ⟨congrArg (fun x => Ending.returned (Value.int IntKind.u32 x)) (by rw [← hs]; simp [Int.emod_eq_of_lt v0 v1]), rfl⟩
  · rw [clampW_high k c] at hs ⊢
    generalize signS v 32 = r at *
    go_enter Try.func28, Try.ntmps28
    go_wp2
    go_ret
    exact ⟨congrArg (fun x => Ending.returned (Value.int IntKind.u32 x)) (by rw [← hs]; simp [Int.emod_eq_of_lt v0 v1]), rfl⟩
  · rw [clampW_mid k c c'] at hs ⊢
    rw [show 32 - k.toNat = (32 - k).toNat by omega] at hs
    generalize signS v k.toNat = r at *
    go_enter Try.func28, Try.ntmps28
    go_wp2
    go_ret
    exact ⟨congrArg (fun x => Ending.returned (Value.int IntKind.u32 x)) (by first | exact hs | rfl), rfl⟩

theorem zero_c (v k : Int) (h0 : -9223372036854775808 ≤ k) (h1 : k ≤ 9223372036854775807) (v0 : 0 ≤ v) (v1 : v < 4294967296) (w : World) :
    Calls Try.prog 30 #[.int .u32 v, .int .i64 k] w fun e w' => e = .returned (.int .u32 (zeroS v (clampW k))) ∧ w' = w := by
  have hs := zero_eq v (clampW k) v0 v1 (clampW_bounds k).1 (clampW_bounds k).2
  rcases (show k < 1 ∨ 32 < k ∨ (1 ≤ k ∧ k ≤ 32) by omega) with c | c | ⟨c, c'⟩
  · rw [clampW_low k c] at hs ⊢
    generalize zeroS v 1 = r at *
    go_enter Try.func30, Try.ntmps30
    go_wp2
    go_ret
    exact ⟨congrArg (fun x => Ending.returned (Value.int IntKind.u32 x)) (by rw [← hs]; simp [Int.emod_eq_of_lt v0 v1]), rfl⟩
  · rw [clampW_high k c] at hs ⊢
    generalize zeroS v 32 = r at *
    go_enter Try.func30, Try.ntmps30
    go_wp2
    go_ret
    exact ⟨congrArg (fun x => Ending.returned (Value.int IntKind.u32 x)) (by rw [← hs]; simp [Int.emod_eq_of_lt v0 v1]), rfl⟩
  · rw [clampW_mid k c c'] at hs ⊢
    rw [show 32 - k.toNat = (32 - k).toNat by omega] at hs
    generalize zeroS v k.toNat = r at *
    go_enter Try.func30, Try.ntmps30
    go_wp2
    go_ret
    exact ⟨congrArg (fun x => Ending.returned (Value.int IntKind.u32 x)) (by first | exact hs | rfl), rfl⟩

theorem addCarry_c (a b : Int) (c : Bool) (a0 : 0 ≤ a) (a1 : a < 4294967296) (b0 : 0 ≤ b) (b1 : b < 4294967296) (w : World) :
    Calls Try.prog 12 #[.int .u32 a, .int .u32 b, .bool c] w fun e w' => e = .returned (.tuple #[.int .u32 (addS a b c), .bool (outS a b c), .bool (overS a b c)]) ∧ w' = w := by
  have ho := over_eq a b c a0 a1 b0 b1
  generalize overS a b c = r at *
  cases c
  · simp only [addS, carryN, outS, if_false, Int.add_zero, Bool.false_eq_true] at ho ⊢
    go_enter Try.func12, Try.ntmps12
    go_wp2
    go_ret3
    exact ⟨rfl, rfl⟩
  · simp only [addS, carryN, outS, if_true] at ho ⊢
    go_enter Try.func12, Try.ntmps12
    go_wp2
    go_ret3
    exact ⟨rfl, rfl⟩

/-! ### products, quotients -/
theorem mul64_c (a b : Int) (s : Bool) (a0 : 0 ≤ a) (a1 : a < 4294967296) (b0 : 0 ≤ b) (b1 : b < 4294967296) (w : World) :
    Calls Try.prog 32 #[.int .u32 a, .int .u32 b, .bool s] w fun e w' => e = .returned (.tuple #[.int .u32 (mulS a b s % 4294967296), .int .u32 (mulS a b s / 4294967296 % 4294967296)]) ∧ w' = w := by
  cases s
  · rw [← mul_u]
    go_enter Try.func32, Try.ntmps32
    go_wp2
    go_ret2
    exact ⟨rfl, rfl⟩
  · rw [← mul_s]
    go_enter Try.func32, Try.ntmps32
    go_wp2
    go_ret2
    exact ⟨rfl, rfl⟩
theorem divu_c (a b : Int) (a0 : 0 ≤ a) (a1 : a < 4294967296) (b0 : 0 ≤ b) (b1 : b < 4294967296) (w : World) :
    Calls Try.prog 34 #[.int .u32 a, .int .u32 b] w fun e w' => e = .returned (.int .u32 (divuS a b)) ∧ w' = w := by
  by_cases hb : b = 0
  · subst hb
    go_enter Try.func34, Try.ntmps34
    go_wp2
    go_ret
    exact ⟨rfl, rfl⟩
  · have hb' : (b == 0) = false := by simpa using hb
    have hd : a / b = divuS a b := by unfold divuS; rw [if_neg hb]
    rw [← hd]
    clear hd
    go_enter Try.func34, Try.ntmps34
    go_wp2
    go_ret
    exact ⟨rfl, rfl⟩
theorem divs_c (a b : Int) (a0 : 0 ≤ a) (a1 : a < 4294967296) (b0 : 0 ≤ b) (b1 : b < 4294967296) (w : World) :
    Calls Try.prog 36 #[.int .u32 a, .int .u32 b] w fun e w' => e = .returned (.int .u32 (divsS a b)) ∧ w' = w := by
  by_cases hb : b = 0
  · subst hb
    go_enter Try.func36, Try.ntmps36
    go_wp2
    go_ret
    exact ⟨rfl, rfl⟩
  · have hb' : (b == 0) = false := by simpa using hb
    have hz : ¬ wrap64 (wrap32 b) = 0 := by unfold wrap64 wrap32; omega
    have hd := divs_eq a b hb
    rw [← hd]
    clear hd
    go_enter Try.func36, Try.ntmps36
    go_wp2
    go_ret
    exact ⟨rfl, rfl⟩
end Go.Proofs.Ytoidmnhghklicaa
