/- The contracts of package word's functions, walked: each returns what the plain arithmetic says, and leaves the world as it was (but for draws). -/
import Derived.Test.YtigmekboikgoaaaRows
import Derived.Test.YtigmekboikgoaaaPure2
import Derived.WalkKit
import Derived.ProofKit
import Derived.OpenShut
import Derived.Deep.QuietTactic
import Derived.BigQuiet
namespace Go.Proofs.Ytigmekboikgoaaa
open Go.ChangeShapes Go.WideShapes Go.ChangeAt Go.RowKit
set_option linter.unusedVariables false
set_option linter.unusedSimpArgs false

theorem clampW_low (k : Int) (h : k < 1) : clampW k = 1 := by simp [clampW, h]
theorem clampW_high (k : Int) (h : 32 < k) : clampW k = 32 := by unfold clampW; rw [if_neg (by omega), if_pos h]; rfl
theorem clampW_mid (k : Int) (h : 1 ≤ k) (h' : k ≤ 32) : clampW k = k.toNat := by unfold clampW; rw [if_neg (by omega), if_neg (by omega)]

theorem sign_c (v k : Int) (h0 : -9223372036854775808 ≤ k) (h1 : k ≤ 9223372036854775807) (v0 : 0 ≤ v) (v1 : v < 4294967296) (w : World) :
    Calls Try.prog 79 #[.int .u32 v, .int .i64 k] w fun e w' => e = .returned (.int .u32 (signS v (clampW k))) ∧ w' = w := by
  have hs := sign_eq v (clampW k) v0 v1 (clampW_bounds k).1 (clampW_bounds k).2
  rcases (show k < 1 ∨ 32 < k ∨ (1 ≤ k ∧ k ≤ 32) by omega) with c | c | ⟨c, c'⟩
  · rw [clampW_low k c] at hs ⊢
    generalize signS v 1 = r at *
    go_enter Try.func79, Try.ntmps79
    go_wp2
    go_ret
    exact ⟨congrArg (fun x => Ending.returned (Value.int IntKind.u32 x)) (by rw [← hs]; simp [Int.emod_eq_of_lt v0 v1]), rfl⟩
  · rw [clampW_high k c] at hs ⊢
    generalize signS v 32 = r at *
    go_enter Try.func79, Try.ntmps79
    go_wp2
    go_ret
    exact ⟨congrArg (fun x => Ending.returned (Value.int IntKind.u32 x)) (by rw [← hs]; simp [Int.emod_eq_of_lt v0 v1]), rfl⟩
  · rw [clampW_mid k c c'] at hs ⊢
    rw [show 32 - k.toNat = (32 - k).toNat by omega] at hs
    generalize signS v k.toNat = r at *
    go_enter Try.func79, Try.ntmps79
    go_wp2
    go_ret
    exact ⟨congrArg (fun x => Ending.returned (Value.int IntKind.u32 x)) (by first | exact hs | rfl), rfl⟩

end Go.Proofs.Ytigmekboikgoaaa
