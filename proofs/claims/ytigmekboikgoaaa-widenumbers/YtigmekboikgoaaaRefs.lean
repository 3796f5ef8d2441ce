/- The contracts of the reference's functions (package sourdineref1, layer 1), walked: each returns what the plain arithmetic says. -/
import Derived.Test.YtigmekboikgoaaaMasks
namespace Go.Proofs.Ytigmekboikgoaaa
open Go.ChangeShapes Go.WideShapes Go.ChangeAt Go.RowKit
set_option linter.unusedVariables false
set_option linter.unusedSimpArgs false

theorem rZero_c (v k : Int) (h0 : -9223372036854775808 ≤ k) (h1 : k ≤ 9223372036854775807) (v0 : 0 ≤ v) (v1 : v < 4294967296) (w : World) :
    Calls Try.prog 90 #[.int .u32 v, .int .i64 k] w fun e w' => e = .returned (.int .u32 (zeroS v (clampW k))) ∧ w' = w := by
  have hb := zeroS_bounds v (clampW k) v0 v1
  rcases (show k < 1 ∨ 32 < k ∨ (1 ≤ k ∧ k ≤ 32) by omega) with c | c | ⟨c, c'⟩
  · rw [clampW_low k c] at hb ⊢
    have hm : bits .and .u64 v 1 = zeroS v 1 := and_mask_u64 v 1 v0 v1 (by decide)
    generalize zeroS v 1 = r at *
    obtain ⟨r0, r1⟩ := hb
    go_enter Try.func90, Try.ntmps90
    go_wp2
    go_ret
    exact ⟨rfl, rfl⟩
  · rw [clampW_high k c] at hb ⊢
    have hm : bits .and .u64 v 4294967295 = zeroS v 32 := and_mask_u64 v 32 v0 v1 (by decide)
    generalize zeroS v 32 = r at *
    obtain ⟨r0, r1⟩ := hb
    go_enter Try.func90, Try.ntmps90
    go_wp2
    go_ret
    exact ⟨rfl, rfl⟩
  · rw [clampW_mid k c c'] at hb ⊢
    have hm : bits .and .u64 v (2 ^ k.toNat - 1) = zeroS v k.toNat := and_mask_u64 v _ v0 v1 (by omega)
    rw [← up_eq _ (by omega)] at hm
    generalize zeroS v k.toNat = r at *
    obtain ⟨r0, r1⟩ := hb
    have kn : 0 ≤ k := by omega
    go_enter Try.func90, Try.ntmps90
    go_wp2
    go_ret
    exact ⟨rfl, rfl⟩
end Go.Proofs.Ytigmekboikgoaaa
