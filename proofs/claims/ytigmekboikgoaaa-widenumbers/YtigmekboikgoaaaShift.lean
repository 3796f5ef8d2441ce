/- The contract of word.Shift, walked: for every word, kind, count and carry it returns what so many single steps make. -/
import Derived.Test.YtigmekboikgoaaaWords
import Derived.Test.YtigmekboikgoaaaPure3
namespace Go.Proofs.Ytigmekboikgoaaa
open Go.ChangeShapes Go.WideShapes Go.ChangeAt Go.RowKit
set_option linter.unusedVariables false
set_option linter.unusedSimpArgs false

theorem rotl_c (x k : Int) (x0 : 0 ≤ x) (x1 : x < 4294967296) (w : World) :
    Calls Try.prog 88 #[.int .u32 x, .int .i64 k] w fun e w' => e = .returned (.int .u32 (rorS x ((32 - (k % 32).toNat) % 32))) ∧ w' = w := by
  have hm := mask31 k
  have hs := rotl_eq x (k % 32).toNat x0 x1 (by omega)
  have s0 : 0 ≤ k % 32 := by omega
  have s1 : k % 32 < 32 := by omega
  generalize k % 32 = s at *
  generalize rorS x ((32 - s.toNat) % 32) = r at *
  have e : 32 - s.toNat = (32 - s).toNat := by omega
  rw [e] at hs
  clear e
  go_enter Try.func88, Try.ntmps88
  go_wp2
  go_ret
  exact ⟨rfl, rfl⟩

end Go.Proofs.Ytigmekboikgoaaa
