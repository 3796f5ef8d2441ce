/- Stage 8: bits of a word, and the four ways to put an instruction together, walked. -/
import Derived.Test.YtbbkiiabjhgpkaaDoorSh0
import Derived.Laws.BitsAllLaws
namespace Go.Proofs.YtbbkiiabjhgpkaaDoor
open Go.ChangeShapes Go.WideShapes Go.ChangeAt Go.RowKit
set_option linter.unusedVariables false
set_option linter.unusedSimpArgs false

theorem fd_lt (h a s : Nat) : fd h a s < 2 ^ s := Nat.mod_lt _ (Nat.two_pow_pos s)
theorem fd_land (h a s : Nat) : (h / 2 ^ a) &&& (2 ^ s - 1) = fd h a s := Nat.and_two_pow_sub_one_eq_mod _ _
theorem fd_bits (h a s : Nat) (hh : h < 65536) (hs : s ≤ 15) (x y : Int) (hx : x = ((h / 2 ^ a : Nat) : Int)) (hy : y = ((2 ^ s - 1 : Nat) : Int)) : bits .and .u16 x y = (fd h a s : Nat) := by
  have h2 : 2 ^ s ≤ 2 ^ 15 := Nat.pow_le_pow_right (by decide) hs
  have h3 := Nat.two_pow_pos s
  rw [hx, hy, u16_and_nat _ _ (Nat.lt_of_le_of_lt (Nat.div_le_self _ _) hh) (by omega), fd_land]
theorem fd_wrap (h a s : Nat) (hs : s ≤ 15) : wrap64 (fd h a s : Nat) = (fd h a s : Nat) := by
  have h2 : 2 ^ s ≤ 2 ^ 15 := Nat.pow_le_pow_right (by decide) hs
  have := fd_lt h a s
  unfold wrap64
  omega
end Go.Proofs.YtbbkiiabjhgpkaaDoor
