/- Stage 8: rows of narrow words, the program's, walked. -/
import Derived.Test.YtbbkiiabjhgpkaaDoorTh2b
namespace Go.Proofs.YtbbkiiabjhgpkaaDoor
open Go.ChangeShapes Go.WideShapes Go.ChangeAt Go.RowKit
set_option linter.unusedVariables false
set_option linter.unusedSimpArgs false

theorem i64_joinr (x y i : Nat) (hx : x % 2 ^ i = 0) (hx1 : x < 2 ^ 32) (hy : y < 2 ^ i) (hi : i ≤ 32) : bits .or .i64 (y : Int) (x : Int) = ((y + x : Nat) : Int) := by
  have h2 : 2 ^ i ≤ 2 ^ 32 := Nat.pow_le_pow_right (by decide) hi
  rw [(bits_nat .i64 33 (by decide) (fun n h1 h2 => by rw [IntKind.wrap_i64]; omega) y x (by omega) (by omega)).2]
  have hq : x = 2 ^ i * (x / 2 ^ i) := by
    have := Nat.div_add_mod x (2 ^ i)
    omega
  rw [Nat.or_comm, hq, ← Nat.two_pow_add_eq_or_of_lt hy (x / 2 ^ i), Nat.add_comm]
theorem list15 (h : Nat) : bits .or .i64 ((fd h 0 8 : Nat) : Int) ((fd h 8 1 : Nat) * 32768 : Int) = ((fd h 0 8 + fd h 8 1 * 32768 : Nat) : Int) := by
  have f1 : fd h 0 8 < 256 := fd_lt h 0 8
  have f2 : fd h 8 1 < 2 := fd_lt h 8 1
  exact i64_joinr (fd h 8 1 * 32768) (fd h 0 8) 8 (by omega) (by omega) (by omega) (by decide)
theorem list14 (h : Nat) : bits .or .i64 ((fd h 0 8 : Nat) : Int) ((fd h 8 1 : Nat) * 16384 : Int) = ((fd h 0 8 + fd h 8 1 * 16384 : Nat) : Int) := by
  have f1 : fd h 0 8 < 256 := fd_lt h 0 8
  have f2 : fd h 8 1 < 2 := fd_lt h 8 1
  exact i64_joinr (fd h 8 1 * 16384) (fd h 0 8) 8 (by omega) (by omega) (by omega) (by decide)
end Go.Proofs.YtbbkiiabjhgpkaaDoor
