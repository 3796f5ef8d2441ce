/- Plain arithmetic of 32-bit words: what the program's words come to, in numbers. No Go in sight. -/
import Derived.WalkKit
import Derived.ProofKit
namespace Go.Proofs.Ytigmekboikgoaaa
open Go.RowKit
set_option linter.unusedVariables false

def clampW (k : Int) : Nat := (if k < 1 then 1 else if 32 < k then 32 else k).toNat
def zeroS (v : Int) (n : Nat) : Int := v % 2 ^ n
def signS (v : Int) (n : Nat) : Int := if v % 2 ^ n < 2 ^ (n - 1) then v % 2 ^ n else v % 2 ^ n + (4294967296 - 2 ^ n)

theorem clampW_bounds (k : Int) : 1 ≤ clampW k ∧ clampW k ≤ 32 := by
  unfold clampW
  split
  · simp
  · split
    · simp
    · omega

theorem upto32 (n : Nat) (h : 1 ≤ n) (h' : n ≤ 32) : n = 1 ∨ n = 2 ∨ n = 3 ∨ n = 4 ∨ n = 5 ∨ n = 6 ∨ n = 7 ∨ n = 8 ∨ n = 9 ∨ n = 10 ∨ n = 11 ∨ n = 12 ∨ n = 13 ∨ n = 14 ∨ n = 15 ∨ n = 16 ∨ n = 17 ∨ n = 18 ∨ n = 19 ∨ n = 20 ∨ n = 21 ∨ n = 22 ∨ n = 23 ∨ n = 24 ∨ n = 25 ∨ n = 26 ∨ n = 27 ∨ n = 28 ∨ n = 29 ∨ n = 30 ∨ n = 31 ∨ n = 32 := by omega

theorem sign_eq (v : Int) (n : Nat) (h0 : 0 ≤ v) (h1 : v < 4294967296) (hn : 1 ≤ n) (hn' : n ≤ 32) :
    wrap32 (v * 2 ^ (32 - n) % 4294967296) / 2 ^ (32 - n) % 4294967296 = signS v n := by
  unfold signS wrap32
  rcases upto32 n hn hn' with h | h | h | h | h | h | h | h | h | h | h | h | h | h | h | h | h | h | h | h | h | h | h | h | h | h | h | h | h | h | h | h <;> subst h <;> simp <;> split <;> omega

theorem zero_eq (v : Int) (n : Nat) (h0 : 0 ≤ v) (h1 : v < 4294967296) (hn : 1 ≤ n) (hn' : n ≤ 32) :
    v * 2 ^ (32 - n) % 4294967296 / 2 ^ (32 - n) = zeroS v n := by
  unfold zeroS
  rcases upto32 n hn hn' with h | h | h | h | h | h | h | h | h | h | h | h | h | h | h | h | h | h | h | h | h | h | h | h | h | h | h | h | h | h | h | h <;> subst h <;> simp <;> omega

theorem zeroS_bounds (v : Int) (n : Nat) (h0 : 0 ≤ v) (h1 : v < 4294967296) : 0 ≤ zeroS v n ∧ zeroS v n < 4294967296 := by
  unfold zeroS
  have hp : (0 : Int) < 2 ^ n := Int.pow_pos (by decide)
  have h2 := Int.emod_nonneg v (Int.ne_of_gt hp)
  have h3 : v % 2 ^ n ≤ v := by
    have := Int.mul_ediv_add_emod v (2 ^ n)
    have h4 : 0 ≤ 2 ^ n * (v / 2 ^ n) := Int.mul_nonneg (by omega) (Int.ediv_nonneg h0 (by omega))
    omega
  omega

theorem signS_bounds (v : Int) (n : Nat) (h0 : 0 ≤ v) (h1 : v < 4294967296) (hn : 1 ≤ n) (hn' : n ≤ 32) : 0 ≤ signS v n ∧ signS v n < 4294967296 := by
  unfold signS
  rcases upto32 n hn hn' with h | h | h | h | h | h | h | h | h | h | h | h | h | h | h | h | h | h | h | h | h | h | h | h | h | h | h | h | h | h | h | h <;> subst h <;> simp <;> (try split) <;> omega
end Go.Proofs.Ytigmekboikgoaaa
