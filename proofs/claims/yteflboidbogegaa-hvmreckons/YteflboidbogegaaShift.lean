/- The contract of word.Shift, walked: for every word, kind, count and carry it returns what so many single steps make. -/
import Derived.Test.YteflboidbogegaaWords
import Derived.Test.YteflboidbogegaaPure3
namespace Go.Proofs.Yteflboidbogegaa
open Go.ChangeShapes Go.WideShapes Go.ChangeAt Go.RowKit
set_option linter.unusedVariables false
set_option linter.unusedSimpArgs false

theorem rotl_c (x k : Int) (x0 : 0 ≤ x) (x1 : x < 4294967296) (w : World) :
    Calls Try.prog 95 #[.int .u32 x, .int .i64 k] w fun e w' => e = .returned (.int .u32 (rorS x ((32 - (k % 32).toNat) % 32))) ∧ w' = w := by
  have hm := mask31 k
  have hs := rotl_eq x (k % 32).toNat x0 x1 (by omega)
  have s0 : 0 ≤ k % 32 := by omega
  have s1 : k % 32 < 32 := by omega
  generalize k % 32 = s at *
  generalize rorS x ((32 - s.toNat) % 32) = r at *
  have e : 32 - s.toNat = (32 - s).toNat := by omega
  rw [e] at hs
  clear e
  go_enter Try.func95, Try.ntmps95
  go_wp2
  go_ret
  exact ⟨rfl, rfl⟩

theorem shift_5 (v n : Int) (c : Bool) (v0 : 0 ≤ v) (v1 : v < 4294967296) (n0 : -9223372036854775808 ≤ n) (n1 : n ≤ 9223372036854775807) (w : World) :
    Calls Try.prog 82 #[.int .u32 v, .int .i64 5, .int .i64 n, .bool c] w fun e w' => e = .returned (.tuple #[.int .u32 (shiftS v 5 n c).1, .bool (shiftS v 5 n c).2]) ∧ ∃ m, w' = w.drewN m := by
  rw [show shiftS v 5 n c = oneS 5 (v, c) from rfl]
  cases c
  · rw [← rrx_out v false v0 v1, ← rrx_false v]
    go_enter Try.func82, Try.ntmps82
    go_wp2
    all_goals (go_ret2; exact ⟨rfl, 0, rfl⟩)
  · rw [← rrx_out v true v0 v1, ← rrx_true v v0 v1]
    go_enter Try.func82, Try.ntmps82
    go_wp2
    all_goals (go_ret2; exact ⟨rfl, 0, rfl⟩)

theorem shift_1_mid (v n : Int) (c : Bool) (v0 : 0 ≤ v) (v1 : v < 4294967296) (n0 : 1 ≤ n) (n1 : n ≤ 255) (w : World) :
    Calls Try.prog 82 #[.int .u32 v, .int .i64 1, .int .i64 n, .bool c] w fun e w' => e = .returned (.tuple #[.int .u32 (shiftS v 1 n c).1, .bool (shiftS v 1 n c).2]) ∧ ∃ m, w' = w.drewN m := by
  rw [shiftS_of v 1 n c (by decide) (by decide), countS_mid n (by omega) n1]
  obtain ⟨h1, h2⟩ := lsl_low v n.toNat v0 v1 (by omega) c
  rw [← h1, ← h2]
  clear h1 h2
  have nn : 0 ≤ n := by omega
  have nn1 : 0 ≤ n - 1 := by omega
  have nz : (n == 0) = false := by simp; omega
  go_enter Try.func82, Try.ntmps82
  go_wp2
  go_ret2
  exact ⟨rfl, 0, rfl⟩

theorem shift_1_hi (v n : Int) (c : Bool) (v0 : 0 ≤ v) (v1 : v < 4294967296) (n0 : 255 < n) (n1 : n ≤ 9223372036854775807) (w : World) :
    Calls Try.prog 82 #[.int .u32 v, .int .i64 1, .int .i64 n, .bool c] w fun e w' => e = .returned (.tuple #[.int .u32 (shiftS v 1 n c).1, .bool (shiftS v 1 n c).2]) ∧ ∃ m, w' = w.drewN m := by
  rw [shiftS_of v 1 n c (by decide) (by decide), countS_high n n0]
  obtain ⟨h1, h2⟩ := lsl_low v 255 v0 v1 (by omega) c
  rw [← h1, ← h2]
  clear h1 h2
  go_enter Try.func82, Try.ntmps82
  go_wp2
  go_ret2
  exact ⟨rfl, 0, rfl⟩

theorem shift_2_mid (v n : Int) (c : Bool) (v0 : 0 ≤ v) (v1 : v < 4294967296) (n0 : 1 ≤ n) (n1 : n ≤ 255) (w : World) :
    Calls Try.prog 82 #[.int .u32 v, .int .i64 2, .int .i64 n, .bool c] w fun e w' => e = .returned (.tuple #[.int .u32 (shiftS v 2 n c).1, .bool (shiftS v 2 n c).2]) ∧ ∃ m, w' = w.drewN m := by
  rw [shiftS_of v 2 n c (by decide) (by decide), countS_mid n (by omega) n1]
  obtain ⟨h1, h2⟩ := lsr_low v n.toNat v0 v1 (by omega) c
  rw [← h1, ← h2]
  clear h1 h2
  have nn : 0 ≤ n := by omega
  have nn1 : 0 ≤ n - 1 := by omega
  have nz : (n == 0) = false := by simp; omega
  go_enter Try.func82, Try.ntmps82
  go_wp2
  go_quiet (fail)
  go_wp2
  go_ret2
  exact ⟨rfl, _, rfl⟩

theorem shift_2_hi (v n : Int) (c : Bool) (v0 : 0 ≤ v) (v1 : v < 4294967296) (n0 : 255 < n) (n1 : n ≤ 9223372036854775807) (w : World) :
    Calls Try.prog 82 #[.int .u32 v, .int .i64 2, .int .i64 n, .bool c] w fun e w' => e = .returned (.tuple #[.int .u32 (shiftS v 2 n c).1, .bool (shiftS v 2 n c).2]) ∧ ∃ m, w' = w.drewN m := by
  rw [shiftS_of v 2 n c (by decide) (by decide), countS_high n n0]
  obtain ⟨h1, h2⟩ := lsr_low v 255 v0 v1 (by omega) c
  rw [← h1, ← h2]
  clear h1 h2
  go_enter Try.func82, Try.ntmps82
  go_wp2
  go_quiet (fail)
  go_wp2
  go_ret2
  exact ⟨rfl, _, rfl⟩

theorem shift_3_mid (v n : Int) (c : Bool) (v0 : 0 ≤ v) (v1 : v < 4294967296) (n0 : 1 ≤ n) (n1 : n ≤ 255) (w : World) :
    Calls Try.prog 82 #[.int .u32 v, .int .i64 3, .int .i64 n, .bool c] w fun e w' => e = .returned (.tuple #[.int .u32 (shiftS v 3 n c).1, .bool (shiftS v 3 n c).2]) ∧ ∃ m, w' = w.drewN m := by
  rw [shiftS_of v 3 n c (by decide) (by decide), countS_mid n (by omega) n1]
  obtain ⟨h1, h2⟩ := asr_low v n.toNat v0 v1 (by omega) c
  rw [← h1, ← h2]
  clear h1 h2
  have nn : 0 ≤ n := by omega
  have nn1 : 0 ≤ n - 1 := by omega
  have nz : (n == 0) = false := by simp; omega
  go_enter Try.func82, Try.ntmps82
  go_wp2
  go_quiet (fail)
  go_wp2
  go_ret2
  exact ⟨rfl, _, rfl⟩

theorem shift_3_hi (v n : Int) (c : Bool) (v0 : 0 ≤ v) (v1 : v < 4294967296) (n0 : 255 < n) (n1 : n ≤ 9223372036854775807) (w : World) :
    Calls Try.prog 82 #[.int .u32 v, .int .i64 3, .int .i64 n, .bool c] w fun e w' => e = .returned (.tuple #[.int .u32 (shiftS v 3 n c).1, .bool (shiftS v 3 n c).2]) ∧ ∃ m, w' = w.drewN m := by
  rw [shiftS_of v 3 n c (by decide) (by decide), countS_high n n0]
  obtain ⟨h1, h2⟩ := asr_low v 255 v0 v1 (by omega) c
  rw [← h1, ← h2]
  clear h1 h2
  go_enter Try.func82, Try.ntmps82
  go_wp2
  go_quiet (fail)
  go_wp2
  go_ret2
  exact ⟨rfl, _, rfl⟩

theorem shift_4_mid (v n : Int) (c : Bool) (v0 : 0 ≤ v) (v1 : v < 4294967296) (n0 : 1 ≤ n) (n1 : n ≤ 255) (w : World) :
    Calls Try.prog 82 #[.int .u32 v, .int .i64 4, .int .i64 n, .bool c] w fun e w' => e = .returned (.tuple #[.int .u32 (shiftS v 4 n c).1, .bool (shiftS v 4 n c).2]) ∧ ∃ m, w' = w.drewN m := by
  rw [shiftS_of v 4 n c (by decide) (by decide), countS_mid n (by omega) n1]
  obtain ⟨h1, h2⟩ := ror_low v n.toNat v0 v1 (by omega) c
  rw [show ((n.toNat : Nat) : Int) = n by omega] at h1 h2
  have nn : 0 ≤ n := by omega
  have nz : (n == 0) = false := by simp; omega
  have hc := rotl_c v (-n) v0 v1 w
  generalize rorS v ((32 - ((-n) % 32).toNat) % 32) = t at *
  rw [← h1, ← h2]
  clear h1 h2
  go_enter Try.func82, Try.ntmps82
  go_wp2_with (go_at_call 95; refine hc.mono ?_; rintro e w' ⟨rfl, rfl⟩)
  go_wp2
  go_ret2
  exact ⟨rfl, 0, rfl⟩

theorem shift_4_hi (v n : Int) (c : Bool) (v0 : 0 ≤ v) (v1 : v < 4294967296) (n0 : 255 < n) (n1 : n ≤ 9223372036854775807) (w : World) :
    Calls Try.prog 82 #[.int .u32 v, .int .i64 4, .int .i64 n, .bool c] w fun e w' => e = .returned (.tuple #[.int .u32 (shiftS v 4 n c).1, .bool (shiftS v 4 n c).2]) ∧ ∃ m, w' = w.drewN m := by
  rw [shiftS_of v 4 n c (by decide) (by decide), countS_high n n0]
  obtain ⟨h1, h2⟩ := ror_low v 255 v0 v1 (by omega) c
  rw [show (-((255 : Nat) : Int)) = -255 from rfl] at h1 h2
  have hc := rotl_c v (-255) v0 v1 w
  generalize rorS v ((32 - ((-255) % 32).toNat) % 32) = t at *
  rw [← h1, ← h2]
  clear h1 h2
  go_enter Try.func82, Try.ntmps82
  go_wp2_with (go_at_call 95; refine hc.mono ?_; rintro e w' ⟨rfl, rfl⟩)
  go_wp2
  go_ret2
  exact ⟨rfl, 0, rfl⟩

theorem shift_none (v kind n : Int) (c : Bool) (v0 : 0 ≤ v) (v1 : v < 4294967296) (k5 : ¬ kind = 5) (n0 : n ≤ 0) (n1 : -9223372036854775808 ≤ n) (w : World) :
    Calls Try.prog 82 #[.int .u32 v, .int .i64 kind, .int .i64 n, .bool c] w fun e w' => e = .returned (.tuple #[.int .u32 (shiftS v kind n c).1, .bool (shiftS v kind n c).2]) ∧ ∃ m, w' = w.drewN m := by
  have e : shiftS v kind n c = (v, c) := by
    unfold shiftS
    rw [if_neg k5, countS_low n n0]
    split <;> rfl
  rw [e]
  clear e
  have k5' : (kind == 5) = false := by simpa using k5
  go_enter Try.func82, Try.ntmps82
  go_wp2
  all_goals (go_ret2; exact ⟨rfl, 0, rfl⟩)

theorem shift_other (v kind n : Int) (c : Bool) (v0 : 0 ≤ v) (v1 : v < 4294967296) (k5 : kind < 1 ∨ 5 < kind) (n0 : 0 < n) (n1 : n ≤ 9223372036854775807) (w : World) :
    Calls Try.prog 82 #[.int .u32 v, .int .i64 kind, .int .i64 n, .bool c] w fun e w' => e = .returned (.tuple #[.int .u32 (shiftS v kind n c).1, .bool (shiftS v kind n c).2]) ∧ ∃ m, w' = w.drewN m := by
  have e : shiftS v kind n c = (v, c) := by
    unfold shiftS
    rw [if_neg (by omega), if_pos k5]
  rw [e]
  clear e
  have k5' : (kind == 5) = false := by simp; omega
  have k1' : (kind == 1) = false := by simp; omega
  have k2' : (kind == 2) = false := by simp; omega
  have k3' : (kind == 3) = false := by simp; omega
  have k4' : (kind == 4) = false := by simp; omega
  clear k5
  go_enter Try.func82, Try.ntmps82
  go_wp2
  all_goals (go_ret2; exact ⟨rfl, 0, rfl⟩)

theorem shift_c (v kind n : Int) (c : Bool) (v0 : 0 ≤ v) (v1 : v < 4294967296) (n0 : -9223372036854775808 ≤ n) (n1 : n ≤ 9223372036854775807) (w : World) :
    Calls Try.prog 82 #[.int .u32 v, .int .i64 kind, .int .i64 n, .bool c] w fun e w' => e = .returned (.tuple #[.int .u32 (shiftS v kind n c).1, .bool (shiftS v kind n c).2]) ∧ ∃ m, w' = w.drewN m := by
  by_cases k5 : kind = 5
  · subst k5; exact shift_5 v n c v0 v1 n0 n1 w
  by_cases hn : n ≤ 0
  · exact shift_none v kind n c v0 v1 k5 hn n0 w
  by_cases ko : kind < 1 ∨ 5 < kind
  · exact shift_other v kind n c v0 v1 ko (by omega) n1 w
  rcases (show kind = 1 ∨ kind = 2 ∨ kind = 3 ∨ kind = 4 by omega) with k | k | k | k <;> subst k <;> by_cases hh : n ≤ 255
  · exact shift_1_mid v n c v0 v1 (by omega) hh w
  · exact shift_1_hi v n c v0 v1 (by omega) n1 w
  · exact shift_2_mid v n c v0 v1 (by omega) hh w
  · exact shift_2_hi v n c v0 v1 (by omega) n1 w
  · exact shift_3_mid v n c v0 v1 (by omega) hh w
  · exact shift_3_hi v n c v0 v1 (by omega) n1 w
  · exact shift_4_mid v n c v0 v1 (by omega) hh w
  · exact shift_4_hi v n c v0 v1 (by omega) n1 w
end Go.Proofs.Yteflboidbogegaa
