/- A part of: WordBack returns true for every two words and every count: what is turned twice is as it was, a sum is taken back, a number that was told is told again. -/
import Derived.Test.YtoidmnhghklicaaKnown
import Derived.Test.YtoidmnhghklicaaTwelve
namespace Go.Proofs.Ytoidmnhghklicaa
open Go.ChangeShapes Go.WideShapes Go.ChangeAt Go.RowKit
set_option linter.unusedVariables false
set_option linter.unusedSimpArgs false

set_option maxHeartbeats 2000000 in
set_option maxRecDepth 100000 in
theorem back_nn (a b n nb s x x3 lo hi q i ee r1 t1 h1 u1 : Int) (c1 c2 c3 c4 c5 c6 c7 c8 : Bool) (a0 : 0 ≤ a) (a1 : a < 4294967296) (b0 : 0 ≤ b) (b1 : b < 4294967296) (n0 : 0 ≤ n) (n1 : n < 256)
    (hnb : bits .xor .u32 IntKind.u32.max b = nb)
    (A1 : Hid (∀ w, Calls Try.prog 12 #[.int .u32 a, .int .u32 b, .bool false] w fun r w' => r = .returned (.tuple #[.int .u32 s, .bool c1, .bool c2]) ∧ w' = w))
    (A2 : Hid (∀ w, Calls Try.prog 12 #[.int .u32 s, .int .u32 nb, .bool true] w fun r w' => r = .returned (.tuple #[.int .u32 a, .bool (decide (b ≤ s)), .bool c3]) ∧ w' = w))
    (A3 : Hid (∀ w, Calls Try.prog 12 #[.int .u32 a, .int .u32 nb, .bool true] w fun r w' => r = .returned (.tuple #[.int .u32 x3, .bool (decide (b ≤ a)), .bool c4]) ∧ w' = w))
    (S1 : Hid (∀ w, Calls Try.prog 10 #[.int .u32 a, .int .i64 4, .int .i64 (n % 31 + 1), .bool false] w fun r w' => r = .returned (.tuple #[.int .u32 x, .bool c5]) ∧ ∃ m, w' = w.drewN m))
    (S2 : Hid (∀ w, Calls Try.prog 10 #[.int .u32 x, .int .i64 4, .int .i64 (32 - (n % 31 + 1)), .bool false] w fun r w' => r = .returned (.tuple #[.int .u32 a, .bool c6]) ∧ ∃ m, w' = w.drewN m))
    (M1 : Hid (∀ w, Calls Try.prog 32 #[.int .u32 a, .int .u32 b, .bool false] w fun r w' => r = .returned (.tuple #[.int .u32 lo, .int .u32 hi]) ∧ w' = w))
    (M2 : Hid (∀ w, Calls Try.prog 32 #[.int .u32 b, .int .u32 a, .bool false] w fun r w' => r = .returned (.tuple #[.int .u32 lo, .int .u32 hi]) ∧ w' = w))
    (Q1 : Hid (∀ w, Calls Try.prog 34 #[.int .u32 a, .int .u32 b] w fun r w' => r = .returned (.int .u32 q) ∧ w' = w))
    (C1 : Hid (∀ w, Calls Try.prog 16 #[.int .u32 a] w fun r w' => r = .returned (.tuple #[.int .u32 i, .bool false]) ∧ w' = w))
    (E1 : Hid (∀ w, Calls Try.prog 14 #[.int .u32 i, .bool false] w fun r w' => r = .returned (.tuple #[.int .u32 ee, .bool c7, .bool c8]) ∧ w' = w))
    (R1 : Hid (∀ w, Calls Try.prog 22 #[.int .u32 a] w fun r w' => r = .returned (.int .u32 r1) ∧ w' = w))
    (R2 : Hid (∀ w, Calls Try.prog 22 #[.int .u32 r1] w fun r w' => r = .returned (.int .u32 a) ∧ w' = w))
    (B1 : Hid (∀ w, Calls Try.prog 20 #[.int .u32 a] w fun r w' => r = .returned (.int .u32 t1) ∧ w' = w))
    (B2 : Hid (∀ w, Calls Try.prog 20 #[.int .u32 t1] w fun r w' => r = .returned (.int .u32 a) ∧ w' = w))
    (H1 : Hid (∀ w, Calls Try.prog 24 #[.int .u32 a] w fun r w' => r = .returned (.int .u32 h1) ∧ w' = w))
    (H2 : Hid (∀ w, Calls Try.prog 24 #[.int .u32 h1] w fun r w' => r = .returned (.int .u32 a) ∧ w' = w))
    (X1 : Hid (∀ w, Calls Try.prog 22 #[.int .u32 t1] w fun r w' => r = .returned (.int .u32 u1) ∧ w' = w))
    (X2 : Hid (∀ w, Calls Try.prog 20 #[.int .u32 r1] w fun r w' => r = .returned (.int .u32 u1) ∧ w' = w))
    (hlo : a * b % 4294967296 = lo) (bz : (b == 0) = false) (p : Int) (hp : q * b % 4294967296 = p) (p0 : 0 ≤ p) (p1 : p ≤ a) (p2 : a - p < b) (w : World) :
    Calls Try.prog 7 #[.int .u32 a, .int .u32 b, .int .u8 n] w fun r w' => r = .returned (.bool true) ∧ ∃ m, w' = w.drewN m := by
  go_enter Try.func7, Try.ntmps7
  go_wp2_with fail
  refine (known_true _).mono ?_
  rintro r w1 ⟨rfl, hw1⟩
  go_wp2_with fail
  refine (A1.out _).mono ?_
  rintro r _ ⟨rfl, rfl⟩
  go_wp2_with fail
  refine (A2.out _).mono ?_
  rintro r _ ⟨rfl, rfl⟩
  go_wp2_with fail
  refine (A3.out _).mono ?_
  rintro r _ ⟨rfl, rfl⟩
  go_wp2_with fail
  refine (S1.out _).mono ?_
  rintro r w2 ⟨rfl, hw2⟩
  go_wp2_with fail
  refine (S2.out _).mono ?_
  rintro r w3 ⟨rfl, hw3⟩
  go_wp2_with fail
  refine (M1.out _).mono ?_
  rintro r _ ⟨rfl, rfl⟩
  go_wp2_with fail
  refine (M2.out _).mono ?_
  rintro r _ ⟨rfl, rfl⟩
  go_wp2_with fail
  refine (Q1.out _).mono ?_
  rintro r _ ⟨rfl, rfl⟩
  go_wp2_with fail
  refine (C1.out _).mono ?_
  rintro r _ ⟨rfl, rfl⟩
  go_wp2_with fail
  refine (E1.out _).mono ?_
  rintro r _ ⟨rfl, rfl⟩
  go_wp2_with fail
  refine (R1.out _).mono ?_
  rintro r _ ⟨rfl, rfl⟩
  go_wp2_with fail
  refine (R2.out _).mono ?_
  rintro r _ ⟨rfl, rfl⟩
  go_wp2_with fail
  refine (B1.out _).mono ?_
  rintro r _ ⟨rfl, rfl⟩
  go_wp2_with fail
  refine (B2.out _).mono ?_
  rintro r _ ⟨rfl, rfl⟩
  go_wp2_with fail
  refine (H1.out _).mono ?_
  rintro r _ ⟨rfl, rfl⟩
  go_wp2_with fail
  refine (H2.out _).mono ?_
  rintro r _ ⟨rfl, rfl⟩
  go_wp2_with fail
  refine (B1.out _).mono ?_
  rintro r _ ⟨rfl, rfl⟩
  go_wp2_with fail
  refine (X1.out _).mono ?_
  rintro r _ ⟨rfl, rfl⟩
  go_wp2_with fail
  refine (R1.out _).mono ?_
  rintro r _ ⟨rfl, rfl⟩
  go_wp2_with fail
  refine (X2.out _).mono ?_
  rintro r _ ⟨rfl, rfl⟩
  go_wp2
  all_goals go_ret
  all_goals
    obtain ⟨m1, rfl⟩ := hw1
    obtain ⟨m2, rfl⟩ := hw2
    obtain ⟨m3, rfl⟩ := hw3
    exact ⟨rfl, m1 + m2 + m3, by simp only [World.drewN_drewN, Nat.add_assoc]⟩

end Go.Proofs.Ytoidmnhghklicaa
