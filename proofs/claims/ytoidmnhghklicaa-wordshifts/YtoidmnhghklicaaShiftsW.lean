/- WordShifts returns true for every word, both counts, carry and kind: so many single shifts are one shift of so many. -/
import Derived.Test.YtoidmnhghklicaaKnown
namespace Go.Proofs.Ytoidmnhghklicaa
open Go.ChangeShapes Go.WideShapes Go.ChangeAt Go.RowKit
set_option linter.unusedVariables false
set_option linter.unusedSimpArgs false

theorem grown_drewN {w w1 : World} (h : ∃ m, w1 = w.drewN m) : Grown w w1 := by
  obtain ⟨m, rfl⟩ := h
  exact (Grown.refl w : Grown w (w.drewN m))
theorem grown_then {w w1 w2 : World} (h : Grown w w1) (h2 : ∃ m, w2 = w1.drewN m) : Grown w w2 := by
  obtain ⟨m, rfl⟩ := h2
  exact (h : Grown w (w1.drewN m))

set_option maxHeartbeats 1000000 in
set_option maxRecDepth 100000 in
theorem shifts_0 (v n m k x y : Int) (c d e : Bool) (v0 : 0 ≤ v) (v1 : v < 4294967296) (n0 : 0 ≤ n) (n1 : n < 256) (m0 : 0 ≤ m) (m1 : m < 256) (k0 : 0 ≤ k) (k1 : k < 256)
    (hk : k % 4 = 0)
    (h1 : ∀ w, Calls Try.prog 10 #[.int .u32 v, .int .i64 1, .int .i64 (n % 40), .bool c] w fun r w' => r = .returned (.tuple #[.int .u32 x, .bool d]) ∧ ∃ m, w' = w.drewN m)
    (h2 : ∀ w, Calls Try.prog 10 #[.int .u32 x, .int .i64 1, .int .i64 (m % 40), .bool d] w fun r w' => r = .returned (.tuple #[.int .u32 y, .bool e]) ∧ ∃ m, w' = w.drewN m)
    (h3 : ∀ w, Calls Try.prog 10 #[.int .u32 v, .int .i64 1, .int .i64 (n % 40 + m % 40), .bool c] w fun r w' => r = .returned (.tuple #[.int .u32 y, .bool e]) ∧ ∃ m, w' = w.drewN m) (w : World) :
    Calls Try.prog 8 #[.int .u32 v, .int .u8 n, .int .u8 m, .bool c, .int .u8 k] w fun r w' => r = .returned (.bool true) ∧ Grown w w' := by
  go_enter Try.func8, Try.ntmps8
  go_wp2_with fail
  refine (known_true _).mono ?_
  rintro r w1 ⟨rfl, hw1⟩
  go_wp2_with fail
  refine (h1 _).mono ?_
  rintro r w2 ⟨rfl, hw2⟩
  go_wp2_with fail
  refine (h2 _).mono ?_
  rintro r w3 ⟨rfl, hw3⟩
  go_wp2_with fail
  refine (h3 _).mono ?_
  rintro r w4 ⟨rfl, hw4⟩
  go_wp2
  go_ret
  exact ⟨rfl, grown_then (grown_then (grown_then (Grown.alloc (grown_drewN hw1) _ _) hw2) hw3) hw4⟩

set_option maxHeartbeats 1000000 in
set_option maxRecDepth 100000 in
theorem shifts_1 (v n m k x y : Int) (c d e : Bool) (v0 : 0 ≤ v) (v1 : v < 4294967296) (n0 : 0 ≤ n) (n1 : n < 256) (m0 : 0 ≤ m) (m1 : m < 256) (k0 : 0 ≤ k) (k1 : k < 256)
    (hk : k % 4 = 1)
    (h1 : ∀ w, Calls Try.prog 10 #[.int .u32 v, .int .i64 2, .int .i64 (n % 40), .bool c] w fun r w' => r = .returned (.tuple #[.int .u32 x, .bool d]) ∧ ∃ m, w' = w.drewN m)
    (h2 : ∀ w, Calls Try.prog 10 #[.int .u32 x, .int .i64 2, .int .i64 (m % 40), .bool d] w fun r w' => r = .returned (.tuple #[.int .u32 y, .bool e]) ∧ ∃ m, w' = w.drewN m)
    (h3 : ∀ w, Calls Try.prog 10 #[.int .u32 v, .int .i64 2, .int .i64 (n % 40 + m % 40), .bool c] w fun r w' => r = .returned (.tuple #[.int .u32 y, .bool e]) ∧ ∃ m, w' = w.drewN m) (w : World) :
    Calls Try.prog 8 #[.int .u32 v, .int .u8 n, .int .u8 m, .bool c, .int .u8 k] w fun r w' => r = .returned (.bool true) ∧ Grown w w' := by
  go_enter Try.func8, Try.ntmps8
  go_wp2_with fail
  refine (known_true _).mono ?_
  rintro r w1 ⟨rfl, hw1⟩
  go_wp2_with fail
  refine (h1 _).mono ?_
  rintro r w2 ⟨rfl, hw2⟩
  go_wp2_with fail
  refine (h2 _).mono ?_
  rintro r w3 ⟨rfl, hw3⟩
  go_wp2_with fail
  refine (h3 _).mono ?_
  rintro r w4 ⟨rfl, hw4⟩
  go_wp2
  go_ret
  exact ⟨rfl, grown_then (grown_then (grown_then (Grown.alloc (grown_drewN hw1) _ _) hw2) hw3) hw4⟩

set_option maxHeartbeats 1000000 in
set_option maxRecDepth 100000 in
theorem shifts_2 (v n m k x y : Int) (c d e : Bool) (v0 : 0 ≤ v) (v1 : v < 4294967296) (n0 : 0 ≤ n) (n1 : n < 256) (m0 : 0 ≤ m) (m1 : m < 256) (k0 : 0 ≤ k) (k1 : k < 256)
    (hk : k % 4 = 2)
    (h1 : ∀ w, Calls Try.prog 10 #[.int .u32 v, .int .i64 3, .int .i64 (n % 40), .bool c] w fun r w' => r = .returned (.tuple #[.int .u32 x, .bool d]) ∧ ∃ m, w' = w.drewN m)
    (h2 : ∀ w, Calls Try.prog 10 #[.int .u32 x, .int .i64 3, .int .i64 (m % 40), .bool d] w fun r w' => r = .returned (.tuple #[.int .u32 y, .bool e]) ∧ ∃ m, w' = w.drewN m)
    (h3 : ∀ w, Calls Try.prog 10 #[.int .u32 v, .int .i64 3, .int .i64 (n % 40 + m % 40), .bool c] w fun r w' => r = .returned (.tuple #[.int .u32 y, .bool e]) ∧ ∃ m, w' = w.drewN m) (w : World) :
    Calls Try.prog 8 #[.int .u32 v, .int .u8 n, .int .u8 m, .bool c, .int .u8 k] w fun r w' => r = .returned (.bool true) ∧ Grown w w' := by
  go_enter Try.func8, Try.ntmps8
  go_wp2_with fail
  refine (known_true _).mono ?_
  rintro r w1 ⟨rfl, hw1⟩
  go_wp2_with fail
  refine (h1 _).mono ?_
  rintro r w2 ⟨rfl, hw2⟩
  go_wp2_with fail
  refine (h2 _).mono ?_
  rintro r w3 ⟨rfl, hw3⟩
  go_wp2_with fail
  refine (h3 _).mono ?_
  rintro r w4 ⟨rfl, hw4⟩
  go_wp2
  go_ret
  exact ⟨rfl, grown_then (grown_then (grown_then (Grown.alloc (grown_drewN hw1) _ _) hw2) hw3) hw4⟩

set_option maxHeartbeats 1000000 in
set_option maxRecDepth 100000 in
theorem shifts_3 (v n m k x y : Int) (c d e : Bool) (v0 : 0 ≤ v) (v1 : v < 4294967296) (n0 : 0 ≤ n) (n1 : n < 256) (m0 : 0 ≤ m) (m1 : m < 256) (k0 : 0 ≤ k) (k1 : k < 256)
    (hk : k % 4 = 3)
    (h1 : ∀ w, Calls Try.prog 10 #[.int .u32 v, .int .i64 4, .int .i64 (n % 40), .bool c] w fun r w' => r = .returned (.tuple #[.int .u32 x, .bool d]) ∧ ∃ m, w' = w.drewN m)
    (h2 : ∀ w, Calls Try.prog 10 #[.int .u32 x, .int .i64 4, .int .i64 (m % 40), .bool d] w fun r w' => r = .returned (.tuple #[.int .u32 y, .bool e]) ∧ ∃ m, w' = w.drewN m)
    (h3 : ∀ w, Calls Try.prog 10 #[.int .u32 v, .int .i64 4, .int .i64 (n % 40 + m % 40), .bool c] w fun r w' => r = .returned (.tuple #[.int .u32 y, .bool e]) ∧ ∃ m, w' = w.drewN m) (w : World) :
    Calls Try.prog 8 #[.int .u32 v, .int .u8 n, .int .u8 m, .bool c, .int .u8 k] w fun r w' => r = .returned (.bool true) ∧ Grown w w' := by
  go_enter Try.func8, Try.ntmps8
  go_wp2_with fail
  refine (known_true _).mono ?_
  rintro r w1 ⟨rfl, hw1⟩
  go_wp2_with fail
  refine (h1 _).mono ?_
  rintro r w2 ⟨rfl, hw2⟩
  go_wp2_with fail
  refine (h2 _).mono ?_
  rintro r w3 ⟨rfl, hw3⟩
  go_wp2_with fail
  refine (h3 _).mono ?_
  rintro r w4 ⟨rfl, hw4⟩
  go_wp2
  go_ret
  exact ⟨rfl, grown_then (grown_then (grown_then (Grown.alloc (grown_drewN hw1) _ _) hw2) hw3) hw4⟩

theorem shifts_walk (v n m k : Int) (c : Bool) (v0 : 0 ≤ v) (v1 : v < 4294967296) (n0 : 0 ≤ n) (n1 : n < 256) (m0 : 0 ≤ m) (m1 : m < 256) (k0 : 0 ≤ k) (k1 : k < 256) (w : World) :
    Calls Try.prog 8 #[.int .u32 v, .int .u8 n, .int .u8 m, .bool c, .int .u8 k] w fun r w' => r = .returned (.bool true) ∧ Grown w w' := by
  have key : ∀ K : Int, 1 ≤ K → K ≤ 4 → ∃ x y d e,
      (∀ w, Calls Try.prog 10 #[.int .u32 v, .int .i64 K, .int .i64 (n % 40), .bool c] w fun r w' => r = .returned (.tuple #[.int .u32 x, .bool d]) ∧ ∃ m, w' = w.drewN m) ∧
      (∀ w, Calls Try.prog 10 #[.int .u32 x, .int .i64 K, .int .i64 (m % 40), .bool d] w fun r w' => r = .returned (.tuple #[.int .u32 y, .bool e]) ∧ ∃ m, w' = w.drewN m) ∧
      (∀ w, Calls Try.prog 10 #[.int .u32 v, .int .i64 K, .int .i64 (n % 40 + m % 40), .bool c] w fun r w' => r = .returned (.tuple #[.int .u32 y, .bool e]) ∧ ∃ m, w' = w.drewN m) := by
    intro K K0 K1
    have b := iterS_bounds K (n % 40).toNat (v, c) v0 v1
    refine ⟨(iterS K (n % 40).toNat (v, c)).1, (iterS K (n % 40 + m % 40).toNat (v, c)).1, (iterS K (n % 40).toNat (v, c)).2, (iterS K (n % 40 + m % 40).toNat (v, c)).2, fun w => ?_, fun w => ?_, fun w => ?_⟩
    · have h := shift_c v K (n % 40) c v0 v1 (by omega) (by omega) w
      rw [shiftS_of v K _ c K0 K1, countS_mid _ (by omega) (by omega)] at h
      exact h
    · have h := shift_c _ K (m % 40) (iterS K (n % 40).toNat (v, c)).2 b.1 b.2 (by omega) (by omega) w
      rw [shiftS_of _ K _ _ K0 K1, countS_mid _ (by omega) (by omega), iterS_add, show (n % 40).toNat + (m % 40).toNat = (n % 40 + m % 40).toNat by omega] at h
      exact h
    · have h := shift_c v K (n % 40 + m % 40) c v0 v1 (by omega) (by omega) w
      rw [shiftS_of v K _ c K0 K1, countS_mid _ (by omega) (by omega)] at h
      exact h
  rcases (show k % 4 = 0 ∨ k % 4 = 1 ∨ k % 4 = 2 ∨ k % 4 = 3 by omega) with hk | hk | hk | hk
  · obtain ⟨x, y, d, e, h1, h2, h3⟩ := key 1 (by decide) (by decide)
    exact shifts_0 v n m k x y c d e v0 v1 n0 n1 m0 m1 k0 k1 hk h1 h2 h3 w
  · obtain ⟨x, y, d, e, h1, h2, h3⟩ := key 2 (by decide) (by decide)
    exact shifts_1 v n m k x y c d e v0 v1 n0 n1 m0 m1 k0 k1 hk h1 h2 h3 w
  · obtain ⟨x, y, d, e, h1, h2, h3⟩ := key 3 (by decide) (by decide)
    exact shifts_2 v n m k x y c d e v0 v1 n0 n1 m0 m1 k0 k1 hk h1 h2 h3 w
  · obtain ⟨x, y, d, e, h1, h2, h3⟩ := key 4 (by decide) (by decide)
    exact shifts_3 v n m k x y c d e v0 v1 n0 n1 m0 m1 k0 k1 hk h1 h2 h3 w
end Go.Proofs.Ytoidmnhghklicaa
