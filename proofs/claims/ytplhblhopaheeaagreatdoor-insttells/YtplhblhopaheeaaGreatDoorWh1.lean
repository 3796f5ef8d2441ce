/- Stage 9: sourdineseat.Pair gives some pair. -/
import Derived.Test.YtplhblhopaheeaaGreatDoorYj
namespace Go.Proofs.YtplhblhopaheeaaGreatDoor
open Go.ChangeShapes Go.WideShapes Go.ChangeAt Go.RowKit
set_option linter.unusedVariables false
set_option linter.unusedSimpArgs false

theorem b16_w (op : BinOp) (a b : Int) : 0 ≤ bits op .u16 a b ∧ bits op .u16 a b ≤ 65535 := by
  have h : ∀ n : Int, 0 ≤ IntKind.u16.wrap n ∧ IntKind.u16.wrap n ≤ 65535 := fun n => by rw [IntKind.wrap_u16]; omega
  unfold bits
  split <;> exact h _
def Pair16 (w : World) (e : Ending) (w' : World) : Prop := (∃ p q : Nat, e = .returned (.tuple #[.int .u16 p, .int .u16 q]) ∧ p < 65536 ∧ q < 65536) ∧ Below w.heap.size w w'
theorem pair16 {w w' : World} {e : Ending} (p q : Int) (h : e = .returned (.tuple #[.int .u16 p, .int .u16 q])) (p0 : 0 ≤ p ∧ p ≤ 65535) (q0 : 0 ≤ q ∧ q ≤ 65535) (hb : Below w.heap.size w w') : Pair16 w e w' := by
  refine ⟨⟨p.toNat, q.toNat, ?_, by omega, by omega⟩, hb⟩
  rw [h, Int.toNat_of_nonneg p0.1, Int.toNat_of_nonneg q0.1]
set_option maxHeartbeats 20000000 in
set_option maxRecDepth 100000 in
theorem pair_0 (k x y : Nat) (hx : x < 65536) (hy : y < 65536) (k0 : (0 : Int) ≤ (k : Int)) (x0 : (0 : Int) ≤ (x : Int)) (y0 : (0 : Int) ≤ (y : Int)) (hk : (k : Int) % 24 = 0) (j : Nat) (hj : j < 10) (hi : (x : Int) / 16 % 10 = j) (w : World) : Calls Tryz.prog 6 #[.int .u8 k, .int .u16 x, .int .u16 y] w fun e w' => Pair16 w e w' := by
  obtain ⟨v, hv, HX⟩ : ∃ v : Nat, v < 65536 ∧ Hid ((Cel.any [.int .u16 0, .int .u16 1, .int .u16 2, .int .u16 3, .int .u16 4, .int .u16 8, .int .u16 10, .int .u16 11, .int .u16 13, .int .u16 14]).cells[j]? = some (.int .u16 (v : Nat))) := by
    rcases (show j = 0 ∨ j = 1 ∨ j = 2 ∨ j = 3 ∨ j = 4 ∨ j = 5 ∨ j = 6 ∨ j = 7 ∨ j = 8 ∨ j = 9 by omega) with rfl | rfl | rfl | rfl | rfl | rfl | rfl | rfl | rfl | rfl
    · exact ⟨0, by decide, rfl⟩
    · exact ⟨1, by decide, rfl⟩
    · exact ⟨2, by decide, rfl⟩
    · exact ⟨3, by decide, rfl⟩
    · exact ⟨4, by decide, rfl⟩
    · exact ⟨8, by decide, rfl⟩
    · exact ⟨10, by decide, rfl⟩
    · exact ⟨11, by decide, rfl⟩
    · exact ⟨13, by decide, rfl⟩
    · exact ⟨14, by decide, rfl⟩
  have hj2 : (j : Int) < 10 := by omega
  have v0 : (0 : Int) ≤ (v : Int) := by omega
  have v1 : (v : Int) ≤ 65535 := by omega
  go_enter Tryz.func6, Tryz.ntmps6
  have S := SH.start w
  go_wp2_with (first
    | ((with_reducible refine wpl_isDst 34 ?_); refine SH.sliceA_w (L := []) S rfl 62 10 _ rfl [.int .u16 0, .int .u16 1, .int .u16 2, .int .u16 3, .int .u16 4, .int .u16 8, .int .u16 10, .int .u16 11, .int .u16 13, .int .u16 14] 22 (by kernel_rfl) ?_; clear S; intro gs w1 S)
    | ((with_reducible refine wpl_isDst 39 ?_); refine S.ld 22 _ rfl gs j rfl 0 (Cel.any [.int .u16 0, .int .u16 1, .int .u16 2, .int .u16 3, .int .u16 4, .int .u16 8, .int .u16 10, .int .u16 11, .int .u16 13, .int .u16 14]) rfl (.int .u16 v) HX.out _ Tryz.underlying22 rfl rfl ?_)
    | ((with_reducible refine wpl_isDst 64 ?_); refine SH.sliceA_w (L := []) S rfl 62 10 _ rfl [.int .u16 0, .int .u16 1, .int .u16 2, .int .u16 3, .int .u16 4, .int .u16 8, .int .u16 10, .int .u16 11, .int .u16 13, .int .u16 14] 22 (by kernel_rfl) ?_; clear S; intro gs w1 S)
    | ((with_reducible refine wpl_isDst 69 ?_); refine S.ld 22 _ rfl gs j rfl 0 (Cel.any [.int .u16 0, .int .u16 1, .int .u16 2, .int .u16 3, .int .u16 4, .int .u16 8, .int .u16 10, .int .u16 11, .int .u16 13, .int .u16 14]) rfl (.int .u16 v) HX.out _ Tryz.underlying22 rfl rfl ?_))
  go_ret2
  refine pair16 _ _ rfl ?_ ?_ ?_
  all_goals first | exact b16_w _ _ _ | exact S.low | exact (Below.refl _ _).alloc (Nat.le_refl _) _ | exact ((Below.refl _ _).alloc (Nat.le_refl _) _).alloc (by rw [World.alloc]; simp) _ | omega
set_option maxHeartbeats 20000000 in
set_option maxRecDepth 100000 in
theorem pair_1 (k x y : Nat) (hx : x < 65536) (hy : y < 65536) (k0 : (0 : Int) ≤ (k : Int)) (x0 : (0 : Int) ≤ (x : Int)) (y0 : (0 : Int) ≤ (y : Int)) (hk : (k : Int) % 24 = 1) (j : Nat) (hj : j < 10) (hi : (x : Int) / 16 % 10 = j) (w : World) : Calls Tryz.prog 6 #[.int .u8 k, .int .u16 x, .int .u16 y] w fun e w' => Pair16 w e w' := by
  obtain ⟨v, hv, HX⟩ : ∃ v : Nat, v < 65536 ∧ Hid ((Cel.any [.int .u16 0, .int .u16 1, .int .u16 2, .int .u16 3, .int .u16 4, .int .u16 8, .int .u16 10, .int .u16 11, .int .u16 13, .int .u16 14]).cells[j]? = some (.int .u16 (v : Nat))) := by
    rcases (show j = 0 ∨ j = 1 ∨ j = 2 ∨ j = 3 ∨ j = 4 ∨ j = 5 ∨ j = 6 ∨ j = 7 ∨ j = 8 ∨ j = 9 by omega) with rfl | rfl | rfl | rfl | rfl | rfl | rfl | rfl | rfl | rfl
    · exact ⟨0, by decide, rfl⟩
    · exact ⟨1, by decide, rfl⟩
    · exact ⟨2, by decide, rfl⟩
    · exact ⟨3, by decide, rfl⟩
    · exact ⟨4, by decide, rfl⟩
    · exact ⟨8, by decide, rfl⟩
    · exact ⟨10, by decide, rfl⟩
    · exact ⟨11, by decide, rfl⟩
    · exact ⟨13, by decide, rfl⟩
    · exact ⟨14, by decide, rfl⟩
  have hj2 : (j : Int) < 10 := by omega
  have v0 : (0 : Int) ≤ (v : Int) := by omega
  have v1 : (v : Int) ≤ 65535 := by omega
  go_enter Tryz.func6, Tryz.ntmps6
  have S := SH.start w
  go_wp2_with (first
    | ((with_reducible refine wpl_isDst 34 ?_); refine SH.sliceA_w (L := []) S rfl 62 10 _ rfl [.int .u16 0, .int .u16 1, .int .u16 2, .int .u16 3, .int .u16 4, .int .u16 8, .int .u16 10, .int .u16 11, .int .u16 13, .int .u16 14] 22 (by kernel_rfl) ?_; clear S; intro gs w1 S)
    | ((with_reducible refine wpl_isDst 39 ?_); refine S.ld 22 _ rfl gs j rfl 0 (Cel.any [.int .u16 0, .int .u16 1, .int .u16 2, .int .u16 3, .int .u16 4, .int .u16 8, .int .u16 10, .int .u16 11, .int .u16 13, .int .u16 14]) rfl (.int .u16 v) HX.out _ Tryz.underlying22 rfl rfl ?_)
    | ((with_reducible refine wpl_isDst 64 ?_); refine SH.sliceA_w (L := []) S rfl 62 10 _ rfl [.int .u16 0, .int .u16 1, .int .u16 2, .int .u16 3, .int .u16 4, .int .u16 8, .int .u16 10, .int .u16 11, .int .u16 13, .int .u16 14] 22 (by kernel_rfl) ?_; clear S; intro gs w1 S)
    | ((with_reducible refine wpl_isDst 69 ?_); refine S.ld 22 _ rfl gs j rfl 0 (Cel.any [.int .u16 0, .int .u16 1, .int .u16 2, .int .u16 3, .int .u16 4, .int .u16 8, .int .u16 10, .int .u16 11, .int .u16 13, .int .u16 14]) rfl (.int .u16 v) HX.out _ Tryz.underlying22 rfl rfl ?_))
  go_ret2
  refine pair16 _ _ rfl ?_ ?_ ?_
  all_goals first | exact b16_w _ _ _ | exact S.low | exact (Below.refl _ _).alloc (Nat.le_refl _) _ | exact ((Below.refl _ _).alloc (Nat.le_refl _) _).alloc (by rw [World.alloc]; simp) _ | omega
set_option maxHeartbeats 20000000 in
set_option maxRecDepth 100000 in
theorem pair_2 (k x y : Nat) (hx : x < 65536) (hy : y < 65536) (k0 : (0 : Int) ≤ (k : Int)) (x0 : (0 : Int) ≤ (x : Int)) (y0 : (0 : Int) ≤ (y : Int)) (hk : (k : Int) % 24 = 2) (j : Nat) (hj : j < 10) (hi : (x : Int) / 16 % 10 = j) (w : World) : Calls Tryz.prog 6 #[.int .u8 k, .int .u16 x, .int .u16 y] w fun e w' => Pair16 w e w' := by
  obtain ⟨v, hv, HX⟩ : ∃ v : Nat, v < 65536 ∧ Hid ((Cel.any [.int .u16 0, .int .u16 1, .int .u16 2, .int .u16 3, .int .u16 4, .int .u16 8, .int .u16 10, .int .u16 11, .int .u16 13, .int .u16 14]).cells[j]? = some (.int .u16 (v : Nat))) := by
    rcases (show j = 0 ∨ j = 1 ∨ j = 2 ∨ j = 3 ∨ j = 4 ∨ j = 5 ∨ j = 6 ∨ j = 7 ∨ j = 8 ∨ j = 9 by omega) with rfl | rfl | rfl | rfl | rfl | rfl | rfl | rfl | rfl | rfl
    · exact ⟨0, by decide, rfl⟩
    · exact ⟨1, by decide, rfl⟩
    · exact ⟨2, by decide, rfl⟩
    · exact ⟨3, by decide, rfl⟩
    · exact ⟨4, by decide, rfl⟩
    · exact ⟨8, by decide, rfl⟩
    · exact ⟨10, by decide, rfl⟩
    · exact ⟨11, by decide, rfl⟩
    · exact ⟨13, by decide, rfl⟩
    · exact ⟨14, by decide, rfl⟩
  have hj2 : (j : Int) < 10 := by omega
  have v0 : (0 : Int) ≤ (v : Int) := by omega
  have v1 : (v : Int) ≤ 65535 := by omega
  go_enter Tryz.func6, Tryz.ntmps6
  have S := SH.start w
  go_wp2_with (first
    | ((with_reducible refine wpl_isDst 34 ?_); refine SH.sliceA_w (L := []) S rfl 62 10 _ rfl [.int .u16 0, .int .u16 1, .int .u16 2, .int .u16 3, .int .u16 4, .int .u16 8, .int .u16 10, .int .u16 11, .int .u16 13, .int .u16 14] 22 (by kernel_rfl) ?_; clear S; intro gs w1 S)
    | ((with_reducible refine wpl_isDst 39 ?_); refine S.ld 22 _ rfl gs j rfl 0 (Cel.any [.int .u16 0, .int .u16 1, .int .u16 2, .int .u16 3, .int .u16 4, .int .u16 8, .int .u16 10, .int .u16 11, .int .u16 13, .int .u16 14]) rfl (.int .u16 v) HX.out _ Tryz.underlying22 rfl rfl ?_)
    | ((with_reducible refine wpl_isDst 64 ?_); refine SH.sliceA_w (L := []) S rfl 62 10 _ rfl [.int .u16 0, .int .u16 1, .int .u16 2, .int .u16 3, .int .u16 4, .int .u16 8, .int .u16 10, .int .u16 11, .int .u16 13, .int .u16 14] 22 (by kernel_rfl) ?_; clear S; intro gs w1 S)
    | ((with_reducible refine wpl_isDst 69 ?_); refine S.ld 22 _ rfl gs j rfl 0 (Cel.any [.int .u16 0, .int .u16 1, .int .u16 2, .int .u16 3, .int .u16 4, .int .u16 8, .int .u16 10, .int .u16 11, .int .u16 13, .int .u16 14]) rfl (.int .u16 v) HX.out _ Tryz.underlying22 rfl rfl ?_))
  go_ret2
  refine pair16 _ _ rfl ?_ ?_ ?_
  all_goals first | exact b16_w _ _ _ | exact S.low | exact (Below.refl _ _).alloc (Nat.le_refl _) _ | exact ((Below.refl _ _).alloc (Nat.le_refl _) _).alloc (by rw [World.alloc]; simp) _ | omega
set_option maxHeartbeats 20000000 in
set_option maxRecDepth 100000 in
theorem pair_3 (k x y : Nat) (hx : x < 65536) (hy : y < 65536) (k0 : (0 : Int) ≤ (k : Int)) (x0 : (0 : Int) ≤ (x : Int)) (y0 : (0 : Int) ≤ (y : Int)) (hk : (k : Int) % 24 = 3) (j : Nat) (hj : j < 10) (hi : (x : Int) / 16 % 10 = j) (w : World) : Calls Tryz.prog 6 #[.int .u8 k, .int .u16 x, .int .u16 y] w fun e w' => Pair16 w e w' := by
  obtain ⟨v, hv, HX⟩ : ∃ v : Nat, v < 65536 ∧ Hid ((Cel.any [.int .u16 0, .int .u16 1, .int .u16 2, .int .u16 3, .int .u16 4, .int .u16 8, .int .u16 10, .int .u16 11, .int .u16 13, .int .u16 14]).cells[j]? = some (.int .u16 (v : Nat))) := by
    rcases (show j = 0 ∨ j = 1 ∨ j = 2 ∨ j = 3 ∨ j = 4 ∨ j = 5 ∨ j = 6 ∨ j = 7 ∨ j = 8 ∨ j = 9 by omega) with rfl | rfl | rfl | rfl | rfl | rfl | rfl | rfl | rfl | rfl
    · exact ⟨0, by decide, rfl⟩
    · exact ⟨1, by decide, rfl⟩
    · exact ⟨2, by decide, rfl⟩
    · exact ⟨3, by decide, rfl⟩
    · exact ⟨4, by decide, rfl⟩
    · exact ⟨8, by decide, rfl⟩
    · exact ⟨10, by decide, rfl⟩
    · exact ⟨11, by decide, rfl⟩
    · exact ⟨13, by decide, rfl⟩
    · exact ⟨14, by decide, rfl⟩
  have hj2 : (j : Int) < 10 := by omega
  have v0 : (0 : Int) ≤ (v : Int) := by omega
  have v1 : (v : Int) ≤ 65535 := by omega
  go_enter Tryz.func6, Tryz.ntmps6
  have S := SH.start w
  go_wp2_with (first
    | ((with_reducible refine wpl_isDst 34 ?_); refine SH.sliceA_w (L := []) S rfl 62 10 _ rfl [.int .u16 0, .int .u16 1, .int .u16 2, .int .u16 3, .int .u16 4, .int .u16 8, .int .u16 10, .int .u16 11, .int .u16 13, .int .u16 14] 22 (by kernel_rfl) ?_; clear S; intro gs w1 S)
    | ((with_reducible refine wpl_isDst 39 ?_); refine S.ld 22 _ rfl gs j rfl 0 (Cel.any [.int .u16 0, .int .u16 1, .int .u16 2, .int .u16 3, .int .u16 4, .int .u16 8, .int .u16 10, .int .u16 11, .int .u16 13, .int .u16 14]) rfl (.int .u16 v) HX.out _ Tryz.underlying22 rfl rfl ?_)
    | ((with_reducible refine wpl_isDst 64 ?_); refine SH.sliceA_w (L := []) S rfl 62 10 _ rfl [.int .u16 0, .int .u16 1, .int .u16 2, .int .u16 3, .int .u16 4, .int .u16 8, .int .u16 10, .int .u16 11, .int .u16 13, .int .u16 14] 22 (by kernel_rfl) ?_; clear S; intro gs w1 S)
    | ((with_reducible refine wpl_isDst 69 ?_); refine S.ld 22 _ rfl gs j rfl 0 (Cel.any [.int .u16 0, .int .u16 1, .int .u16 2, .int .u16 3, .int .u16 4, .int .u16 8, .int .u16 10, .int .u16 11, .int .u16 13, .int .u16 14]) rfl (.int .u16 v) HX.out _ Tryz.underlying22 rfl rfl ?_))
  go_ret2
  refine pair16 _ _ rfl ?_ ?_ ?_
  all_goals first | exact b16_w _ _ _ | exact S.low | exact (Below.refl _ _).alloc (Nat.le_refl _) _ | exact ((Below.refl _ _).alloc (Nat.le_refl _) _).alloc (by rw [World.alloc]; simp) _ | omega
set_option maxHeartbeats 20000000 in
set_option maxRecDepth 100000 in
theorem pair_4 (k x y : Nat) (hx : x < 65536) (hy : y < 65536) (k0 : (0 : Int) ≤ (k : Int)) (x0 : (0 : Int) ≤ (x : Int)) (y0 : (0 : Int) ≤ (y : Int)) (hk : (k : Int) % 24 = 4) (j : Nat) (hj : j < 10) (hi : (x : Int) / 16 % 10 = j) (w : World) : Calls Tryz.prog 6 #[.int .u8 k, .int .u16 x, .int .u16 y] w fun e w' => Pair16 w e w' := by
  obtain ⟨v, hv, HX⟩ : ∃ v : Nat, v < 65536 ∧ Hid ((Cel.any [.int .u16 0, .int .u16 1, .int .u16 2, .int .u16 3, .int .u16 4, .int .u16 8, .int .u16 10, .int .u16 11, .int .u16 13, .int .u16 14]).cells[j]? = some (.int .u16 (v : Nat))) := by
    rcases (show j = 0 ∨ j = 1 ∨ j = 2 ∨ j = 3 ∨ j = 4 ∨ j = 5 ∨ j = 6 ∨ j = 7 ∨ j = 8 ∨ j = 9 by omega) with rfl | rfl | rfl | rfl | rfl | rfl | rfl | rfl | rfl | rfl
    · exact ⟨0, by decide, rfl⟩
    · exact ⟨1, by decide, rfl⟩
    · exact ⟨2, by decide, rfl⟩
    · exact ⟨3, by decide, rfl⟩
    · exact ⟨4, by decide, rfl⟩
    · exact ⟨8, by decide, rfl⟩
    · exact ⟨10, by decide, rfl⟩
    · exact ⟨11, by decide, rfl⟩
    · exact ⟨13, by decide, rfl⟩
    · exact ⟨14, by decide, rfl⟩
  have hj2 : (j : Int) < 10 := by omega
  have v0 : (0 : Int) ≤ (v : Int) := by omega
  have v1 : (v : Int) ≤ 65535 := by omega
  go_enter Tryz.func6, Tryz.ntmps6
  have S := SH.start w
  go_wp2_with (first
    | ((with_reducible refine wpl_isDst 34 ?_); refine SH.sliceA_w (L := []) S rfl 62 10 _ rfl [.int .u16 0, .int .u16 1, .int .u16 2, .int .u16 3, .int .u16 4, .int .u16 8, .int .u16 10, .int .u16 11, .int .u16 13, .int .u16 14] 22 (by kernel_rfl) ?_; clear S; intro gs w1 S)
    | ((with_reducible refine wpl_isDst 39 ?_); refine S.ld 22 _ rfl gs j rfl 0 (Cel.any [.int .u16 0, .int .u16 1, .int .u16 2, .int .u16 3, .int .u16 4, .int .u16 8, .int .u16 10, .int .u16 11, .int .u16 13, .int .u16 14]) rfl (.int .u16 v) HX.out _ Tryz.underlying22 rfl rfl ?_)
    | ((with_reducible refine wpl_isDst 64 ?_); refine SH.sliceA_w (L := []) S rfl 62 10 _ rfl [.int .u16 0, .int .u16 1, .int .u16 2, .int .u16 3, .int .u16 4, .int .u16 8, .int .u16 10, .int .u16 11, .int .u16 13, .int .u16 14] 22 (by kernel_rfl) ?_; clear S; intro gs w1 S)
    | ((with_reducible refine wpl_isDst 69 ?_); refine S.ld 22 _ rfl gs j rfl 0 (Cel.any [.int .u16 0, .int .u16 1, .int .u16 2, .int .u16 3, .int .u16 4, .int .u16 8, .int .u16 10, .int .u16 11, .int .u16 13, .int .u16 14]) rfl (.int .u16 v) HX.out _ Tryz.underlying22 rfl rfl ?_))
  go_ret2
  refine pair16 _ _ rfl ?_ ?_ ?_
  all_goals first | exact b16_w _ _ _ | exact S.low | exact (Below.refl _ _).alloc (Nat.le_refl _) _ | exact ((Below.refl _ _).alloc (Nat.le_refl _) _).alloc (by rw [World.alloc]; simp) _ | omega
set_option maxHeartbeats 20000000 in
set_option maxRecDepth 100000 in
theorem pair_5 (k x y : Nat) (hx : x < 65536) (hy : y < 65536) (k0 : (0 : Int) ≤ (k : Int)) (x0 : (0 : Int) ≤ (x : Int)) (y0 : (0 : Int) ≤ (y : Int)) (hk : (k : Int) % 24 = 5) (j : Nat) (hj : j < 10) (hi : (x : Int) / 16 % 10 = j) (w : World) : Calls Tryz.prog 6 #[.int .u8 k, .int .u16 x, .int .u16 y] w fun e w' => Pair16 w e w' := by
  obtain ⟨v, hv, HX⟩ : ∃ v : Nat, v < 65536 ∧ Hid ((Cel.any [.int .u16 0, .int .u16 1, .int .u16 2, .int .u16 3, .int .u16 4, .int .u16 8, .int .u16 10, .int .u16 11, .int .u16 13, .int .u16 14]).cells[j]? = some (.int .u16 (v : Nat))) := by
    rcases (show j = 0 ∨ j = 1 ∨ j = 2 ∨ j = 3 ∨ j = 4 ∨ j = 5 ∨ j = 6 ∨ j = 7 ∨ j = 8 ∨ j = 9 by omega) with rfl | rfl | rfl | rfl | rfl | rfl | rfl | rfl | rfl | rfl
    · exact ⟨0, by decide, rfl⟩
    · exact ⟨1, by decide, rfl⟩
    · exact ⟨2, by decide, rfl⟩
    · exact ⟨3, by decide, rfl⟩
    · exact ⟨4, by decide, rfl⟩
    · exact ⟨8, by decide, rfl⟩
    · exact ⟨10, by decide, rfl⟩
    · exact ⟨11, by decide, rfl⟩
    · exact ⟨13, by decide, rfl⟩
    · exact ⟨14, by decide, rfl⟩
  have hj2 : (j : Int) < 10 := by omega
  have v0 : (0 : Int) ≤ (v : Int) := by omega
  have v1 : (v : Int) ≤ 65535 := by omega
  go_enter Tryz.func6, Tryz.ntmps6
  have S := SH.start w
  go_wp2_with (first
    | ((with_reducible refine wpl_isDst 34 ?_); refine SH.sliceA_w (L := []) S rfl 62 10 _ rfl [.int .u16 0, .int .u16 1, .int .u16 2, .int .u16 3, .int .u16 4, .int .u16 8, .int .u16 10, .int .u16 11, .int .u16 13, .int .u16 14] 22 (by kernel_rfl) ?_; clear S; intro gs w1 S)
    | ((with_reducible refine wpl_isDst 39 ?_); refine S.ld 22 _ rfl gs j rfl 0 (Cel.any [.int .u16 0, .int .u16 1, .int .u16 2, .int .u16 3, .int .u16 4, .int .u16 8, .int .u16 10, .int .u16 11, .int .u16 13, .int .u16 14]) rfl (.int .u16 v) HX.out _ Tryz.underlying22 rfl rfl ?_)
    | ((with_reducible refine wpl_isDst 64 ?_); refine SH.sliceA_w (L := []) S rfl 62 10 _ rfl [.int .u16 0, .int .u16 1, .int .u16 2, .int .u16 3, .int .u16 4, .int .u16 8, .int .u16 10, .int .u16 11, .int .u16 13, .int .u16 14] 22 (by kernel_rfl) ?_; clear S; intro gs w1 S)
    | ((with_reducible refine wpl_isDst 69 ?_); refine S.ld 22 _ rfl gs j rfl 0 (Cel.any [.int .u16 0, .int .u16 1, .int .u16 2, .int .u16 3, .int .u16 4, .int .u16 8, .int .u16 10, .int .u16 11, .int .u16 13, .int .u16 14]) rfl (.int .u16 v) HX.out _ Tryz.underlying22 rfl rfl ?_))
  go_ret2
  refine pair16 _ _ rfl ?_ ?_ ?_
  all_goals first | exact b16_w _ _ _ | exact S.low | exact (Below.refl _ _).alloc (Nat.le_refl _) _ | exact ((Below.refl _ _).alloc (Nat.le_refl _) _).alloc (by rw [World.alloc]; simp) _ | omega
set_option maxHeartbeats 20000000 in
set_option maxRecDepth 100000 in
theorem pair_6 (k x y : Nat) (hx : x < 65536) (hy : y < 65536) (k0 : (0 : Int) ≤ (k : Int)) (x0 : (0 : Int) ≤ (x : Int)) (y0 : (0 : Int) ≤ (y : Int)) (hk : (k : Int) % 24 = 6) (w : World) : Calls Tryz.prog 6 #[.int .u8 k, .int .u16 x, .int .u16 y] w fun e w' => Pair16 w e w' := by
  go_enter Tryz.func6, Tryz.ntmps6
  go_wp2
  go_ret2
  refine pair16 _ _ rfl ?_ ?_ ?_
  all_goals first | exact b16_w _ _ _ | exact Below.refl _ _ | exact (Below.refl _ _).alloc (Nat.le_refl _) _ | exact ((Below.refl _ _).alloc (Nat.le_refl _) _).alloc (by rw [World.alloc]; simp) _ | omega
set_option maxHeartbeats 20000000 in
set_option maxRecDepth 100000 in
theorem pair_7 (k x y : Nat) (hx : x < 65536) (hy : y < 65536) (k0 : (0 : Int) ≤ (k : Int)) (x0 : (0 : Int) ≤ (x : Int)) (y0 : (0 : Int) ≤ (y : Int)) (hk : (k : Int) % 24 = 7) (w : World) : Calls Tryz.prog 6 #[.int .u8 k, .int .u16 x, .int .u16 y] w fun e w' => Pair16 w e w' := by
  go_enter Tryz.func6, Tryz.ntmps6
  go_wp2
  go_ret2
  refine pair16 _ _ rfl ?_ ?_ ?_
  all_goals first | exact b16_w _ _ _ | exact Below.refl _ _ | exact (Below.refl _ _).alloc (Nat.le_refl _) _ | exact ((Below.refl _ _).alloc (Nat.le_refl _) _).alloc (by rw [World.alloc]; simp) _ | omega
set_option maxHeartbeats 20000000 in
set_option maxRecDepth 100000 in
theorem pair_8 (k x y : Nat) (hx : x < 65536) (hy : y < 65536) (k0 : (0 : Int) ≤ (k : Int)) (x0 : (0 : Int) ≤ (x : Int)) (y0 : (0 : Int) ≤ (y : Int)) (hk : (k : Int) % 24 = 8) (w : World) : Calls Tryz.prog 6 #[.int .u8 k, .int .u16 x, .int .u16 y] w fun e w' => Pair16 w e w' := by
  go_enter Tryz.func6, Tryz.ntmps6
  go_wp2
  go_ret2
  refine pair16 _ _ rfl ?_ ?_ ?_
  all_goals first | exact b16_w _ _ _ | exact Below.refl _ _ | exact (Below.refl _ _).alloc (Nat.le_refl _) _ | exact ((Below.refl _ _).alloc (Nat.le_refl _) _).alloc (by rw [World.alloc]; simp) _ | omega
set_option maxHeartbeats 20000000 in
set_option maxRecDepth 100000 in
theorem pair_9 (k x y : Nat) (hx : x < 65536) (hy : y < 65536) (k0 : (0 : Int) ≤ (k : Int)) (x0 : (0 : Int) ≤ (x : Int)) (y0 : (0 : Int) ≤ (y : Int)) (hk : (k : Int) % 24 = 9) (w : World) : Calls Tryz.prog 6 #[.int .u8 k, .int .u16 x, .int .u16 y] w fun e w' => Pair16 w e w' := by
  go_enter Tryz.func6, Tryz.ntmps6
  go_wp2
  go_ret2
  refine pair16 _ _ rfl ?_ ?_ ?_
  all_goals first | exact b16_w _ _ _ | exact Below.refl _ _ | exact (Below.refl _ _).alloc (Nat.le_refl _) _ | exact ((Below.refl _ _).alloc (Nat.le_refl _) _).alloc (by rw [World.alloc]; simp) _ | omega
set_option maxHeartbeats 20000000 in
set_option maxRecDepth 100000 in
theorem pair_10 (k x y : Nat) (hx : x < 65536) (hy : y < 65536) (k0 : (0 : Int) ≤ (k : Int)) (x0 : (0 : Int) ≤ (x : Int)) (y0 : (0 : Int) ≤ (y : Int)) (hk : (k : Int) % 24 = 10) (w : World) : Calls Tryz.prog 6 #[.int .u8 k, .int .u16 x, .int .u16 y] w fun e w' => Pair16 w e w' := by
  go_enter Tryz.func6, Tryz.ntmps6
  go_wp2
  go_ret2
  refine pair16 _ _ rfl ?_ ?_ ?_
  all_goals first | exact b16_w _ _ _ | exact Below.refl _ _ | exact (Below.refl _ _).alloc (Nat.le_refl _) _ | exact ((Below.refl _ _).alloc (Nat.le_refl _) _).alloc (by rw [World.alloc]; simp) _ | omega
set_option maxHeartbeats 20000000 in
set_option maxRecDepth 100000 in
theorem pair_11 (k x y : Nat) (hx : x < 65536) (hy : y < 65536) (k0 : (0 : Int) ≤ (k : Int)) (x0 : (0 : Int) ≤ (x : Int)) (y0 : (0 : Int) ≤ (y : Int)) (hk : (k : Int) % 24 = 11) (w : World) : Calls Tryz.prog 6 #[.int .u8 k, .int .u16 x, .int .u16 y] w fun e w' => Pair16 w e w' := by
  go_enter Tryz.func6, Tryz.ntmps6
  go_wp2
  go_ret2
  refine pair16 _ _ rfl ?_ ?_ ?_
  all_goals first | exact b16_w _ _ _ | exact Below.refl _ _ | exact (Below.refl _ _).alloc (Nat.le_refl _) _ | exact ((Below.refl _ _).alloc (Nat.le_refl _) _).alloc (by rw [World.alloc]; simp) _ | omega
set_option maxHeartbeats 20000000 in
set_option maxRecDepth 100000 in
theorem pair_12 (k x y : Nat) (hx : x < 65536) (hy : y < 65536) (k0 : (0 : Int) ≤ (k : Int)) (x0 : (0 : Int) ≤ (x : Int)) (y0 : (0 : Int) ≤ (y : Int)) (hk : (k : Int) % 24 = 12) (w : World) : Calls Tryz.prog 6 #[.int .u8 k, .int .u16 x, .int .u16 y] w fun e w' => Pair16 w e w' := by
  go_enter Tryz.func6, Tryz.ntmps6
  go_wp2
  go_ret2
  refine pair16 _ _ rfl ?_ ?_ ?_
  all_goals first | exact b16_w _ _ _ | exact Below.refl _ _ | exact (Below.refl _ _).alloc (Nat.le_refl _) _ | exact ((Below.refl _ _).alloc (Nat.le_refl _) _).alloc (by rw [World.alloc]; simp) _ | omega
set_option maxHeartbeats 20000000 in
set_option maxRecDepth 100000 in
theorem pair_13 (k x y : Nat) (hx : x < 65536) (hy : y < 65536) (k0 : (0 : Int) ≤ (k : Int)) (x0 : (0 : Int) ≤ (x : Int)) (y0 : (0 : Int) ≤ (y : Int)) (hk : (k : Int) % 24 = 13) (w : World) : Calls Tryz.prog 6 #[.int .u8 k, .int .u16 x, .int .u16 y] w fun e w' => Pair16 w e w' := by
  go_enter Tryz.func6, Tryz.ntmps6
  go_wp2
  go_ret2
  refine pair16 _ _ rfl ?_ ?_ ?_
  all_goals first | exact b16_w _ _ _ | exact Below.refl _ _ | exact (Below.refl _ _).alloc (Nat.le_refl _) _ | exact ((Below.refl _ _).alloc (Nat.le_refl _) _).alloc (by rw [World.alloc]; simp) _ | omega
set_option maxHeartbeats 20000000 in
set_option maxRecDepth 100000 in
theorem pair_14 (k x y : Nat) (hx : x < 65536) (hy : y < 65536) (k0 : (0 : Int) ≤ (k : Int)) (x0 : (0 : Int) ≤ (x : Int)) (y0 : (0 : Int) ≤ (y : Int)) (hk : (k : Int) % 24 = 14) (j : Nat) (hj : j < 4) (hi : bits .and .u16 (x : Int) 3 = j) (w : World) : Calls Tryz.prog 6 #[.int .u8 k, .int .u16 x, .int .u16 y] w fun e w' => Pair16 w e w' := by
  obtain ⟨v, hv, HX⟩ : ∃ v : Nat, v < 65536 ∧ Hid ((Cel.any [.int .u16 64015, .int .u16 64031, .int .u16 64079, .int .u16 64095]).cells[j]? = some (.int .u16 (v : Nat))) := by
    rcases (show j = 0 ∨ j = 1 ∨ j = 2 ∨ j = 3 by omega) with rfl | rfl | rfl | rfl
    · exact ⟨64015, by decide, rfl⟩
    · exact ⟨64031, by decide, rfl⟩
    · exact ⟨64079, by decide, rfl⟩
    · exact ⟨64095, by decide, rfl⟩
  have hj2 : (j : Int) < 4 := by omega
  have v0 : (0 : Int) ≤ (v : Int) := by omega
  have v1 : (v : Int) ≤ 65535 := by omega
  go_enter Tryz.func6, Tryz.ntmps6
  have S := SH.start w
  go_wp2_with (first
    | ((with_reducible refine wpl_isDst 222 ?_); refine SH.sliceA_w (L := []) S rfl 62 4 _ rfl [.int .u16 64015, .int .u16 64031, .int .u16 64079, .int .u16 64095] 22 (by kernel_rfl) ?_; clear S; intro gs w1 S)
    | ((with_reducible refine wpl_isDst 226 ?_); refine S.ld 22 _ rfl gs j rfl 0 (Cel.any [.int .u16 64015, .int .u16 64031, .int .u16 64079, .int .u16 64095]) rfl (.int .u16 v) HX.out _ Tryz.underlying22 rfl rfl ?_))
  go_ret2
  refine pair16 _ _ rfl ?_ ?_ ?_
  all_goals first | exact b16_w _ _ _ | exact S.low | exact (Below.refl _ _).alloc (Nat.le_refl _) _ | exact ((Below.refl _ _).alloc (Nat.le_refl _) _).alloc (by rw [World.alloc]; simp) _ | omega
set_option maxHeartbeats 20000000 in
set_option maxRecDepth 100000 in
theorem pair_15 (k x y : Nat) (hx : x < 65536) (hy : y < 65536) (k0 : (0 : Int) ≤ (k : Int)) (x0 : (0 : Int) ≤ (x : Int)) (y0 : (0 : Int) ≤ (y : Int)) (hk : (k : Int) % 24 = 15) (w : World) : Calls Tryz.prog 6 #[.int .u8 k, .int .u16 x, .int .u16 y] w fun e w' => Pair16 w e w' := by
  go_enter Tryz.func6, Tryz.ntmps6
  go_wp2
  go_ret2
  refine pair16 _ _ rfl ?_ ?_ ?_
  all_goals first | exact b16_w _ _ _ | exact Below.refl _ _ | exact (Below.refl _ _).alloc (Nat.le_refl _) _ | exact ((Below.refl _ _).alloc (Nat.le_refl _) _).alloc (by rw [World.alloc]; simp) _ | omega
set_option maxHeartbeats 20000000 in
set_option maxRecDepth 100000 in
theorem pair_16 (k x y : Nat) (hx : x < 65536) (hy : y < 65536) (k0 : (0 : Int) ≤ (k : Int)) (x0 : (0 : Int) ≤ (x : Int)) (y0 : (0 : Int) ≤ (y : Int)) (hk : (k : Int) % 24 = 16) (w : World) : Calls Tryz.prog 6 #[.int .u8 k, .int .u16 x, .int .u16 y] w fun e w' => Pair16 w e w' := by
  go_enter Tryz.func6, Tryz.ntmps6
  go_wp2
  go_ret2
  refine pair16 _ _ rfl ?_ ?_ ?_
  all_goals first | exact b16_w _ _ _ | exact Below.refl _ _ | exact (Below.refl _ _).alloc (Nat.le_refl _) _ | exact ((Below.refl _ _).alloc (Nat.le_refl _) _).alloc (by rw [World.alloc]; simp) _ | omega
set_option maxHeartbeats 20000000 in
set_option maxRecDepth 100000 in
theorem pair_17_0 (k x y : Nat) (hx : x < 65536) (hy : y < 65536) (k0 : (0 : Int) ≤ (k : Int)) (x0 : (0 : Int) ≤ (x : Int)) (y0 : (0 : Int) ≤ (y : Int)) (hk : (k : Int) % 24 = 17) (hi : (x : Int) / 16 % 3 = 0) (w : World) : Calls Tryz.prog 6 #[.int .u8 k, .int .u16 x, .int .u16 y] w fun e w' => Pair16 w e w' := by
  have S : Below w.heap.size w w := Below.refl _ _
  have ht : ((x : Int) / 16).tmod 3 = 0 := by rw [Int.tmod_eq_emod_of_nonneg (by omega)]; exact hi
  go_enter Tryz.func6, Tryz.ntmps6
  go_wp2_with fail
  refine Upto.start (S := fun w' => Below w.heap.size w w') 14 (by kernel_rfl) ?_
  replace S := S.drew
  refine Upto.take (i := 0) (oi := { dst := some 256, op := Op.move (Operand.tmp 9), type := 22, pos := "sourdineseat.go:141", after := #[], guard := none }) (v := ?_) rfl (by kernel_rfl) (by kernel_rfl) (by kernel_rfl) (by kernel_rfl) (fun _ _ _ h => h) (Or.inl ⟨by rfl, ?_⟩) (by exact S) ?_
  rotate_left 1
  · intro w hSw
    clear hSw
    go_simp
    try with_reducible rfl
  simp only [Act.put, List.setIfInBounds_toArray, List.set_cons_zero, List.set_cons_succ]
  refine Upto.take (i := 1) (oi := { dst := some 257, op := Op.binOp BinOp.or 22 (Operand.const (Value.int IntKind.u16 64256)) (Operand.tmp 256) 22, type := 22, pos := "sourdineseat.go:141", after := #[{ on := 0, ground := Ground.data }], guard := none }) (v := ?_) rfl (by kernel_rfl) (by kernel_rfl) (by kernel_rfl) (by kernel_rfl) (fun _ _ _ h => h) (Or.inl ⟨by rfl, ?_⟩) (by exact S) ?_
  rotate_left 1
  · intro w hSw
    clear hSw
    go_simp
    try with_reducible rfl
  simp only [Act.put, List.setIfInBounds_toArray, List.set_cons_zero, List.set_cons_succ]
  refine Upto.take (i := 3) (oi := { dst := some 259, op := Op.move (Operand.tmp 1), type := 22, pos := "sourdineseat.go:141", after := #[{ on := 13, ground := Ground.gcOnly Departure.lateStores }], guard := none }) (v := ?_) rfl (by kernel_rfl) (by kernel_rfl) (by kernel_rfl) (by kernel_rfl) (fun _ _ _ h => h) (Or.inl ⟨by rfl, ?_⟩) (by exact S) ?_
  rotate_left 1
  · intro w hSw
    clear hSw
    go_simp
    try with_reducible rfl
  simp only [Act.put, List.setIfInBounds_toArray, List.set_cons_zero, List.set_cons_succ]
  refine Upto.take (i := 4) (oi := { dst := some 260, op := Op.binOp BinOp.shr 22 (Operand.tmp 259) (Operand.const (Value.int IntKind.u64 4)) 61, type := 22, pos := "sourdineseat.go:141", after := #[{ on := 3, ground := Ground.data }, { on := 13, ground := Ground.gcOnly Departure.lateStores }], guard := none }) (v := ?_) rfl (by kernel_rfl) (by kernel_rfl) (by kernel_rfl) (by kernel_rfl) (fun _ _ _ h => h) (Or.inl ⟨by rfl, ?_⟩) (by exact S) ?_
  rotate_left 1
  · intro w hSw
    clear hSw
    go_simp
    try with_reducible rfl
  simp only [Act.put, List.setIfInBounds_toArray, List.set_cons_zero, List.set_cons_succ]
  refine Upto.take (i := 5) (oi := { dst := some 261, op := Op.binOp BinOp.rem 22 (Operand.tmp 260) (Operand.const (Value.int IntKind.u16 3)) 22, type := 22, pos := "sourdineseat.go:141", after := #[{ on := 4, ground := Ground.data }, { on := 13, ground := Ground.gcOnly Departure.lateStores }], guard := none }) (v := ?_) rfl (by kernel_rfl) (by kernel_rfl) (by kernel_rfl) (by kernel_rfl) (fun _ _ _ h => h) (Or.inl ⟨by rfl, ?_⟩) (by exact S) ?_
  rotate_left 1
  · intro w hSw
    clear hSw
    go_simp
    try with_reducible rfl
  simp only [Act.put, List.setIfInBounds_toArray, List.set_cons_zero, List.set_cons_succ]
  refine Upto.take (i := 8) (oi := { dst := some 264, op := Op.move (Operand.tmp 8), type := 22, pos := "sourdineseat.go:141", after := #[{ on := 13, ground := Ground.gcOnly Departure.lateStores }], guard := none }) (v := ?_) rfl (by kernel_rfl) (by kernel_rfl) (by kernel_rfl) (by kernel_rfl) (fun _ _ _ h => h) (Or.inl ⟨by rfl, ?_⟩) (by exact S) ?_
  rotate_left 1
  · intro w hSw
    clear hSw
    go_simp
    try with_reducible rfl
  simp only [Act.put, List.setIfInBounds_toArray, List.set_cons_zero, List.set_cons_succ]
  refine Upto.take (i := 9) (oi := { dst := some 265, op := Op.binOp BinOp.shl 22 (Operand.tmp 264) (Operand.const (Value.int IntKind.u64 8)) 61, type := 22, pos := "sourdineseat.go:141", after := #[{ on := 8, ground := Ground.data }, { on := 13, ground := Ground.gcOnly Departure.lateStores }], guard := none }) (v := ?_) rfl (by kernel_rfl) (by kernel_rfl) (by kernel_rfl) (by kernel_rfl) (fun _ _ _ h => h) (Or.inl ⟨by rfl, ?_⟩) (by exact S) ?_
  rotate_left 1
  · intro w hSw
    clear hSw
    go_simp
    try with_reducible rfl
  simp only [Act.put, List.setIfInBounds_toArray, List.set_cons_zero, List.set_cons_succ]
  refine Upto.take (i := 11) (oi := { dst := some 267, op := Op.move (Operand.tmp 10), type := 22, pos := "sourdineseat.go:141", after := #[{ on := 13, ground := Ground.gcOnly Departure.lateStores }], guard := none }) (v := ?_) rfl (by kernel_rfl) (by kernel_rfl) (by kernel_rfl) (by kernel_rfl) (fun _ _ _ h => h) (Or.inl ⟨by rfl, ?_⟩) (by exact S) ?_
  rotate_left 1
  · intro w hSw
    clear hSw
    go_simp
    try with_reducible rfl
  simp only [Act.put, List.setIfInBounds_toArray, List.set_cons_zero, List.set_cons_succ]
  refine Upto.take (i := 13) (oi := { dst := some 6, op := Op.assign (Operand.tmp 257), type := 22, pos := "sourdineseat.go:141", after := #[{ on := 1, ground := Ground.data }, { on := 0, ground := Ground.phase }, { on := 1, ground := Ground.phase }, { on := 2, ground := Ground.textOnly Departure.lateStores }, { on := 3, ground := Ground.textOnly Departure.lateStores }, { on := 4, ground := Ground.textOnly Departure.lateStores }, { on := 5, ground := Ground.textOnly Departure.lateStores }, { on := 6, ground := Ground.textOnly Departure.lateStores }, { on := 7, ground := Ground.textOnly Departure.lateStores }, { on := 8, ground := Ground.textOnly Departure.lateStores }, { on := 9, ground := Ground.textOnly Departure.lateStores }, { on := 10, ground := Ground.textOnly Departure.lateStores }, { on := 11, ground := Ground.textOnly Departure.lateStores }, { on := 12, ground := Ground.textOnly Departure.lateStores }], guard := none }) (v := ?_) rfl (by kernel_rfl) (by kernel_rfl) (by kernel_rfl) (by kernel_rfl) (fun _ _ _ h => h) (Or.inl ⟨by rfl, ?_⟩) (by exact S) ?_
  rotate_left 1
  · intro w hSw
    clear hSw
    go_simp
    try with_reducible rfl
  simp only [Act.put, List.setIfInBounds_toArray, List.set_cons_zero, List.set_cons_succ]
  refine Upto.ready (rs := [2]) (by kernel_rfl) (by simp) ?_
  refine Nexts.cons rfl (by decide) (fun K hK => ?_) Nexts.nil
  go_simp
  replace S := S.alloc S.size (Obj.cells #[.int .u16 61440, .int .u16 4096, .int .u16 8208] 22)
  refine hK.out _ _ (by exact S) ?_
  clear hK K
  refine Upto.ready (rs := [6]) (by kernel_rfl) (by simp) ?_
  refine Nexts.cons rfl (by decide) (fun K hK => ?_) Nexts.nil
  go_simp
  refine hK.out _ _ (by exact S) ?_
  clear hK K
  refine Upto.ready (rs := [7]) (by kernel_rfl) (by simp) ?_
  refine Nexts.cons rfl (by decide) (fun K hK => ?_) Nexts.nil
  go_simp
  refine hK.out _ _ (by exact S) ?_
  clear hK K
  refine Upto.take (i := 10) (oi := { dst := some 266, op := Op.binOp BinOp.or 22 (Operand.tmp 263) (Operand.tmp 265) 22, type := 22, pos := "sourdineseat.go:141", after := #[{ on := 7, ground := Ground.data }, { on := 9, ground := Ground.data }, { on := 13, ground := Ground.gcOnly Departure.lateStores }], guard := none }) (v := ?_) rfl (by kernel_rfl) (by kernel_rfl) (by kernel_rfl) (by kernel_rfl) (fun _ _ _ h => h) (Or.inl ⟨by rfl, ?_⟩) (by exact S) ?_
  rotate_left 1
  · intro w hSw
    clear hSw
    go_simp
    try with_reducible rfl
  simp only [Act.put, List.setIfInBounds_toArray, List.set_cons_zero, List.set_cons_succ]
  refine Upto.take (i := 12) (oi := { dst := some 268, op := Op.binOp BinOp.or 22 (Operand.tmp 266) (Operand.tmp 267) 22, type := 22, pos := "sourdineseat.go:141", after := #[{ on := 10, ground := Ground.data }, { on := 11, ground := Ground.data }, { on := 13, ground := Ground.gcOnly Departure.lateStores }], guard := none }) (v := ?_) rfl (by kernel_rfl) (by kernel_rfl) (by kernel_rfl) (by kernel_rfl) (fun _ _ _ h => h) (Or.inl ⟨by rfl, ?_⟩) (by exact S) ?_
  rotate_left 1
  · intro w hSw
    clear hSw
    go_simp
    try with_reducible rfl
  simp only [Act.put, List.setIfInBounds_toArray, List.set_cons_zero, List.set_cons_succ]
  refine Upto.ready (rs := [14]) (by kernel_rfl) (by simp) ?_
  refine Nexts.last rfl (fun K hK => ?_)
  go_simp
  refine hK.out _ _ ?_
  clear hK K
  refine Upto.done (by kernel_rfl) ?_ _
  go_wp2
  go_ret2
  refine pair16 _ _ rfl ?_ ?_ ?_
  all_goals first | exact b16_w _ _ _ | exact S | exact (Below.refl _ _).alloc (Nat.le_refl _) _ | exact ((Below.refl _ _).alloc (Nat.le_refl _) _).alloc (by rw [World.alloc]; simp) _ | omega
set_option maxHeartbeats 20000000 in
set_option maxRecDepth 100000 in
theorem pair_17_1 (k x y : Nat) (hx : x < 65536) (hy : y < 65536) (k0 : (0 : Int) ≤ (k : Int)) (x0 : (0 : Int) ≤ (x : Int)) (y0 : (0 : Int) ≤ (y : Int)) (hk : (k : Int) % 24 = 17) (hi : (x : Int) / 16 % 3 = 1) (w : World) : Calls Tryz.prog 6 #[.int .u8 k, .int .u16 x, .int .u16 y] w fun e w' => Pair16 w e w' := by
  have S : Below w.heap.size w w := Below.refl _ _
  have ht : ((x : Int) / 16).tmod 3 = 1 := by rw [Int.tmod_eq_emod_of_nonneg (by omega)]; exact hi
  go_enter Tryz.func6, Tryz.ntmps6
  go_wp2_with fail
  refine Upto.start (S := fun w' => Below w.heap.size w w') 14 (by kernel_rfl) ?_
  replace S := S.drew
  refine Upto.take (i := 0) (oi := { dst := some 256, op := Op.move (Operand.tmp 9), type := 22, pos := "sourdineseat.go:141", after := #[], guard := none }) (v := ?_) rfl (by kernel_rfl) (by kernel_rfl) (by kernel_rfl) (by kernel_rfl) (fun _ _ _ h => h) (Or.inl ⟨by rfl, ?_⟩) (by exact S) ?_
  rotate_left 1
  · intro w hSw
    clear hSw
    go_simp
    try with_reducible rfl
  simp only [Act.put, List.setIfInBounds_toArray, List.set_cons_zero, List.set_cons_succ]
  refine Upto.take (i := 1) (oi := { dst := some 257, op := Op.binOp BinOp.or 22 (Operand.const (Value.int IntKind.u16 64256)) (Operand.tmp 256) 22, type := 22, pos := "sourdineseat.go:141", after := #[{ on := 0, ground := Ground.data }], guard := none }) (v := ?_) rfl (by kernel_rfl) (by kernel_rfl) (by kernel_rfl) (by kernel_rfl) (fun _ _ _ h => h) (Or.inl ⟨by rfl, ?_⟩) (by exact S) ?_
  rotate_left 1
  · intro w hSw
    clear hSw
    go_simp
    try with_reducible rfl
  simp only [Act.put, List.setIfInBounds_toArray, List.set_cons_zero, List.set_cons_succ]
  refine Upto.take (i := 3) (oi := { dst := some 259, op := Op.move (Operand.tmp 1), type := 22, pos := "sourdineseat.go:141", after := #[{ on := 13, ground := Ground.gcOnly Departure.lateStores }], guard := none }) (v := ?_) rfl (by kernel_rfl) (by kernel_rfl) (by kernel_rfl) (by kernel_rfl) (fun _ _ _ h => h) (Or.inl ⟨by rfl, ?_⟩) (by exact S) ?_
  rotate_left 1
  · intro w hSw
    clear hSw
    go_simp
    try with_reducible rfl
  simp only [Act.put, List.setIfInBounds_toArray, List.set_cons_zero, List.set_cons_succ]
  refine Upto.take (i := 4) (oi := { dst := some 260, op := Op.binOp BinOp.shr 22 (Operand.tmp 259) (Operand.const (Value.int IntKind.u64 4)) 61, type := 22, pos := "sourdineseat.go:141", after := #[{ on := 3, ground := Ground.data }, { on := 13, ground := Ground.gcOnly Departure.lateStores }], guard := none }) (v := ?_) rfl (by kernel_rfl) (by kernel_rfl) (by kernel_rfl) (by kernel_rfl) (fun _ _ _ h => h) (Or.inl ⟨by rfl, ?_⟩) (by exact S) ?_
  rotate_left 1
  · intro w hSw
    clear hSw
    go_simp
    try with_reducible rfl
  simp only [Act.put, List.setIfInBounds_toArray, List.set_cons_zero, List.set_cons_succ]
  refine Upto.take (i := 5) (oi := { dst := some 261, op := Op.binOp BinOp.rem 22 (Operand.tmp 260) (Operand.const (Value.int IntKind.u16 3)) 22, type := 22, pos := "sourdineseat.go:141", after := #[{ on := 4, ground := Ground.data }, { on := 13, ground := Ground.gcOnly Departure.lateStores }], guard := none }) (v := ?_) rfl (by kernel_rfl) (by kernel_rfl) (by kernel_rfl) (by kernel_rfl) (fun _ _ _ h => h) (Or.inl ⟨by rfl, ?_⟩) (by exact S) ?_
  rotate_left 1
  · intro w hSw
    clear hSw
    go_simp
    try with_reducible rfl
  simp only [Act.put, List.setIfInBounds_toArray, List.set_cons_zero, List.set_cons_succ]
  refine Upto.take (i := 8) (oi := { dst := some 264, op := Op.move (Operand.tmp 8), type := 22, pos := "sourdineseat.go:141", after := #[{ on := 13, ground := Ground.gcOnly Departure.lateStores }], guard := none }) (v := ?_) rfl (by kernel_rfl) (by kernel_rfl) (by kernel_rfl) (by kernel_rfl) (fun _ _ _ h => h) (Or.inl ⟨by rfl, ?_⟩) (by exact S) ?_
  rotate_left 1
  · intro w hSw
    clear hSw
    go_simp
    try with_reducible rfl
  simp only [Act.put, List.setIfInBounds_toArray, List.set_cons_zero, List.set_cons_succ]
  refine Upto.take (i := 9) (oi := { dst := some 265, op := Op.binOp BinOp.shl 22 (Operand.tmp 264) (Operand.const (Value.int IntKind.u64 8)) 61, type := 22, pos := "sourdineseat.go:141", after := #[{ on := 8, ground := Ground.data }, { on := 13, ground := Ground.gcOnly Departure.lateStores }], guard := none }) (v := ?_) rfl (by kernel_rfl) (by kernel_rfl) (by kernel_rfl) (by kernel_rfl) (fun _ _ _ h => h) (Or.inl ⟨by rfl, ?_⟩) (by exact S) ?_
  rotate_left 1
  · intro w hSw
    clear hSw
    go_simp
    try with_reducible rfl
  simp only [Act.put, List.setIfInBounds_toArray, List.set_cons_zero, List.set_cons_succ]
  refine Upto.take (i := 11) (oi := { dst := some 267, op := Op.move (Operand.tmp 10), type := 22, pos := "sourdineseat.go:141", after := #[{ on := 13, ground := Ground.gcOnly Departure.lateStores }], guard := none }) (v := ?_) rfl (by kernel_rfl) (by kernel_rfl) (by kernel_rfl) (by kernel_rfl) (fun _ _ _ h => h) (Or.inl ⟨by rfl, ?_⟩) (by exact S) ?_
  rotate_left 1
  · intro w hSw
    clear hSw
    go_simp
    try with_reducible rfl
  simp only [Act.put, List.setIfInBounds_toArray, List.set_cons_zero, List.set_cons_succ]
  refine Upto.take (i := 13) (oi := { dst := some 6, op := Op.assign (Operand.tmp 257), type := 22, pos := "sourdineseat.go:141", after := #[{ on := 1, ground := Ground.data }, { on := 0, ground := Ground.phase }, { on := 1, ground := Ground.phase }, { on := 2, ground := Ground.textOnly Departure.lateStores }, { on := 3, ground := Ground.textOnly Departure.lateStores }, { on := 4, ground := Ground.textOnly Departure.lateStores }, { on := 5, ground := Ground.textOnly Departure.lateStores }, { on := 6, ground := Ground.textOnly Departure.lateStores }, { on := 7, ground := Ground.textOnly Departure.lateStores }, { on := 8, ground := Ground.textOnly Departure.lateStores }, { on := 9, ground := Ground.textOnly Departure.lateStores }, { on := 10, ground := Ground.textOnly Departure.lateStores }, { on := 11, ground := Ground.textOnly Departure.lateStores }, { on := 12, ground := Ground.textOnly Departure.lateStores }], guard := none }) (v := ?_) rfl (by kernel_rfl) (by kernel_rfl) (by kernel_rfl) (by kernel_rfl) (fun _ _ _ h => h) (Or.inl ⟨by rfl, ?_⟩) (by exact S) ?_
  rotate_left 1
  · intro w hSw
    clear hSw
    go_simp
    try with_reducible rfl
  simp only [Act.put, List.setIfInBounds_toArray, List.set_cons_zero, List.set_cons_succ]
  refine Upto.ready (rs := [2]) (by kernel_rfl) (by simp) ?_
  refine Nexts.cons rfl (by decide) (fun K hK => ?_) Nexts.nil
  go_simp
  replace S := S.alloc S.size (Obj.cells #[.int .u16 61440, .int .u16 4096, .int .u16 8208] 22)
  refine hK.out _ _ (by exact S) ?_
  clear hK K
  refine Upto.ready (rs := [6]) (by kernel_rfl) (by simp) ?_
  refine Nexts.cons rfl (by decide) (fun K hK => ?_) Nexts.nil
  go_simp
  refine hK.out _ _ (by exact S) ?_
  clear hK K
  refine Upto.ready (rs := [7]) (by kernel_rfl) (by simp) ?_
  refine Nexts.cons rfl (by decide) (fun K hK => ?_) Nexts.nil
  go_simp
  refine hK.out _ _ (by exact S) ?_
  clear hK K
  refine Upto.take (i := 10) (oi := { dst := some 266, op := Op.binOp BinOp.or 22 (Operand.tmp 263) (Operand.tmp 265) 22, type := 22, pos := "sourdineseat.go:141", after := #[{ on := 7, ground := Ground.data }, { on := 9, ground := Ground.data }, { on := 13, ground := Ground.gcOnly Departure.lateStores }], guard := none }) (v := ?_) rfl (by kernel_rfl) (by kernel_rfl) (by kernel_rfl) (by kernel_rfl) (fun _ _ _ h => h) (Or.inl ⟨by rfl, ?_⟩) (by exact S) ?_
  rotate_left 1
  · intro w hSw
    clear hSw
    go_simp
    try with_reducible rfl
  simp only [Act.put, List.setIfInBounds_toArray, List.set_cons_zero, List.set_cons_succ]
  refine Upto.take (i := 12) (oi := { dst := some 268, op := Op.binOp BinOp.or 22 (Operand.tmp 266) (Operand.tmp 267) 22, type := 22, pos := "sourdineseat.go:141", after := #[{ on := 10, ground := Ground.data }, { on := 11, ground := Ground.data }, { on := 13, ground := Ground.gcOnly Departure.lateStores }], guard := none }) (v := ?_) rfl (by kernel_rfl) (by kernel_rfl) (by kernel_rfl) (by kernel_rfl) (fun _ _ _ h => h) (Or.inl ⟨by rfl, ?_⟩) (by exact S) ?_
  rotate_left 1
  · intro w hSw
    clear hSw
    go_simp
    try with_reducible rfl
  simp only [Act.put, List.setIfInBounds_toArray, List.set_cons_zero, List.set_cons_succ]
  refine Upto.ready (rs := [14]) (by kernel_rfl) (by simp) ?_
  refine Nexts.last rfl (fun K hK => ?_)
  go_simp
  refine hK.out _ _ ?_
  clear hK K
  refine Upto.done (by kernel_rfl) ?_ _
  go_wp2
  go_ret2
  refine pair16 _ _ rfl ?_ ?_ ?_
  all_goals first | exact b16_w _ _ _ | exact S | exact (Below.refl _ _).alloc (Nat.le_refl _) _ | exact ((Below.refl _ _).alloc (Nat.le_refl _) _).alloc (by rw [World.alloc]; simp) _ | omega
set_option maxHeartbeats 20000000 in
set_option maxRecDepth 100000 in
theorem pair_17_2 (k x y : Nat) (hx : x < 65536) (hy : y < 65536) (k0 : (0 : Int) ≤ (k : Int)) (x0 : (0 : Int) ≤ (x : Int)) (y0 : (0 : Int) ≤ (y : Int)) (hk : (k : Int) % 24 = 17) (hi : (x : Int) / 16 % 3 = 2) (w : World) : Calls Tryz.prog 6 #[.int .u8 k, .int .u16 x, .int .u16 y] w fun e w' => Pair16 w e w' := by
  have S : Below w.heap.size w w := Below.refl _ _
  have ht : ((x : Int) / 16).tmod 3 = 2 := by rw [Int.tmod_eq_emod_of_nonneg (by omega)]; exact hi
  go_enter Tryz.func6, Tryz.ntmps6
  go_wp2_with fail
  refine Upto.start (S := fun w' => Below w.heap.size w w') 14 (by kernel_rfl) ?_
  replace S := S.drew
  refine Upto.take (i := 0) (oi := { dst := some 256, op := Op.move (Operand.tmp 9), type := 22, pos := "sourdineseat.go:141", after := #[], guard := none }) (v := ?_) rfl (by kernel_rfl) (by kernel_rfl) (by kernel_rfl) (by kernel_rfl) (fun _ _ _ h => h) (Or.inl ⟨by rfl, ?_⟩) (by exact S) ?_
  rotate_left 1
  · intro w hSw
    clear hSw
    go_simp
    try with_reducible rfl
  simp only [Act.put, List.setIfInBounds_toArray, List.set_cons_zero, List.set_cons_succ]
  refine Upto.take (i := 1) (oi := { dst := some 257, op := Op.binOp BinOp.or 22 (Operand.const (Value.int IntKind.u16 64256)) (Operand.tmp 256) 22, type := 22, pos := "sourdineseat.go:141", after := #[{ on := 0, ground := Ground.data }], guard := none }) (v := ?_) rfl (by kernel_rfl) (by kernel_rfl) (by kernel_rfl) (by kernel_rfl) (fun _ _ _ h => h) (Or.inl ⟨by rfl, ?_⟩) (by exact S) ?_
  rotate_left 1
  · intro w hSw
    clear hSw
    go_simp
    try with_reducible rfl
  simp only [Act.put, List.setIfInBounds_toArray, List.set_cons_zero, List.set_cons_succ]
  refine Upto.take (i := 3) (oi := { dst := some 259, op := Op.move (Operand.tmp 1), type := 22, pos := "sourdineseat.go:141", after := #[{ on := 13, ground := Ground.gcOnly Departure.lateStores }], guard := none }) (v := ?_) rfl (by kernel_rfl) (by kernel_rfl) (by kernel_rfl) (by kernel_rfl) (fun _ _ _ h => h) (Or.inl ⟨by rfl, ?_⟩) (by exact S) ?_
  rotate_left 1
  · intro w hSw
    clear hSw
    go_simp
    try with_reducible rfl
  simp only [Act.put, List.setIfInBounds_toArray, List.set_cons_zero, List.set_cons_succ]
  refine Upto.take (i := 4) (oi := { dst := some 260, op := Op.binOp BinOp.shr 22 (Operand.tmp 259) (Operand.const (Value.int IntKind.u64 4)) 61, type := 22, pos := "sourdineseat.go:141", after := #[{ on := 3, ground := Ground.data }, { on := 13, ground := Ground.gcOnly Departure.lateStores }], guard := none }) (v := ?_) rfl (by kernel_rfl) (by kernel_rfl) (by kernel_rfl) (by kernel_rfl) (fun _ _ _ h => h) (Or.inl ⟨by rfl, ?_⟩) (by exact S) ?_
  rotate_left 1
  · intro w hSw
    clear hSw
    go_simp
    try with_reducible rfl
  simp only [Act.put, List.setIfInBounds_toArray, List.set_cons_zero, List.set_cons_succ]
  refine Upto.take (i := 5) (oi := { dst := some 261, op := Op.binOp BinOp.rem 22 (Operand.tmp 260) (Operand.const (Value.int IntKind.u16 3)) 22, type := 22, pos := "sourdineseat.go:141", after := #[{ on := 4, ground := Ground.data }, { on := 13, ground := Ground.gcOnly Departure.lateStores }], guard := none }) (v := ?_) rfl (by kernel_rfl) (by kernel_rfl) (by kernel_rfl) (by kernel_rfl) (fun _ _ _ h => h) (Or.inl ⟨by rfl, ?_⟩) (by exact S) ?_
  rotate_left 1
  · intro w hSw
    clear hSw
    go_simp
    try with_reducible rfl
  simp only [Act.put, List.setIfInBounds_toArray, List.set_cons_zero, List.set_cons_succ]
  refine Upto.take (i := 8) (oi := { dst := some 264, op := Op.move (Operand.tmp 8), type := 22, pos := "sourdineseat.go:141", after := #[{ on := 13, ground := Ground.gcOnly Departure.lateStores }], guard := none }) (v := ?_) rfl (by kernel_rfl) (by kernel_rfl) (by kernel_rfl) (by kernel_rfl) (fun _ _ _ h => h) (Or.inl ⟨by rfl, ?_⟩) (by exact S) ?_
  rotate_left 1
  · intro w hSw
    clear hSw
    go_simp
    try with_reducible rfl
  simp only [Act.put, List.setIfInBounds_toArray, List.set_cons_zero, List.set_cons_succ]
  refine Upto.take (i := 9) (oi := { dst := some 265, op := Op.binOp BinOp.shl 22 (Operand.tmp 264) (Operand.const (Value.int IntKind.u64 8)) 61, type := 22, pos := "sourdineseat.go:141", after := #[{ on := 8, ground := Ground.data }, { on := 13, ground := Ground.gcOnly Departure.lateStores }], guard := none }) (v := ?_) rfl (by kernel_rfl) (by kernel_rfl) (by kernel_rfl) (by kernel_rfl) (fun _ _ _ h => h) (Or.inl ⟨by rfl, ?_⟩) (by exact S) ?_
  rotate_left 1
  · intro w hSw
    clear hSw
    go_simp
    try with_reducible rfl
  simp only [Act.put, List.setIfInBounds_toArray, List.set_cons_zero, List.set_cons_succ]
  refine Upto.take (i := 11) (oi := { dst := some 267, op := Op.move (Operand.tmp 10), type := 22, pos := "sourdineseat.go:141", after := #[{ on := 13, ground := Ground.gcOnly Departure.lateStores }], guard := none }) (v := ?_) rfl (by kernel_rfl) (by kernel_rfl) (by kernel_rfl) (by kernel_rfl) (fun _ _ _ h => h) (Or.inl ⟨by rfl, ?_⟩) (by exact S) ?_
  rotate_left 1
  · intro w hSw
    clear hSw
    go_simp
    try with_reducible rfl
  simp only [Act.put, List.setIfInBounds_toArray, List.set_cons_zero, List.set_cons_succ]
  refine Upto.take (i := 13) (oi := { dst := some 6, op := Op.assign (Operand.tmp 257), type := 22, pos := "sourdineseat.go:141", after := #[{ on := 1, ground := Ground.data }, { on := 0, ground := Ground.phase }, { on := 1, ground := Ground.phase }, { on := 2, ground := Ground.textOnly Departure.lateStores }, { on := 3, ground := Ground.textOnly Departure.lateStores }, { on := 4, ground := Ground.textOnly Departure.lateStores }, { on := 5, ground := Ground.textOnly Departure.lateStores }, { on := 6, ground := Ground.textOnly Departure.lateStores }, { on := 7, ground := Ground.textOnly Departure.lateStores }, { on := 8, ground := Ground.textOnly Departure.lateStores }, { on := 9, ground := Ground.textOnly Departure.lateStores }, { on := 10, ground := Ground.textOnly Departure.lateStores }, { on := 11, ground := Ground.textOnly Departure.lateStores }, { on := 12, ground := Ground.textOnly Departure.lateStores }], guard := none }) (v := ?_) rfl (by kernel_rfl) (by kernel_rfl) (by kernel_rfl) (by kernel_rfl) (fun _ _ _ h => h) (Or.inl ⟨by rfl, ?_⟩) (by exact S) ?_
  rotate_left 1
  · intro w hSw
    clear hSw
    go_simp
    try with_reducible rfl
  simp only [Act.put, List.setIfInBounds_toArray, List.set_cons_zero, List.set_cons_succ]
  refine Upto.ready (rs := [2]) (by kernel_rfl) (by simp) ?_
  refine Nexts.cons rfl (by decide) (fun K hK => ?_) Nexts.nil
  go_simp
  replace S := S.alloc S.size (Obj.cells #[.int .u16 61440, .int .u16 4096, .int .u16 8208] 22)
  refine hK.out _ _ (by exact S) ?_
  clear hK K
  refine Upto.ready (rs := [6]) (by kernel_rfl) (by simp) ?_
  refine Nexts.cons rfl (by decide) (fun K hK => ?_) Nexts.nil
  go_simp
  refine hK.out _ _ (by exact S) ?_
  clear hK K
  refine Upto.ready (rs := [7]) (by kernel_rfl) (by simp) ?_
  refine Nexts.cons rfl (by decide) (fun K hK => ?_) Nexts.nil
  go_simp
  refine hK.out _ _ (by exact S) ?_
  clear hK K
  refine Upto.take (i := 10) (oi := { dst := some 266, op := Op.binOp BinOp.or 22 (Operand.tmp 263) (Operand.tmp 265) 22, type := 22, pos := "sourdineseat.go:141", after := #[{ on := 7, ground := Ground.data }, { on := 9, ground := Ground.data }, { on := 13, ground := Ground.gcOnly Departure.lateStores }], guard := none }) (v := ?_) rfl (by kernel_rfl) (by kernel_rfl) (by kernel_rfl) (by kernel_rfl) (fun _ _ _ h => h) (Or.inl ⟨by rfl, ?_⟩) (by exact S) ?_
  rotate_left 1
  · intro w hSw
    clear hSw
    go_simp
    try with_reducible rfl
  simp only [Act.put, List.setIfInBounds_toArray, List.set_cons_zero, List.set_cons_succ]
  refine Upto.take (i := 12) (oi := { dst := some 268, op := Op.binOp BinOp.or 22 (Operand.tmp 266) (Operand.tmp 267) 22, type := 22, pos := "sourdineseat.go:141", after := #[{ on := 10, ground := Ground.data }, { on := 11, ground := Ground.data }, { on := 13, ground := Ground.gcOnly Departure.lateStores }], guard := none }) (v := ?_) rfl (by kernel_rfl) (by kernel_rfl) (by kernel_rfl) (by kernel_rfl) (fun _ _ _ h => h) (Or.inl ⟨by rfl, ?_⟩) (by exact S) ?_
  rotate_left 1
  · intro w hSw
    clear hSw
    go_simp
    try with_reducible rfl
  simp only [Act.put, List.setIfInBounds_toArray, List.set_cons_zero, List.set_cons_succ]
  refine Upto.ready (rs := [14]) (by kernel_rfl) (by simp) ?_
  refine Nexts.last rfl (fun K hK => ?_)
  go_simp
  refine hK.out _ _ ?_
  clear hK K
  refine Upto.done (by kernel_rfl) ?_ _
  go_wp2
  go_ret2
  refine pair16 _ _ rfl ?_ ?_ ?_
  all_goals first | exact b16_w _ _ _ | exact S | exact (Below.refl _ _).alloc (Nat.le_refl _) _ | exact ((Below.refl _ _).alloc (Nat.le_refl _) _).alloc (by rw [World.alloc]; simp) _ | omega
set_option maxHeartbeats 20000000 in
set_option maxRecDepth 100000 in
theorem pair_18 (k x y : Nat) (hx : x < 65536) (hy : y < 65536) (k0 : (0 : Int) ≤ (k : Int)) (x0 : (0 : Int) ≤ (x : Int)) (y0 : (0 : Int) ≤ (y : Int)) (hk : (k : Int) % 24 = 18) (j : Nat) (hj : j < 4) (hi : bits .and .u16 ((x : Int) / 16) 3 = j) (w : World) : Calls Tryz.prog 6 #[.int .u8 k, .int .u16 x, .int .u16 y] w fun e w' => Pair16 w e w' := by
  obtain ⟨v, hv, HX⟩ : ∃ v : Nat, v < 65536 ∧ Hid ((Cel.any [.int .u16 64384, .int .u16 64416, .int .u16 64448, .int .u16 64480]).cells[j]? = some (.int .u16 (v : Nat))) := by
    rcases (show j = 0 ∨ j = 1 ∨ j = 2 ∨ j = 3 by omega) with rfl | rfl | rfl | rfl
    · exact ⟨64384, by decide, rfl⟩
    · exact ⟨64416, by decide, rfl⟩
    · exact ⟨64448, by decide, rfl⟩
    · exact ⟨64480, by decide, rfl⟩
  have hj2 : (j : Int) < 4 := by omega
  have v0 : (0 : Int) ≤ (v : Int) := by omega
  have v1 : (v : Int) ≤ 65535 := by omega
  go_enter Tryz.func6, Tryz.ntmps6
  have S := SH.start w
  go_wp2_with (first
    | ((with_reducible refine wpl_isDst 271 ?_); refine SH.sliceA_w (L := []) S rfl 62 4 _ rfl [.int .u16 64384, .int .u16 64416, .int .u16 64448, .int .u16 64480] 22 (by kernel_rfl) ?_; clear S; intro gs w1 S)
    | ((with_reducible refine wpl_isDst 276 ?_); refine S.ld 22 _ rfl gs j rfl 0 (Cel.any [.int .u16 64384, .int .u16 64416, .int .u16 64448, .int .u16 64480]) rfl (.int .u16 v) HX.out _ Tryz.underlying22 rfl rfl ?_))
  go_ret2
  refine pair16 _ _ rfl ?_ ?_ ?_
  all_goals first | exact b16_w _ _ _ | exact S.low | exact (Below.refl _ _).alloc (Nat.le_refl _) _ | exact ((Below.refl _ _).alloc (Nat.le_refl _) _).alloc (by rw [World.alloc]; simp) _ | omega
set_option maxHeartbeats 20000000 in
set_option maxRecDepth 100000 in
theorem pair_19 (k x y : Nat) (hx : x < 65536) (hy : y < 65536) (k0 : (0 : Int) ≤ (k : Int)) (x0 : (0 : Int) ≤ (x : Int)) (y0 : (0 : Int) ≤ (y : Int)) (hk : (k : Int) % 24 = 19) (j : Nat) (hj : j < 2) (hi : bits .and .u16 ((x : Int) / 16) 1 = j) (w : World) : Calls Tryz.prog 6 #[.int .u8 k, .int .u16 x, .int .u16 y] w fun e w' => Pair16 w e w' := by
  obtain ⟨v, hv, HX⟩ : ∃ v : Nat, v < 65536 ∧ Hid ((Cel.any [.int .u16 64400, .int .u16 64432]).cells[j]? = some (.int .u16 (v : Nat))) := by
    rcases (show j = 0 ∨ j = 1 by omega) with rfl | rfl
    · exact ⟨64400, by decide, rfl⟩
    · exact ⟨64432, by decide, rfl⟩
  have hj2 : (j : Int) < 2 := by omega
  have v0 : (0 : Int) ≤ (v : Int) := by omega
  have v1 : (v : Int) ≤ 65535 := by omega
  go_enter Tryz.func6, Tryz.ntmps6
  have S := SH.start w
  go_wp2_with (first
    | ((with_reducible refine wpl_isDst 290 ?_); refine SH.sliceA_w (L := []) S rfl 62 2 _ rfl [.int .u16 64400, .int .u16 64432] 22 (by kernel_rfl) ?_; clear S; intro gs w1 S)
    | ((with_reducible refine wpl_isDst 295 ?_); refine S.ld 22 _ rfl gs j rfl 0 (Cel.any [.int .u16 64400, .int .u16 64432]) rfl (.int .u16 v) HX.out _ Tryz.underlying22 rfl rfl ?_))
  go_ret2
  refine pair16 _ _ rfl ?_ ?_ ?_
  all_goals first | exact b16_w _ _ _ | exact S.low | exact (Below.refl _ _).alloc (Nat.le_refl _) _ | exact ((Below.refl _ _).alloc (Nat.le_refl _) _).alloc (by rw [World.alloc]; simp) _ | omega
set_option maxHeartbeats 20000000 in
set_option maxRecDepth 100000 in
theorem pair_20 (k x y : Nat) (hx : x < 65536) (hy : y < 65536) (k0 : (0 : Int) ≤ (k : Int)) (x0 : (0 : Int) ≤ (x : Int)) (y0 : (0 : Int) ≤ (y : Int)) (hk : (k : Int) % 24 = 20) (j : Nat) (hj : j < 8) (hi : bits .and .u16 ((x : Int) / 16) 7 = j) (w : World) : Calls Tryz.prog 6 #[.int .u8 k, .int .u16 x, .int .u16 y] w fun e w' => Pair16 w e w' := by
  obtain ⟨v, hv, HX⟩ : ∃ v : Nat, v < 65536 ∧ Hid ((Cel.any [.int .u16 63696, .int .u16 63680, .int .u16 63632, .int .u16 63616, .int .u16 63664, .int .u16 63648, .int .u16 63888, .int .u16 63920]).cells[j]? = some (.int .u16 (v : Nat))) := by
    rcases (show j = 0 ∨ j = 1 ∨ j = 2 ∨ j = 3 ∨ j = 4 ∨ j = 5 ∨ j = 6 ∨ j = 7 by omega) with rfl | rfl | rfl | rfl | rfl | rfl | rfl | rfl
    · exact ⟨63696, by decide, rfl⟩
    · exact ⟨63680, by decide, rfl⟩
    · exact ⟨63632, by decide, rfl⟩
    · exact ⟨63616, by decide, rfl⟩
    · exact ⟨63664, by decide, rfl⟩
    · exact ⟨63648, by decide, rfl⟩
    · exact ⟨63888, by decide, rfl⟩
    · exact ⟨63920, by decide, rfl⟩
  have hj2 : (j : Int) < 8 := by omega
  have v0 : (0 : Int) ≤ (v : Int) := by omega
  have v1 : (v : Int) ≤ 65535 := by omega
  go_enter Tryz.func6, Tryz.ntmps6
  have S := SH.start w
  go_wp2_with (first
    | ((with_reducible refine wpl_isDst 305 ?_); refine SH.sliceA_w (L := []) S rfl 62 8 _ rfl [.int .u16 63696, .int .u16 63680, .int .u16 63632, .int .u16 63616, .int .u16 63664, .int .u16 63648, .int .u16 63888, .int .u16 63920] 22 (by kernel_rfl) ?_; clear S; intro gs w1 S)
    | ((with_reducible refine wpl_isDst 310 ?_); refine S.ld 22 _ rfl gs j rfl 0 (Cel.any [.int .u16 63696, .int .u16 63680, .int .u16 63632, .int .u16 63616, .int .u16 63664, .int .u16 63648, .int .u16 63888, .int .u16 63920]) rfl (.int .u16 v) HX.out _ Tryz.underlying22 rfl rfl ?_))
  go_ret2
  refine pair16 _ _ rfl ?_ ?_ ?_
  all_goals first | exact b16_w _ _ _ | exact S.low | exact (Below.refl _ _).alloc (Nat.le_refl _) _ | exact ((Below.refl _ _).alloc (Nat.le_refl _) _).alloc (by rw [World.alloc]; simp) _ | omega
set_option maxHeartbeats 20000000 in
set_option maxRecDepth 100000 in
theorem pair_21 (k x y : Nat) (hx : x < 65536) (hy : y < 65536) (k0 : (0 : Int) ≤ (k : Int)) (x0 : (0 : Int) ≤ (x : Int)) (y0 : (0 : Int) ≤ (y : Int)) (hk : (k : Int) % 24 = 21) (w : World) : Calls Tryz.prog 6 #[.int .u8 k, .int .u16 x, .int .u16 y] w fun e w' => Pair16 w e w' := by
  go_enter Tryz.func6, Tryz.ntmps6
  go_wp2
  go_ret2
  refine pair16 _ _ rfl ?_ ?_ ?_
  all_goals first | exact b16_w _ _ _ | exact Below.refl _ _ | exact (Below.refl _ _).alloc (Nat.le_refl _) _ | exact ((Below.refl _ _).alloc (Nat.le_refl _) _).alloc (by rw [World.alloc]; simp) _ | omega
set_option maxHeartbeats 20000000 in
set_option maxRecDepth 100000 in
theorem pair_22 (k x y : Nat) (hx : x < 65536) (hy : y < 65536) (k0 : (0 : Int) ≤ (k : Int)) (x0 : (0 : Int) ≤ (x : Int)) (y0 : (0 : Int) ≤ (y : Int)) (hk : (k : Int) % 24 = 22) (j : Nat) (hj : j < 3) (hi : (x : Int) / 16 % 3 = j) (w : World) : Calls Tryz.prog 6 #[.int .u8 k, .int .u16 x, .int .u16 y] w fun e w' => Pair16 w e w' := by
  obtain ⟨v, hv, HX⟩ : ∃ v : Nat, v < 65536 ∧ Hid ((Cel.any [.int .u16 59536, .int .u16 59520, .int .u16 59552]).cells[j]? = some (.int .u16 (v : Nat))) := by
    rcases (show j = 0 ∨ j = 1 ∨ j = 2 by omega) with rfl | rfl | rfl
    · exact ⟨59536, by decide, rfl⟩
    · exact ⟨59520, by decide, rfl⟩
    · exact ⟨59552, by decide, rfl⟩
  have hj2 : (j : Int) < 3 := by omega
  have v0 : (0 : Int) ≤ (v : Int) := by omega
  have v1 : (v : Int) ≤ 65535 := by omega
  go_enter Tryz.func6, Tryz.ntmps6
  have S := SH.start w
  go_wp2_with (first
    | ((with_reducible refine wpl_isDst 329 ?_); refine SH.sliceA_w (L := []) S rfl 62 3 _ rfl [.int .u16 59536, .int .u16 59520, .int .u16 59552] 22 (by kernel_rfl) ?_; clear S; intro gs w1 S)
    | ((with_reducible refine wpl_isDst 334 ?_); refine S.ld 22 _ rfl gs j rfl 0 (Cel.any [.int .u16 59536, .int .u16 59520, .int .u16 59552]) rfl (.int .u16 v) HX.out _ Tryz.underlying22 rfl rfl ?_))
  go_ret2
  refine pair16 _ _ rfl ?_ ?_ ?_
  all_goals first | exact b16_w _ _ _ | exact S.low | exact (Below.refl _ _).alloc (Nat.le_refl _) _ | exact ((Below.refl _ _).alloc (Nat.le_refl _) _).alloc (by rw [World.alloc]; simp) _ | omega
set_option maxHeartbeats 20000000 in
set_option maxRecDepth 100000 in
theorem pair_23 (k x y : Nat) (hx : x < 65536) (hy : y < 65536) (k0 : (0 : Int) ≤ (k : Int)) (x0 : (0 : Int) ≤ (x : Int)) (y0 : (0 : Int) ≤ (y : Int)) (hk : (k : Int) % 24 = 23) (w : World) : Calls Tryz.prog 6 #[.int .u8 k, .int .u16 x, .int .u16 y] w fun e w' => Pair16 w e w' := by
  go_enter Tryz.func6, Tryz.ntmps6
  go_wp2
  go_ret2
  refine pair16 _ _ rfl ?_ ?_ ?_
  all_goals first | exact b16_w _ _ _ | exact Below.refl _ _ | exact (Below.refl _ _).alloc (Nat.le_refl _) _ | exact ((Below.refl _ _).alloc (Nat.le_refl _) _).alloc (by rw [World.alloc]; simp) _ | omega
theorem pair_c (k x y : Nat) (hx : x < 65536) (hy : y < 65536) (w : World) : Calls Tryz.prog 6 #[.int .u8 k, .int .u16 x, .int .u16 y] w fun e w' => Pair16 w e w' := by
  have k0 : (0 : Int) ≤ (k : Int) := by omega
  have x0 : (0 : Int) ≤ (x : Int) := by omega
  have y0 : (0 : Int) ≤ (y : Int) := by omega
  have a3 : bits .and .u16 (x : Int) 3 = ((fd_w x 0 2 : Nat) : Int) := fd_u16 x 0 2 hx (by decide) _ _ (by simp) rfl
  have b3 : bits .and .u16 ((x : Int) / 16) 3 = ((fd_w x 4 2 : Nat) : Int) := fd_u16 x 4 2 hx (by decide) _ _ (by simp) rfl
  have b1 : bits .and .u16 ((x : Int) / 16) 1 = ((fd_w x 4 1 : Nat) : Int) := fd_u16 x 4 1 hx (by decide) _ _ (by simp) rfl
  have b7 : bits .and .u16 ((x : Int) / 16) 7 = ((fd_w x 4 3 : Nat) : Int) := fd_u16 x 4 3 hx (by decide) _ _ (by simp) rfl
  have f0 := fd_lt_w x 0 2
  have f1 := fd_lt_w x 4 1
  have f2 := fd_lt_w x 4 2
  have f3 := fd_lt_w x 4 3
  rcases (show (k : Int) % 24 = 0 ∨ (k : Int) % 24 = 1 ∨ (k : Int) % 24 = 2 ∨ (k : Int) % 24 = 3 ∨ (k : Int) % 24 = 4 ∨ (k : Int) % 24 = 5 ∨ (k : Int) % 24 = 6 ∨ (k : Int) % 24 = 7 ∨ (k : Int) % 24 = 8 ∨ (k : Int) % 24 = 9 ∨ (k : Int) % 24 = 10 ∨ (k : Int) % 24 = 11 ∨ (k : Int) % 24 = 12 ∨ (k : Int) % 24 = 13 ∨ (k : Int) % 24 = 14 ∨ (k : Int) % 24 = 15 ∨ (k : Int) % 24 = 16 ∨ (k : Int) % 24 = 17 ∨ (k : Int) % 24 = 18 ∨ (k : Int) % 24 = 19 ∨ (k : Int) % 24 = 20 ∨ (k : Int) % 24 = 21 ∨ (k : Int) % 24 = 22 ∨ (k : Int) % 24 = 23 by omega) with q | q | q | q | q | q | q | q | q | q | q | q | q | q | q | q | q | q | q | q | q | q | q | q
  · exact pair_0 k x y hx hy k0 x0 y0 q (x / 16 % 10) (by omega) (by omega) w
  · exact pair_1 k x y hx hy k0 x0 y0 q (x / 16 % 10) (by omega) (by omega) w
  · exact pair_2 k x y hx hy k0 x0 y0 q (x / 16 % 10) (by omega) (by omega) w
  · exact pair_3 k x y hx hy k0 x0 y0 q (x / 16 % 10) (by omega) (by omega) w
  · exact pair_4 k x y hx hy k0 x0 y0 q (x / 16 % 10) (by omega) (by omega) w
  · exact pair_5 k x y hx hy k0 x0 y0 q (x / 16 % 10) (by omega) (by omega) w
  · exact pair_6 k x y hx hy k0 x0 y0 q w
  · exact pair_7 k x y hx hy k0 x0 y0 q w
  · exact pair_8 k x y hx hy k0 x0 y0 q w
  · exact pair_9 k x y hx hy k0 x0 y0 q w
  · exact pair_10 k x y hx hy k0 x0 y0 q w
  · exact pair_11 k x y hx hy k0 x0 y0 q w
  · exact pair_12 k x y hx hy k0 x0 y0 q w
  · exact pair_13 k x y hx hy k0 x0 y0 q w
  · exact pair_14 k x y hx hy k0 x0 y0 q (fd_w x 0 2) f0 a3 w
  · exact pair_15 k x y hx hy k0 x0 y0 q w
  · exact pair_16 k x y hx hy k0 x0 y0 q w
  · rcases (show (x : Int) / 16 % 3 = 0 ∨ (x : Int) / 16 % 3 = 1 ∨ (x : Int) / 16 % 3 = 2 by omega) with p | p | p
    · exact pair_17_0 k x y hx hy k0 x0 y0 q p w
    · exact pair_17_1 k x y hx hy k0 x0 y0 q p w
    · exact pair_17_2 k x y hx hy k0 x0 y0 q p w
  · exact pair_18 k x y hx hy k0 x0 y0 q (fd_w x 4 2) f2 b3 w
  · exact pair_19 k x y hx hy k0 x0 y0 q (fd_w x 4 1) f1 b1 w
  · exact pair_20 k x y hx hy k0 x0 y0 q (fd_w x 4 3) f3 b7 w
  · exact pair_21 k x y hx hy k0 x0 y0 q w
  · exact pair_22 k x y hx hy k0 x0 y0 q (x / 16 % 3) (by omega) (by omega) w
  · exact pair_23 k x y hx hy k0 x0 y0 q w
end Go.Proofs.YtplhblhopaheeaaGreatDoor
