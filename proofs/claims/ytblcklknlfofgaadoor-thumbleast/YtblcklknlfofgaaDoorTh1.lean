/- Stage 8: bits of a word, and the four ways to put an instruction together, walked. -/
import Derived.Test.YtblcklknlfofgaaDoorSh0
import Derived.Laws.BitsAllLaws
namespace Go.Proofs.YtblcklknlfofgaaDoor
open Go.ChangeShapes Go.WideShapes Go.ChangeAt Go.RowKit
set_option linter.unusedVariables false
set_option linter.unusedSimpArgs false

theorem fd_lt (h a s : Nat) : fd h a s < 2 ^ s := Nat.mod_lt _ (Nat.two_pow_pos s)
theorem fd_land (h a s : Nat) : (h / 2 ^ a) &&& (2 ^ s - 1) = fd h a s := Nat.and_two_pow_sub_one_eq_mod _ _
theorem fd_bits (h a s : Nat) (hh : h < 65536) (hs : s ≤ 15) (x y : Int) (hx : x = ((h / 2 ^ a : Nat) : Int)) (hy : y = ((2 ^ s - 1 : Nat) : Int)) : bits .and .u16 x y = (fd h a s : Nat) := by
  have h2 : 2 ^ s ≤ 2 ^ 15 := Nat.pow_le_pow_right (by decide) hs
  have h3 := Nat.two_pow_pos s
  rw [hx, hy, u16_and_nat _ _ (Nat.lt_of_le_of_lt (Nat.div_le_self _ _) hh) (by omega), fd_land]
theorem fd_wrap (h a s : Nat) (hs : s ≤ 15) : wrap64 (fd h a s : Nat) = (fd h a s : Nat) := by
  have h2 : 2 ^ s ≤ 2 ^ 15 := Nat.pow_le_pow_right (by decide) hs
  have := fd_lt h a s
  unfold wrap64
  omega
theorem field_6_5 (h : Nat) (hh : h < 65536) (w : World) : Calls Tryd.prog 36 #[.int .u16 h, .int .i64 6, .int .i64 5] w fun e w' => e = .returned (.int .i64 (fd h 6 5 : Nat)) ∧ Below w.heap.size w w' := by
  have key : bits .and .u16 ((h : Int) / 64) 31 = (fd h 6 5 : Nat) := fd_bits h 6 5 hh (by decide) _ _ (by first | rfl | simp) rfl
  have hv := fd_wrap h 6 5 (by decide)
  go_enter Tryd.func36, Tryd.ntmps36
  go_wp2
  go_region
  go_wp2
  go_ret
  exact ⟨by first | (rw [hv]; rfl) | rfl, (Below.refl _ _).drew⟩
theorem field_3_3 (h : Nat) (hh : h < 65536) (w : World) : Calls Tryd.prog 36 #[.int .u16 h, .int .i64 3, .int .i64 3] w fun e w' => e = .returned (.int .i64 (fd h 3 3 : Nat)) ∧ Below w.heap.size w w' := by
  have key : bits .and .u16 ((h : Int) / 8) 7 = (fd h 3 3 : Nat) := fd_bits h 3 3 hh (by decide) _ _ (by first | rfl | simp) rfl
  have hv := fd_wrap h 3 3 (by decide)
  go_enter Tryd.func36, Tryd.ntmps36
  go_wp2
  go_region
  go_wp2
  go_ret
  exact ⟨by first | (rw [hv]; rfl) | rfl, (Below.refl _ _).drew⟩
theorem field_0_3 (h : Nat) (hh : h < 65536) (w : World) : Calls Tryd.prog 36 #[.int .u16 h, .int .i64 0, .int .i64 3] w fun e w' => e = .returned (.int .i64 (fd h 0 3 : Nat)) ∧ Below w.heap.size w w' := by
  have key : bits .and .u16 ((h : Int)) 7 = (fd h 0 3 : Nat) := fd_bits h 0 3 hh (by decide) _ _ (by first | rfl | simp) rfl
  have hv := fd_wrap h 0 3 (by decide)
  go_enter Tryd.func36, Tryd.ntmps36
  go_wp2
  go_region
  go_wp2
  go_ret
  exact ⟨by first | (rw [hv]; rfl) | rfl, (Below.refl _ _).drew⟩
theorem field_6_3 (h : Nat) (hh : h < 65536) (w : World) : Calls Tryd.prog 36 #[.int .u16 h, .int .i64 6, .int .i64 3] w fun e w' => e = .returned (.int .i64 (fd h 6 3 : Nat)) ∧ Below w.heap.size w w' := by
  have key : bits .and .u16 ((h : Int) / 64) 7 = (fd h 6 3 : Nat) := fd_bits h 6 3 hh (by decide) _ _ (by first | rfl | simp) rfl
  have hv := fd_wrap h 6 3 (by decide)
  go_enter Tryd.func36, Tryd.ntmps36
  go_wp2
  go_region
  go_wp2
  go_ret
  exact ⟨by first | (rw [hv]; rfl) | rfl, (Below.refl _ _).drew⟩
theorem field_8_3 (h : Nat) (hh : h < 65536) (w : World) : Calls Tryd.prog 36 #[.int .u16 h, .int .i64 8, .int .i64 3] w fun e w' => e = .returned (.int .i64 (fd h 8 3 : Nat)) ∧ Below w.heap.size w w' := by
  have key : bits .and .u16 ((h : Int) / 256) 7 = (fd h 8 3 : Nat) := fd_bits h 8 3 hh (by decide) _ _ (by first | rfl | simp) rfl
  have hv := fd_wrap h 8 3 (by decide)
  go_enter Tryd.func36, Tryd.ntmps36
  go_wp2
  go_region
  go_wp2
  go_ret
  exact ⟨by first | (rw [hv]; rfl) | rfl, (Below.refl _ _).drew⟩
theorem field_0_8 (h : Nat) (hh : h < 65536) (w : World) : Calls Tryd.prog 36 #[.int .u16 h, .int .i64 0, .int .i64 8] w fun e w' => e = .returned (.int .i64 (fd h 0 8 : Nat)) ∧ Below w.heap.size w w' := by
  have key : bits .and .u16 ((h : Int)) 255 = (fd h 0 8 : Nat) := fd_bits h 0 8 hh (by decide) _ _ (by first | rfl | simp) rfl
  have hv := fd_wrap h 0 8 (by decide)
  go_enter Tryd.func36, Tryd.ntmps36
  go_wp2
  go_region
  go_wp2
  go_ret
  exact ⟨by first | (rw [hv]; rfl) | rfl, (Below.refl _ _).drew⟩
theorem field_9_3 (h : Nat) (hh : h < 65536) (w : World) : Calls Tryd.prog 36 #[.int .u16 h, .int .i64 9, .int .i64 3] w fun e w' => e = .returned (.int .i64 (fd h 9 3 : Nat)) ∧ Below w.heap.size w w' := by
  have key : bits .and .u16 ((h : Int) / 512) 7 = (fd h 9 3 : Nat) := fd_bits h 9 3 hh (by decide) _ _ (by first | rfl | simp) rfl
  have hv := fd_wrap h 9 3 (by decide)
  go_enter Tryd.func36, Tryd.ntmps36
  go_wp2
  go_region
  go_wp2
  go_ret
  exact ⟨by first | (rw [hv]; rfl) | rfl, (Below.refl _ _).drew⟩
theorem field_6_4 (h : Nat) (hh : h < 65536) (w : World) : Calls Tryd.prog 36 #[.int .u16 h, .int .i64 6, .int .i64 4] w fun e w' => e = .returned (.int .i64 (fd h 6 4 : Nat)) ∧ Below w.heap.size w w' := by
  have key : bits .and .u16 ((h : Int) / 64) 15 = (fd h 6 4 : Nat) := fd_bits h 6 4 hh (by decide) _ _ (by first | rfl | simp) rfl
  have hv := fd_wrap h 6 4 (by decide)
  go_enter Tryd.func36, Tryd.ntmps36
  go_wp2
  go_region
  go_wp2
  go_ret
  exact ⟨by first | (rw [hv]; rfl) | rfl, (Below.refl _ _).drew⟩
theorem field_3_4 (h : Nat) (hh : h < 65536) (w : World) : Calls Tryd.prog 36 #[.int .u16 h, .int .i64 3, .int .i64 4] w fun e w' => e = .returned (.int .i64 (fd h 3 4 : Nat)) ∧ Below w.heap.size w w' := by
  have key : bits .and .u16 ((h : Int) / 8) 15 = (fd h 3 4 : Nat) := fd_bits h 3 4 hh (by decide) _ _ (by first | rfl | simp) rfl
  have hv := fd_wrap h 3 4 (by decide)
  go_enter Tryd.func36, Tryd.ntmps36
  go_wp2
  go_region
  go_wp2
  go_ret
  exact ⟨by first | (rw [hv]; rfl) | rfl, (Below.refl _ _).drew⟩
theorem field_7_1 (h : Nat) (hh : h < 65536) (w : World) : Calls Tryd.prog 36 #[.int .u16 h, .int .i64 7, .int .i64 1] w fun e w' => e = .returned (.int .i64 (fd h 7 1 : Nat)) ∧ Below w.heap.size w w' := by
  have key : bits .and .u16 ((h : Int) / 128) 1 = (fd h 7 1 : Nat) := fd_bits h 7 1 hh (by decide) _ _ (by first | rfl | simp) rfl
  have hv := fd_wrap h 7 1 (by decide)
  go_enter Tryd.func36, Tryd.ntmps36
  go_wp2
  go_region
  go_wp2
  go_ret
  exact ⟨by first | (rw [hv]; rfl) | rfl, (Below.refl _ _).drew⟩
theorem field_0_7 (h : Nat) (hh : h < 65536) (w : World) : Calls Tryd.prog 36 #[.int .u16 h, .int .i64 0, .int .i64 7] w fun e w' => e = .returned (.int .i64 (fd h 0 7 : Nat)) ∧ Below w.heap.size w w' := by
  have key : bits .and .u16 ((h : Int)) 127 = (fd h 0 7 : Nat) := fd_bits h 0 7 hh (by decide) _ _ (by first | rfl | simp) rfl
  have hv := fd_wrap h 0 7 (by decide)
  go_enter Tryd.func36, Tryd.ntmps36
  go_wp2
  go_region
  go_wp2
  go_ret
  exact ⟨by first | (rw [hv]; rfl) | rfl, (Below.refl _ _).drew⟩
theorem field_9_1 (h : Nat) (hh : h < 65536) (w : World) : Calls Tryd.prog 36 #[.int .u16 h, .int .i64 9, .int .i64 1] w fun e w' => e = .returned (.int .i64 (fd h 9 1 : Nat)) ∧ Below w.heap.size w w' := by
  have key : bits .and .u16 ((h : Int) / 512) 1 = (fd h 9 1 : Nat) := fd_bits h 9 1 hh (by decide) _ _ (by first | rfl | simp) rfl
  have hv := fd_wrap h 9 1 (by decide)
  go_enter Tryd.func36, Tryd.ntmps36
  go_wp2
  go_region
  go_wp2
  go_ret
  exact ⟨by first | (rw [hv]; rfl) | rfl, (Below.refl _ _).drew⟩
theorem field_3_5 (h : Nat) (hh : h < 65536) (w : World) : Calls Tryd.prog 36 #[.int .u16 h, .int .i64 3, .int .i64 5] w fun e w' => e = .returned (.int .i64 (fd h 3 5 : Nat)) ∧ Below w.heap.size w w' := by
  have key : bits .and .u16 ((h : Int) / 8) 31 = (fd h 3 5 : Nat) := fd_bits h 3 5 hh (by decide) _ _ (by first | rfl | simp) rfl
  have hv := fd_wrap h 3 5 (by decide)
  go_enter Tryd.func36, Tryd.ntmps36
  go_wp2
  go_region
  go_wp2
  go_ret
  exact ⟨by first | (rw [hv]; rfl) | rfl, (Below.refl _ _).drew⟩
theorem field_6_2 (h : Nat) (hh : h < 65536) (w : World) : Calls Tryd.prog 36 #[.int .u16 h, .int .i64 6, .int .i64 2] w fun e w' => e = .returned (.int .i64 (fd h 6 2 : Nat)) ∧ Below w.heap.size w w' := by
  have key : bits .and .u16 ((h : Int) / 64) 3 = (fd h 6 2 : Nat) := fd_bits h 6 2 hh (by decide) _ _ (by first | rfl | simp) rfl
  have hv := fd_wrap h 6 2 (by decide)
  go_enter Tryd.func36, Tryd.ntmps36
  go_wp2
  go_region
  go_wp2
  go_ret
  exact ⟨by first | (rw [hv]; rfl) | rfl, (Below.refl _ _).drew⟩
theorem field_8_1 (h : Nat) (hh : h < 65536) (w : World) : Calls Tryd.prog 36 #[.int .u16 h, .int .i64 8, .int .i64 1] w fun e w' => e = .returned (.int .i64 (fd h 8 1 : Nat)) ∧ Below w.heap.size w w' := by
  have key : bits .and .u16 ((h : Int) / 256) 1 = (fd h 8 1 : Nat) := fd_bits h 8 1 hh (by decide) _ _ (by first | rfl | simp) rfl
  have hv := fd_wrap h 8 1 (by decide)
  go_enter Tryd.func36, Tryd.ntmps36
  go_wp2
  go_region
  go_wp2
  go_ret
  exact ⟨by first | (rw [hv]; rfl) | rfl, (Below.refl _ _).drew⟩
theorem field_4_4 (h : Nat) (hh : h < 65536) (w : World) : Calls Tryd.prog 36 #[.int .u16 h, .int .i64 4, .int .i64 4] w fun e w' => e = .returned (.int .i64 (fd h 4 4 : Nat)) ∧ Below w.heap.size w w' := by
  have key : bits .and .u16 ((h : Int) / 16) 15 = (fd h 4 4 : Nat) := fd_bits h 4 4 hh (by decide) _ _ (by first | rfl | simp) rfl
  have hv := fd_wrap h 4 4 (by decide)
  go_enter Tryd.func36, Tryd.ntmps36
  go_wp2
  go_region
  go_wp2
  go_ret
  exact ⟨by first | (rw [hv]; rfl) | rfl, (Below.refl _ _).drew⟩
theorem field_0_4 (h : Nat) (hh : h < 65536) (w : World) : Calls Tryd.prog 36 #[.int .u16 h, .int .i64 0, .int .i64 4] w fun e w' => e = .returned (.int .i64 (fd h 0 4 : Nat)) ∧ Below w.heap.size w w' := by
  have key : bits .and .u16 ((h : Int)) 15 = (fd h 0 4 : Nat) := fd_bits h 0 4 hh (by decide) _ _ (by first | rfl | simp) rfl
  have hv := fd_wrap h 0 4 (by decide)
  go_enter Tryd.func36, Tryd.ntmps36
  go_wp2
  go_region
  go_wp2
  go_ret
  exact ⟨by first | (rw [hv]; rfl) | rfl, (Below.refl _ _).drew⟩
theorem field_8_4 (h : Nat) (hh : h < 65536) (w : World) : Calls Tryd.prog 36 #[.int .u16 h, .int .i64 8, .int .i64 4] w fun e w' => e = .returned (.int .i64 (fd h 8 4 : Nat)) ∧ Below w.heap.size w w' := by
  have key : bits .and .u16 ((h : Int) / 256) 15 = (fd h 8 4 : Nat) := fd_bits h 8 4 hh (by decide) _ _ (by first | rfl | simp) rfl
  have hv := fd_wrap h 8 4 (by decide)
  go_enter Tryd.func36, Tryd.ntmps36
  go_wp2
  go_region
  go_wp2
  go_ret
  exact ⟨by first | (rw [hv]; rfl) | rfl, (Below.refl _ _).drew⟩
theorem reg_c (op d n m : Int) (s : Bool) (w : World) : Calls Tryd.prog 35 #[.int .i64 op, .int .i64 d, .int .i64 n, .int .i64 m, .bool s] w fun e w' => e = .returned (IV.val ⟨op, false, s, 14, d, n, m, 0, 0, false, 0, 0, 0, false, false⟩) ∧ Below w.heap.size w w' := by
  go_enter Tryd.func35, Tryd.ntmps35
  go_wp2
  refine bodyPost_ret (results_cell_row rfl _ _ w.heap.size _ _ _ _ rfl (heap_alloc_new w _) Tryd.underlying29 rfl (by kernel_rfl)) rfl ⟨rfl, (Below.refl _ _).alloc (Nat.le_refl _) _⟩
theorem none_c (op : Int) (h : Nat) (hh : h < 65536) (w : World) : Calls Tryd.prog 42 #[.int .i64 op, .int .u16 h] w fun e w' => e = .returned (IV.val ⟨op, false, false, 14, 0, 0, 0, 0, h, false, 0, 0, 0, false, false⟩) ∧ Below w.heap.size w w' := by
  go_enter Tryd.func42, Tryd.ntmps42
  go_wp2
  refine bodyPost_ret (results_cell_row rfl _ _ w.heap.size _ _ _ _ rfl (heap_alloc_new w _) Tryd.underlying29 rfl (by kernel_rfl)) rfl ⟨rfl, (Below.refl _ _).alloc (Nat.le_refl _) _⟩
theorem imm_c (op d n v : Int) (s : Bool) (hv0 : 0 ≤ v) (hv : v < 4294967296) (w : World) : Calls Tryd.prog 54 #[.int .i64 op, .int .i64 d, .int .i64 n, .int .i64 v, .bool s] w fun e w' => e = .returned (IV.val ⟨op, false, s, 14, d, n, 0, 0, v, true, 0, 0, 0, false, false⟩) ∧ Below w.heap.size w w' := by
  go_enter Tryd.func54, Tryd.ntmps54
  go_wp2
  refine bodyPost_ret (results_cell_row rfl _ _ w.heap.size _ _ _ _ rfl (heap_alloc_new w _) Tryd.underlying29 rfl (by kernel_rfl)) rfl ⟨rfl, (Below.refl _ _).alloc (Nat.le_refl _) _⟩
theorem num_c (op v : Int) (hv0 : 0 ≤ v) (hv : v < 4294967296) (w : World) : Calls Tryd.prog 62 #[.int .i64 op, .int .i64 v] w fun e w' => e = .returned (IV.val ⟨op, false, false, 14, 0, 0, 0, 0, v, false, 0, 0, 0, false, false⟩) ∧ Below w.heap.size w w' := by
  go_enter Tryd.func62, Tryd.ntmps62
  go_wp2
  refine bodyPost_ret (results_cell_row rfl _ _ w.heap.size _ _ _ _ rfl (heap_alloc_new w _) Tryd.underlying29 rfl (by kernel_rfl)) rfl ⟨rfl, (Below.refl _ _).alloc (Nat.le_refl _) _⟩
end Go.Proofs.YtblcklknlfofgaaDoor
