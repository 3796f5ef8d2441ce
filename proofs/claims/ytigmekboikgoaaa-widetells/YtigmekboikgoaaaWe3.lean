/- Stage 9: bit fields. -/
import Derived.Test.YtigmekboikgoaaaWe2
namespace Go.Proofs.Ytigmekboikgoaaa
open Go.ChangeShapes Go.WideShapes Go.ChangeAt Go.RowKit
set_option linter.unusedVariables false
set_option linter.unusedSimpArgs false

theorem and_two (x a s b t : Nat) (h : b + t ≤ a) : x &&& ((2 ^ s - 1) * 2 ^ a + (2 ^ t - 1) * 2 ^ b) = fd x a s * 2 ^ a + fd x b t * 2 ^ b := by
  have hb : ∀ y, y < 2 ^ t → y * 2 ^ b < 2 ^ a := fun y hy => by
    have h1 : y * 2 ^ b < 2 ^ t * 2 ^ b := (Nat.mul_lt_mul_right (Nat.two_pow_pos b)).2 hy
    have h2 : 2 ^ t * 2 ^ b ≤ 2 ^ a := by rw [← Nat.pow_add]; exact Nat.pow_le_pow_right (by decide) (by omega)
    omega
  have h0 := Nat.two_pow_pos t
  rw [Nat.mul_comm (2 ^ s - 1), Nat.two_pow_add_eq_or_of_lt (hb _ (by omega)), Nat.and_or_distrib_left, Nat.mul_comm (2 ^ a), and_mid, and_mid, Nat.mul_comm (fd x a s), Nat.two_pow_add_eq_or_of_lt (hb _ (fd_lt x b t))]
theorem u32_two (x a s b t : Nat) (m : Int) (hx : x < 4294967296) (h : b + t ≤ a) (hm : m = (((2 ^ s - 1) * 2 ^ a + (2 ^ t - 1) * 2 ^ b : Nat) : Int)) (h32 : (2 ^ s - 1) * 2 ^ a + (2 ^ t - 1) * 2 ^ b < 4294967296) : bits .and .u32 (x : Int) m = ((fd x a s * 2 ^ a + fd x b t * 2 ^ b : Nat) : Int) := by
  rw [hm, u32_and_nat _ _ hx h32, and_two x a s b t h]
set_option maxHeartbeats 4000000 in
set_option maxRecDepth 100000 in
theorem bitField_c (op : Int) (x : Nat) (hx : x < 4294967296) (w : World) : Calls Try.prog 54 #[(startI op (fd x 8 4 : Nat) (fd x 16 4 : Nat)).val, .int .u32 x] w fun e w' => Says w (bitX op x) e w' := by
  unfold Says
  have k : bits .and .u32 (x : Int) 67108896 = ((fd x 26 1 * 67108864 + fd x 5 1 * 32 : Nat) : Int) := u32_two x 26 1 5 1 67108896 hx (by decide) rfl (by decide)
  have hJ : bitX op x = bif fd x 26 1 != 0 || fd x 5 1 != 0 then noneI 64 x else checkedI (immI (startI op (fd x 8 4 : Nat) (fd x 16 4 : Nat)) ((((fd x 12 3 * 4 + fd x 6 2 : Nat) : Int) + 32 * manyF op x) % 4294967296)) (decide (1 ≤ manyF op x) && decide (((fd x 12 3 * 4 + fd x 6 2 : Nat) : Int) + manyF op x ≤ 32)) x := rfl
  have hm : manyF op x = (fd x 0 5 : Nat) + 1 - bif op == 33 then ((fd x 12 3 * 4 + fd x 6 2 : Nat) : Int) else 0 := rfl
  generalize manyF op x = m at *
  generalize bitX op x = R at *
  have f26 : fd x 26 1 < 2 := fd_lt x 26 1
  have f5 : fd x 5 1 < 2 := fd_lt x 5 1
  generalize fd x 26 1 = g26 at *
  generalize fd x 5 1 = g5 at *
  generalize ((fd x 8 4 : Nat) : Int) = d at *
  generalize ((fd x 16 4 : Nat) : Int) = n at *
  have F12_3 : Hid (∀ w, Calls Try.prog 46 #[.int .u32 x, .int .i64 12, .int .i64 3] w fun e w' => e = .returned (.int .i64 (fd x 12 3 : Nat)) ∧ Below w.heap.size w w') := field_12_3 x hx
  have f12_3 : fd x 12 3 < 8 := fd_lt x 12 3
  generalize fd x 12 3 = g12_3 at *
  have F6_2 : Hid (∀ w, Calls Try.prog 46 #[.int .u32 x, .int .i64 6, .int .i64 2] w fun e w' => e = .returned (.int .i64 (fd x 6 2 : Nat)) ∧ Below w.heap.size w w') := field_6_2 x hx
  have f6_2 : fd x 6 2 < 4 := fd_lt x 6 2
  generalize fd x 6 2 = g6_2 at *
  have F0_5 : Hid (∀ w, Calls Try.prog 46 #[.int .u32 x, .int .i64 0, .int .i64 5] w fun e w' => e = .returned (.int .i64 (fd x 0 5 : Nat)) ∧ Below w.heap.size w w') := field_0_5 x hx
  have f0_5 : fd x 0 5 < 32 := fd_lt x 0 5
  generalize fd x 0 5 = g0_5 at *
  have j1 : bits .or .i64 ((g12_3 : Int) * 4) (g6_2 : Int) = ((g12_3 * 4 + g6_2 : Nat) : Int) := i64_join (g12_3 * 4) g6_2 2 (by omega) (by omega) (by omega) (by decide)
  have hb : g12_3 * 4 + g6_2 < 32 := by omega
  generalize g12_3 * 4 + g6_2 = b at *
  rcases (show (g26 = 0 ∧ g5 = 0) ∨ (g26 = 1 ∧ g5 = 0) ∨ (g26 = 0 ∧ g5 = 1) ∨ (g26 = 1 ∧ g5 = 1) by omega) with h | h | h | h
  focus
    obtain ⟨rfl, rfl⟩ := h
    rw [show ((0 * 67108864 + 0 * 32 : Nat) : Int) = 0 from rfl] at k
    cases h1 : (op == 33)
    focus
      replace hJ : R = checkedI (immI (startI op d n) (((b : Int) + 32 * m) % 4294967296)) (decide (1 ≤ m) && decide ((b : Int) + m ≤ 32)) x := hJ
      rw [h1] at hm
      replace hm : m = (g0_5 : Int) + 1 := by simpa using hm
      subst hJ
      rw [hm]
      clear hm
      have h2 : (1 : Int) ≤ (g0_5 : Int) + 1 := by omega
      have d1 : decide ((1 : Int) ≤ (g0_5 : Int) + 1) = true := by simpa using h2
      rw [d1, Bool.true_and]
      rw [show ((b : Int) + 32 * ((g0_5 : Int) + 1)) % 4294967296 = (b : Int) + 32 * ((g0_5 : Int) + 1) by omega]
      clear h2
      have C_checked : Hid _ := fun wq => checked_c (immI (startI op d n) ((b : Int) + 32 * ((g0_5 : Int) + 1))) (decide ((b : Int) + ((g0_5 : Int) + 1) ≤ 32)) x hx wq
    rotate_left 1
    focus
      replace hJ : R = checkedI (immI (startI op d n) (((b : Int) + 32 * m) % 4294967296)) (decide (1 ≤ m) && decide ((b : Int) + m ≤ 32)) x := hJ
      rw [h1] at hm
      replace hm : m = (g0_5 : Int) + 1 - (b : Int) := by simpa using hm
      subst hJ
      rw [hm]
      clear hm
      rcases (show (1 : Int) ≤ (g0_5 : Int) + 1 - (b : Int) ∨ ¬ (1 : Int) ≤ (g0_5 : Int) + 1 - (b : Int) by omega) with h2 | h2
      focus
        have d1 : decide ((1 : Int) ≤ (g0_5 : Int) + 1 - (b : Int)) = true := by simpa using h2
        rw [d1, Bool.true_and]
        clear h2
        have C_checked : Hid _ := fun wq => checked_c (immI (startI op d n) (((b : Int) + 32 * ((g0_5 : Int) + 1 - (b : Int))) % 4294967296)) (decide ((b : Int) + ((g0_5 : Int) + 1 - (b : Int)) ≤ 32)) x hx wq
      rotate_left 1
      focus
        have d1 : decide ((1 : Int) ≤ (g0_5 : Int) + 1 - (b : Int)) = false := by simpa using h2
        rw [d1, Bool.false_and]
        clear h2
        have C_checked : Hid _ := fun wq => checked_c (immI (startI op d n) (((b : Int) + 32 * ((g0_5 : Int) + 1 - (b : Int))) % 4294967296)) false x hx wq
      rotate_left 1
    rotate_left 2
  rotate_left 3
  focus
    obtain ⟨rfl, rfl⟩ := h
    rw [show ((1 * 67108864 + 0 * 32 : Nat) : Int) = 67108864 from rfl] at k
    replace hJ : R = noneI 64 x := hJ
    subst hJ
    clear hm
  rotate_left 1
  focus
    obtain ⟨rfl, rfl⟩ := h
    rw [show ((0 * 67108864 + 1 * 32 : Nat) : Int) = 32 from rfl] at k
    replace hJ : R = noneI 64 x := hJ
    subst hJ
    clear hm
  rotate_left 1
  focus
    obtain ⟨rfl, rfl⟩ := h
    rw [show ((1 * 67108864 + 1 * 32 : Nat) : Int) = 67108896 from rfl] at k
    replace hJ : R = noneI 64 x := hJ
    subst hJ
    clear hm
  rotate_left 1
  all_goals
    go_enter Try.func54, Try.ntmps54
    have S := SH.start w
    go_wp2_with (first
      | ((with_reducible refine wpl_isDst 2 ?_); (first | refine S.boxA rfl 30 _ rfl _ rfl ?_ | refine SH.boxA (L := []) S rfl 30 _ rfl _ rfl ?_); clear S; intro b2 w2 S; (try (simp only [Cel.cells, IV.cellsL, zeroL, List.set_cons_zero, List.set_cons_succ, startI, secondI, noneI] at S)))
      | ((with_reducible refine wpl_isDst 4 ?_); (first | refine S.alloc rfl 30 rfl (Cel.any zeroL) zeroA ?_ | refine SH.alloc (L := []) S rfl 30 rfl (Cel.any zeroL) zeroA ?_); clear S; intro b4 w4 S)
      | ((with_reducible refine wpl_isStoreAt 4 ?_); (first | refine S.storeA rfl 30 _ _ rfl b4 _ rfl rfl 0 _ rfl rfl rfl (szA _ rfl) ?_ | refine S.storeA rfl 30 _ _ rfl b4 _ rfl rfl 1 _ rfl rfl rfl (szA _ rfl) ?_); clear S; intro w2 S; (simp only [Cel.cells, IV.cellsL, zeroL, List.set_cons_zero, List.set_cons_succ, startI, secondI, noneI] at S))
      | (go_at_call 46; first | (with_reducible refine (F12_3.out _).mono ?_; rintro e wf ⟨rfl, hbf⟩; replace S := S.below hbf; clear hbf) | (with_reducible refine (F6_2.out _).mono ?_; rintro e wf ⟨rfl, hbf⟩; replace S := S.below hbf; clear hbf) | (with_reducible refine (F0_5.out _).mono ?_; rintro e wf ⟨rfl, hbf⟩; replace S := S.below hbf; clear hbf))
      | ((with_reducible refine wpl_isDst 22 ?_); (first | refine S.ld 3 _ rfl b2 0 rfl 0 _ rfl _ rfl _ Try.underlying3 rfl rfl ?_ | refine S.ld 3 _ rfl b2 0 rfl 1 _ rfl _ rfl _ Try.underlying3 rfl rfl ?_))
      | ((with_reducible refine wpl_isStoreAt 32 ?_); (first | refine S.store1 rfl 28 _ _ rfl b2 8 _ rfl rfl 0 _ rfl rfl (of_decide_eq_true rfl) (Cel.any _) rfl (by kernel_rfl) ?_ | refine S.store1 rfl 28 _ _ rfl b2 8 _ rfl rfl 1 _ rfl rfl (of_decide_eq_true rfl) (Cel.any _) rfl (by kernel_rfl) ?_); clear S; intro w2 S; (simp only [Cel.cells, IV.cellsL, zeroL, List.set_cons_zero, List.set_cons_succ, startI, secondI, noneI] at S))
      | ((with_reducible refine wpl_isDst 33 ?_); (first | refine S.ldAll 30 _ rfl b2 rfl 0 _ rfl _ Try.underlying30 rfl (szA _ rfl) rfl ?_ | refine S.ldAll 30 _ rfl b2 rfl 1 _ rfl _ Try.underlying30 rfl (szA _ rfl) rfl ?_))
      | (go_at_call 47; refine (C_checked.out _).mono ?_; rintro e wf ⟨rfl, hbf⟩; replace S := S.below hbf; clear hbf)
      | (go_at_call 13; refine (none_c 64 x hx _).mono ?_; rintro e wf ⟨rfl, hbf⟩; replace S := S.below hbf; clear hbf))
    (try simp only [Exit.inBlock, Exit.then])
    (first | refine bodyPost_ret (S.results rfl _ _ rfl 0 _ rfl _ Try.underlying30 rfl (szA _ rfl)) rfl ?_ | refine bodyPost_ret (S.results rfl _ _ rfl 1 _ rfl _ Try.underlying30 rfl (szA _ rfl)) rfl ?_)
    exact ⟨rfl, S.low⟩
end Go.Proofs.Ytigmekboikgoaaa
