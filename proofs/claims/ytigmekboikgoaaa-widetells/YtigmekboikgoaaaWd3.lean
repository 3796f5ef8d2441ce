/- Stage 9: branches, walked. -/
import Derived.Test.YtigmekboikgoaaaWd2
import Derived.Test.YtigmekboikgoaaaXp
namespace Go.Proofs.Ytigmekboikgoaaa
open Go.ChangeShapes Go.WideShapes Go.ChangeAt Go.RowKit
set_option linter.unusedVariables false
set_option linter.unusedSimpArgs false

def lk (a b : Nat) : Nat := (1 + a + b) % 2
def farX (x : Nat) : Nat := fd x 26 1 * 16777216 + lk (fd x 13 1) (fd x 26 1) * 8388608 + lk (fd x 11 1) (fd x 26 1) * 4194304 + fd x 16 10 * 4096 + fd x 0 11 * 2
def condX (x : Nat) : Nat := fd x 26 1 * 1048576 + fd x 11 1 * 524288 + fd x 13 1 * 262144 + fd x 16 6 * 4096 + fd x 0 11 * 2
def brI (op cond : Int) (v : Int) : IV := ⟨op, true, false, cond, 0, 0, 0, 0, v, false, 0, 0, 0, false, false⟩
def condI (x : Nat) : IV := bif Nat.ble 14 (fd x 22 4) then noneI 64 x else brI 54 (fd x 22 4 : Nat) (signS (condX x : Nat) 21)
def branchG (b12 b14 : Nat) (c n f g : IV) : IV := bif Nat.beq b12 0 then (bif Nat.beq b14 0 then c else n) else bif Nat.beq b14 0 then f else g
def branchI (x : Nat) : IV := branchG (fd x 12 1) (fd x 14 1) (condI x) (noneI 64 x) (brI 54 14 (signS (farX x : Nat) 25)) (brI 55 14 (signS (farX x : Nat) 25))
theorem branchG00 (c n f g : IV) : branchG 0 0 c n f g = c := rfl
theorem branchG01 (c n f g : IV) : branchG 0 1 c n f g = n := rfl
theorem branchG10 (c n f g : IV) : branchG 1 0 c n f g = f := rfl
theorem branchG11 (c n f g : IV) : branchG 1 1 c n f g = g := rfl
theorem nbeq (a b : Nat) : Nat.beq a b = decide (a = b) := by
  rw [Bool.eq_iff_iff]
  simp
theorem nble (a b : Nat) : Nat.ble a b = decide (a ≤ b) := by
  rw [Bool.eq_iff_iff]
  simp
theorem i64_join (x y i : Nat) (hx : x % 2 ^ i = 0) (hx1 : x < 2 ^ 32) (hy : y < 2 ^ i) (hi : i ≤ 32) : bits .or .i64 (x : Int) (y : Int) = ((x + y : Nat) : Int) := by
  have h2 : 2 ^ i ≤ 2 ^ 32 := Nat.pow_le_pow_right (by decide) hi
  rw [(bits_nat .i64 33 (by decide) (fun n h1 h2 => by rw [IntKind.wrap_i64]; omega) x y (by omega) (by omega)).2]
  have hq : x = 2 ^ i * (x / 2 ^ i) := by
    have := Nat.div_add_mod x (2 ^ i)
    omega
  rw [hq, ← Nat.two_pow_add_eq_or_of_lt hy (x / 2 ^ i)]
theorem like_c (a b : Nat) (ha : a < 2) (hb : b < 2) (w : World) : Calls Try.prog 80 #[.int .i64 a, .int .i64 b] w fun e w' => e = .returned (.int .i64 (lk a b : Nat)) ∧ w' = w := by
  rcases (show a = 0 ∨ a = 1 by omega) with rfl | rfl <;> rcases (show b = 0 ∨ b = 1 by omega) with rfl | rfl
  all_goals
    go_enter Try.func80, Try.ntmps80
    go_wp2
    go_ret
    exact ⟨rfl, rfl⟩
theorem and_pow (x k : Nat) : x &&& 2 ^ k = fd x k 1 * 2 ^ k := by
  apply Nat.eq_of_testBit_eq
  intro i
  rw [Nat.testBit_and, Nat.testBit_two_pow, Nat.testBit_mul_two_pow]
  unfold fd
  rw [Nat.testBit_mod_two_pow, Nat.testBit_div_two_pow]
  by_cases h : k = i
  · subst h; simp
  · by_cases h2 : k ≤ i
    · have : ¬ (i - k < 1) := by omega
      simp [h, this]
    · simp [h, h2]
theorem and_mid (x a s : Nat) : x &&& ((2 ^ s - 1) * 2 ^ a) = fd x a s * 2 ^ a := by
  apply Nat.eq_of_testBit_eq
  intro i
  rw [Nat.testBit_and, Nat.testBit_mul_two_pow, Nat.testBit_mul_two_pow, Nat.testBit_two_pow_sub_one]
  unfold fd
  rw [Nat.testBit_mod_two_pow, Nat.testBit_div_two_pow]
  by_cases h2 : a ≤ i
  · rw [show i - a + a = i by omega]
    cases x.testBit i <;> simp [h2]
  · simp [h2]
theorem u32_mid (x a s : Nat) (m : Int) (hx : x < 4294967296) (hm : m = (((2 ^ s - 1) * 2 ^ a : Nat) : Int)) (h32 : (2 ^ s - 1) * 2 ^ a < 4294967296) : bits .and .u32 (x : Int) m = ((fd x a s * 2 ^ a : Nat) : Int) := by
  rw [hm, u32_and_nat _ _ hx h32, and_mid]
theorem mk53 (x : Nat) (hx : x < 4294967296) : bits .and .u32 (x : Int) 53248 = ((fd x 15 1 * 32768 + fd x 14 1 * 16384 + fd x 12 1 * 4096 : Nat) : Int) := by
  rw [show (53248 : Int) = ((53248 : Nat) : Int) from rfl, u32_and_nat _ _ hx (by decide)]
  refine congrArg _ ?_
  have e1 : x &&& 32768 = fd x 15 1 * 32768 := and_pow x 15
  have e2 : x &&& 16384 = fd x 14 1 * 16384 := and_pow x 14
  have e3 : x &&& 4096 = fd x 12 1 * 4096 := and_pow x 12
  rw [show (53248 : Nat) = 32768 ||| (16384 ||| 4096) by decide, Nat.and_or_distrib_left, Nat.and_or_distrib_left, e1, e2, e3]
  have f1 := fd_lt x 15 1
  have f2 := fd_lt x 14 1
  have f3 := fd_lt x 12 1
  generalize fd x 15 1 = a at *
  generalize fd x 14 1 = b at *
  generalize fd x 12 1 = c at *
  rcases (show a = 0 ∨ a = 1 by omega) with rfl | rfl <;> rcases (show b = 0 ∨ b = 1 by omega) with rfl | rfl <;> rcases (show c = 0 ∨ c = 1 by omega) with rfl | rfl <;> decide
set_option maxHeartbeats 4000000 in
set_option maxRecDepth 100000 in
theorem far_c (x : Nat) (hx : x < 4294967296) (w : World) : Calls Try.prog 44 #[.int .u32 x] w fun e w' => e = .returned (.int .u32 (signS (farX x : Nat) 25)) ∧ Below w.heap.size w w' := by
  have HF : Hid (farX x = fd x 26 1 * 16777216 + lk (fd x 13 1) (fd x 26 1) * 8388608 + lk (fd x 11 1) (fd x 26 1) * 4194304 + fd x 16 10 * 4096 + fd x 0 11 * 2) := rfl
  generalize farX x = FX at *
  have F26_1 : Hid (∀ w, Calls Try.prog 46 #[.int .u32 x, .int .i64 26, .int .i64 1] w fun e w' => e = .returned (.int .i64 (fd x 26 1 : Nat)) ∧ Below w.heap.size w w') := field_26_1 x hx
  have f26_1 : fd x 26 1 < 2 := fd_lt x 26 1
  generalize fd x 26 1 = g26_1 at *
  have F13_1 : Hid (∀ w, Calls Try.prog 46 #[.int .u32 x, .int .i64 13, .int .i64 1] w fun e w' => e = .returned (.int .i64 (fd x 13 1 : Nat)) ∧ Below w.heap.size w w') := field_13_1 x hx
  have f13_1 : fd x 13 1 < 2 := fd_lt x 13 1
  generalize fd x 13 1 = g13_1 at *
  have F11_1 : Hid (∀ w, Calls Try.prog 46 #[.int .u32 x, .int .i64 11, .int .i64 1] w fun e w' => e = .returned (.int .i64 (fd x 11 1 : Nat)) ∧ Below w.heap.size w w') := field_11_1 x hx
  have f11_1 : fd x 11 1 < 2 := fd_lt x 11 1
  generalize fd x 11 1 = g11_1 at *
  have F16_10 : Hid (∀ w, Calls Try.prog 46 #[.int .u32 x, .int .i64 16, .int .i64 10] w fun e w' => e = .returned (.int .i64 (fd x 16 10 : Nat)) ∧ Below w.heap.size w w') := field_16_10 x hx
  have f16_10 : fd x 16 10 < 1024 := fd_lt x 16 10
  generalize fd x 16 10 = g16_10 at *
  have F0_11 : Hid (∀ w, Calls Try.prog 46 #[.int .u32 x, .int .i64 0, .int .i64 11] w fun e w' => e = .returned (.int .i64 (fd x 0 11 : Nat)) ∧ Below w.heap.size w w') := field_0_11 x hx
  have f0_11 : fd x 0 11 < 2048 := fd_lt x 0 11
  generalize fd x 0 11 = g0_11 at *
  have L1 : Hid (∀ w, Calls Try.prog 80 #[.int .i64 g13_1, .int .i64 g26_1] w fun e w' => e = .returned (.int .i64 (lk g13_1 g26_1 : Nat)) ∧ w' = w) := like_c _ _ f13_1 f26_1
  have L2 : Hid (∀ w, Calls Try.prog 80 #[.int .i64 g11_1, .int .i64 g26_1] w fun e w' => e = .returned (.int .i64 (lk g11_1 g26_1 : Nat)) ∧ w' = w) := like_c _ _ f11_1 f26_1
  have l1 : lk g13_1 g26_1 < 2 := Nat.mod_lt _ (by decide)
  have l2 : lk g11_1 g26_1 < 2 := Nat.mod_lt _ (by decide)
  generalize lk g13_1 g26_1 = a1 at *
  generalize lk g11_1 g26_1 = a2 at *
  have j1 : bits .or .i64 ((g26_1 : Int) * 16777216) ((a1 : Int) * 8388608) = ((g26_1 * 16777216 + a1 * 8388608 : Nat) : Int) := i64_join (g26_1 * 16777216) (a1 * 8388608) 24 (by omega) (by omega) (by omega) (by decide)
  obtain ⟨q1, e1⟩ : ∃ q1, g26_1 * 16777216 + a1 * 8388608 = q1 := ⟨_, rfl⟩
  have j2 : bits .or .i64 (q1 : Int) ((a2 : Int) * 4194304) = ((q1 + a2 * 4194304 : Nat) : Int) := i64_join q1 (a2 * 4194304) 23 (by omega) (by omega) (by omega) (by decide)
  obtain ⟨q2, e2⟩ : ∃ q2, q1 + a2 * 4194304 = q2 := ⟨_, rfl⟩
  have j3 : bits .or .i64 (q2 : Int) ((g16_10 : Int) * 4096) = ((q2 + g16_10 * 4096 : Nat) : Int) := i64_join q2 (g16_10 * 4096) 22 (by omega) (by omega) (by omega) (by decide)
  obtain ⟨q3, e3⟩ : ∃ q3, q2 + g16_10 * 4096 = q3 := ⟨_, rfl⟩
  have j4 : bits .or .i64 (q3 : Int) ((g0_11 : Int) * 2) = ((q3 + g0_11 * 2 : Nat) : Int) := i64_join q3 (g0_11 * 2) 12 (by omega) (by omega) (by omega) (by decide)
  have hq : FX = q3 + g0_11 * 2 := by rw [HF.out, ← e3, ← e2, ← e1]
  have hb : FX < 33554432 := by omega
  rw [e1] at j1
  rw [e2] at j2
  rw [e3] at j3
  rw [← hq] at j4
  have CS : Hid (∀ w, Calls Try.prog 79 #[.int .u32 (FX : Nat), .int .i64 25] w fun e w' => e = .returned (.int .u32 (signS (FX : Nat) 25)) ∧ w' = w) := fun w => by
    have := sign_c (FX : Nat) 25 (by decide) (by decide) (by omega) (by omega) w
    exact this
  clear HF e1 e2 e3 hq
  generalize signS (FX : Nat) 25 = R at *
  go_enter Try.func44, Try.ntmps44
  have S := SH.start w
  go_wp2_with (first
    | (go_at_call 46; (first | with_reducible refine (F26_1.out _).mono ?_ | with_reducible refine (F13_1.out _).mono ?_ | with_reducible refine (F11_1.out _).mono ?_ | with_reducible refine (F16_10.out _).mono ?_ | with_reducible refine (F0_11.out _).mono ?_); rintro e wf ⟨rfl, hbf⟩; replace S := S.below hbf; clear hbf)
    | (go_at_call 80; (first | with_reducible refine (L1.out _).mono ?_ | with_reducible refine (L2.out _).mono ?_); rintro e wf ⟨rfl, rfl⟩)
    | (go_at_call 79; refine (CS.out _).mono ?_; rintro e wf ⟨rfl, rfl⟩))
  go_ret
  exact ⟨rfl, S.low⟩
set_option maxHeartbeats 4000000 in
set_option maxRecDepth 100000 in
theorem cond_c (x : Nat) (hx : x < 4294967296) (w : World) : Calls Try.prog 43 #[.int .u32 x] w fun e w' => Says w (condI x) e w' := by
  unfold Says
  by_cases hc : 14 ≤ fd x 22 4
  · have e : condI x = noneI 64 x := by
      unfold condI
      rw [nble]
      simp [hc]
    rw [e]
    have F22_4 : Hid (∀ w, Calls Try.prog 46 #[.int .u32 x, .int .i64 22, .int .i64 4] w fun e w' => e = .returned (.int .i64 (fd x 22 4 : Nat)) ∧ Below w.heap.size w w') := field_22_4 x hx
    have f22_4 : fd x 22 4 < 16 := fd_lt x 22 4
    generalize fd x 22 4 = g22_4 at *
    have hd : decide ((14 : Int) ≤ (g22_4 : Int)) = true := by simp; omega
    clear hc e
    go_enter Try.func43, Try.ntmps43
    have S := SH.start w
    go_wp2_with (first
      | (go_at_call 46; (first | with_reducible refine (F22_4.out _).mono ?_); rintro e wf ⟨rfl, hbf⟩; replace S := S.below hbf; clear hbf)
      | (go_at_call 13; refine (none_c _ x hx _).mono ?_; rintro e wf ⟨rfl, hbf⟩; replace S := S.below hbf; clear hbf)
      | ((with_reducible refine wpl_is ?_); first
        | (refine SH.alloc (L := []) S rfl 30 rfl (Cel.iv IV.zero) zeroIV ?_; clear S; intro b1 w1 S)
        | (refine S.storeAll rfl 30 _ _ rfl b1 (Cel.iv (noneI 64 x)) rfl rfl 0 _ rfl rfl (one_iv _) (szIV _) ?_; clear S; intro w2 S; simp only [List.set_cons_zero] at S)))
    (try simp only [Exit.inBlock, Exit.then])
    refine bodyPost_ret (S.results rfl _ _ rfl 0 _ rfl _ Try.underlying30 rfl (szIV _)) rfl ⟨rfl, S.low⟩
  · have e : condI x = brI 54 (fd x 22 4 : Nat) (signS (condX x : Nat) 21) := by
      unfold condI
      rw [nble]
      simp [hc]
    rw [e]
    have HF : Hid (condX x = fd x 26 1 * 1048576 + fd x 11 1 * 524288 + fd x 13 1 * 262144 + fd x 16 6 * 4096 + fd x 0 11 * 2) := rfl
    generalize condX x = FX at *
    clear e
    have F22_4 : Hid (∀ w, Calls Try.prog 46 #[.int .u32 x, .int .i64 22, .int .i64 4] w fun e w' => e = .returned (.int .i64 (fd x 22 4 : Nat)) ∧ Below w.heap.size w w') := field_22_4 x hx
    have f22_4 : fd x 22 4 < 16 := fd_lt x 22 4
    generalize fd x 22 4 = g22_4 at *
    have F26_1 : Hid (∀ w, Calls Try.prog 46 #[.int .u32 x, .int .i64 26, .int .i64 1] w fun e w' => e = .returned (.int .i64 (fd x 26 1 : Nat)) ∧ Below w.heap.size w w') := field_26_1 x hx
    have f26_1 : fd x 26 1 < 2 := fd_lt x 26 1
    generalize fd x 26 1 = g26_1 at *
    have F11_1 : Hid (∀ w, Calls Try.prog 46 #[.int .u32 x, .int .i64 11, .int .i64 1] w fun e w' => e = .returned (.int .i64 (fd x 11 1 : Nat)) ∧ Below w.heap.size w w') := field_11_1 x hx
    have f11_1 : fd x 11 1 < 2 := fd_lt x 11 1
    generalize fd x 11 1 = g11_1 at *
    have F13_1 : Hid (∀ w, Calls Try.prog 46 #[.int .u32 x, .int .i64 13, .int .i64 1] w fun e w' => e = .returned (.int .i64 (fd x 13 1 : Nat)) ∧ Below w.heap.size w w') := field_13_1 x hx
    have f13_1 : fd x 13 1 < 2 := fd_lt x 13 1
    generalize fd x 13 1 = g13_1 at *
    have F16_6 : Hid (∀ w, Calls Try.prog 46 #[.int .u32 x, .int .i64 16, .int .i64 6] w fun e w' => e = .returned (.int .i64 (fd x 16 6 : Nat)) ∧ Below w.heap.size w w') := field_16_6 x hx
    have f16_6 : fd x 16 6 < 64 := fd_lt x 16 6
    generalize fd x 16 6 = g16_6 at *
    have F0_11 : Hid (∀ w, Calls Try.prog 46 #[.int .u32 x, .int .i64 0, .int .i64 11] w fun e w' => e = .returned (.int .i64 (fd x 0 11 : Nat)) ∧ Below w.heap.size w w') := field_0_11 x hx
    have f0_11 : fd x 0 11 < 2048 := fd_lt x 0 11
    generalize fd x 0 11 = g0_11 at *
    have hd : decide ((14 : Int) ≤ (g22_4 : Int)) = false := by simp; omega
    have j1 : bits .or .i64 ((g26_1 : Int) * 1048576) ((g11_1 : Int) * 524288) = ((g26_1 * 1048576 + g11_1 * 524288 : Nat) : Int) := i64_join (g26_1 * 1048576) (g11_1 * 524288) 20 (by omega) (by omega) (by omega) (by decide)
    obtain ⟨q1, e1⟩ : ∃ q1, g26_1 * 1048576 + g11_1 * 524288 = q1 := ⟨_, rfl⟩
    have j2 : bits .or .i64 (q1 : Int) ((g13_1 : Int) * 262144) = ((q1 + g13_1 * 262144 : Nat) : Int) := i64_join q1 (g13_1 * 262144) 19 (by omega) (by omega) (by omega) (by decide)
    obtain ⟨q2, e2⟩ : ∃ q2, q1 + g13_1 * 262144 = q2 := ⟨_, rfl⟩
    have j3 : bits .or .i64 (q2 : Int) ((g16_6 : Int) * 4096) = ((q2 + g16_6 * 4096 : Nat) : Int) := i64_join q2 (g16_6 * 4096) 18 (by omega) (by omega) (by omega) (by decide)
    obtain ⟨q3, e3⟩ : ∃ q3, q2 + g16_6 * 4096 = q3 := ⟨_, rfl⟩
    have j4 : bits .or .i64 (q3 : Int) ((g0_11 : Int) * 2) = ((q3 + g0_11 * 2 : Nat) : Int) := i64_join q3 (g0_11 * 2) 12 (by omega) (by omega) (by omega) (by decide)
    have hq : FX = q3 + g0_11 * 2 := by rw [HF.out, ← e3, ← e2, ← e1]
    have hb : FX < 2097152 := by omega
    rw [e1] at j1
    rw [e2] at j2
    rw [e3] at j3
    rw [← hq] at j4
    have CS : Hid (∀ w, Calls Try.prog 79 #[.int .u32 (FX : Nat), .int .i64 21] w fun e w' => e = .returned (.int .u32 (signS (FX : Nat) 21)) ∧ w' = w) := fun w => by
      have := sign_c (FX : Nat) 21 (by decide) (by decide) (by omega) (by omega) w
      exact this
    clear HF e1 e2 e3 hq hc
    generalize signS (FX : Nat) 21 = R at *
    go_enter Try.func43, Try.ntmps43
    have S := SH.start w
    go_wp2_with (first
      | (go_at_call 46; (first | with_reducible refine (F22_4.out _).mono ?_ | with_reducible refine (F26_1.out _).mono ?_ | with_reducible refine (F11_1.out _).mono ?_ | with_reducible refine (F13_1.out _).mono ?_ | with_reducible refine (F16_6.out _).mono ?_ | with_reducible refine (F0_11.out _).mono ?_); rintro e wf ⟨rfl, hbf⟩; replace S := S.below hbf; clear hbf)
      | (go_at_call 79; refine (CS.out _).mono ?_; rintro e wf ⟨rfl, rfl⟩)
      | ((with_reducible refine wpl_is ?_); first
        | (refine SH.alloc (L := []) S rfl 30 rfl (Cel.iv IV.zero) zeroIV ?_; clear S; intro b1 w1 S)
        | (refine S.storeAll rfl 30 _ _ rfl b1 (Cel.iv (brI 54 (g22_4 : Nat) R)) rfl rfl 0 _ rfl rfl (one_iv _) (szIV _) ?_; clear S; intro w2 S; simp only [List.set_cons_zero] at S)))
    (try simp only [Exit.inBlock, Exit.then])
    refine bodyPost_ret (S.results rfl _ _ rfl 0 _ rfl _ Try.underlying30 rfl (szIV _)) rfl ⟨rfl, S.low⟩
set_option maxHeartbeats 4000000 in
set_option maxRecDepth 100000 in
theorem br0_c (x : Nat) (hx : x < 4294967296) (hk : bits .and .u32 (x : Int) 53248 = 32768) (w : World) : Calls Try.prog 19 #[.int .u32 x] w fun e w' => e = .returned (condI x).val ∧ Below w.heap.size w w' := by
  go_enter Try.func19, Try.ntmps19
  have S := SH.start w
  go_wp2_with (first
    | (go_at_call 43; refine (cond_c x hx _).mono ?_; rintro e wf ⟨rfl, hbf⟩; replace S := S.below hbf; clear hbf)
    | ((with_reducible refine wpl_is ?_); first
      | (refine SH.alloc (L := []) S rfl 30 rfl (Cel.iv IV.zero) zeroIV ?_; clear S; intro b1 w1 S)
      | (refine S.storeAll rfl 30 _ _ rfl b1 (Cel.iv (condI x)) rfl rfl 0 _ rfl rfl (one_iv _) (szIV _) ?_; clear S; intro w2 S; simp only [List.set_cons_zero] at S)))
  (try simp only [Exit.inBlock, Exit.then])
  refine bodyPost_ret (S.results rfl _ _ rfl 0 _ rfl _ Try.underlying30 rfl (szIV _)) rfl ⟨rfl, S.low⟩
set_option maxHeartbeats 4000000 in
set_option maxRecDepth 100000 in
theorem br1_c (x : Nat) (hx : x < 4294967296) (hk : bits .and .u32 (x : Int) 53248 = 49152) (w : World) : Calls Try.prog 19 #[.int .u32 x] w fun e w' => e = .returned (noneI 64 x).val ∧ Below w.heap.size w w' := by
  go_enter Try.func19, Try.ntmps19
  have S := SH.start w
  go_wp2_with (first
    | (go_at_call 13; refine (none_c _ x hx _).mono ?_; rintro e wf ⟨rfl, hbf⟩; replace S := S.below hbf; clear hbf)
    | ((with_reducible refine wpl_is ?_); first
      | (refine SH.alloc (L := []) S rfl 30 rfl (Cel.iv IV.zero) zeroIV ?_; clear S; intro b1 w1 S)
      | (refine S.storeAll rfl 30 _ _ rfl b1 (Cel.iv (noneI 64 x)) rfl rfl 0 _ rfl rfl (one_iv _) (szIV _) ?_; clear S; intro w2 S; simp only [List.set_cons_zero] at S)))
  (try simp only [Exit.inBlock, Exit.then])
  refine bodyPost_ret (S.results rfl _ _ rfl 0 _ rfl _ Try.underlying30 rfl (szIV _)) rfl ⟨rfl, S.low⟩
set_option maxHeartbeats 4000000 in
set_option maxRecDepth 100000 in
theorem br2_c (x : Nat) (hx : x < 4294967296) (hk : bits .and .u32 (x : Int) 53248 = 36864) (w : World) : Calls Try.prog 19 #[.int .u32 x] w fun e w' => e = .returned (brI 54 14 (signS (farX x : Nat) 25)).val ∧ Below w.heap.size w w' := by
  have CFF : Hid (∀ w, Calls Try.prog 44 #[.int .u32 x] w fun e w' => e = .returned (.int .u32 (signS (farX x : Nat) 25)) ∧ Below w.heap.size w w') := far_c x hx
  generalize signS (farX x : Nat) 25 = R at *
  go_enter Try.func19, Try.ntmps19
  have S := SH.start w
  go_wp2_with (first
    | (go_at_call 44; refine (CFF.out _).mono ?_; rintro e wf ⟨rfl, hbf⟩; replace S := S.below hbf; clear hbf)
    | ((with_reducible refine wpl_is ?_); first
      | (refine SH.alloc (L := []) S rfl 30 rfl (Cel.iv IV.zero) zeroIV ?_; clear S; intro b1 w1 S)
      | (refine S.storeAll rfl 30 _ _ rfl b1 (Cel.iv (brI 54 14 R)) rfl rfl 0 _ rfl rfl (one_iv _) (szIV _) ?_; clear S; intro w2 S; simp only [List.set_cons_zero] at S)))
  (try simp only [Exit.inBlock, Exit.then])
  refine bodyPost_ret (S.results rfl _ _ rfl 0 _ rfl _ Try.underlying30 rfl (szIV _)) rfl ⟨rfl, S.low⟩
set_option maxHeartbeats 4000000 in
set_option maxRecDepth 100000 in
theorem br3_c (x : Nat) (hx : x < 4294967296) (hk : bits .and .u32 (x : Int) 53248 = 53248) (w : World) : Calls Try.prog 19 #[.int .u32 x] w fun e w' => e = .returned (brI 55 14 (signS (farX x : Nat) 25)).val ∧ Below w.heap.size w w' := by
  have CFF : Hid (∀ w, Calls Try.prog 44 #[.int .u32 x] w fun e w' => e = .returned (.int .u32 (signS (farX x : Nat) 25)) ∧ Below w.heap.size w w') := far_c x hx
  generalize signS (farX x : Nat) 25 = R at *
  go_enter Try.func19, Try.ntmps19
  have S := SH.start w
  go_wp2_with (first
    | (go_at_call 44; refine (CFF.out _).mono ?_; rintro e wf ⟨rfl, hbf⟩; replace S := S.below hbf; clear hbf)
    | ((with_reducible refine wpl_is ?_); first
      | (refine SH.alloc (L := []) S rfl 30 rfl (Cel.iv IV.zero) zeroIV ?_; clear S; intro b1 w1 S)
      | (refine S.storeAll rfl 30 _ _ rfl b1 (Cel.iv (brI 55 14 R)) rfl rfl 0 _ rfl rfl (one_iv _) (szIV _) ?_; clear S; intro w2 S; simp only [List.set_cons_zero] at S)))
  (try simp only [Exit.inBlock, Exit.then])
  refine bodyPost_ret (S.results rfl _ _ rfl 0 _ rfl _ Try.underlying30 rfl (szIV _)) rfl ⟨rfl, S.low⟩
theorem kk (x : Nat) (hx : x < 4294967296) (b14 b12 n : Nat) (h15 : fd x 15 1 = 1) (h14 : fd x 14 1 = b14) (h12 : fd x 12 1 = b12) (hn : 32768 + b14 * 16384 + b12 * 4096 = n) : bits .and .u32 (x : Int) 53248 = (n : Int) := by
  rw [mk53 x hx, h15, h14, h12, ← hn, Nat.one_mul]
theorem brI0 (x : Nat) (h14 : fd x 14 1 = 0) (h12 : fd x 12 1 = 0) : branchI x = condI x := by
  unfold branchI
  rw [h14, h12]
  exact branchG00 _ _ _ _
theorem brI1 (x : Nat) (h14 : fd x 14 1 = 1) (h12 : fd x 12 1 = 0) : branchI x = noneI 64 x := by
  unfold branchI
  rw [h14, h12]
  exact branchG01 _ _ _ _
theorem brI2 (x : Nat) (h14 : fd x 14 1 = 0) (h12 : fd x 12 1 = 1) : branchI x = brI 54 14 (signS (farX x : Nat) 25) := by
  unfold branchI
  rw [h14, h12]
  exact branchG10 _ _ _ _
theorem brI3 (x : Nat) (h14 : fd x 14 1 = 1) (h12 : fd x 12 1 = 1) : branchI x = brI 55 14 (signS (farX x : Nat) 25) := by
  unfold branchI
  rw [h14, h12]
  exact branchG11 _ _ _ _
theorem branch_c (x : Nat) (hx : x < 4294967296) (h15 : fd x 15 1 = 1) (w : World) : Calls Try.prog 19 #[.int .u32 x] w fun e w' => Says w (branchI x) e w' := by
  have f14 : fd x 14 1 < 2 := fd_lt x 14 1
  have f12 : fd x 12 1 < 2 := fd_lt x 12 1
  rcases (show (fd x 14 1 = 0 ∧ fd x 12 1 = 0) ∨ (fd x 14 1 = 1 ∧ fd x 12 1 = 0) ∨ (fd x 14 1 = 0 ∧ fd x 12 1 = 1) ∨ (fd x 14 1 = 1 ∧ fd x 12 1 = 1) by omega) with h | h | h | h
  · exact (brI0 x h.1 h.2).symm ▸ br0_c x hx (kk x hx 0 0 32768 h15 h.1 h.2 rfl) w
  · exact (brI1 x h.1 h.2).symm ▸ br1_c x hx (kk x hx 1 0 49152 h15 h.1 h.2 rfl) w
  · exact (brI2 x h.1 h.2).symm ▸ br2_c x hx (kk x hx 0 1 36864 h15 h.1 h.2 rfl) w
  · exact (brI3 x h.1 h.2).symm ▸ br3_c x hx (kk x hx 1 1 53248 h15 h.1 h.2 rfl) w
end Go.Proofs.Ytigmekboikgoaaa
