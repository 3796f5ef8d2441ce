/- Stage 9: numbers put into a wide word, walked. -/
import Derived.Test.YtigmekboikgoaaaWd3
namespace Go.Proofs.Ytigmekboikgoaaa
open Go.ChangeShapes Go.WideShapes Go.ChangeAt Go.RowKit
set_option linter.unusedVariables false
set_option linter.unusedSimpArgs false

theorem u32_join (x y i : Nat) (hx : x % 2 ^ i = 0) (hx1 : x < 4294967296) (hy : y < 2 ^ i) (hy1 : y < 4294967296) : bits .or .u32 (x : Int) (y : Int) = ((x + y : Nat) : Int) := by
  rw [u32_or_nat x y hx1 hy1]
  have hq : x = 2 ^ i * (x / 2 ^ i) := by
    have := Nat.div_add_mod x (2 ^ i)
    omega
  rw [hq, ← Nat.two_pow_add_eq_or_of_lt hy (x / 2 ^ i)]
/-- A part that lies between two others. -/
theorem u32_between (A y B i j : Nat) (hA : A % 2 ^ j = 0) (hy0 : y % 2 ^ i = 0) (hy : y < 2 ^ j) (hB : B < 2 ^ i) (hij : i ≤ j) (h32 : A + y + B < 4294967296) : bits .or .u32 ((A + B : Nat) : Int) (y : Int) = ((A + y + B : Nat) : Int) := by
  rw [u32_or_nat _ _ (by omega) (by omega)]
  have hle : 2 ^ i ≤ 2 ^ j := Nat.pow_le_pow_right (by decide) hij
  have hqA : A = 2 ^ j * (A / 2 ^ j) := by
    have := Nat.div_add_mod A (2 ^ j)
    omega
  have hqy : y = 2 ^ i * (y / 2 ^ i) := by
    have := Nat.div_add_mod y (2 ^ i)
    omega
  have e1 : A + B = A ||| B := by
    rw [hqA]
    exact Nat.two_pow_add_eq_or_of_lt (Nat.lt_of_lt_of_le hB hle) _
  have e2 : y + B = y ||| B := by
    rw [hqy]
    exact Nat.two_pow_add_eq_or_of_lt hB _
  have hyB : y + B < 2 ^ j := by
    have h3 : y / 2 ^ i < 2 ^ (j - i) := by
      rw [Nat.div_lt_iff_lt_mul (Nat.two_pow_pos i), ← Nat.pow_add]
      rwa [show j - i + i = j by omega]
    have h4 : 2 ^ i * (y / 2 ^ i + 1) ≤ 2 ^ j := by
      have h5 : 2 ^ i * (y / 2 ^ i + 1) ≤ 2 ^ i * 2 ^ (j - i) := Nat.mul_le_mul_left _ h3
      rwa [← Nat.pow_add, show i + (j - i) = j by omega] at h5
    rw [Nat.mul_add, Nat.mul_one] at h4
    omega
  have e3 : A + (y + B) = A ||| (y + B) := by
    rw [hqA]
    exact Nat.two_pow_add_eq_or_of_lt hyB _
  rw [e1, Nat.or_assoc, Nat.or_comm B y, ← e2, ← e3]
  exact congrArg _ (by omega)
theorem put_26_1 (v : Nat) (hv : v < 9223372036854775808) (w : World) : Calls Try.prog 74 #[.int .i64 v, .int .i64 26, .int .i64 1] w fun e w' => e = .returned (.int .u32 (v % 2 * 67108864 : Nat)) ∧ w' = w := by
  have h1 : bits .and .u32 ((v : Int) % 4294967296) 1 = ((v % 2 : Nat) : Int) := by
    have e0 : ((v : Int) % 4294967296) = ((v % 4294967296 : Nat) : Int) := by omega
    rw [e0, show (1 : Int) = ((1 : Nat) : Int) from rfl, u32_and_nat _ _ (by omega) (by decide), show (1 : Nat) = 2 ^ 1 - 1 from rfl, Nat.and_two_pow_sub_one_eq_mod]
    omega
  have hx : v % 2 < 2 := Nat.mod_lt _ (by decide)
  generalize v % 2 = x at *
  have he : ((x : Int) * 67108864) % 4294967296 = (x : Int) * 67108864 := by omega
  have he2 : (x : Int) % 4294967296 = (x : Int) := by omega
  go_enter Try.func74, Try.ntmps74
  go_wp2
  go_ret
  exact ⟨by first | rfl | (rw [Nat.mul_one]; rfl), rfl⟩
theorem put_13_1 (v : Nat) (hv : v < 9223372036854775808) (w : World) : Calls Try.prog 74 #[.int .i64 v, .int .i64 13, .int .i64 1] w fun e w' => e = .returned (.int .u32 (v % 2 * 8192 : Nat)) ∧ w' = w := by
  have h1 : bits .and .u32 ((v : Int) % 4294967296) 1 = ((v % 2 : Nat) : Int) := by
    have e0 : ((v : Int) % 4294967296) = ((v % 4294967296 : Nat) : Int) := by omega
    rw [e0, show (1 : Int) = ((1 : Nat) : Int) from rfl, u32_and_nat _ _ (by omega) (by decide), show (1 : Nat) = 2 ^ 1 - 1 from rfl, Nat.and_two_pow_sub_one_eq_mod]
    omega
  have hx : v % 2 < 2 := Nat.mod_lt _ (by decide)
  generalize v % 2 = x at *
  have he : ((x : Int) * 8192) % 4294967296 = (x : Int) * 8192 := by omega
  have he2 : (x : Int) % 4294967296 = (x : Int) := by omega
  go_enter Try.func74, Try.ntmps74
  go_wp2
  go_ret
  exact ⟨by first | rfl | (rw [Nat.mul_one]; rfl), rfl⟩
theorem put_11_1 (v : Nat) (hv : v < 9223372036854775808) (w : World) : Calls Try.prog 74 #[.int .i64 v, .int .i64 11, .int .i64 1] w fun e w' => e = .returned (.int .u32 (v % 2 * 2048 : Nat)) ∧ w' = w := by
  have h1 : bits .and .u32 ((v : Int) % 4294967296) 1 = ((v % 2 : Nat) : Int) := by
    have e0 : ((v : Int) % 4294967296) = ((v % 4294967296 : Nat) : Int) := by omega
    rw [e0, show (1 : Int) = ((1 : Nat) : Int) from rfl, u32_and_nat _ _ (by omega) (by decide), show (1 : Nat) = 2 ^ 1 - 1 from rfl, Nat.and_two_pow_sub_one_eq_mod]
    omega
  have hx : v % 2 < 2 := Nat.mod_lt _ (by decide)
  generalize v % 2 = x at *
  have he : ((x : Int) * 2048) % 4294967296 = (x : Int) * 2048 := by omega
  have he2 : (x : Int) % 4294967296 = (x : Int) := by omega
  go_enter Try.func74, Try.ntmps74
  go_wp2
  go_ret
  exact ⟨by first | rfl | (rw [Nat.mul_one]; rfl), rfl⟩
theorem put_16_10 (v : Nat) (hv : v < 9223372036854775808) (w : World) : Calls Try.prog 74 #[.int .i64 v, .int .i64 16, .int .i64 10] w fun e w' => e = .returned (.int .u32 (v % 1024 * 65536 : Nat)) ∧ w' = w := by
  have h1 : bits .and .u32 ((v : Int) % 4294967296) 1023 = ((v % 1024 : Nat) : Int) := by
    have e0 : ((v : Int) % 4294967296) = ((v % 4294967296 : Nat) : Int) := by omega
    rw [e0, show (1023 : Int) = ((1023 : Nat) : Int) from rfl, u32_and_nat _ _ (by omega) (by decide), show (1023 : Nat) = 2 ^ 10 - 1 from rfl, Nat.and_two_pow_sub_one_eq_mod]
    omega
  have hx : v % 1024 < 1024 := Nat.mod_lt _ (by decide)
  generalize v % 1024 = x at *
  have he : ((x : Int) * 65536) % 4294967296 = (x : Int) * 65536 := by omega
  have he2 : (x : Int) % 4294967296 = (x : Int) := by omega
  go_enter Try.func74, Try.ntmps74
  go_wp2
  go_ret
  exact ⟨by first | rfl | (rw [Nat.mul_one]; rfl), rfl⟩
theorem put_0_11 (v : Nat) (hv : v < 9223372036854775808) (w : World) : Calls Try.prog 74 #[.int .i64 v, .int .i64 0, .int .i64 11] w fun e w' => e = .returned (.int .u32 (v % 2048 * 1 : Nat)) ∧ w' = w := by
  have h1 : bits .and .u32 ((v : Int) % 4294967296) 2047 = ((v % 2048 : Nat) : Int) := by
    have e0 : ((v : Int) % 4294967296) = ((v % 4294967296 : Nat) : Int) := by omega
    rw [e0, show (2047 : Int) = ((2047 : Nat) : Int) from rfl, u32_and_nat _ _ (by omega) (by decide), show (2047 : Nat) = 2 ^ 11 - 1 from rfl, Nat.and_two_pow_sub_one_eq_mod]
    omega
  have hx : v % 2048 < 2048 := Nat.mod_lt _ (by decide)
  generalize v % 2048 = x at *
  have he : ((x : Int) * 1) % 4294967296 = (x : Int) * 1 := by omega
  have he2 : (x : Int) % 4294967296 = (x : Int) := by omega
  go_enter Try.func74, Try.ntmps74
  go_wp2
  go_ret
  exact ⟨by first | rfl | (rw [Nat.mul_one]; rfl), rfl⟩
theorem put_22_4 (v : Nat) (hv : v < 9223372036854775808) (w : World) : Calls Try.prog 74 #[.int .i64 v, .int .i64 22, .int .i64 4] w fun e w' => e = .returned (.int .u32 (v % 16 * 4194304 : Nat)) ∧ w' = w := by
  have h1 : bits .and .u32 ((v : Int) % 4294967296) 15 = ((v % 16 : Nat) : Int) := by
    have e0 : ((v : Int) % 4294967296) = ((v % 4294967296 : Nat) : Int) := by omega
    rw [e0, show (15 : Int) = ((15 : Nat) : Int) from rfl, u32_and_nat _ _ (by omega) (by decide), show (15 : Nat) = 2 ^ 4 - 1 from rfl, Nat.and_two_pow_sub_one_eq_mod]
    omega
  have hx : v % 16 < 16 := Nat.mod_lt _ (by decide)
  generalize v % 16 = x at *
  have he : ((x : Int) * 4194304) % 4294967296 = (x : Int) * 4194304 := by omega
  have he2 : (x : Int) % 4294967296 = (x : Int) := by omega
  go_enter Try.func74, Try.ntmps74
  go_wp2
  go_ret
  exact ⟨by first | rfl | (rw [Nat.mul_one]; rfl), rfl⟩
theorem put_16_6 (v : Nat) (hv : v < 9223372036854775808) (w : World) : Calls Try.prog 74 #[.int .i64 v, .int .i64 16, .int .i64 6] w fun e w' => e = .returned (.int .u32 (v % 64 * 65536 : Nat)) ∧ w' = w := by
  have h1 : bits .and .u32 ((v : Int) % 4294967296) 63 = ((v % 64 : Nat) : Int) := by
    have e0 : ((v : Int) % 4294967296) = ((v % 4294967296 : Nat) : Int) := by omega
    rw [e0, show (63 : Int) = ((63 : Nat) : Int) from rfl, u32_and_nat _ _ (by omega) (by decide), show (63 : Nat) = 2 ^ 6 - 1 from rfl, Nat.and_two_pow_sub_one_eq_mod]
    omega
  have hx : v % 64 < 64 := Nat.mod_lt _ (by decide)
  generalize v % 64 = x at *
  have he : ((x : Int) * 65536) % 4294967296 = (x : Int) * 65536 := by omega
  have he2 : (x : Int) % 4294967296 = (x : Int) := by omega
  go_enter Try.func74, Try.ntmps74
  go_wp2
  go_ret
  exact ⟨by first | rfl | (rw [Nat.mul_one]; rfl), rfl⟩
theorem put_8_4 (v : Nat) (hv : v < 9223372036854775808) (w : World) : Calls Try.prog 74 #[.int .i64 v, .int .i64 8, .int .i64 4] w fun e w' => e = .returned (.int .u32 (v % 16 * 256 : Nat)) ∧ w' = w := by
  have h1 : bits .and .u32 ((v : Int) % 4294967296) 15 = ((v % 16 : Nat) : Int) := by
    have e0 : ((v : Int) % 4294967296) = ((v % 4294967296 : Nat) : Int) := by omega
    rw [e0, show (15 : Int) = ((15 : Nat) : Int) from rfl, u32_and_nat _ _ (by omega) (by decide), show (15 : Nat) = 2 ^ 4 - 1 from rfl, Nat.and_two_pow_sub_one_eq_mod]
    omega
  have hx : v % 16 < 16 := Nat.mod_lt _ (by decide)
  generalize v % 16 = x at *
  have he : ((x : Int) * 256) % 4294967296 = (x : Int) * 256 := by omega
  have he2 : (x : Int) % 4294967296 = (x : Int) := by omega
  go_enter Try.func74, Try.ntmps74
  go_wp2
  go_ret
  exact ⟨by first | rfl | (rw [Nat.mul_one]; rfl), rfl⟩
theorem put_16_4 (v : Nat) (hv : v < 9223372036854775808) (w : World) : Calls Try.prog 74 #[.int .i64 v, .int .i64 16, .int .i64 4] w fun e w' => e = .returned (.int .u32 (v % 16 * 65536 : Nat)) ∧ w' = w := by
  have h1 : bits .and .u32 ((v : Int) % 4294967296) 15 = ((v % 16 : Nat) : Int) := by
    have e0 : ((v : Int) % 4294967296) = ((v % 4294967296 : Nat) : Int) := by omega
    rw [e0, show (15 : Int) = ((15 : Nat) : Int) from rfl, u32_and_nat _ _ (by omega) (by decide), show (15 : Nat) = 2 ^ 4 - 1 from rfl, Nat.and_two_pow_sub_one_eq_mod]
    omega
  have hx : v % 16 < 16 := Nat.mod_lt _ (by decide)
  generalize v % 16 = x at *
  have he : ((x : Int) * 65536) % 4294967296 = (x : Int) * 65536 := by omega
  have he2 : (x : Int) % 4294967296 = (x : Int) := by omega
  go_enter Try.func74, Try.ntmps74
  go_wp2
  go_ret
  exact ⟨by first | rfl | (rw [Nat.mul_one]; rfl), rfl⟩
theorem put_0_4 (v : Nat) (hv : v < 9223372036854775808) (w : World) : Calls Try.prog 74 #[.int .i64 v, .int .i64 0, .int .i64 4] w fun e w' => e = .returned (.int .u32 (v % 16 * 1 : Nat)) ∧ w' = w := by
  have h1 : bits .and .u32 ((v : Int) % 4294967296) 15 = ((v % 16 : Nat) : Int) := by
    have e0 : ((v : Int) % 4294967296) = ((v % 4294967296 : Nat) : Int) := by omega
    rw [e0, show (15 : Int) = ((15 : Nat) : Int) from rfl, u32_and_nat _ _ (by omega) (by decide), show (15 : Nat) = 2 ^ 4 - 1 from rfl, Nat.and_two_pow_sub_one_eq_mod]
    omega
  have hx : v % 16 < 16 := Nat.mod_lt _ (by decide)
  generalize v % 16 = x at *
  have he : ((x : Int) * 1) % 4294967296 = (x : Int) * 1 := by omega
  have he2 : (x : Int) % 4294967296 = (x : Int) := by omega
  go_enter Try.func74, Try.ntmps74
  go_wp2
  go_ret
  exact ⟨by first | rfl | (rw [Nat.mul_one]; rfl), rfl⟩
theorem put_12_4 (v : Nat) (hv : v < 9223372036854775808) (w : World) : Calls Try.prog 74 #[.int .i64 v, .int .i64 12, .int .i64 4] w fun e w' => e = .returned (.int .u32 (v % 16 * 4096 : Nat)) ∧ w' = w := by
  have h1 : bits .and .u32 ((v : Int) % 4294967296) 15 = ((v % 16 : Nat) : Int) := by
    have e0 : ((v : Int) % 4294967296) = ((v % 4294967296 : Nat) : Int) := by omega
    rw [e0, show (15 : Int) = ((15 : Nat) : Int) from rfl, u32_and_nat _ _ (by omega) (by decide), show (15 : Nat) = 2 ^ 4 - 1 from rfl, Nat.and_two_pow_sub_one_eq_mod]
    omega
  have hx : v % 16 < 16 := Nat.mod_lt _ (by decide)
  generalize v % 16 = x at *
  have he : ((x : Int) * 4096) % 4294967296 = (x : Int) * 4096 := by omega
  have he2 : (x : Int) % 4294967296 = (x : Int) := by omega
  go_enter Try.func74, Try.ntmps74
  go_wp2
  go_ret
  exact ⟨by first | rfl | (rw [Nat.mul_one]; rfl), rfl⟩
theorem put_12_3 (v : Nat) (hv : v < 9223372036854775808) (w : World) : Calls Try.prog 74 #[.int .i64 v, .int .i64 12, .int .i64 3] w fun e w' => e = .returned (.int .u32 (v % 8 * 4096 : Nat)) ∧ w' = w := by
  have h1 : bits .and .u32 ((v : Int) % 4294967296) 7 = ((v % 8 : Nat) : Int) := by
    have e0 : ((v : Int) % 4294967296) = ((v % 4294967296 : Nat) : Int) := by omega
    rw [e0, show (7 : Int) = ((7 : Nat) : Int) from rfl, u32_and_nat _ _ (by omega) (by decide), show (7 : Nat) = 2 ^ 3 - 1 from rfl, Nat.and_two_pow_sub_one_eq_mod]
    omega
  have hx : v % 8 < 8 := Nat.mod_lt _ (by decide)
  generalize v % 8 = x at *
  have he : ((x : Int) * 4096) % 4294967296 = (x : Int) * 4096 := by omega
  have he2 : (x : Int) % 4294967296 = (x : Int) := by omega
  go_enter Try.func74, Try.ntmps74
  go_wp2
  go_ret
  exact ⟨by first | rfl | (rw [Nat.mul_one]; rfl), rfl⟩
theorem put_0_8 (v : Nat) (hv : v < 9223372036854775808) (w : World) : Calls Try.prog 74 #[.int .i64 v, .int .i64 0, .int .i64 8] w fun e w' => e = .returned (.int .u32 (v % 256 * 1 : Nat)) ∧ w' = w := by
  have h1 : bits .and .u32 ((v : Int) % 4294967296) 255 = ((v % 256 : Nat) : Int) := by
    have e0 : ((v : Int) % 4294967296) = ((v % 4294967296 : Nat) : Int) := by omega
    rw [e0, show (255 : Int) = ((255 : Nat) : Int) from rfl, u32_and_nat _ _ (by omega) (by decide), show (255 : Nat) = 2 ^ 8 - 1 from rfl, Nat.and_two_pow_sub_one_eq_mod]
    omega
  have hx : v % 256 < 256 := Nat.mod_lt _ (by decide)
  generalize v % 256 = x at *
  have he : ((x : Int) * 1) % 4294967296 = (x : Int) * 1 := by omega
  have he2 : (x : Int) % 4294967296 = (x : Int) := by omega
  go_enter Try.func74, Try.ntmps74
  go_wp2
  go_ret
  exact ⟨by first | rfl | (rw [Nat.mul_one]; rfl), rfl⟩
theorem put_21_4 (v : Nat) (hv : v < 9223372036854775808) (w : World) : Calls Try.prog 74 #[.int .i64 v, .int .i64 21, .int .i64 4] w fun e w' => e = .returned (.int .u32 (v % 16 * 2097152 : Nat)) ∧ w' = w := by
  have h1 : bits .and .u32 ((v : Int) % 4294967296) 15 = ((v % 16 : Nat) : Int) := by
    have e0 : ((v : Int) % 4294967296) = ((v % 4294967296 : Nat) : Int) := by omega
    rw [e0, show (15 : Int) = ((15 : Nat) : Int) from rfl, u32_and_nat _ _ (by omega) (by decide), show (15 : Nat) = 2 ^ 4 - 1 from rfl, Nat.and_two_pow_sub_one_eq_mod]
    omega
  have hx : v % 16 < 16 := Nat.mod_lt _ (by decide)
  generalize v % 16 = x at *
  have he : ((x : Int) * 2097152) % 4294967296 = (x : Int) * 2097152 := by omega
  have he2 : (x : Int) % 4294967296 = (x : Int) := by omega
  go_enter Try.func74, Try.ntmps74
  go_wp2
  go_ret
  exact ⟨by first | rfl | (rw [Nat.mul_one]; rfl), rfl⟩
end Go.Proofs.Ytigmekboikgoaaa
