/- Stage 8: numbers put into a word, walked. -/
import Derived.Test.YtblcklknlfofgaaDoorTh2b
namespace Go.Proofs.YtblcklknlfofgaaDoor
open Go.ChangeShapes Go.WideShapes Go.ChangeAt Go.RowKit
set_option linter.unusedVariables false
set_option linter.unusedSimpArgs false

/-- The lowest s bits of v, from bit a on. -/
def putN (v : Int) (a s : Nat) : Nat := (v % 2 ^ s).toNat * 2 ^ a
theorem putN_lt (v : Int) (a s : Nat) : putN v a s < 2 ^ (a + s) := by
  have h0 : (0 : Int) < 2 ^ s := by exact_mod_cast Nat.two_pow_pos s
  have h1 := Int.emod_lt_of_pos v h0
  have h2 := Int.emod_nonneg v (Int.ne_of_gt h0)
  have h3 : (v % 2 ^ s).toNat < 2 ^ s := by
    have : ((v % 2 ^ s).toNat : Int) < ((2 ^ s : Nat) : Int) := by rw [Int.toNat_of_nonneg h2]; exact_mod_cast h1
    exact_mod_cast this
  unfold putN
  rw [Nat.pow_add, Nat.mul_comm (2 ^ a)]
  exact Nat.mul_lt_mul_of_pos_right h3 (Nat.two_pow_pos a)
theorem putN_mod (v : Int) (a s b : Nat) (hb : b ≤ a) : putN v a s % 2 ^ b = 0 := by
  unfold putN
  obtain ⟨c, rfl⟩ := Nat.exists_eq_add_of_le hb
  rw [Nat.pow_add, Nat.mul_comm (2 ^ b), ← Nat.mul_assoc]
  exact Nat.mul_mod_left _ _
theorem u16_join (x y i : Nat) (hx : x % 2 ^ i = 0) (hx1 : x < 65536) (hy : y < 2 ^ i) (hy1 : y < 65536) : bits .or .u16 (x : Int) (y : Int) = ((x + y : Nat) : Int) := by
  rw [u16_or_nat x y hx1 hy1]
  have hq : x = 2 ^ i * (x / 2 ^ i) := by
    have := Nat.div_add_mod x (2 ^ i)
    omega
  rw [hq, ← Nat.two_pow_add_eq_or_of_lt hy (x / 2 ^ i)]
theorem put_6_5 (v : Int) (w : World) : Calls Tryd.prog 68 #[.int .i64 v, .int .i64 6, .int .i64 5] w fun e w' => e = .returned (.int .u16 (putN v 6 5 : Nat)) ∧ w' = w := by
  obtain ⟨x, hx⟩ : ∃ x : Nat, x = (v % 32).toNat := ⟨_, rfl⟩
  have hxl : x < 32 := by omega
  have hp : putN v 6 5 = x * 64 := by rw [hx]; rfl
  have h1 : bits .and .u16 (IntKind.u16.wrap v) 31 = (x : Int) := by
    have e0 : IntKind.u16.wrap v = (((v % 65536).toNat : Nat) : Int) := by rw [IntKind.wrap_u16]; omega
    rw [e0, show (31 : Int) = ((31 : Nat) : Int) from rfl, u16_and_nat _ _ (by omega) (by decide), show (31 : Nat) = 2 ^ 5 - 1 from rfl, Nat.and_two_pow_sub_one_eq_mod]
    omega
  clear hx
  rw [hp]
  clear hp
  go_enter Tryd.func68, Tryd.ntmps68
  go_wp2
  go_ret
  exact ⟨by first | rfl | (rw [Nat.mul_one]; rfl), rfl⟩
theorem put_6_3 (v : Int) (w : World) : Calls Tryd.prog 68 #[.int .i64 v, .int .i64 6, .int .i64 3] w fun e w' => e = .returned (.int .u16 (putN v 6 3 : Nat)) ∧ w' = w := by
  obtain ⟨x, hx⟩ : ∃ x : Nat, x = (v % 8).toNat := ⟨_, rfl⟩
  have hxl : x < 8 := by omega
  have hp : putN v 6 3 = x * 64 := by rw [hx]; rfl
  have h1 : bits .and .u16 (IntKind.u16.wrap v) 7 = (x : Int) := by
    have e0 : IntKind.u16.wrap v = (((v % 65536).toNat : Nat) : Int) := by rw [IntKind.wrap_u16]; omega
    rw [e0, show (7 : Int) = ((7 : Nat) : Int) from rfl, u16_and_nat _ _ (by omega) (by decide), show (7 : Nat) = 2 ^ 3 - 1 from rfl, Nat.and_two_pow_sub_one_eq_mod]
    omega
  clear hx
  rw [hp]
  clear hp
  go_enter Tryd.func68, Tryd.ntmps68
  go_wp2
  go_ret
  exact ⟨by first | rfl | (rw [Nat.mul_one]; rfl), rfl⟩
theorem put_6_4 (v : Int) (w : World) : Calls Tryd.prog 68 #[.int .i64 v, .int .i64 6, .int .i64 4] w fun e w' => e = .returned (.int .u16 (putN v 6 4 : Nat)) ∧ w' = w := by
  obtain ⟨x, hx⟩ : ∃ x : Nat, x = (v % 16).toNat := ⟨_, rfl⟩
  have hxl : x < 16 := by omega
  have hp : putN v 6 4 = x * 64 := by rw [hx]; rfl
  have h1 : bits .and .u16 (IntKind.u16.wrap v) 15 = (x : Int) := by
    have e0 : IntKind.u16.wrap v = (((v % 65536).toNat : Nat) : Int) := by rw [IntKind.wrap_u16]; omega
    rw [e0, show (15 : Int) = ((15 : Nat) : Int) from rfl, u16_and_nat _ _ (by omega) (by decide), show (15 : Nat) = 2 ^ 4 - 1 from rfl, Nat.and_two_pow_sub_one_eq_mod]
    omega
  clear hx
  rw [hp]
  clear hp
  go_enter Tryd.func68, Tryd.ntmps68
  go_wp2
  go_ret
  exact ⟨by first | rfl | (rw [Nat.mul_one]; rfl), rfl⟩
theorem put_6_2 (v : Int) (w : World) : Calls Tryd.prog 68 #[.int .i64 v, .int .i64 6, .int .i64 2] w fun e w' => e = .returned (.int .u16 (putN v 6 2 : Nat)) ∧ w' = w := by
  obtain ⟨x, hx⟩ : ∃ x : Nat, x = (v % 4).toNat := ⟨_, rfl⟩
  have hxl : x < 4 := by omega
  have hp : putN v 6 2 = x * 64 := by rw [hx]; rfl
  have h1 : bits .and .u16 (IntKind.u16.wrap v) 3 = (x : Int) := by
    have e0 : IntKind.u16.wrap v = (((v % 65536).toNat : Nat) : Int) := by rw [IntKind.wrap_u16]; omega
    rw [e0, show (3 : Int) = ((3 : Nat) : Int) from rfl, u16_and_nat _ _ (by omega) (by decide), show (3 : Nat) = 2 ^ 2 - 1 from rfl, Nat.and_two_pow_sub_one_eq_mod]
    omega
  clear hx
  rw [hp]
  clear hp
  go_enter Tryd.func68, Tryd.ntmps68
  go_wp2
  go_ret
  exact ⟨by first | rfl | (rw [Nat.mul_one]; rfl), rfl⟩
theorem put_3_3 (v : Int) (w : World) : Calls Tryd.prog 68 #[.int .i64 v, .int .i64 3, .int .i64 3] w fun e w' => e = .returned (.int .u16 (putN v 3 3 : Nat)) ∧ w' = w := by
  obtain ⟨x, hx⟩ : ∃ x : Nat, x = (v % 8).toNat := ⟨_, rfl⟩
  have hxl : x < 8 := by omega
  have hp : putN v 3 3 = x * 8 := by rw [hx]; rfl
  have h1 : bits .and .u16 (IntKind.u16.wrap v) 7 = (x : Int) := by
    have e0 : IntKind.u16.wrap v = (((v % 65536).toNat : Nat) : Int) := by rw [IntKind.wrap_u16]; omega
    rw [e0, show (7 : Int) = ((7 : Nat) : Int) from rfl, u16_and_nat _ _ (by omega) (by decide), show (7 : Nat) = 2 ^ 3 - 1 from rfl, Nat.and_two_pow_sub_one_eq_mod]
    omega
  clear hx
  rw [hp]
  clear hp
  go_enter Tryd.func68, Tryd.ntmps68
  go_wp2
  go_ret
  exact ⟨by first | rfl | (rw [Nat.mul_one]; rfl), rfl⟩
theorem put_0_3 (v : Int) (w : World) : Calls Tryd.prog 68 #[.int .i64 v, .int .i64 0, .int .i64 3] w fun e w' => e = .returned (.int .u16 (putN v 0 3 : Nat)) ∧ w' = w := by
  obtain ⟨x, hx⟩ : ∃ x : Nat, x = (v % 8).toNat := ⟨_, rfl⟩
  have hxl : x < 8 := by omega
  have hp : putN v 0 3 = x * 1 := by rw [hx]; rfl
  have h1 : bits .and .u16 (IntKind.u16.wrap v) 7 = (x : Int) := by
    have e0 : IntKind.u16.wrap v = (((v % 65536).toNat : Nat) : Int) := by rw [IntKind.wrap_u16]; omega
    rw [e0, show (7 : Int) = ((7 : Nat) : Int) from rfl, u16_and_nat _ _ (by omega) (by decide), show (7 : Nat) = 2 ^ 3 - 1 from rfl, Nat.and_two_pow_sub_one_eq_mod]
    omega
  clear hx
  rw [hp]
  clear hp
  go_enter Tryd.func68, Tryd.ntmps68
  go_wp2
  go_ret
  exact ⟨by first | rfl | (rw [Nat.mul_one]; rfl), rfl⟩
theorem put_8_3 (v : Int) (w : World) : Calls Tryd.prog 68 #[.int .i64 v, .int .i64 8, .int .i64 3] w fun e w' => e = .returned (.int .u16 (putN v 8 3 : Nat)) ∧ w' = w := by
  obtain ⟨x, hx⟩ : ∃ x : Nat, x = (v % 8).toNat := ⟨_, rfl⟩
  have hxl : x < 8 := by omega
  have hp : putN v 8 3 = x * 256 := by rw [hx]; rfl
  have h1 : bits .and .u16 (IntKind.u16.wrap v) 7 = (x : Int) := by
    have e0 : IntKind.u16.wrap v = (((v % 65536).toNat : Nat) : Int) := by rw [IntKind.wrap_u16]; omega
    rw [e0, show (7 : Int) = ((7 : Nat) : Int) from rfl, u16_and_nat _ _ (by omega) (by decide), show (7 : Nat) = 2 ^ 3 - 1 from rfl, Nat.and_two_pow_sub_one_eq_mod]
    omega
  clear hx
  rw [hp]
  clear hp
  go_enter Tryd.func68, Tryd.ntmps68
  go_wp2
  go_ret
  exact ⟨by first | rfl | (rw [Nat.mul_one]; rfl), rfl⟩
theorem put_0_8 (v : Int) (w : World) : Calls Tryd.prog 68 #[.int .i64 v, .int .i64 0, .int .i64 8] w fun e w' => e = .returned (.int .u16 (putN v 0 8 : Nat)) ∧ w' = w := by
  obtain ⟨x, hx⟩ : ∃ x : Nat, x = (v % 256).toNat := ⟨_, rfl⟩
  have hxl : x < 256 := by omega
  have hp : putN v 0 8 = x * 1 := by rw [hx]; rfl
  have h1 : bits .and .u16 (IntKind.u16.wrap v) 255 = (x : Int) := by
    have e0 : IntKind.u16.wrap v = (((v % 65536).toNat : Nat) : Int) := by rw [IntKind.wrap_u16]; omega
    rw [e0, show (255 : Int) = ((255 : Nat) : Int) from rfl, u16_and_nat _ _ (by omega) (by decide), show (255 : Nat) = 2 ^ 8 - 1 from rfl, Nat.and_two_pow_sub_one_eq_mod]
    omega
  clear hx
  rw [hp]
  clear hp
  go_enter Tryd.func68, Tryd.ntmps68
  go_wp2
  go_ret
  exact ⟨by first | rfl | (rw [Nat.mul_one]; rfl), rfl⟩
theorem put_7_1 (v : Int) (w : World) : Calls Tryd.prog 68 #[.int .i64 v, .int .i64 7, .int .i64 1] w fun e w' => e = .returned (.int .u16 (putN v 7 1 : Nat)) ∧ w' = w := by
  obtain ⟨x, hx⟩ : ∃ x : Nat, x = (v % 2).toNat := ⟨_, rfl⟩
  have hxl : x < 2 := by omega
  have hp : putN v 7 1 = x * 128 := by rw [hx]; rfl
  have h1 : bits .and .u16 (IntKind.u16.wrap v) 1 = (x : Int) := by
    have e0 : IntKind.u16.wrap v = (((v % 65536).toNat : Nat) : Int) := by rw [IntKind.wrap_u16]; omega
    rw [e0, show (1 : Int) = ((1 : Nat) : Int) from rfl, u16_and_nat _ _ (by omega) (by decide), show (1 : Nat) = 2 ^ 1 - 1 from rfl, Nat.and_two_pow_sub_one_eq_mod]
    omega
  clear hx
  rw [hp]
  clear hp
  go_enter Tryd.func68, Tryd.ntmps68
  go_wp2
  go_ret
  exact ⟨by first | rfl | (rw [Nat.mul_one]; rfl), rfl⟩
theorem put_3_4 (v : Int) (w : World) : Calls Tryd.prog 68 #[.int .i64 v, .int .i64 3, .int .i64 4] w fun e w' => e = .returned (.int .u16 (putN v 3 4 : Nat)) ∧ w' = w := by
  obtain ⟨x, hx⟩ : ∃ x : Nat, x = (v % 16).toNat := ⟨_, rfl⟩
  have hxl : x < 16 := by omega
  have hp : putN v 3 4 = x * 8 := by rw [hx]; rfl
  have h1 : bits .and .u16 (IntKind.u16.wrap v) 15 = (x : Int) := by
    have e0 : IntKind.u16.wrap v = (((v % 65536).toNat : Nat) : Int) := by rw [IntKind.wrap_u16]; omega
    rw [e0, show (15 : Int) = ((15 : Nat) : Int) from rfl, u16_and_nat _ _ (by omega) (by decide), show (15 : Nat) = 2 ^ 4 - 1 from rfl, Nat.and_two_pow_sub_one_eq_mod]
    omega
  clear hx
  rw [hp]
  clear hp
  go_enter Tryd.func68, Tryd.ntmps68
  go_wp2
  go_ret
  exact ⟨by first | rfl | (rw [Nat.mul_one]; rfl), rfl⟩
theorem put_9_3 (v : Int) (w : World) : Calls Tryd.prog 68 #[.int .i64 v, .int .i64 9, .int .i64 3] w fun e w' => e = .returned (.int .u16 (putN v 9 3 : Nat)) ∧ w' = w := by
  obtain ⟨x, hx⟩ : ∃ x : Nat, x = (v % 8).toNat := ⟨_, rfl⟩
  have hxl : x < 8 := by omega
  have hp : putN v 9 3 = x * 512 := by rw [hx]; rfl
  have h1 : bits .and .u16 (IntKind.u16.wrap v) 7 = (x : Int) := by
    have e0 : IntKind.u16.wrap v = (((v % 65536).toNat : Nat) : Int) := by rw [IntKind.wrap_u16]; omega
    rw [e0, show (7 : Int) = ((7 : Nat) : Int) from rfl, u16_and_nat _ _ (by omega) (by decide), show (7 : Nat) = 2 ^ 3 - 1 from rfl, Nat.and_two_pow_sub_one_eq_mod]
    omega
  clear hx
  rw [hp]
  clear hp
  go_enter Tryd.func68, Tryd.ntmps68
  go_wp2
  go_ret
  exact ⟨by first | rfl | (rw [Nat.mul_one]; rfl), rfl⟩
theorem put_8_1 (v : Int) (w : World) : Calls Tryd.prog 68 #[.int .i64 v, .int .i64 8, .int .i64 1] w fun e w' => e = .returned (.int .u16 (putN v 8 1 : Nat)) ∧ w' = w := by
  obtain ⟨x, hx⟩ : ∃ x : Nat, x = (v % 2).toNat := ⟨_, rfl⟩
  have hxl : x < 2 := by omega
  have hp : putN v 8 1 = x * 256 := by rw [hx]; rfl
  have h1 : bits .and .u16 (IntKind.u16.wrap v) 1 = (x : Int) := by
    have e0 : IntKind.u16.wrap v = (((v % 65536).toNat : Nat) : Int) := by rw [IntKind.wrap_u16]; omega
    rw [e0, show (1 : Int) = ((1 : Nat) : Int) from rfl, u16_and_nat _ _ (by omega) (by decide), show (1 : Nat) = 2 ^ 1 - 1 from rfl, Nat.and_two_pow_sub_one_eq_mod]
    omega
  clear hx
  rw [hp]
  clear hp
  go_enter Tryd.func68, Tryd.ntmps68
  go_wp2
  go_ret
  exact ⟨by first | rfl | (rw [Nat.mul_one]; rfl), rfl⟩
theorem put_8_4 (v : Int) (w : World) : Calls Tryd.prog 68 #[.int .i64 v, .int .i64 8, .int .i64 4] w fun e w' => e = .returned (.int .u16 (putN v 8 4 : Nat)) ∧ w' = w := by
  obtain ⟨x, hx⟩ : ∃ x : Nat, x = (v % 16).toNat := ⟨_, rfl⟩
  have hxl : x < 16 := by omega
  have hp : putN v 8 4 = x * 256 := by rw [hx]; rfl
  have h1 : bits .and .u16 (IntKind.u16.wrap v) 15 = (x : Int) := by
    have e0 : IntKind.u16.wrap v = (((v % 65536).toNat : Nat) : Int) := by rw [IntKind.wrap_u16]; omega
    rw [e0, show (15 : Int) = ((15 : Nat) : Int) from rfl, u16_and_nat _ _ (by omega) (by decide), show (15 : Nat) = 2 ^ 4 - 1 from rfl, Nat.and_two_pow_sub_one_eq_mod]
    omega
  clear hx
  rw [hp]
  clear hp
  go_enter Tryd.func68, Tryd.ntmps68
  go_wp2
  go_ret
  exact ⟨by first | rfl | (rw [Nat.mul_one]; rfl), rfl⟩
theorem put_0_11 (v : Int) (w : World) : Calls Tryd.prog 68 #[.int .i64 v, .int .i64 0, .int .i64 11] w fun e w' => e = .returned (.int .u16 (putN v 0 11 : Nat)) ∧ w' = w := by
  obtain ⟨x, hx⟩ : ∃ x : Nat, x = (v % 2048).toNat := ⟨_, rfl⟩
  have hxl : x < 2048 := by omega
  have hp : putN v 0 11 = x * 1 := by rw [hx]; rfl
  have h1 : bits .and .u16 (IntKind.u16.wrap v) 2047 = (x : Int) := by
    have e0 : IntKind.u16.wrap v = (((v % 65536).toNat : Nat) : Int) := by rw [IntKind.wrap_u16]; omega
    rw [e0, show (2047 : Int) = ((2047 : Nat) : Int) from rfl, u16_and_nat _ _ (by omega) (by decide), show (2047 : Nat) = 2 ^ 11 - 1 from rfl, Nat.and_two_pow_sub_one_eq_mod]
    omega
  clear hx
  rw [hp]
  clear hp
  go_enter Tryd.func68, Tryd.ntmps68
  go_wp2
  go_ret
  exact ⟨by first | rfl | (rw [Nat.mul_one]; rfl), rfl⟩
theorem put_9_1 (v : Int) (w : World) : Calls Tryd.prog 68 #[.int .i64 v, .int .i64 9, .int .i64 1] w fun e w' => e = .returned (.int .u16 (putN v 9 1 : Nat)) ∧ w' = w := by
  obtain ⟨x, hx⟩ : ∃ x : Nat, x = (v % 2).toNat := ⟨_, rfl⟩
  have hxl : x < 2 := by omega
  have hp : putN v 9 1 = x * 512 := by rw [hx]; rfl
  have h1 : bits .and .u16 (IntKind.u16.wrap v) 1 = (x : Int) := by
    have e0 : IntKind.u16.wrap v = (((v % 65536).toNat : Nat) : Int) := by rw [IntKind.wrap_u16]; omega
    rw [e0, show (1 : Int) = ((1 : Nat) : Int) from rfl, u16_and_nat _ _ (by omega) (by decide), show (1 : Nat) = 2 ^ 1 - 1 from rfl, Nat.and_two_pow_sub_one_eq_mod]
    omega
  clear hx
  rw [hp]
  clear hp
  go_enter Tryd.func68, Tryd.ntmps68
  go_wp2
  go_ret
  exact ⟨by first | rfl | (rw [Nat.mul_one]; rfl), rfl⟩
theorem put_3_5 (v : Int) (w : World) : Calls Tryd.prog 68 #[.int .i64 v, .int .i64 3, .int .i64 5] w fun e w' => e = .returned (.int .u16 (putN v 3 5 : Nat)) ∧ w' = w := by
  obtain ⟨x, hx⟩ : ∃ x : Nat, x = (v % 32).toNat := ⟨_, rfl⟩
  have hxl : x < 32 := by omega
  have hp : putN v 3 5 = x * 8 := by rw [hx]; rfl
  have h1 : bits .and .u16 (IntKind.u16.wrap v) 31 = (x : Int) := by
    have e0 : IntKind.u16.wrap v = (((v % 65536).toNat : Nat) : Int) := by rw [IntKind.wrap_u16]; omega
    rw [e0, show (31 : Int) = ((31 : Nat) : Int) from rfl, u16_and_nat _ _ (by omega) (by decide), show (31 : Nat) = 2 ^ 5 - 1 from rfl, Nat.and_two_pow_sub_one_eq_mod]
    omega
  clear hx
  rw [hp]
  clear hp
  go_enter Tryd.func68, Tryd.ntmps68
  go_wp2
  go_ret
  exact ⟨by first | rfl | (rw [Nat.mul_one]; rfl), rfl⟩
theorem put_4_4 (v : Int) (w : World) : Calls Tryd.prog 68 #[.int .i64 v, .int .i64 4, .int .i64 4] w fun e w' => e = .returned (.int .u16 (putN v 4 4 : Nat)) ∧ w' = w := by
  obtain ⟨x, hx⟩ : ∃ x : Nat, x = (v % 16).toNat := ⟨_, rfl⟩
  have hxl : x < 16 := by omega
  have hp : putN v 4 4 = x * 16 := by rw [hx]; rfl
  have h1 : bits .and .u16 (IntKind.u16.wrap v) 15 = (x : Int) := by
    have e0 : IntKind.u16.wrap v = (((v % 65536).toNat : Nat) : Int) := by rw [IntKind.wrap_u16]; omega
    rw [e0, show (15 : Int) = ((15 : Nat) : Int) from rfl, u16_and_nat _ _ (by omega) (by decide), show (15 : Nat) = 2 ^ 4 - 1 from rfl, Nat.and_two_pow_sub_one_eq_mod]
    omega
  clear hx
  rw [hp]
  clear hp
  go_enter Tryd.func68, Tryd.ntmps68
  go_wp2
  go_ret
  exact ⟨by first | rfl | (rw [Nat.mul_one]; rfl), rfl⟩
theorem put_0_7 (v : Int) (w : World) : Calls Tryd.prog 68 #[.int .i64 v, .int .i64 0, .int .i64 7] w fun e w' => e = .returned (.int .u16 (putN v 0 7 : Nat)) ∧ w' = w := by
  obtain ⟨x, hx⟩ : ∃ x : Nat, x = (v % 128).toNat := ⟨_, rfl⟩
  have hxl : x < 128 := by omega
  have hp : putN v 0 7 = x * 1 := by rw [hx]; rfl
  have h1 : bits .and .u16 (IntKind.u16.wrap v) 127 = (x : Int) := by
    have e0 : IntKind.u16.wrap v = (((v % 65536).toNat : Nat) : Int) := by rw [IntKind.wrap_u16]; omega
    rw [e0, show (127 : Int) = ((127 : Nat) : Int) from rfl, u16_and_nat _ _ (by omega) (by decide), show (127 : Nat) = 2 ^ 7 - 1 from rfl, Nat.and_two_pow_sub_one_eq_mod]
    omega
  clear hx
  rw [hp]
  clear hp
  go_enter Tryd.func68, Tryd.ntmps68
  go_wp2
  go_ret
  exact ⟨by first | rfl | (rw [Nat.mul_one]; rfl), rfl⟩
def three5 (row : Nat) (v n d : Int) : Nat := row + putN v 6 5 + putN n 3 3 + putN d 0 3
set_option maxHeartbeats 2000000 in
theorem three_5 (row : Nat) (hr : row % 2048 = 0) (hr1 : row < 65536) (v n d : Int) (w : World) : Calls Tryd.prog 65 #[.int .u16 row, .int .i64 v, .int .i64 5, .int .i64 n, .int .i64 d] w fun e w' => e = .returned (.int .u16 (three5 row v n d : Nat)) ∧ w' = w := by
  have a1 : putN v 6 5 < 2048 := putN_lt v 6 5
  have a2 : putN n 3 3 < 64 := putN_lt n 3 3
  have a3 : putN d 0 3 < 8 := putN_lt d 0 3
  have m1 : putN v 6 5 % 64 = 0 := putN_mod v 6 5 6 (by decide)
  have m2 : putN n 3 3 % 8 = 0 := putN_mod n 3 3 3 (by decide)
  have C1 : Hid (∀ w, Calls Tryd.prog 68 #[.int .i64 v, .int .i64 6, .int .i64 5] w fun e w' => e = .returned (.int .u16 (putN v 6 5 : Nat)) ∧ w' = w) := fun w => put_6_5 v w
  have C2 : Hid (∀ w, Calls Tryd.prog 68 #[.int .i64 n, .int .i64 3, .int .i64 3] w fun e w' => e = .returned (.int .u16 (putN n 3 3 : Nat)) ∧ w' = w) := fun w => put_3_3 n w
  have C3 : Hid (∀ w, Calls Tryd.prog 68 #[.int .i64 d, .int .i64 0, .int .i64 3] w fun e w' => e = .returned (.int .u16 (putN d 0 3 : Nat)) ∧ w' = w) := fun w => put_0_3 d w
  unfold three5
  generalize putN v 6 5 = p1 at *
  generalize putN n 3 3 = p2 at *
  generalize putN d 0 3 = p3 at *
  have j1 : bits .or .u16 (row : Int) (p1 : Int) = ((row + p1 : Nat) : Int) := u16_join row p1 11 hr hr1 a1 (by omega)
  have j2 : bits .or .u16 ((row + p1 : Nat) : Int) (p2 : Int) = ((row + p1 + p2 : Nat) : Int) := u16_join (row + p1) p2 6 (by omega) (by omega) a2 (by omega)
  have j3 : bits .or .u16 ((row + p1 + p2 : Nat) : Int) (p3 : Int) = ((row + p1 + p2 + p3 : Nat) : Int) := u16_join (row + p1 + p2) p3 3 (by omega) (by omega) a3 (by omega)
  generalize row + p1 = q1 at *
  generalize q1 + p2 = q2 at *
  generalize q2 + p3 = q3 at *
  go_enter Tryd.func65, Tryd.ntmps65
  go_wp2_with (first
    | (go_at_call 68; (first | with_reducible refine (C1.out _).mono ?_ | with_reducible refine (C2.out _).mono ?_ | with_reducible refine (C3.out _).mono ?_); rintro e _ ⟨rfl, rfl⟩))
  go_ret
  exact ⟨rfl, rfl⟩
def three3 (row : Nat) (v n d : Int) : Nat := row + putN v 6 3 + putN n 3 3 + putN d 0 3
set_option maxHeartbeats 2000000 in
theorem three_3 (row : Nat) (hr : row % 512 = 0) (hr1 : row < 65536) (v n d : Int) (w : World) : Calls Tryd.prog 65 #[.int .u16 row, .int .i64 v, .int .i64 3, .int .i64 n, .int .i64 d] w fun e w' => e = .returned (.int .u16 (three3 row v n d : Nat)) ∧ w' = w := by
  have a1 : putN v 6 3 < 512 := putN_lt v 6 3
  have a2 : putN n 3 3 < 64 := putN_lt n 3 3
  have a3 : putN d 0 3 < 8 := putN_lt d 0 3
  have m1 : putN v 6 3 % 64 = 0 := putN_mod v 6 3 6 (by decide)
  have m2 : putN n 3 3 % 8 = 0 := putN_mod n 3 3 3 (by decide)
  have C1 : Hid (∀ w, Calls Tryd.prog 68 #[.int .i64 v, .int .i64 6, .int .i64 3] w fun e w' => e = .returned (.int .u16 (putN v 6 3 : Nat)) ∧ w' = w) := fun w => put_6_3 v w
  have C2 : Hid (∀ w, Calls Tryd.prog 68 #[.int .i64 n, .int .i64 3, .int .i64 3] w fun e w' => e = .returned (.int .u16 (putN n 3 3 : Nat)) ∧ w' = w) := fun w => put_3_3 n w
  have C3 : Hid (∀ w, Calls Tryd.prog 68 #[.int .i64 d, .int .i64 0, .int .i64 3] w fun e w' => e = .returned (.int .u16 (putN d 0 3 : Nat)) ∧ w' = w) := fun w => put_0_3 d w
  unfold three3
  generalize putN v 6 3 = p1 at *
  generalize putN n 3 3 = p2 at *
  generalize putN d 0 3 = p3 at *
  have j1 : bits .or .u16 (row : Int) (p1 : Int) = ((row + p1 : Nat) : Int) := u16_join row p1 9 hr hr1 a1 (by omega)
  have j2 : bits .or .u16 ((row + p1 : Nat) : Int) (p2 : Int) = ((row + p1 + p2 : Nat) : Int) := u16_join (row + p1) p2 6 (by omega) (by omega) a2 (by omega)
  have j3 : bits .or .u16 ((row + p1 + p2 : Nat) : Int) (p3 : Int) = ((row + p1 + p2 + p3 : Nat) : Int) := u16_join (row + p1 + p2) p3 3 (by omega) (by omega) a3 (by omega)
  generalize row + p1 = q1 at *
  generalize q1 + p2 = q2 at *
  generalize q2 + p3 = q3 at *
  go_enter Tryd.func65, Tryd.ntmps65
  go_wp2_with (first
    | (go_at_call 68; (first | with_reducible refine (C1.out _).mono ?_ | with_reducible refine (C2.out _).mono ?_ | with_reducible refine (C3.out _).mono ?_); rintro e _ ⟨rfl, rfl⟩))
  go_ret
  exact ⟨rfl, rfl⟩
def three4 (row : Nat) (v n d : Int) : Nat := row + putN v 6 4 + putN n 3 3 + putN d 0 3
set_option maxHeartbeats 2000000 in
theorem three_4 (row : Nat) (hr : row % 1024 = 0) (hr1 : row < 65536) (v n d : Int) (w : World) : Calls Tryd.prog 65 #[.int .u16 row, .int .i64 v, .int .i64 4, .int .i64 n, .int .i64 d] w fun e w' => e = .returned (.int .u16 (three4 row v n d : Nat)) ∧ w' = w := by
  have a1 : putN v 6 4 < 1024 := putN_lt v 6 4
  have a2 : putN n 3 3 < 64 := putN_lt n 3 3
  have a3 : putN d 0 3 < 8 := putN_lt d 0 3
  have m1 : putN v 6 4 % 64 = 0 := putN_mod v 6 4 6 (by decide)
  have m2 : putN n 3 3 % 8 = 0 := putN_mod n 3 3 3 (by decide)
  have C1 : Hid (∀ w, Calls Tryd.prog 68 #[.int .i64 v, .int .i64 6, .int .i64 4] w fun e w' => e = .returned (.int .u16 (putN v 6 4 : Nat)) ∧ w' = w) := fun w => put_6_4 v w
  have C2 : Hid (∀ w, Calls Tryd.prog 68 #[.int .i64 n, .int .i64 3, .int .i64 3] w fun e w' => e = .returned (.int .u16 (putN n 3 3 : Nat)) ∧ w' = w) := fun w => put_3_3 n w
  have C3 : Hid (∀ w, Calls Tryd.prog 68 #[.int .i64 d, .int .i64 0, .int .i64 3] w fun e w' => e = .returned (.int .u16 (putN d 0 3 : Nat)) ∧ w' = w) := fun w => put_0_3 d w
  unfold three4
  generalize putN v 6 4 = p1 at *
  generalize putN n 3 3 = p2 at *
  generalize putN d 0 3 = p3 at *
  have j1 : bits .or .u16 (row : Int) (p1 : Int) = ((row + p1 : Nat) : Int) := u16_join row p1 10 hr hr1 a1 (by omega)
  have j2 : bits .or .u16 ((row + p1 : Nat) : Int) (p2 : Int) = ((row + p1 + p2 : Nat) : Int) := u16_join (row + p1) p2 6 (by omega) (by omega) a2 (by omega)
  have j3 : bits .or .u16 ((row + p1 + p2 : Nat) : Int) (p3 : Int) = ((row + p1 + p2 + p3 : Nat) : Int) := u16_join (row + p1 + p2) p3 3 (by omega) (by omega) a3 (by omega)
  generalize row + p1 = q1 at *
  generalize q1 + p2 = q2 at *
  generalize q2 + p3 = q3 at *
  go_enter Tryd.func65, Tryd.ntmps65
  go_wp2_with (first
    | (go_at_call 68; (first | with_reducible refine (C1.out _).mono ?_ | with_reducible refine (C2.out _).mono ?_ | with_reducible refine (C3.out _).mono ?_); rintro e _ ⟨rfl, rfl⟩))
  go_ret
  exact ⟨rfl, rfl⟩
def three2 (row : Nat) (v n d : Int) : Nat := row + putN v 6 2 + putN n 3 3 + putN d 0 3
set_option maxHeartbeats 2000000 in
theorem three_2 (row : Nat) (hr : row % 256 = 0) (hr1 : row < 65536) (v n d : Int) (w : World) : Calls Tryd.prog 65 #[.int .u16 row, .int .i64 v, .int .i64 2, .int .i64 n, .int .i64 d] w fun e w' => e = .returned (.int .u16 (three2 row v n d : Nat)) ∧ w' = w := by
  have a1 : putN v 6 2 < 256 := putN_lt v 6 2
  have a2 : putN n 3 3 < 64 := putN_lt n 3 3
  have a3 : putN d 0 3 < 8 := putN_lt d 0 3
  have m1 : putN v 6 2 % 64 = 0 := putN_mod v 6 2 6 (by decide)
  have m2 : putN n 3 3 % 8 = 0 := putN_mod n 3 3 3 (by decide)
  have C1 : Hid (∀ w, Calls Tryd.prog 68 #[.int .i64 v, .int .i64 6, .int .i64 2] w fun e w' => e = .returned (.int .u16 (putN v 6 2 : Nat)) ∧ w' = w) := fun w => put_6_2 v w
  have C2 : Hid (∀ w, Calls Tryd.prog 68 #[.int .i64 n, .int .i64 3, .int .i64 3] w fun e w' => e = .returned (.int .u16 (putN n 3 3 : Nat)) ∧ w' = w) := fun w => put_3_3 n w
  have C3 : Hid (∀ w, Calls Tryd.prog 68 #[.int .i64 d, .int .i64 0, .int .i64 3] w fun e w' => e = .returned (.int .u16 (putN d 0 3 : Nat)) ∧ w' = w) := fun w => put_0_3 d w
  unfold three2
  generalize putN v 6 2 = p1 at *
  generalize putN n 3 3 = p2 at *
  generalize putN d 0 3 = p3 at *
  have j1 : bits .or .u16 (row : Int) (p1 : Int) = ((row + p1 : Nat) : Int) := u16_join row p1 8 hr hr1 a1 (by omega)
  have j2 : bits .or .u16 ((row + p1 : Nat) : Int) (p2 : Int) = ((row + p1 + p2 : Nat) : Int) := u16_join (row + p1) p2 6 (by omega) (by omega) a2 (by omega)
  have j3 : bits .or .u16 ((row + p1 + p2 : Nat) : Int) (p3 : Int) = ((row + p1 + p2 + p3 : Nat) : Int) := u16_join (row + p1 + p2) p3 3 (by omega) (by omega) a3 (by omega)
  generalize row + p1 = q1 at *
  generalize q1 + p2 = q2 at *
  generalize q2 + p3 = q3 at *
  go_enter Tryd.func65, Tryd.ntmps65
  go_wp2_with (first
    | (go_at_call 68; (first | with_reducible refine (C1.out _).mono ?_ | with_reducible refine (C2.out _).mono ?_ | with_reducible refine (C3.out _).mono ?_); rintro e _ ⟨rfl, rfl⟩))
  go_ret
  exact ⟨rfl, rfl⟩
def two8 (row : Nat) (r v : Int) : Nat := row + putN r 8 3 + putN v 0 8
set_option maxHeartbeats 2000000 in
theorem two_c (row : Nat) (hr : row % 2048 = 0) (hr1 : row < 65536) (r v : Int) (w : World) : Calls Tryd.prog 66 #[.int .u16 row, .int .i64 r, .int .i64 v] w fun e w' => e = .returned (.int .u16 (two8 row r v : Nat)) ∧ w' = w := by
  have a1 : putN r 8 3 < 2048 := putN_lt r 8 3
  have a2 : putN v 0 8 < 256 := putN_lt v 0 8
  have m1 : putN r 8 3 % 256 = 0 := putN_mod r 8 3 8 (by decide)
  have C1 : Hid (∀ w, Calls Tryd.prog 68 #[.int .i64 r, .int .i64 8, .int .i64 3] w fun e w' => e = .returned (.int .u16 (putN r 8 3 : Nat)) ∧ w' = w) := fun w => put_8_3 r w
  have C2 : Hid (∀ w, Calls Tryd.prog 68 #[.int .i64 v, .int .i64 0, .int .i64 8] w fun e w' => e = .returned (.int .u16 (putN v 0 8 : Nat)) ∧ w' = w) := fun w => put_0_8 v w
  unfold two8
  generalize putN r 8 3 = p1 at *
  generalize putN v 0 8 = p2 at *
  have j1 : bits .or .u16 (row : Int) (p1 : Int) = ((row + p1 : Nat) : Int) := u16_join row p1 11 hr hr1 a1 (by omega)
  have j2 : bits .or .u16 ((row + p1 : Nat) : Int) (p2 : Int) = ((row + p1 + p2 : Nat) : Int) := u16_join (row + p1) p2 8 (by omega) (by omega) a2 (by omega)
  generalize row + p1 = q1 at *
  generalize q1 + p2 = q2 at *
  go_enter Tryd.func66, Tryd.ntmps66
  go_wp2_with (first
    | (go_at_call 68; (first | with_reducible refine (C1.out _).mono ?_ | with_reducible refine (C2.out _).mono ?_); rintro e _ ⟨rfl, rfl⟩))
  go_ret
  exact ⟨rfl, rfl⟩
def hiN (page : Nat) (d m : Int) : Nat := page + putN (d / 8) 7 1 + putN m 3 4 + putN d 0 3
set_option maxHeartbeats 2000000 in
theorem hi_c (page : Nat) (hr : page % 256 = 0) (hr1 : page < 65536) (d m : Int) (w : World) : Calls Tryd.prog 67 #[.int .u16 page, .int .i64 d, .int .i64 m] w fun e w' => e = .returned (.int .u16 (hiN page d m : Nat)) ∧ w' = w := by
  have a1 : putN (d / 8) 7 1 < 256 := putN_lt _ 7 1
  have a2 : putN m 3 4 < 128 := putN_lt m 3 4
  have a3 : putN d 0 3 < 8 := putN_lt d 0 3
  have m1 : putN (d / 8) 7 1 % 128 = 0 := putN_mod _ 7 1 7 (by decide)
  have m2 : putN m 3 4 % 8 = 0 := putN_mod m 3 4 3 (by decide)
  have C1 : Hid (∀ w, Calls Tryd.prog 68 #[.int .i64 (d / 8), .int .i64 7, .int .i64 1] w fun e w' => e = .returned (.int .u16 (putN (d / 8) 7 1 : Nat)) ∧ w' = w) := fun w => put_7_1 _ w
  have C2 : Hid (∀ w, Calls Tryd.prog 68 #[.int .i64 m, .int .i64 3, .int .i64 4] w fun e w' => e = .returned (.int .u16 (putN m 3 4 : Nat)) ∧ w' = w) := fun w => put_3_4 m w
  have C3 : Hid (∀ w, Calls Tryd.prog 68 #[.int .i64 d, .int .i64 0, .int .i64 3] w fun e w' => e = .returned (.int .u16 (putN d 0 3 : Nat)) ∧ w' = w) := fun w => put_0_3 d w
  unfold hiN
  generalize putN (d / 8) 7 1 = p1 at *
  generalize putN m 3 4 = p2 at *
  generalize putN d 0 3 = p3 at *
  have j1 : bits .or .u16 (page : Int) (p1 : Int) = ((page + p1 : Nat) : Int) := u16_join page p1 8 hr hr1 a1 (by omega)
  have j2 : bits .or .u16 ((page + p1 : Nat) : Int) (p2 : Int) = ((page + p1 + p2 : Nat) : Int) := u16_join (page + p1) p2 7 (by omega) (by omega) a2 (by omega)
  have j3 : bits .or .u16 ((page + p1 + p2 : Nat) : Int) (p3 : Int) = ((page + p1 + p2 + p3 : Nat) : Int) := u16_join (page + p1 + p2) p3 3 (by omega) (by omega) a3 (by omega)
  generalize page + p1 = q1 at *
  generalize q1 + p2 = q2 at *
  generalize q2 + p3 = q3 at *
  go_enter Tryd.func67, Tryd.ntmps67
  go_wp2_with (first
    | (go_at_call 68; (first | with_reducible refine (C1.out _).mono ?_ | with_reducible refine (C2.out _).mono ?_ | with_reducible refine (C3.out _).mono ?_); rintro e _ ⟨rfl, rfl⟩))
  go_ret
  exact ⟨rfl, rfl⟩
end Go.Proofs.YtblcklknlfofgaaDoor
