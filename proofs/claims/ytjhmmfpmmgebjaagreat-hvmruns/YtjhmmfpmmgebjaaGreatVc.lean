/- Plain arithmetic of 32-bit words: what the program's words come to, in numbers. No Go in sight. -/
import Derived.WalkKit
import Derived.ProofKit
import Derived.Test.YtjhmmfpmmgebjaaGreatRows
import Derived.OpenShut
import Derived.Deep.QuietTactic
import Derived.BigQuiet
import Derived.Lib.BitFns
namespace Go.Proofs.YtjhmmfpmmgebjaaGreat
open Go.RowKit
set_option linter.unusedVariables false

def clampW (k : Int) : Nat := (if k < 1 then 1 else if 32 < k then 32 else k).toNat
def zeroS (v : Int) (n : Nat) : Int := v % 2 ^ n
def signS (v : Int) (n : Nat) : Int := if v % 2 ^ n < 2 ^ (n - 1) then v % 2 ^ n else v % 2 ^ n + (4294967296 - 2 ^ n)

theorem clampW_bounds (k : Int) : 1 ≤ clampW k ∧ clampW k ≤ 32 := by
  unfold clampW
  split
  · simp
  · split
    · simp
    · omega

theorem upto32 (n : Nat) (h : 1 ≤ n) (h' : n ≤ 32) : n = 1 ∨ n = 2 ∨ n = 3 ∨ n = 4 ∨ n = 5 ∨ n = 6 ∨ n = 7 ∨ n = 8 ∨ n = 9 ∨ n = 10 ∨ n = 11 ∨ n = 12 ∨ n = 13 ∨ n = 14 ∨ n = 15 ∨ n = 16 ∨ n = 17 ∨ n = 18 ∨ n = 19 ∨ n = 20 ∨ n = 21 ∨ n = 22 ∨ n = 23 ∨ n = 24 ∨ n = 25 ∨ n = 26 ∨ n = 27 ∨ n = 28 ∨ n = 29 ∨ n = 30 ∨ n = 31 ∨ n = 32 := by omega

theorem sign_eq (v : Int) (n : Nat) (h0 : 0 ≤ v) (h1 : v < 4294967296) (hn : 1 ≤ n) (hn' : n ≤ 32) :
    wrap32 (v * 2 ^ (32 - n) % 4294967296) / 2 ^ (32 - n) % 4294967296 = signS v n := by
  unfold signS wrap32
  rcases upto32 n hn hn' with h | h | h | h | h | h | h | h | h | h | h | h | h | h | h | h | h | h | h | h | h | h | h | h | h | h | h | h | h | h | h | h <;> subst h <;> simp <;> split <;> omega

theorem zero_eq (v : Int) (n : Nat) (h0 : 0 ≤ v) (h1 : v < 4294967296) (hn : 1 ≤ n) (hn' : n ≤ 32) :
    v * 2 ^ (32 - n) % 4294967296 / 2 ^ (32 - n) = zeroS v n := by
  unfold zeroS
  rcases upto32 n hn hn' with h | h | h | h | h | h | h | h | h | h | h | h | h | h | h | h | h | h | h | h | h | h | h | h | h | h | h | h | h | h | h | h <;> subst h <;> simp <;> omega

theorem zeroS_bounds (v : Int) (n : Nat) (h0 : 0 ≤ v) (h1 : v < 4294967296) : 0 ≤ zeroS v n ∧ zeroS v n < 4294967296 := by
  unfold zeroS
  have hp : (0 : Int) < 2 ^ n := Int.pow_pos (by decide)
  have h2 := Int.emod_nonneg v (Int.ne_of_gt hp)
  have h3 : v % 2 ^ n ≤ v := by
    have := Int.mul_ediv_add_emod v (2 ^ n)
    have h4 : 0 ≤ 2 ^ n * (v / 2 ^ n) := Int.mul_nonneg (by omega) (Int.ediv_nonneg h0 (by omega))
    omega
  omega

theorem signS_bounds (v : Int) (n : Nat) (h0 : 0 ≤ v) (h1 : v < 4294967296) (hn : 1 ≤ n) (hn' : n ≤ 32) : 0 ≤ signS v n ∧ signS v n < 4294967296 := by
  unfold signS
  rcases upto32 n hn hn' with h | h | h | h | h | h | h | h | h | h | h | h | h | h | h | h | h | h | h | h | h | h | h | h | h | h | h | h | h | h | h | h <;> subst h <;> simp <;> (try split) <;> omega
end Go.Proofs.YtjhmmfpmmgebjaaGreat
namespace Go.Proofs.YtjhmmfpmmgebjaaGreat
open Go.RowKit
set_option linter.unusedVariables false

/-! ### sums -/
def carryN (c : Bool) : Int := if c then 1 else 0
def addS (a b : Int) (c : Bool) : Int := (a + b + carryN c) % 4294967296
def outS (a b : Int) (c : Bool) : Bool := (a + b + carryN c) / 4294967296 == 1
def overS (a b : Int) (c : Bool) : Bool := wrap32 a + wrap32 b + carryN c != wrap32 (addS a b c)

theorem carryN_bounds (c : Bool) : 0 ≤ carryN c ∧ carryN c ≤ 1 := by cases c <;> simp [carryN]
theorem addS_bounds (a b : Int) (c : Bool) : 0 ≤ addS a b c ∧ addS a b c < 4294967296 := by unfold addS; omega

theorem top_xor (a s : Nat) (ha : a < 4294967296) (hs : s < 4294967296) : (a ^^^ s) / 2147483648 = (a / 2147483648 + s / 2147483648) % 2 := by
  have h : (a ^^^ s) / 2 ^ 31 = a / 2 ^ 31 ^^^ s / 2 ^ 31 := Nat.xor_div_two_pow
  have e : (2 : Nat) ^ 31 = 2147483648 := by decide
  rw [e] at h
  rw [h]
  have h1 : a / 2147483648 = 0 ∨ a / 2147483648 = 1 := by omega
  have h2 : s / 2147483648 = 0 ∨ s / 2147483648 = 1 := by omega
  rcases h1 with h1 | h1 <;> rcases h2 with h2 | h2 <;> rw [h1, h2] <;> decide

theorem top_and (a s : Nat) (ha : a < 4294967296) (hs : s < 4294967296) : (a &&& s) / 2147483648 = a / 2147483648 * (s / 2147483648) := by
  have h : (a &&& s) / 2 ^ 31 = a / 2 ^ 31 &&& s / 2 ^ 31 := Nat.and_div_two_pow
  have e : (2 : Nat) ^ 31 = 2147483648 := by decide
  rw [e] at h
  rw [h]
  have h1 : a / 2147483648 = 0 ∨ a / 2147483648 = 1 := by omega
  have h2 : s / 2147483648 = 0 ∨ s / 2147483648 = 1 := by omega
  rcases h1 with h1 | h1 <;> rcases h2 with h2 | h2 <;> rw [h1, h2] <;> decide

theorem xor_lt32 (a b : Nat) (ha : a < 4294967296) (hb : b < 4294967296) : a ^^^ b < 4294967296 := Nat.xor_lt_two_pow (n := 32) ha hb

theorem over_eq (a b : Int) (c : Bool) (ha0 : 0 ≤ a) (ha : a < 4294967296) (hb0 : 0 ≤ b) (hb : b < 4294967296) :
    (bits .and .u32 (bits .xor .u32 a (addS a b c)) (bits .xor .u32 b (addS a b c)) / 2147483648 == 1) = overS a b c := by
  have hs := addS_bounds a b c
  have hc := carryN_bounds c
  have hsd : addS a b c = (a + b + carryN c) % 4294967296 := rfl
  unfold overS wrap32
  rw [hsd]
  generalize addS a b c = s at *
  generalize carryN c = k at *
  subst hsd
  rw [u32_xor a _ ha0 ha hs.1 hs.2, u32_xor b _ hb0 hb hs.1 hs.2]
  have l1 := xor_lt32 a.toNat ((a + b + k) % 4294967296).toNat (by omega) (by omega)
  have l2 := xor_lt32 b.toNat ((a + b + k) % 4294967296).toNat (by omega) (by omega)
  rw [u32_and _ _ (by omega) (by omega) (by omega) (by omega)]
  have t1 := top_xor a.toNat ((a + b + k) % 4294967296).toNat (by omega) (by omega)
  have t2 := top_xor b.toNat ((a + b + k) % 4294967296).toNat (by omega) (by omega)
  have t3 := top_and _ _ l1 l2
  simp only [Int.toNat_natCast]
  generalize hX : a.toNat ^^^ ((a + b + k) % 4294967296).toNat = X at *
  generalize hY : b.toNat ^^^ ((a + b + k) % 4294967296).toNat = Y at *
  generalize hZ : X &&& Y = Z at *
  rw [t1, t2] at t3
  clear hX hY hZ t1 t2 l1 l2
  have q1 : a.toNat / 2147483648 = 0 ∨ a.toNat / 2147483648 = 1 := by omega
  have q2 : b.toNat / 2147483648 = 0 ∨ b.toNat / 2147483648 = 1 := by omega
  have q3 : ((a + b + k) % 4294967296).toNat / 2147483648 = 0 ∨ ((a + b + k) % 4294967296).toNat / 2147483648 = 1 := by omega
  rcases q1 with q1 | q1 <;> rcases q2 with q2 | q2 <;> rcases q3 with q3 | q3 <;> rw [q1, q2, q3] at t3 <;> simp at t3 <;> rw [Bool.eq_iff_iff] <;> simp <;> omega

/-! ### shifts -/
def oneS (kind : Int) (p : Int × Bool) : Int × Bool :=
  if kind = 1 then (p.1 * 2 % 4294967296, p.1 / 2147483648 == 1)
  else if kind = 2 then (p.1 / 2, p.1 % 2 == 1)
  else if kind = 3 then (p.1 / 2 + p.1 / 2147483648 * 2147483648, p.1 % 2 == 1)
  else if kind = 4 then (p.1 / 2 + p.1 % 2 * 2147483648, p.1 % 2 == 1)
  else (p.1 / 2 + carryN p.2 * 2147483648, p.1 % 2 == 1)
def iterS (kind : Int) : Nat → Int × Bool → Int × Bool
  | 0, p => p
  | n + 1, p => oneS kind (iterS kind n p)
def countS (n : Int) : Nat := (if n < 0 then 0 else if 255 < n then 255 else n).toNat
def shiftS (v kind n : Int) (c : Bool) : Int × Bool :=
  if kind = 5 then oneS 5 (v, c) else if kind < 1 ∨ 5 < kind then (v, c) else iterS kind (countS n) (v, c)

theorem iterS_add (kind : Int) (m n : Nat) (p : Int × Bool) : iterS kind n (iterS kind m p) = iterS kind (m + n) p := by
  induction n with
  | zero => rfl
  | succ n ih => show oneS kind (iterS kind n (iterS kind m p)) = oneS kind (iterS kind (m + n) p); rw [ih]

theorem oneS_bounds (kind : Int) (p : Int × Bool) (h0 : 0 ≤ p.1) (h1 : p.1 < 4294967296) : 0 ≤ (oneS kind p).1 ∧ (oneS kind p).1 < 4294967296 := by
  have hc := carryN_bounds p.2
  unfold oneS
  repeat (first | split | (dsimp only; omega))

theorem iterS_bounds (kind : Int) (n : Nat) (p : Int × Bool) (h0 : 0 ≤ p.1) (h1 : p.1 < 4294967296) : 0 ≤ (iterS kind n p).1 ∧ (iterS kind n p).1 < 4294967296 := by
  induction n with
  | zero => exact ⟨h0, h1⟩
  | succ n ih => exact oneS_bounds kind _ ih.1 ih.2

theorem shiftS_bounds (v kind n : Int) (c : Bool) (h0 : 0 ≤ v) (h1 : v < 4294967296) : 0 ≤ (shiftS v kind n c).1 ∧ (shiftS v kind n c).1 < 4294967296 := by
  unfold shiftS
  split
  · exact oneS_bounds _ _ h0 h1
  · split
    · exact ⟨h0, h1⟩
    · exact iterS_bounds _ _ _ h0 h1

theorem lsl_iter (v : Int) (c : Bool) (h0 : 0 ≤ v) (h1 : v < 4294967296) (n : Nat) :
    iterS 1 (n + 1) (v, c) = (v * 2 ^ (n + 1) % 4294967296, v * 2 ^ n % 4294967296 / 2147483648 == 1) := by
  induction n with
  | zero => simp only [iterS, oneS, if_true]; rw [show v * 2 ^ 0 = v by simp, show v * 2 ^ (0 + 1) = v * 2 by simp]; rw [Int.emod_eq_of_lt h0 h1]
  | succ n ih =>
    show oneS 1 (iterS 1 (n + 1) (v, c)) = _
    rw [ih]
    simp only [oneS, if_true]
    refine Prod.ext ?_ rfl
    have e : v * 2 ^ (n + 1 + 1) = v * 2 ^ (n + 1) * 2 := by rw [Int.pow_succ 2 (n + 1), ← Int.mul_assoc]
    show v * 2 ^ (n + 1) % 4294967296 * 2 % 4294967296 = v * 2 ^ (n + 1 + 1) % 4294967296
    rw [e]
    omega

theorem div_pow_succ (v : Int) (n : Nat) : v / 2 ^ n / 2 = v / 2 ^ (n + 1) := by
  rw [Int.pow_succ, Int.ediv_ediv_of_nonneg (Int.le_of_lt (Int.pow_pos (by decide)))]

theorem lsr_iter (v : Int) (c : Bool) (n : Nat) :
    iterS 2 (n + 1) (v, c) = (v / 2 ^ (n + 1), v / 2 ^ n % 2 == 1) := by
  induction n with
  | zero => simp [iterS, oneS]
  | succ n ih =>
    show oneS 2 (iterS 2 (n + 1) (v, c)) = _
    rw [ih]
    simp only [oneS, if_true, show ¬((2 : Int) = 1) by decide, if_false]
    rw [div_pow_succ]

theorem asr_iter (v : Int) (c : Bool) (h0 : 0 ≤ v) (h1 : v < 4294967296) (n : Nat) :
    iterS 3 (n + 1) (v, c) = (wrap32 v / 2 ^ (n + 1) % 4294967296, wrap32 v / 2 ^ n % 2 == 1) := by
  induction n with
  | zero => simp only [iterS, oneS, if_true, show ¬((3 : Int) = 1) by decide, show ¬((3 : Int) = 2) by decide, if_false, wrap32]; refine Prod.ext (by simp; omega) ?_; rw [Bool.eq_iff_iff]; simp; omega
  | succ n ih =>
    show oneS 3 (iterS 3 (n + 1) (v, c)) = _
    rw [ih]
    simp only [oneS, if_true, show ¬((3 : Int) = 1) by decide, show ¬((3 : Int) = 2) by decide, if_false]
    rw [← div_pow_succ _ (n + 1)]
    have hb : -2147483648 ≤ wrap32 v / 2 ^ (n + 1) ∧ wrap32 v / 2 ^ (n + 1) ≤ 2147483647 := by
      have hw : -2147483648 ≤ wrap32 v ∧ wrap32 v ≤ 2147483647 := by unfold wrap32; omega
      have hp : (1 : Int) ≤ 2 ^ (n + 1) := Int.pow_pos (by decide)
      have hm := Int.mul_ediv_add_emod (wrap32 v) (2 ^ (n + 1))
      have hr := Int.emod_nonneg (wrap32 v) (show (2 : Int) ^ (n + 1) ≠ 0 by omega)
      have hr' := Int.emod_lt_of_pos (wrap32 v) (show (0 : Int) < 2 ^ (n + 1) by omega)
      generalize wrap32 v / 2 ^ (n + 1) = q at *
      generalize wrap32 v % 2 ^ (n + 1) = r at *
      generalize (2 : Int) ^ (n + 1) = p at *
      refine ⟨?_, ?_⟩
      · by_cases hq : q < -2147483648
        · have := Int.mul_le_mul_of_nonneg_left (show q ≤ -2147483649 by omega) (show 0 ≤ p by omega)
          omega
        · omega
      · by_cases hq : 2147483647 < q
        · have := Int.mul_le_mul_of_nonneg_left (show 2147483648 ≤ q by omega) (show 0 ≤ p by omega)
          omega
        · omega
    generalize wrap32 v / 2 ^ (n + 1) = q at *
    refine Prod.ext (by simp; omega) ?_
    rw [Bool.eq_iff_iff]
    simp

def rorS (v : Int) (r : Nat) : Int := v / 2 ^ r + v % 2 ^ r * 2 ^ (32 - r)

theorem rorS_bounds (v : Int) (r : Nat) (h0 : 0 ≤ v) (h1 : v < 4294967296) (hr : r < 32) : 0 ≤ rorS v r ∧ rorS v r < 4294967296 := by
  unfold rorS
  rcases upto32 (r + 1) (by omega) (by omega) with h | h | h | h | h | h | h | h | h | h | h | h | h | h | h | h | h | h | h | h | h | h | h | h | h | h | h | h | h | h | h | h <;>
    (have h' : r = _ := Nat.succ.inj h; subst h'; simp; omega)

theorem rorS_step (v : Int) (r : Nat) (h0 : 0 ≤ v) (h1 : v < 4294967296) (hr : r < 32) :
    rorS v r / 2 + rorS v r % 2 * 2147483648 = rorS v ((r + 1) % 32) ∧ (rorS v r % 2 = 1 ↔ rorS v ((r + 1) % 32) / 2147483648 = 1) := by
  have hX := rorS_bounds v r h0 h1 hr
  by_cases h31 : r = 31
  · subst h31
    have hb : v / 2147483648 = 0 ∨ v / 2147483648 = 1 := by omega
    simp only [rorS] at hX ⊢
    simp at hX ⊢
    rcases hb with hb | hb <;> rw [hb] at hX ⊢ <;> omega
  · have er : (r + 1) % 32 = r + 1 := by omega
    rw [er]
    have hP : (0 : Int) < 2 ^ r := Int.pow_pos (by decide)
    have eC : (2 : Int) ^ (32 - r) = 2 ^ (31 - r) * 2 := by rw [← Int.pow_succ]; congr 1; omega
    have eD : (2 : Int) ^ (32 - (r + 1)) = 2 ^ (31 - r) := by rw [show 32 - (r + 1) = 31 - r by omega]
    have eP : (2 : Int) ^ r * 2 ^ (31 - r) = 2147483648 := by rw [← Int.pow_add, show r + (31 - r) = 31 by omega]; decide
    have e1 := div_pow_succ v r
    have e2 : v % 2 ^ (r + 1) = v / 2 ^ r % 2 * 2 ^ r + v % 2 ^ r := by
      have a1 := Int.mul_ediv_add_emod v (2 ^ r)
      have a2 := Int.mul_ediv_add_emod v (2 ^ (r + 1))
      rw [← e1, Int.pow_succ] at a2
      rw [Int.pow_succ]
      have a3 := Int.mul_ediv_add_emod (v / 2 ^ r) 2
      generalize v / 2 ^ r = q at *
      generalize v % 2 ^ r = m at *
      generalize v % (2 ^ r * 2) = z at *
      generalize (2 : Int) ^ r = P at *
      have a4 : P * q = P * (2 * (q / 2)) + P * (q % 2) := by rw [← Int.mul_add, a3]
      have a5 : P * 2 * (q / 2) = P * (2 * (q / 2)) := by rw [Int.mul_assoc]
      rw [Int.mul_comm (q % 2) P]
      omega
    unfold rorS at hX ⊢
    rw [eD, e2, ← e1]
    rw [eC] at hX ⊢
    have e3 : (v / 2 ^ r % 2 * 2 ^ r + v % 2 ^ r) * 2 ^ (31 - r) = v / 2 ^ r % 2 * 2147483648 + v % 2 ^ r * 2 ^ (31 - r) := by
      rw [Int.add_mul, Int.mul_assoc, eP]
    rw [e3, ← Int.mul_assoc] at *
    have hM : 0 ≤ v % 2 ^ r * 2 ^ (31 - r) := Int.mul_nonneg (Int.emod_nonneg _ (by omega)) (Int.le_of_lt (Int.pow_pos (by decide)))
    have hq : 0 ≤ v / 2 ^ r := Int.ediv_nonneg h0 (by omega)
    generalize v % 2 ^ r * 2 ^ (31 - r) = M at *
    generalize v / 2 ^ r = q at *
    omega

theorem ror_iter (v : Int) (c : Bool) (h0 : 0 ≤ v) (h1 : v < 4294967296) (n : Nat) :
    iterS 4 (n + 1) (v, c) = (rorS v ((n + 1) % 32), rorS v ((n + 1) % 32) / 2147483648 == 1) := by
  have one : ∀ r, r < 32 → ∀ c', oneS 4 (rorS v r, c') = (rorS v ((r + 1) % 32), rorS v ((r + 1) % 32) / 2147483648 == 1) := by
    intro r hr c'
    have h := rorS_step v r h0 h1 hr
    simp only [oneS, if_true, show ¬((4 : Int) = 1) by decide, show ¬((4 : Int) = 2) by decide, show ¬((4 : Int) = 3) by decide, if_false]
    rw [h.1]
    refine Prod.ext rfl ?_
    show (rorS v r % 2 == 1) = (rorS v ((r + 1) % 32) / 2147483648 == 1)
    rw [Bool.eq_iff_iff]
    simpa using h.2
  induction n with
  | zero =>
    show oneS 4 (v, c) = _
    have e : rorS v 0 = v := by simp [rorS]
    have := one 0 (by decide) c
    rw [e] at this
    exact this
  | succ n ih =>
    show oneS 4 (iterS 4 (n + 1) (v, c)) = _
    rw [ih, one _ (Nat.mod_lt _ (by decide))]
    have e : ((n + 1) % 32 + 1) % 32 = (n + 1 + 1) % 32 := by omega
    rw [e]


/-! ### products, quotients -/
def mulS (a b : Int) (s : Bool) : Int := if s then wrap32 a * wrap32 b % 18446744073709551616 else a * b % 18446744073709551616
def divuS (a b : Int) : Int := if b = 0 then 0 else a / b
def divsS (a b : Int) : Int := if b = 0 then 0 else (wrap32 a).tdiv (wrap32 b) % 4294967296

theorem mul_u (a b : Int) : IntKind.u64.wrap (a * b) = mulS a b false := by rw [IntKind.wrap_u64]; rfl
theorem wrap64_32 (a : Int) : wrap64 (wrap32 a) = wrap32 a := by unfold wrap64 wrap32; omega
theorem wrap64_mod64 (a : Int) : wrap64 a % 18446744073709551616 = a % 18446744073709551616 := by unfold wrap64; omega
theorem wrap64_mod32 (a : Int) : wrap64 a % 4294967296 = a % 4294967296 := by unfold wrap64; omega
theorem mul_s (a b : Int) : IntKind.u64.wrap (wrap64 (wrap64 (wrap32 a) * wrap64 (wrap32 b))) = mulS a b true := by
  rw [IntKind.wrap_u64, wrap64_32, wrap64_32, wrap64_mod64]; rfl
theorem divu_eq (a b : Int) (a0 : 0 ≤ a) (a1 : a < 4294967296) (b0 : 0 ≤ b) (hb : ¬ b = 0) : a.tdiv b % 4294967296 = divuS a b := by
  unfold divuS
  rw [if_neg hb, Int.tdiv_eq_ediv_of_nonneg a0]
  have h0 : 0 ≤ a / b := Int.ediv_nonneg a0 b0
  have h1 : a / b ≤ a := Int.ediv_le_self b a0
  omega
theorem divs_eq (a b : Int) (hb : ¬ b = 0) : wrap64 ((wrap64 (wrap32 a)).tdiv (wrap64 (wrap32 b))) % 4294967296 = divsS a b := by
  unfold divsS
  rw [if_neg hb, wrap64_32, wrap64_32, wrap64_mod32]
theorem divuS_bounds (a b : Int) (a0 : 0 ≤ a) (a1 : a < 4294967296) (b0 : 0 ≤ b) : 0 ≤ divuS a b ∧ divuS a b < 4294967296 := by
  unfold divuS
  split
  · omega
  · have h0 : 0 ≤ a / b := Int.ediv_nonneg a0 b0
    have h1 : a / b ≤ a := Int.ediv_le_self b a0
    omega
theorem divsS_bounds (a b : Int) : 0 ≤ divsS a b ∧ divsS a b < 4294967296 := by unfold divsS; split <;> omega
end Go.Proofs.YtjhmmfpmmgebjaaGreat
namespace Go.Proofs.YtjhmmfpmmgebjaaGreat
open Go.RowKit
set_option linter.unusedVariables false
set_option linter.unusedSimpArgs false

theorem mask31 (k : Int) : bits .and .u64 (IntKind.u64.wrap k) 31 = k % 32 := by
  rw [IntKind.wrap_u64, u64_and _ _ (by omega) (by omega) (by omega) (by omega)]
  rw [show (31 : Int).toNat = 31 from rfl, nat_mask5]
  omega

theorem or_join32 (i : Nat) (x y : Int) (x0 : 0 ≤ x) (x1 : x < 4294967296) (y0 : 0 ≤ y) (hx : x % 2 ^ i = 0) (hy : y < 2 ^ i) (y1 : y < 4294967296) : bits .or .u32 x y = x + y := by
  rw [u32_or x y x0 x1 y0 y1]
  obtain ⟨X, rfl⟩ := Int.eq_ofNat_of_zero_le x0
  obtain ⟨Y, rfl⟩ := Int.eq_ofNat_of_zero_le y0
  simp only [Int.toNat_natCast]
  have e : ((2 : Int) ^ i) = ((2 ^ i : Nat) : Int) := by simp
  rw [e] at hx hy
  rw [nat_join i X Y (by exact_mod_cast hx) (by exact_mod_cast hy)]
  simp

theorem rotl_parts (x : Int) (s : Nat) (x0 : 0 ≤ x) (x1 : x < 4294967296) (hs : s < 32) :
    x * 2 ^ s % 4294967296 % 2 ^ s = 0 ∧ x / 2 ^ (32 - s) < 2 ^ s ∧ 0 ≤ x / 2 ^ (32 - s) ∧ x / 2 ^ (32 - s) < 4294967296 ∧ x * 2 ^ s % 4294967296 + x / 2 ^ (32 - s) = rorS x ((32 - s) % 32) := by
  unfold rorS
  rcases upto32 (s + 1) (by omega) (by omega) with h | h | h | h | h | h | h | h | h | h | h | h | h | h | h | h | h | h | h | h | h | h | h | h | h | h | h | h | h | h | h | h <;>
    (have h' : s = _ := Nat.succ.inj h
     subst h'
     simp
     omega)
theorem rotl_eq (x : Int) (s : Nat) (x0 : 0 ≤ x) (x1 : x < 4294967296) (hs : s < 32) :
    bits .or .u32 (x * 2 ^ s % 4294967296) (x / 2 ^ (32 - s)) = rorS x ((32 - s) % 32) := by
  obtain ⟨a, b, c, d, e⟩ := rotl_parts x s x0 x1 hs
  rw [or_join32 s _ _ (by omega) (by omega) c a b d, e]

theorem and1_u64 (x : Int) (x0 : 0 ≤ x) (x1 : x < 18446744073709551616) : bits .and .u64 x 1 = x % 2 := by
  rw [u64_and _ _ x0 x1 (by omega) (by omega), show (1 : Int).toNat = 1 from rfl, nat_mask1]; omega
theorem and1_u32 (x : Int) (x0 : 0 ≤ x) (x1 : x < 4294967296) : bits .and .u32 x 1 = x % 2 := by
  rw [u32_and _ _ x0 x1 (by omega) (by omega), show (1 : Int).toNat = 1 from rfl, nat_mask1]; omega
theorem and1_i32 (x : Int) : bits .and .i32 x 1 = x % 2 := by
  show IntKind.i32.wrap ((BitVec.ofInt 32 x &&& BitVec.ofInt 32 1).toNat : Int) = _
  rw [BitVec.toNat_and, BitVec.toNat_ofInt, show (BitVec.ofInt 32 1).toNat = 1 by decide, nat_mask1, IntKind.wrap_i32]
  omega
theorem mask32_i64 (x : Int) : bits .and .i64 x 4294967295 = x % 4294967296 := by
  show IntKind.i64.wrap ((BitVec.ofInt 64 x &&& BitVec.ofInt 64 4294967295).toNat : Int) = _
  rw [BitVec.toNat_and, BitVec.toNat_ofInt, show (BitVec.ofInt 64 4294967295).toNat = 4294967295 by decide, nat_mask32, IntKind.wrap_i64]
  omega

theorem countS_mid (n : Int) (n0 : 0 ≤ n) (n1 : n ≤ 255) : countS n = n.toNat := by unfold countS; rw [if_neg (by omega), if_neg (by omega)]
theorem countS_high (n : Int) (n0 : 255 < n) : countS n = 255 := by unfold countS; rw [if_neg (by omega), if_pos n0]; rfl
theorem countS_low (n : Int) (n0 : n ≤ 0) : countS n = 0 := by unfold countS; split <;> (try split) <;> omega
theorem shiftS_of (v kind n : Int) (c : Bool) (k0 : 1 ≤ kind) (k1 : kind ≤ 4) : shiftS v kind n c = iterS kind (countS n) (v, c) := by
  unfold shiftS; rw [if_neg (by omega), if_neg (by omega)]

theorem pow_split (m k : Nat) (h : k ≤ m) : (2 : Int) ^ m = 2 ^ (m - k) * 2 ^ k := by rw [← Int.pow_add]; congr 1; omega

theorem lsl_low (v : Int) (m : Nat) (v0 : 0 ≤ v) (v1 : v < 4294967296) (m0 : 1 ≤ m) (c : Bool) :
    IntKind.u64.wrap (v * 2 ^ min m 64) % 4294967296 = (iterS 1 m (v, c)).1 ∧ (bits .and .u64 (IntKind.u64.wrap (v * 2 ^ min m 64) / 4294967296) 1 == 1) = (iterS 1 m (v, c)).2 := by
  obtain ⟨j, rfl⟩ : ∃ j, m = j + 1 := ⟨m - 1, by omega⟩
  rw [lsl_iter v c v0 v1 j, IntKind.wrap_u64, and1_u64 _ (by omega) (by omega)]
  by_cases h : j + 1 ≤ 64
  · rw [Nat.min_eq_left h, Int.pow_succ, ← Int.mul_assoc]
    generalize v * 2 ^ j = X
    refine ⟨by omega, ?_⟩
    rw [Bool.eq_iff_iff]
    simp
    omega
  · rw [Nat.min_eq_right (by omega), pow_split (j + 1) 32 (by omega), pow_split j 32 (by omega), ← Int.mul_assoc, ← Int.mul_assoc]
    generalize v * 2 ^ (j + 1 - 32) = X
    generalize v * 2 ^ (j - 32) = Y
    refine ⟨by omega, ?_⟩
    rw [Bool.eq_iff_iff]
    simp

theorem div_pow_small (x : Int) (k : Nat) (h0 : 0 ≤ x) (h1 : x < 2 ^ k) : x / 2 ^ k = 0 := Int.ediv_eq_zero_of_lt h0 h1
theorem pow_mono32 (m : Nat) (h : 32 ≤ m) : (4294967296 : Int) ≤ 2 ^ m := by
  rw [pow_split m 32 h]
  have : (1 : Int) ≤ 2 ^ (m - 32) := Int.pow_pos (by decide)
  omega
theorem min_shift (v : Int) (m : Nat) (v0 : 0 ≤ v) (v1 : v < 4294967296) : v / 2 ^ min m 32 = v / 2 ^ m := by
  by_cases h : m ≤ 32
  · rw [Nat.min_eq_left h]
  · rw [Nat.min_eq_right (by omega), div_pow_small v m v0 (by have := pow_mono32 m (by omega); omega)]
    simp
    omega
theorem div_neg_one (x p : Int) (h0 : -p ≤ x) (h1 : x < 0) : x / p = -1 := by
  have hp : 0 < p := by omega
  have hm := Int.mul_ediv_add_emod x p
  have hr := Int.emod_nonneg x (show p ≠ 0 by omega)
  have hr' := Int.emod_lt_of_pos x hp
  generalize x / p = q at *
  generalize x % p = r at *
  by_cases a : 0 ≤ q
  · have := Int.mul_nonneg (Int.le_of_lt hp) a
    omega
  · by_cases b : q ≤ -2
    · have := Int.mul_le_mul_of_nonneg_left b (Int.le_of_lt hp)
      omega
    · omega
theorem min_shift_s (x : Int) (m : Nat) (x0 : -2147483648 ≤ x) (x1 : x < 2147483648) : x / 2 ^ min m 32 = x / 2 ^ m := by
  by_cases h : m ≤ 32
  · rw [Nat.min_eq_left h]
  · have hb := pow_mono32 m (by omega)
    rw [Nat.min_eq_right (by omega)]
    by_cases g : 0 ≤ x
    · rw [div_pow_small x m g (by omega)]
      simp
      omega
    · rw [div_neg_one x (2 ^ m) (by omega) (by omega)]
      exact div_neg_one x _ (by omega) (by omega)

theorem lsr_low (v : Int) (m : Nat) (v0 : 0 ≤ v) (v1 : v < 4294967296) (m0 : 1 ≤ m) (c : Bool) :
    v / 2 ^ min m 32 = (iterS 2 m (v, c)).1 ∧ (bits .and .u32 (v / 2 ^ min (m - 1) 32) 1 == 1) = (iterS 2 m (v, c)).2 := by
  obtain ⟨j, rfl⟩ : ∃ j, m = j + 1 := ⟨m - 1, by omega⟩
  rw [lsr_iter v c j, Nat.add_sub_cancel, min_shift v _ v0 v1, min_shift v _ v0 v1]
  have h := zeroS_bounds v 0 v0 v1
  have h0 : 0 ≤ v / 2 ^ j := Int.ediv_nonneg v0 (Int.le_of_lt (Int.pow_pos (by decide)))
  have h1 : v / 2 ^ j ≤ v := Int.ediv_le_self _ v0
  rw [and1_u32 _ h0 (by omega)]
  exact ⟨rfl, rfl⟩

theorem wrap32_bounds (v : Int) : -2147483648 ≤ wrap32 v ∧ wrap32 v < 2147483648 := by unfold wrap32; omega
theorem asr_low (v : Int) (m : Nat) (v0 : 0 ≤ v) (v1 : v < 4294967296) (m0 : 1 ≤ m) (c : Bool) :
    wrap32 v / 2 ^ min m 32 % 4294967296 = (iterS 3 m (v, c)).1 ∧ (bits .and .i32 (wrap32 v / 2 ^ min (m - 1) 32) 1 == 1) = (iterS 3 m (v, c)).2 := by
  obtain ⟨j, rfl⟩ : ∃ j, m = j + 1 := ⟨m - 1, by omega⟩
  have hw := wrap32_bounds v
  rw [asr_iter v c v0 v1 j, Nat.add_sub_cancel, min_shift_s _ _ hw.1 hw.2, min_shift_s _ _ hw.1 hw.2, and1_i32]
  exact ⟨rfl, rfl⟩

theorem ror_low (v : Int) (m : Nat) (v0 : 0 ≤ v) (v1 : v < 4294967296) (m0 : 1 ≤ m) (c : Bool) :
    rorS v ((32 - (-(m : Int) % 32).toNat) % 32) = (iterS 4 m (v, c)).1 ∧ (rorS v ((32 - (-(m : Int) % 32).toNat) % 32) / 2147483648 == 1) = (iterS 4 m (v, c)).2 := by
  obtain ⟨j, rfl⟩ : ∃ j, m = j + 1 := ⟨m - 1, by omega⟩
  rw [ror_iter v c v0 v1 j, show (32 - (-((j + 1 : Nat) : Int) % 32).toNat) % 32 = (j + 1) % 32 by omega]
  exact ⟨rfl, rfl⟩

theorem rrx_true (v : Int) (v0 : 0 ≤ v) (v1 : v < 4294967296) : bits .or .u32 (v / 2) 2147483648 = (oneS 5 (v, true)).1 := by
  have h : bits .or .u32 (v / 2) 2147483648 = 2147483648 + v / 2 := by
    rw [u32_or _ _ (by omega) (by omega) (by omega) (by omega), Nat.or_comm, nat_join 31 _ _ (by decide) (by omega)]
    omega
  rw [h]
  simp [oneS, carryN]
  omega
theorem rrx_false (v : Int) : v / 2 = (oneS 5 (v, false)).1 := by simp [oneS, carryN]
theorem rrx_out (v : Int) (c : Bool) (v0 : 0 ≤ v) (v1 : v < 4294967296) : (bits .and .u32 v 1 == 1) = (oneS 5 (v, c)).2 := by
  rw [and1_u32 v v0 v1]; simp [oneS]
end Go.Proofs.YtjhmmfpmmgebjaaGreat
namespace Go.Proofs.YtjhmmfpmmgebjaaGreat
open Go.RowKit
set_option linter.unusedVariables false
set_option linter.unusedSimpArgs false

/-! ### from numbers to bit vectors and back -/
theorem bv_of (x : Int) (x0 : 0 ≤ x) (x1 : x < 4294967296) : ∃ b : BitVec 32, x = (b.toNat : Int) :=
  ⟨BitVec.ofInt 32 x, by rw [BitVec.toNat_ofInt]; omega⟩
theorem bv_and (x y : BitVec 32) : bits .and .u32 (x.toNat : Int) (y.toNat : Int) = ((x &&& y).toNat : Int) := by
  rw [u32_and_nat _ _ (by have := x.isLt; omega) (by have := y.isLt; omega), BitVec.toNat_and]
theorem bv_or (x y : BitVec 32) : bits .or .u32 (x.toNat : Int) (y.toNat : Int) = ((x ||| y).toNat : Int) := by
  rw [u32_or_nat _ _ (by have := x.isLt; omega) (by have := y.isLt; omega), BitVec.toNat_or]
theorem bv_xor (x y : BitVec 32) : bits .xor .u32 (x.toNat : Int) (y.toNat : Int) = ((x ^^^ y).toNat : Int) := by
  rw [u32_xor_nat _ _ (by have := x.isLt; omega) (by have := y.isLt; omega), BitVec.toNat_xor]
theorem bv_andl (x : BitVec 32) (n : Nat) (h : n < 4294967296) : bits .and .u32 (x.toNat : Int) (n : Int) = ((x &&& BitVec.ofNat 32 n).toNat : Int) := by
  rw [← bv_and, BitVec.toNat_ofNat, Nat.mod_eq_of_lt (by omega)]
theorem bv_orl (x : BitVec 32) (n : Nat) (h : n < 4294967296) : bits .or .u32 (x.toNat : Int) (n : Int) = ((x ||| BitVec.ofNat 32 n).toNat : Int) := by
  rw [← bv_or, BitVec.toNat_ofNat, Nat.mod_eq_of_lt (by omega)]
theorem bv_shr (x : BitVec 32) (k : Nat) : (x.toNat : Int) / 2 ^ k = ((x >>> k).toNat : Int) := by
  rw [BitVec.toNat_ushiftRight, Nat.shiftRight_eq_div_pow]; simp
theorem bv_shl (x : BitVec 32) (k : Nat) : (x.toNat : Int) * 2 ^ k % 4294967296 = ((x <<< k).toNat : Int) := by
  rw [BitVec.toNat_shiftLeft, Nat.shiftLeft_eq]; simp
theorem bv_swap (x : BitVec 32) (k n : Nat) (h : n < 4294967296) :
    bits .or .u32 (bits .and .u32 ((x.toNat : Int) / 2 ^ k) (n : Int)) (bits .and .u32 (x.toNat : Int) (n : Int) * 2 ^ k % 4294967296)
      = ((((x >>> k) &&& BitVec.ofNat 32 n) ||| ((x &&& BitVec.ofNat 32 n) <<< k)).toNat : Int) := by
  rw [bv_shr, bv_andl _ n h, bv_andl _ n h, bv_shl, bv_or]

def swapB (k n : Nat) (x : BitVec 32) : BitVec 32 := ((x >>> k) &&& BitVec.ofNat 32 n) ||| ((x &&& BitVec.ofNat 32 n) <<< k)
def revB (x : BitVec 32) : BitVec 32 := let y := swapB 8 16711935 x; (y >>> 16) ||| (y <<< 16)
def rbitB (x : BitVec 32) : BitVec 32 := revB (swapB 4 252645135 (swapB 2 858993459 (swapB 1 1431655765 x)))

theorem cases32 {p : Nat → Prop} (h : ∀ i : Fin 32, p i.val) (i : Nat) (hi : i < 32) : p i := h ⟨i, hi⟩

theorem revB_bit (x : BitVec 32) (i : Nat) (hi : i < 32) : (revB x).getLsbD i = x.getLsbD ((3 - i / 8) * 8 + i % 8) := by
  rcases upto32 (i + 1) (by omega) (by omega) with h | h | h | h | h | h | h | h | h | h | h | h | h | h | h | h | h | h | h | h | h | h | h | h | h | h | h | h | h | h | h | h <;>
    (have h' : i = _ := Nat.succ.inj h
     subst h'
     simp [revB, swapB])
theorem rbitB_bit (x : BitVec 32) (i : Nat) (hi : i < 32) : (rbitB x).getLsbD i = x.getLsbD (31 - i) := by
  unfold rbitB
  rw [revB_bit _ i hi]
  rcases upto32 (i + 1) (by omega) (by omega) with h | h | h | h | h | h | h | h | h | h | h | h | h | h | h | h | h | h | h | h | h | h | h | h | h | h | h | h | h | h | h | h <;>
    (have h' : i = _ := Nat.succ.inj h
     subst h'
     simp [swapB])

def rev16B (x : BitVec 32) : BitVec 32 := ((x >>> 8) &&& BitVec.ofNat 32 16711935) ||| ((x <<< 8) &&& BitVec.ofNat 32 4278255360)
theorem rev16B_bit (x : BitVec 32) (i : Nat) (hi : i < 32) : (rev16B x).getLsbD i = x.getLsbD (i / 16 * 16 + (i + 8) % 16) := by
  rcases upto32 (i + 1) (by omega) (by omega) with h | h | h | h | h | h | h | h | h | h | h | h | h | h | h | h | h | h | h | h | h | h | h | h | h | h | h | h | h | h | h | h <;>
    (have h' : i = _ := Nat.succ.inj h
     subst h'
     simp [rev16B])

theorem revB_revB (x : BitVec 32) : revB (revB x) = x := by
  apply BitVec.eq_of_getLsbD_eq
  intro i hi
  rw [revB_bit _ i hi, revB_bit _ _ (by omega)]
  congr 1
  omega
theorem rbitB_rbitB (x : BitVec 32) : rbitB (rbitB x) = x := by
  apply BitVec.eq_of_getLsbD_eq
  intro i hi
  rw [rbitB_bit _ i hi, rbitB_bit _ _ (by omega)]
  congr 1
  omega
theorem rev16B_rev16B (x : BitVec 32) : rev16B (rev16B x) = x := by
  apply BitVec.eq_of_getLsbD_eq
  intro i hi
  rw [rev16B_bit _ i hi, rev16B_bit _ _ (by omega)]
  congr 1
  omega
theorem revB_rbitB (x : BitVec 32) : revB (rbitB x) = rbitB (revB x) := by
  apply BitVec.eq_of_getLsbD_eq
  intro i hi
  rw [revB_bit _ i hi, rbitB_bit _ _ (by omega), rbitB_bit _ i hi, revB_bit _ _ (by omega)]
  congr 1
  omega

def ofB (f : BitVec 32 → BitVec 32) (x : Int) : Int := ((f (BitVec.ofInt 32 x)).toNat : Int)
theorem ofB_bounds (f : BitVec 32 → BitVec 32) (x : Int) : 0 ≤ ofB f x ∧ ofB f x < 4294967296 := by
  unfold ofB
  have := (f (BitVec.ofInt 32 x)).isLt
  omega
theorem ofB_nat (f : BitVec 32 → BitVec 32) (b : BitVec 32) : ofB f (b.toNat : Int) = ((f b).toNat : Int) := by
  unfold ofB
  rw [BitVec.ofInt_natCast, BitVec.ofNat_toNat, BitVec.setWidth_eq]
theorem ofB_ofB (f g : BitVec 32 → BitVec 32) (x : Int) : ofB f (ofB g x) = ofB (fun b => f (g b)) x := by
  rw [show ofB g x = ((g (BitVec.ofInt 32 x)).toNat : Int) from rfl, ofB_nat]
  rfl
theorem ofB_id (f : BitVec 32 → BitVec 32) (h : ∀ b, f b = b) (x : Int) (x0 : 0 ≤ x) (x1 : x < 4294967296) : ofB f x = x := by
  obtain ⟨b, rfl⟩ := bv_of x x0 x1
  rw [ofB_nat, h]

theorem bits_u32_bounds (op : BinOp) (a b : Int) : 0 ≤ bits op .u32 a b ∧ bits op .u32 a b < 4294967296 := by
  unfold bits
  rw [IntKind.wrap_u32']
  omega

/-- what the walk shows of bits.ReverseBytes32 -/
theorem revBytes_eq (x : Int) (x0 : 0 ≤ x) (x1 : x < 4294967296) :
    bits .or .u32 (bits .or .u32 (bits .and .u32 (x / 256) 16711935) (bits .and .u32 x 16711935 * 256 % 4294967296) / 65536)
      (bits .or .u32 (bits .and .u32 (x / 256) 16711935) (bits .and .u32 x 16711935 * 256 % 4294967296) * 65536 % 4294967296) = ofB revB x := by
  obtain ⟨b, rfl⟩ := bv_of x x0 x1
  rw [ofB_nat]
  have h := bv_swap b 8 16711935 (by omega)
  have e8 : (2 : Int) ^ 8 = 256 := by decide
  have e16 : (2 : Int) ^ 16 = 65536 := by decide
  rw [e8] at h
  rw [show ((16711935 : Nat) : Int) = 16711935 from rfl] at h
  rw [h, ← e16, bv_shr, bv_shl, bv_or]
  rfl
theorem swap_eq (x p n : Int) (k m : Nat) (hp : (2 : Int) ^ k = p) (hn : (m : Int) = n) (hm : m < 4294967296) (x0 : 0 ≤ x) (x1 : x < 4294967296) :
    bits .or .u32 (bits .and .u32 (x / p) n) (bits .and .u32 x n * p % 4294967296) = ofB (swapB k m) x := by
  obtain ⟨b, rfl⟩ := bv_of x x0 x1
  subst hp hn
  rw [ofB_nat, bv_swap b k m hm]
  rfl
theorem rev16_eq (x : Int) (x0 : 0 ≤ x) (x1 : x < 4294967296) :
    bits .or .u32 (bits .and .u32 (x / 256) 16711935) (bits .and .u32 (x * 256 % 4294967296) 4278255360) = ofB rev16B x := by
  obtain ⟨b, rfl⟩ := bv_of x x0 x1
  have e8 : (256 : Int) = 2 ^ 8 := by decide
  rw [ofB_nat, e8, bv_shr, bv_shl, show (16711935 : Int) = ((16711935 : Nat) : Int) from rfl, show (4278255360 : Int) = ((4278255360 : Nat) : Int) from rfl, bv_andl _ _ (by omega), bv_andl _ _ (by omega), bv_or]
  rfl
end Go.Proofs.YtjhmmfpmmgebjaaGreat
namespace Go.Proofs.YtjhmmfpmmgebjaaGreat
open Go.ChangeShapes Go.WideShapes Go.ChangeAt Go.RowKit
set_option linter.unusedVariables false
set_option linter.unusedSimpArgs false

theorem clampW_low (k : Int) (h : k < 1) : clampW k = 1 := by simp [clampW, h]
theorem clampW_high (k : Int) (h : 32 < k) : clampW k = 32 := by unfold clampW; rw [if_neg (by omega), if_pos h]; rfl
theorem clampW_mid (k : Int) (h : 1 ≤ k) (h' : k ≤ 32) : clampW k = k.toNat := by unfold clampW; rw [if_neg (by omega), if_neg (by omega)]

theorem mul64_c (a b : Int) (s : Bool) (a0 : 0 ≤ a) (a1 : a < 4294967296) (b0 : 0 ≤ b) (b1 : b < 4294967296) (w : World) :
    Calls Tryz.prog 87 #[.int .u32 a, .int .u32 b, .bool s] w fun e w' => e = .returned (.tuple #[.int .u32 (mulS a b s % 4294967296), .int .u32 (mulS a b s / 4294967296 % 4294967296)]) ∧ w' = w := by
  cases s
  · rw [← mul_u]
    go_enter Tryz.func87, Tryz.ntmps87
    go_wp2
    go_ret2
    exact ⟨rfl, rfl⟩
  · rw [← mul_s]
    go_enter Tryz.func87, Tryz.ntmps87
    go_wp2
    go_ret2
    exact ⟨rfl, rfl⟩
theorem divu_c (a b : Int) (a0 : 0 ≤ a) (a1 : a < 4294967296) (b0 : 0 ≤ b) (b1 : b < 4294967296) (w : World) :
    Calls Tryz.prog 57 #[.int .u32 a, .int .u32 b] w fun e w' => e = .returned (.int .u32 (divuS a b)) ∧ w' = w := by
  by_cases hb : b = 0
  · subst hb
    go_enter Tryz.func57, Tryz.ntmps57
    go_wp2
    go_ret
    exact ⟨rfl, rfl⟩
  · have hb' : (b == 0) = false := by simpa using hb
    have hd : a / b = divuS a b := by unfold divuS; rw [if_neg hb]
    rw [← hd]
    clear hd
    go_enter Tryz.func57, Tryz.ntmps57
    go_wp2
    go_ret
    exact ⟨rfl, rfl⟩
theorem divs_c (a b : Int) (a0 : 0 ≤ a) (a1 : a < 4294967296) (b0 : 0 ≤ b) (b1 : b < 4294967296) (w : World) :
    Calls Tryz.prog 59 #[.int .u32 a, .int .u32 b] w fun e w' => e = .returned (.int .u32 (divsS a b)) ∧ w' = w := by
  by_cases hb : b = 0
  · subst hb
    go_enter Tryz.func59, Tryz.ntmps59
    go_wp2
    go_ret
    exact ⟨rfl, rfl⟩
  · have hb' : (b == 0) = false := by simpa using hb
    have hz : ¬ wrap64 (wrap32 b) = 0 := by unfold wrap64 wrap32; omega
    have hd := divs_eq a b hb
    rw [← hd]
    clear hd
    go_enter Tryz.func59, Tryz.ntmps59
    go_wp2
    go_ret
    exact ⟨rfl, rfl⟩
end Go.Proofs.YtjhmmfpmmgebjaaGreat
namespace Go.Proofs.YtjhmmfpmmgebjaaGreat
open Go.ChangeShapes Go.WideShapes Go.ChangeAt Go.RowKit
set_option linter.unusedVariables false
set_option linter.unusedSimpArgs false

theorem rotl_c (x k : Int) (x0 : 0 ≤ x) (x1 : x < 4294967296) (w : World) :
    Calls Tryz.prog 98 #[.int .u32 x, .int .i64 k] w fun e w' => e = .returned (.int .u32 (rorS x ((32 - (k % 32).toNat) % 32))) ∧ w' = w := by
  have hm := mask31 k
  have hs := rotl_eq x (k % 32).toNat x0 x1 (by omega)
  have s0 : 0 ≤ k % 32 := by omega
  have s1 : k % 32 < 32 := by omega
  generalize k % 32 = s at *
  generalize rorS x ((32 - s.toNat) % 32) = r at *
  have e : 32 - s.toNat = (32 - s).toNat := by omega
  rw [e] at hs
  clear e
  go_enter Tryz.func98, Tryz.ntmps98
  go_wp2
  go_ret
  exact ⟨rfl, rfl⟩

theorem shift_5 (v n : Int) (c : Bool) (v0 : 0 ≤ v) (v1 : v < 4294967296) (n0 : -9223372036854775808 ≤ n) (n1 : n ≤ 9223372036854775807) (w : World) :
    Calls Tryz.prog 86 #[.int .u32 v, .int .i64 5, .int .i64 n, .bool c] w fun e w' => e = .returned (.tuple #[.int .u32 (shiftS v 5 n c).1, .bool (shiftS v 5 n c).2]) ∧ ∃ m, w' = w.drewN m := by
  rw [show shiftS v 5 n c = oneS 5 (v, c) from rfl]
  cases c
  · rw [← rrx_out v false v0 v1, ← rrx_false v]
    go_enter Tryz.func86, Tryz.ntmps86
    go_wp2
    all_goals (go_ret2; exact ⟨rfl, 0, rfl⟩)
  · rw [← rrx_out v true v0 v1, ← rrx_true v v0 v1]
    go_enter Tryz.func86, Tryz.ntmps86
    go_wp2
    all_goals (go_ret2; exact ⟨rfl, 0, rfl⟩)

theorem shift_1_mid (v n : Int) (c : Bool) (v0 : 0 ≤ v) (v1 : v < 4294967296) (n0 : 1 ≤ n) (n1 : n ≤ 255) (w : World) :
    Calls Tryz.prog 86 #[.int .u32 v, .int .i64 1, .int .i64 n, .bool c] w fun e w' => e = .returned (.tuple #[.int .u32 (shiftS v 1 n c).1, .bool (shiftS v 1 n c).2]) ∧ ∃ m, w' = w.drewN m := by
  rw [shiftS_of v 1 n c (by decide) (by decide), countS_mid n (by omega) n1]
  obtain ⟨h1, h2⟩ := lsl_low v n.toNat v0 v1 (by omega) c
  rw [← h1, ← h2]
  clear h1 h2
  have nn : 0 ≤ n := by omega
  have nn1 : 0 ≤ n - 1 := by omega
  have nz : (n == 0) = false := by simp; omega
  go_enter Tryz.func86, Tryz.ntmps86
  go_wp2
  go_ret2
  exact ⟨rfl, 0, rfl⟩

theorem shift_1_hi (v n : Int) (c : Bool) (v0 : 0 ≤ v) (v1 : v < 4294967296) (n0 : 255 < n) (n1 : n ≤ 9223372036854775807) (w : World) :
    Calls Tryz.prog 86 #[.int .u32 v, .int .i64 1, .int .i64 n, .bool c] w fun e w' => e = .returned (.tuple #[.int .u32 (shiftS v 1 n c).1, .bool (shiftS v 1 n c).2]) ∧ ∃ m, w' = w.drewN m := by
  rw [shiftS_of v 1 n c (by decide) (by decide), countS_high n n0]
  obtain ⟨h1, h2⟩ := lsl_low v 255 v0 v1 (by omega) c
  rw [← h1, ← h2]
  clear h1 h2
  go_enter Tryz.func86, Tryz.ntmps86
  go_wp2
  go_ret2
  exact ⟨rfl, 0, rfl⟩

theorem shift_2_mid (v n : Int) (c : Bool) (v0 : 0 ≤ v) (v1 : v < 4294967296) (n0 : 1 ≤ n) (n1 : n ≤ 255) (w : World) :
    Calls Tryz.prog 86 #[.int .u32 v, .int .i64 2, .int .i64 n, .bool c] w fun e w' => e = .returned (.tuple #[.int .u32 (shiftS v 2 n c).1, .bool (shiftS v 2 n c).2]) ∧ ∃ m, w' = w.drewN m := by
  rw [shiftS_of v 2 n c (by decide) (by decide), countS_mid n (by omega) n1]
  obtain ⟨h1, h2⟩ := lsr_low v n.toNat v0 v1 (by omega) c
  rw [← h1, ← h2]
  clear h1 h2
  have nn : 0 ≤ n := by omega
  have nn1 : 0 ≤ n - 1 := by omega
  have nz : (n == 0) = false := by simp; omega
  go_enter Tryz.func86, Tryz.ntmps86
  go_wp2
  go_quiet (fail)
  go_wp2
  go_ret2
  exact ⟨rfl, _, rfl⟩

theorem shift_2_hi (v n : Int) (c : Bool) (v0 : 0 ≤ v) (v1 : v < 4294967296) (n0 : 255 < n) (n1 : n ≤ 9223372036854775807) (w : World) :
    Calls Tryz.prog 86 #[.int .u32 v, .int .i64 2, .int .i64 n, .bool c] w fun e w' => e = .returned (.tuple #[.int .u32 (shiftS v 2 n c).1, .bool (shiftS v 2 n c).2]) ∧ ∃ m, w' = w.drewN m := by
  rw [shiftS_of v 2 n c (by decide) (by decide), countS_high n n0]
  obtain ⟨h1, h2⟩ := lsr_low v 255 v0 v1 (by omega) c
  rw [← h1, ← h2]
  clear h1 h2
  go_enter Tryz.func86, Tryz.ntmps86
  go_wp2
  go_quiet (fail)
  go_wp2
  go_ret2
  exact ⟨rfl, _, rfl⟩

theorem shift_3_mid (v n : Int) (c : Bool) (v0 : 0 ≤ v) (v1 : v < 4294967296) (n0 : 1 ≤ n) (n1 : n ≤ 255) (w : World) :
    Calls Tryz.prog 86 #[.int .u32 v, .int .i64 3, .int .i64 n, .bool c] w fun e w' => e = .returned (.tuple #[.int .u32 (shiftS v 3 n c).1, .bool (shiftS v 3 n c).2]) ∧ ∃ m, w' = w.drewN m := by
  rw [shiftS_of v 3 n c (by decide) (by decide), countS_mid n (by omega) n1]
  obtain ⟨h1, h2⟩ := asr_low v n.toNat v0 v1 (by omega) c
  rw [← h1, ← h2]
  clear h1 h2
  have nn : 0 ≤ n := by omega
  have nn1 : 0 ≤ n - 1 := by omega
  have nz : (n == 0) = false := by simp; omega
  go_enter Tryz.func86, Tryz.ntmps86
  go_wp2
  go_quiet (fail)
  go_wp2
  go_ret2
  exact ⟨rfl, _, rfl⟩

theorem shift_3_hi (v n : Int) (c : Bool) (v0 : 0 ≤ v) (v1 : v < 4294967296) (n0 : 255 < n) (n1 : n ≤ 9223372036854775807) (w : World) :
    Calls Tryz.prog 86 #[.int .u32 v, .int .i64 3, .int .i64 n, .bool c] w fun e w' => e = .returned (.tuple #[.int .u32 (shiftS v 3 n c).1, .bool (shiftS v 3 n c).2]) ∧ ∃ m, w' = w.drewN m := by
  rw [shiftS_of v 3 n c (by decide) (by decide), countS_high n n0]
  obtain ⟨h1, h2⟩ := asr_low v 255 v0 v1 (by omega) c
  rw [← h1, ← h2]
  clear h1 h2
  go_enter Tryz.func86, Tryz.ntmps86
  go_wp2
  go_quiet (fail)
  go_wp2
  go_ret2
  exact ⟨rfl, _, rfl⟩

theorem shift_4_mid (v n : Int) (c : Bool) (v0 : 0 ≤ v) (v1 : v < 4294967296) (n0 : 1 ≤ n) (n1 : n ≤ 255) (w : World) :
    Calls Tryz.prog 86 #[.int .u32 v, .int .i64 4, .int .i64 n, .bool c] w fun e w' => e = .returned (.tuple #[.int .u32 (shiftS v 4 n c).1, .bool (shiftS v 4 n c).2]) ∧ ∃ m, w' = w.drewN m := by
  rw [shiftS_of v 4 n c (by decide) (by decide), countS_mid n (by omega) n1]
  obtain ⟨h1, h2⟩ := ror_low v n.toNat v0 v1 (by omega) c
  rw [show ((n.toNat : Nat) : Int) = n by omega] at h1 h2
  have nn : 0 ≤ n := by omega
  have nz : (n == 0) = false := by simp; omega
  have hc := rotl_c v (-n) v0 v1 w
  generalize rorS v ((32 - ((-n) % 32).toNat) % 32) = t at *
  rw [← h1, ← h2]
  clear h1 h2
  go_enter Tryz.func86, Tryz.ntmps86
  go_wp2_with (go_at_call 98; refine hc.mono ?_; rintro e w' ⟨rfl, rfl⟩)
  go_wp2
  go_ret2
  exact ⟨rfl, 0, rfl⟩

theorem shift_4_hi (v n : Int) (c : Bool) (v0 : 0 ≤ v) (v1 : v < 4294967296) (n0 : 255 < n) (n1 : n ≤ 9223372036854775807) (w : World) :
    Calls Tryz.prog 86 #[.int .u32 v, .int .i64 4, .int .i64 n, .bool c] w fun e w' => e = .returned (.tuple #[.int .u32 (shiftS v 4 n c).1, .bool (shiftS v 4 n c).2]) ∧ ∃ m, w' = w.drewN m := by
  rw [shiftS_of v 4 n c (by decide) (by decide), countS_high n n0]
  obtain ⟨h1, h2⟩ := ror_low v 255 v0 v1 (by omega) c
  rw [show (-((255 : Nat) : Int)) = -255 from rfl] at h1 h2
  have hc := rotl_c v (-255) v0 v1 w
  generalize rorS v ((32 - ((-255) % 32).toNat) % 32) = t at *
  rw [← h1, ← h2]
  clear h1 h2
  go_enter Tryz.func86, Tryz.ntmps86
  go_wp2_with (go_at_call 98; refine hc.mono ?_; rintro e w' ⟨rfl, rfl⟩)
  go_wp2
  go_ret2
  exact ⟨rfl, 0, rfl⟩

theorem shift_none (v kind n : Int) (c : Bool) (v0 : 0 ≤ v) (v1 : v < 4294967296) (k5 : ¬ kind = 5) (n0 : n ≤ 0) (n1 : -9223372036854775808 ≤ n) (w : World) :
    Calls Tryz.prog 86 #[.int .u32 v, .int .i64 kind, .int .i64 n, .bool c] w fun e w' => e = .returned (.tuple #[.int .u32 (shiftS v kind n c).1, .bool (shiftS v kind n c).2]) ∧ ∃ m, w' = w.drewN m := by
  have e : shiftS v kind n c = (v, c) := by
    unfold shiftS
    rw [if_neg k5, countS_low n n0]
    split <;> rfl
  rw [e]
  clear e
  have k5' : (kind == 5) = false := by simpa using k5
  go_enter Tryz.func86, Tryz.ntmps86
  go_wp2
  all_goals (go_ret2; exact ⟨rfl, 0, rfl⟩)

theorem shift_other (v kind n : Int) (c : Bool) (v0 : 0 ≤ v) (v1 : v < 4294967296) (k5 : kind < 1 ∨ 5 < kind) (n0 : 0 < n) (n1 : n ≤ 9223372036854775807) (w : World) :
    Calls Tryz.prog 86 #[.int .u32 v, .int .i64 kind, .int .i64 n, .bool c] w fun e w' => e = .returned (.tuple #[.int .u32 (shiftS v kind n c).1, .bool (shiftS v kind n c).2]) ∧ ∃ m, w' = w.drewN m := by
  have e : shiftS v kind n c = (v, c) := by
    unfold shiftS
    rw [if_neg (by omega), if_pos k5]
  rw [e]
  clear e
  have k5' : (kind == 5) = false := by simp; omega
  have k1' : (kind == 1) = false := by simp; omega
  have k2' : (kind == 2) = false := by simp; omega
  have k3' : (kind == 3) = false := by simp; omega
  have k4' : (kind == 4) = false := by simp; omega
  clear k5
  go_enter Tryz.func86, Tryz.ntmps86
  go_wp2
  all_goals (go_ret2; exact ⟨rfl, 0, rfl⟩)

theorem shift_c (v kind n : Int) (c : Bool) (v0 : 0 ≤ v) (v1 : v < 4294967296) (n0 : -9223372036854775808 ≤ n) (n1 : n ≤ 9223372036854775807) (w : World) :
    Calls Tryz.prog 86 #[.int .u32 v, .int .i64 kind, .int .i64 n, .bool c] w fun e w' => e = .returned (.tuple #[.int .u32 (shiftS v kind n c).1, .bool (shiftS v kind n c).2]) ∧ ∃ m, w' = w.drewN m := by
  by_cases k5 : kind = 5
  · subst k5; exact shift_5 v n c v0 v1 n0 n1 w
  by_cases hn : n ≤ 0
  · exact shift_none v kind n c v0 v1 k5 hn n0 w
  by_cases ko : kind < 1 ∨ 5 < kind
  · exact shift_other v kind n c v0 v1 ko (by omega) n1 w
  rcases (show kind = 1 ∨ kind = 2 ∨ kind = 3 ∨ kind = 4 by omega) with k | k | k | k <;> subst k <;> by_cases hh : n ≤ 255
  · exact shift_1_mid v n c v0 v1 (by omega) hh w
  · exact shift_1_hi v n c v0 v1 (by omega) n1 w
  · exact shift_2_mid v n c v0 v1 (by omega) hh w
  · exact shift_2_hi v n c v0 v1 (by omega) n1 w
  · exact shift_3_mid v n c v0 v1 (by omega) hh w
  · exact shift_3_hi v n c v0 v1 (by omega) n1 w
  · exact shift_4_mid v n c v0 v1 (by omega) hh w
  · exact shift_4_hi v n c v0 v1 (by omega) n1 w
end Go.Proofs.YtjhmmfpmmgebjaaGreat
namespace Go.Proofs.YtjhmmfpmmgebjaaGreat
open Go.ChangeShapes Go.WideShapes Go.ChangeAt Go.RowKit
set_option linter.unusedVariables false
set_option linter.unusedSimpArgs false

theorem wrap64_small (x : Int) (h0 : 0 ≤ x) (h1 : x ≤ 1000) : wrap64 x = x := by unfold wrap64; omega

theorem len32_c (x : Int) (h0 : 0 ≤ x) (h1 : x < 4294967296) (w : World) :
    Calls Tryz.prog 99 #[.int .u32 x] w fun e w' => e = .returned (.int .i64 (Lib.bitLen x.toNat)) ∧ w' = w := by
  rcases (show x ≤ 255 ∨ (256 ≤ x ∧ x < 65536) ∨ (65536 ≤ x ∧ x < 16777216) ∨ 16777216 ≤ x by omega) with c | ⟨c, d⟩ | ⟨c, d⟩ | c
  · have h2 : x < 256 := by omega
    have h3 : x < 65536 := by omega
    go_enter Tryz.func99, Tryz.ntmps99
    go_wp2
    go_ret
    refine ⟨congrArg (fun x => Ending.returned (Value.int IntKind.i64 x)) ?_, rfl⟩
    rw [Lib.len8_of x h0 c]
    have l := Lib.bitLen_le8' x h0 c
    unfold wrap64
    omega
  · have h3 : x / 256 ≤ 255 := by omega
    have h4 : 0 ≤ x / 256 := by omega
    go_enter Tryz.func99, Tryz.ntmps99
    go_wp2
    go_ret
    refine ⟨congrArg (fun x => Ending.returned (Value.int IntKind.i64 x)) ?_, rfl⟩
    rw [Lib.len8_of _ h4 h3]
    have l := Lib.bitLen_le8' _ h4 h3
    have e : (x / 256).toNat = x.toNat / 256 := by omega
    have s := Lib.bitLen_shift8 x.toNat (by omega) (by omega)
    rw [e] at l ⊢
    unfold wrap64
    omega
  · have h3 : x / 65536 ≤ 255 := by omega
    have h5 : x / 65536 < 256 := by omega
    have h4 : 0 ≤ x / 65536 := by omega
    go_enter Tryz.func99, Tryz.ntmps99
    go_wp2
    go_ret
    refine ⟨congrArg (fun x => Ending.returned (Value.int IntKind.i64 x)) ?_, rfl⟩
    rw [Lib.len8_of _ h4 h3]
    have l := Lib.bitLen_le8' _ h4 h3
    have e : (x / 65536).toNat = x.toNat / 65536 := by omega
    have s := Lib.bitLen_shift16 x.toNat (by omega) (by omega)
    rw [e] at l ⊢
    unfold wrap64
    omega
  · have h3 : x / 65536 / 256 ≤ 255 := by omega
    have h4 : 0 ≤ x / 65536 / 256 := by omega
    have h5 : 256 ≤ x / 65536 := by omega
    have h6 : 65536 ≤ x := by omega
    go_enter Tryz.func99, Tryz.ntmps99
    go_wp2
    go_ret
    refine ⟨congrArg (fun x => Ending.returned (Value.int IntKind.i64 x)) ?_, rfl⟩
    rw [Lib.len8_of _ h4 h3]
    have l := Lib.bitLen_le8' _ h4 h3
    have e : (x / 65536 / 256).toNat = x.toNat / 16777216 := by omega
    have s := Lib.bitLen_shift24 x.toNat (by omega) (by omega)
    rw [e] at l ⊢
    unfold wrap64
    omega

def clzS (x : Int) : Int := 32 - (Lib.bitLen x.toNat : Int)
theorem bitLen_le32 (x : Int) (h0 : 0 ≤ x) (h1 : x < 4294967296) : Lib.bitLen x.toNat ≤ 32 := Lib.bitLen_le x.toNat 32 (by omega) (by omega)
theorem clzS_bounds (x : Int) (h0 : 0 ≤ x) (h1 : x < 4294967296) : 0 ≤ clzS x ∧ clzS x ≤ 32 := by
  have := bitLen_le32 x h0 h1
  unfold clzS
  omega

theorem lead_c (x : Int) (h0 : 0 ≤ x) (h1 : x < 4294967296) (w : World) :
    Calls Tryz.prog 88 #[.int .u32 x] w fun e w' => e = .returned (.int .i64 (clzS x)) ∧ w' = w := by
  have l := bitLen_le32 x h0 h1
  have hc := len32_c x h0 h1 w
  rw [show clzS x = 32 - (Lib.bitLen x.toNat : Int) from rfl]
  generalize Lib.bitLen x.toNat = n at *
  go_enter Tryz.func88, Tryz.ntmps88
  go_wp2_with (go_at_call 99; refine hc.mono ?_; rintro e w' ⟨rfl, rfl⟩)
  go_ret
  exact ⟨rfl, rfl⟩
theorem clz_c (x : Int) (h0 : 0 ≤ x) (h1 : x < 4294967296) (w : World) :
    Calls Tryz.prog 61 #[.int .u32 x] w fun e w' => e = .returned (.int .i64 (clzS x)) ∧ w' = w := by
  have hc := lead_c x h0 h1 w
  generalize clzS x = n at *
  go_enter Tryz.func61, Tryz.ntmps61
  go_wp2_with (go_at_call 88; refine hc.mono ?_; rintro e w' ⟨rfl, rfl⟩)
  go_ret
  exact ⟨rfl, rfl⟩

def spreadS (x f : Int) : Int := if f = 1 then x * 65537 % 4294967296 else if f = 2 then x * 16777472 % 4294967296 else if f = 3 then x * 16843009 % 4294967296 else x
theorem mask8 (i : Int) (i0 : 0 ≤ i) (i1 : i < 4294967296) : bits .and .u32 i 255 = i % 256 := by
  rw [u32_and _ _ i0 i1 (by omega) (by omega), show (255 : Int).toNat = 255 from rfl, nat_mask8]; omega
theorem mask5 (i : Int) (i0 : 0 ≤ i) (i1 : i < 4294967296) : bits .and .u32 i 31 = i % 32 := by
  rw [u32_and _ _ i0 i1 (by omega) (by omega), show (31 : Int).toNat = 31 from rfl, nat_mask5]; omega
theorem mask7 (i : Int) (i0 : 0 ≤ i) (i1 : i < 4294967296) : bits .and .u32 i 127 = i % 128 := by
  rw [u32_and _ _ i0 i1 (by omega) (by omega), show (127 : Int).toNat = 127 from rfl, nat_mask7]; omega
theorem mask2 (i : Int) (i0 : 0 ≤ i) (i1 : i < 4294967296) : bits .and .u32 i 3 = i % 4 := by
  rw [u32_and _ _ i0 i1 (by omega) (by omega), show (3 : Int).toNat = 3 from rfl, nat_mask2]; omega
theorem mask_c00 (i : Int) (i0 : 0 ≤ i) (i1 : i < 4294967296) : bits .and .u32 i 3072 = i / 1024 % 4 * 1024 := by
  rw [u32_and _ _ i0 i1 (by omega) (by omega), show (3072 : Int).toNat = 3072 from rfl]
  have h1 : (i.toNat &&& 3072) % 2 ^ 10 = i.toNat % 2 ^ 10 &&& 3072 % 2 ^ 10 := Nat.and_mod_two_pow
  have h2 : (i.toNat &&& 3072) / 2 ^ 10 = i.toNat / 2 ^ 10 &&& 3072 / 2 ^ 10 := Nat.and_div_two_pow
  rw [show 3072 % 2 ^ 10 = 0 by decide, Nat.and_zero] at h1
  rw [show 3072 / 2 ^ 10 = 3 by decide, nat_mask2] at h2
  omega
theorem or128 (x : Int) (x0 : 0 ≤ x) (x1 : x < 256) : bits .or .u32 x 128 = x % 128 + 128 := by
  rw [u32_or _ _ x0 (by omega) (by omega) (by omega), show (128 : Int).toNat = 128 from rfl]
  have h1 : (x.toNat ||| 128) % 2 ^ 7 = x.toNat % 2 ^ 7 ||| 128 % 2 ^ 7 := Nat.or_mod_two_pow
  have h2 : (x.toNat ||| 128) / 2 ^ 7 = x.toNat / 2 ^ 7 ||| 128 / 2 ^ 7 := Nat.or_div_two_pow
  rw [show 128 % 2 ^ 7 = 0 by decide, Nat.or_zero] at h1
  rw [show 128 / 2 ^ 7 = 1 by decide] at h2
  have h3 : x.toNat / 2 ^ 7 = 0 ∨ x.toNat / 2 ^ 7 = 1 := by omega
  rcases h3 with h3 | h3 <;> rw [h3] at h2 <;> simp at h2 <;> omega

def expandS (i : Int) (c : Bool) : Int × Bool × Bool :=
  if i / 1024 % 4 = 0 then (spreadS (i % 256) (i / 256 % 4), c, (i / 256 % 4 == 0) || (i % 256 != 0))
  else (rorS (i % 128 + 128) (i / 128 % 32).toNat, rorS (i % 128 + 128) (i / 128 % 32).toNat / 2147483648 == 1, true)

def turnS (v : Int) : Int := clzS v + 8
def lowT (v : Int) : Int := rorS v ((32 - (turnS v % 32).toNat) % 32)
def turnedS (v : Int) : Int × Bool := if 255 < lowT v then (0, false) else (turnS v * 128 + lowT v % 128, true)
def compressS (v : Int) : Int × Bool :=
  if v = v % 256 then (v % 256, true)
  else if v = spreadS (v % 256) 1 then (256 + v % 256, true)
  else if v = spreadS (v / 256 % 256) 2 then (512 + v / 256 % 256, true)
  else if v = spreadS (v % 256) 3 then (768 + v % 256, true)
  else turnedS v

theorem lowT_bounds (v : Int) (v0 : 0 ≤ v) (v1 : v < 4294967296) : 0 ≤ lowT v ∧ lowT v < 4294967296 := rorS_bounds v _ v0 v1 (Nat.mod_lt _ (by decide))
theorem turned_join (t l : Int) (t0 : 0 ≤ t) (t1 : t ≤ 40) (l0 : 0 ≤ l) (l1 : l < 128) : bits .or .u32 (t * 128) l = t * 128 + l := by
  rw [or_join32 7 _ _ (by omega) (by omega) l0 (show t * 128 % 128 = 0 by omega) (show l < 128 from l1) (by omega)]

theorem form_join (f l : Int) (f0 : f = 256 ∨ f = 512 ∨ f = 768) (l0 : 0 ≤ l) (l1 : l < 256) : bits .or .u32 f l = f + l := by
  rw [or_join32 8 _ _ (by omega) (by omega) l0 (show f % 256 = 0 by omega) (show l < 256 from l1) (by omega)]

end Go.Proofs.YtjhmmfpmmgebjaaGreat
