/- Plain arithmetic of sums and shifts of 32-bit words. No Go in sight. -/
import Derived.Test.YtigmekboikgoaaaPure
namespace Go.Proofs.Ytigmekboikgoaaa
open Go.RowKit
set_option linter.unusedVariables false

/-! ### sums -/
def carryN (c : Bool) : Int := if c then 1 else 0
def addS (a b : Int) (c : Bool) : Int := (a + b + carryN c) % 4294967296
def outS (a b : Int) (c : Bool) : Bool := (a + b + carryN c) / 4294967296 == 1
def overS (a b : Int) (c : Bool) : Bool := wrap32 a + wrap32 b + carryN c != wrap32 (addS a b c)

theorem carryN_bounds (c : Bool) : 0 ≤ carryN c ∧ carryN c ≤ 1 := by cases c <;> simp [carryN]
theorem addS_bounds (a b : Int) (c : Bool) : 0 ≤ addS a b c ∧ addS a b c < 4294967296 := by unfold addS; omega

theorem top_xor (a s : Nat) (ha : a < 4294967296) (hs : s < 4294967296) : (a ^^^ s) / 2147483648 = (a / 2147483648 + s / 2147483648) % 2 := by
  have h : (a ^^^ s) / 2 ^ 31 = a / 2 ^ 31 ^^^ s / 2 ^ 31 := Nat.xor_div_two_pow
  have e : (2 : Nat) ^ 31 = 2147483648 := by decide
  rw [e] at h
  rw [h]
  have h1 : a / 2147483648 = 0 ∨ a / 2147483648 = 1 := by omega
  have h2 : s / 2147483648 = 0 ∨ s / 2147483648 = 1 := by omega
  rcases h1 with h1 | h1 <;> rcases h2 with h2 | h2 <;> rw [h1, h2] <;> decide

theorem top_and (a s : Nat) (ha : a < 4294967296) (hs : s < 4294967296) : (a &&& s) / 2147483648 = a / 2147483648 * (s / 2147483648) := by
  have h : (a &&& s) / 2 ^ 31 = a / 2 ^ 31 &&& s / 2 ^ 31 := Nat.and_div_two_pow
  have e : (2 : Nat) ^ 31 = 2147483648 := by decide
  rw [e] at h
  rw [h]
  have h1 : a / 2147483648 = 0 ∨ a / 2147483648 = 1 := by omega
  have h2 : s / 2147483648 = 0 ∨ s / 2147483648 = 1 := by omega
  rcases h1 with h1 | h1 <;> rcases h2 with h2 | h2 <;> rw [h1, h2] <;> decide

theorem xor_lt32 (a b : Nat) (ha : a < 4294967296) (hb : b < 4294967296) : a ^^^ b < 4294967296 := Nat.xor_lt_two_pow (n := 32) ha hb

theorem over_eq (a b : Int) (c : Bool) (ha0 : 0 ≤ a) (ha : a < 4294967296) (hb0 : 0 ≤ b) (hb : b < 4294967296) :
    (bits .and .u32 (bits .xor .u32 a (addS a b c)) (bits .xor .u32 b (addS a b c)) / 2147483648 == 1) = overS a b c := by
  have hs := addS_bounds a b c
  have hc := carryN_bounds c
  have hsd : addS a b c = (a + b + carryN c) % 4294967296 := rfl
  unfold overS wrap32
  rw [hsd]
  generalize addS a b c = s at *
  generalize carryN c = k at *
  subst hsd
  rw [u32_xor a _ ha0 ha hs.1 hs.2, u32_xor b _ hb0 hb hs.1 hs.2]
  have l1 := xor_lt32 a.toNat ((a + b + k) % 4294967296).toNat (by omega) (by omega)
  have l2 := xor_lt32 b.toNat ((a + b + k) % 4294967296).toNat (by omega) (by omega)
  rw [u32_and _ _ (by omega) (by omega) (by omega) (by omega)]
  have t1 := top_xor a.toNat ((a + b + k) % 4294967296).toNat (by omega) (by omega)
  have t2 := top_xor b.toNat ((a + b + k) % 4294967296).toNat (by omega) (by omega)
  have t3 := top_and _ _ l1 l2
  simp only [Int.toNat_natCast]
  generalize hX : a.toNat ^^^ ((a + b + k) % 4294967296).toNat = X at *
  generalize hY : b.toNat ^^^ ((a + b + k) % 4294967296).toNat = Y at *
  generalize hZ : X &&& Y = Z at *
  rw [t1, t2] at t3
  clear hX hY hZ t1 t2 l1 l2
  have q1 : a.toNat / 2147483648 = 0 ∨ a.toNat / 2147483648 = 1 := by omega
  have q2 : b.toNat / 2147483648 = 0 ∨ b.toNat / 2147483648 = 1 := by omega
  have q3 : ((a + b + k) % 4294967296).toNat / 2147483648 = 0 ∨ ((a + b + k) % 4294967296).toNat / 2147483648 = 1 := by omega
  rcases q1 with q1 | q1 <;> rcases q2 with q2 | q2 <;> rcases q3 with q3 | q3 <;> rw [q1, q2, q3] at t3 <;> simp at t3 <;> rw [Bool.eq_iff_iff] <;> simp <;> omega

/-! ### shifts -/
def oneS (kind : Int) (p : Int × Bool) : Int × Bool :=
  if kind = 1 then (p.1 * 2 % 4294967296, p.1 / 2147483648 == 1)
  else if kind = 2 then (p.1 / 2, p.1 % 2 == 1)
  else if kind = 3 then (p.1 / 2 + p.1 / 2147483648 * 2147483648, p.1 % 2 == 1)
  else if kind = 4 then (p.1 / 2 + p.1 % 2 * 2147483648, p.1 % 2 == 1)
  else (p.1 / 2 + carryN p.2 * 2147483648, p.1 % 2 == 1)
def iterS (kind : Int) : Nat → Int × Bool → Int × Bool
  | 0, p => p
  | n + 1, p => oneS kind (iterS kind n p)
def countS (n : Int) : Nat := (if n < 0 then 0 else if 255 < n then 255 else n).toNat
def shiftS (v kind n : Int) (c : Bool) : Int × Bool :=
  if kind = 5 then oneS 5 (v, c) else if kind < 1 ∨ 5 < kind then (v, c) else iterS kind (countS n) (v, c)

theorem iterS_add (kind : Int) (m n : Nat) (p : Int × Bool) : iterS kind n (iterS kind m p) = iterS kind (m + n) p := by
  induction n with
  | zero => rfl
  | succ n ih => show oneS kind (iterS kind n (iterS kind m p)) = oneS kind (iterS kind (m + n) p); rw [ih]

theorem oneS_bounds (kind : Int) (p : Int × Bool) (h0 : 0 ≤ p.1) (h1 : p.1 < 4294967296) : 0 ≤ (oneS kind p).1 ∧ (oneS kind p).1 < 4294967296 := by
  have hc := carryN_bounds p.2
  unfold oneS
  repeat (first | split | (dsimp only; omega))

theorem iterS_bounds (kind : Int) (n : Nat) (p : Int × Bool) (h0 : 0 ≤ p.1) (h1 : p.1 < 4294967296) : 0 ≤ (iterS kind n p).1 ∧ (iterS kind n p).1 < 4294967296 := by
  induction n with
  | zero => exact ⟨h0, h1⟩
  | succ n ih => exact oneS_bounds kind _ ih.1 ih.2

theorem shiftS_bounds (v kind n : Int) (c : Bool) (h0 : 0 ≤ v) (h1 : v < 4294967296) : 0 ≤ (shiftS v kind n c).1 ∧ (shiftS v kind n c).1 < 4294967296 := by
  unfold shiftS
  split
  · exact oneS_bounds _ _ h0 h1
  · split
    · exact ⟨h0, h1⟩
    · exact iterS_bounds _ _ _ h0 h1

theorem lsl_iter (v : Int) (c : Bool) (h0 : 0 ≤ v) (h1 : v < 4294967296) (n : Nat) :
    iterS 1 (n + 1) (v, c) = (v * 2 ^ (n + 1) % 4294967296, v * 2 ^ n % 4294967296 / 2147483648 == 1) := by
  induction n with
  | zero => simp only [iterS, oneS, if_true]; rw [show v * 2 ^ 0 = v by simp, show v * 2 ^ (0 + 1) = v * 2 by simp]; rw [Int.emod_eq_of_lt h0 h1]
  | succ n ih =>
    show oneS 1 (iterS 1 (n + 1) (v, c)) = _
    rw [ih]
    simp only [oneS, if_true]
    refine Prod.ext ?_ rfl
    have e : v * 2 ^ (n + 1 + 1) = v * 2 ^ (n + 1) * 2 := by rw [Int.pow_succ 2 (n + 1), ← Int.mul_assoc]
    show v * 2 ^ (n + 1) % 4294967296 * 2 % 4294967296 = v * 2 ^ (n + 1 + 1) % 4294967296
    rw [e]
    omega

theorem div_pow_succ (v : Int) (n : Nat) : v / 2 ^ n / 2 = v / 2 ^ (n + 1) := by
  rw [Int.pow_succ, Int.ediv_ediv_of_nonneg (Int.le_of_lt (Int.pow_pos (by decide)))]

theorem lsr_iter (v : Int) (c : Bool) (n : Nat) :
    iterS 2 (n + 1) (v, c) = (v / 2 ^ (n + 1), v / 2 ^ n % 2 == 1) := by
  induction n with
  | zero => simp [iterS, oneS]
  | succ n ih =>
    show oneS 2 (iterS 2 (n + 1) (v, c)) = _
    rw [ih]
    simp only [oneS, if_true, show ¬((2 : Int) = 1) by decide, if_false]
    rw [div_pow_succ]

theorem asr_iter (v : Int) (c : Bool) (h0 : 0 ≤ v) (h1 : v < 4294967296) (n : Nat) :
    iterS 3 (n + 1) (v, c) = (wrap32 v / 2 ^ (n + 1) % 4294967296, wrap32 v / 2 ^ n % 2 == 1) := by
  induction n with
  | zero => simp only [iterS, oneS, if_true, show ¬((3 : Int) = 1) by decide, show ¬((3 : Int) = 2) by decide, if_false, wrap32]; refine Prod.ext (by simp; omega) ?_; rw [Bool.eq_iff_iff]; simp; omega
  | succ n ih =>
    show oneS 3 (iterS 3 (n + 1) (v, c)) = _
    rw [ih]
    simp only [oneS, if_true, show ¬((3 : Int) = 1) by decide, show ¬((3 : Int) = 2) by decide, if_false]
    rw [← div_pow_succ _ (n + 1)]
    have hb : -2147483648 ≤ wrap32 v / 2 ^ (n + 1) ∧ wrap32 v / 2 ^ (n + 1) ≤ 2147483647 := by
      have hw : -2147483648 ≤ wrap32 v ∧ wrap32 v ≤ 2147483647 := by unfold wrap32; omega
      have hp : (1 : Int) ≤ 2 ^ (n + 1) := Int.pow_pos (by decide)
      have hm := Int.mul_ediv_add_emod (wrap32 v) (2 ^ (n + 1))
      have hr := Int.emod_nonneg (wrap32 v) (show (2 : Int) ^ (n + 1) ≠ 0 by omega)
      have hr' := Int.emod_lt_of_pos (wrap32 v) (show (0 : Int) < 2 ^ (n + 1) by omega)
      generalize wrap32 v / 2 ^ (n + 1) = q at *
      generalize wrap32 v % 2 ^ (n + 1) = r at *
      generalize (2 : Int) ^ (n + 1) = p at *
      refine ⟨?_, ?_⟩
      · by_cases hq : q < -2147483648
        · have := Int.mul_le_mul_of_nonneg_left (show q ≤ -2147483649 by omega) (show 0 ≤ p by omega)
          omega
        · omega
      · by_cases hq : 2147483647 < q
        · have := Int.mul_le_mul_of_nonneg_left (show 2147483648 ≤ q by omega) (show 0 ≤ p by omega)
          omega
        · omega
    generalize wrap32 v / 2 ^ (n + 1) = q at *
    refine Prod.ext (by simp; omega) ?_
    rw [Bool.eq_iff_iff]
    simp

def rorS (v : Int) (r : Nat) : Int := v / 2 ^ r + v % 2 ^ r * 2 ^ (32 - r)

theorem rorS_bounds (v : Int) (r : Nat) (h0 : 0 ≤ v) (h1 : v < 4294967296) (hr : r < 32) : 0 ≤ rorS v r ∧ rorS v r < 4294967296 := by
  unfold rorS
  rcases upto32 (r + 1) (by omega) (by omega) with h | h | h | h | h | h | h | h | h | h | h | h | h | h | h | h | h | h | h | h | h | h | h | h | h | h | h | h | h | h | h | h <;>
    (have h' : r = _ := Nat.succ.inj h; subst h'; simp; omega)

theorem rorS_step (v : Int) (r : Nat) (h0 : 0 ≤ v) (h1 : v < 4294967296) (hr : r < 32) :
    rorS v r / 2 + rorS v r % 2 * 2147483648 = rorS v ((r + 1) % 32) ∧ (rorS v r % 2 = 1 ↔ rorS v ((r + 1) % 32) / 2147483648 = 1) := by
  have hX := rorS_bounds v r h0 h1 hr
  by_cases h31 : r = 31
  · subst h31
    have hb : v / 2147483648 = 0 ∨ v / 2147483648 = 1 := by omega
    simp only [rorS] at hX ⊢
    simp at hX ⊢
    rcases hb with hb | hb <;> rw [hb] at hX ⊢ <;> omega
  · have er : (r + 1) % 32 = r + 1 := by omega
    rw [er]
    have hP : (0 : Int) < 2 ^ r := Int.pow_pos (by decide)
    have eC : (2 : Int) ^ (32 - r) = 2 ^ (31 - r) * 2 := by rw [← Int.pow_succ]; congr 1; omega
    have eD : (2 : Int) ^ (32 - (r + 1)) = 2 ^ (31 - r) := by rw [show 32 - (r + 1) = 31 - r by omega]
    have eP : (2 : Int) ^ r * 2 ^ (31 - r) = 2147483648 := by rw [← Int.pow_add, show r + (31 - r) = 31 by omega]; decide
    have e1 := div_pow_succ v r
    have e2 : v % 2 ^ (r + 1) = v / 2 ^ r % 2 * 2 ^ r + v % 2 ^ r := by
      have a1 := Int.mul_ediv_add_emod v (2 ^ r)
      have a2 := Int.mul_ediv_add_emod v (2 ^ (r + 1))
      rw [← e1, Int.pow_succ] at a2
      rw [Int.pow_succ]
      have a3 := Int.mul_ediv_add_emod (v / 2 ^ r) 2
      generalize v / 2 ^ r = q at *
      generalize v % 2 ^ r = m at *
      generalize v % (2 ^ r * 2) = z at *
      generalize (2 : Int) ^ r = P at *
      have a4 : P * q = P * (2 * (q / 2)) + P * (q % 2) := by rw [← Int.mul_add, a3]
      have a5 : P * 2 * (q / 2) = P * (2 * (q / 2)) := by rw [Int.mul_assoc]
      rw [Int.mul_comm (q % 2) P]
      omega
    unfold rorS at hX ⊢
    rw [eD, e2, ← e1]
    rw [eC] at hX ⊢
    have e3 : (v / 2 ^ r % 2 * 2 ^ r + v % 2 ^ r) * 2 ^ (31 - r) = v / 2 ^ r % 2 * 2147483648 + v % 2 ^ r * 2 ^ (31 - r) := by
      rw [Int.add_mul, Int.mul_assoc, eP]
    rw [e3, ← Int.mul_assoc] at *
    have hM : 0 ≤ v % 2 ^ r * 2 ^ (31 - r) := Int.mul_nonneg (Int.emod_nonneg _ (by omega)) (Int.le_of_lt (Int.pow_pos (by decide)))
    have hq : 0 ≤ v / 2 ^ r := Int.ediv_nonneg h0 (by omega)
    generalize v % 2 ^ r * 2 ^ (31 - r) = M at *
    generalize v / 2 ^ r = q at *
    omega

theorem ror_iter (v : Int) (c : Bool) (h0 : 0 ≤ v) (h1 : v < 4294967296) (n : Nat) :
    iterS 4 (n + 1) (v, c) = (rorS v ((n + 1) % 32), rorS v ((n + 1) % 32) / 2147483648 == 1) := by
  have one : ∀ r, r < 32 → ∀ c', oneS 4 (rorS v r, c') = (rorS v ((r + 1) % 32), rorS v ((r + 1) % 32) / 2147483648 == 1) := by
    intro r hr c'
    have h := rorS_step v r h0 h1 hr
    simp only [oneS, if_true, show ¬((4 : Int) = 1) by decide, show ¬((4 : Int) = 2) by decide, show ¬((4 : Int) = 3) by decide, if_false]
    rw [h.1]
    refine Prod.ext rfl ?_
    show (rorS v r % 2 == 1) = (rorS v ((r + 1) % 32) / 2147483648 == 1)
    rw [Bool.eq_iff_iff]
    simpa using h.2
  induction n with
  | zero =>
    show oneS 4 (v, c) = _
    have e : rorS v 0 = v := by simp [rorS]
    have := one 0 (by decide) c
    rw [e] at this
    exact this
  | succ n ih =>
    show oneS 4 (iterS 4 (n + 1) (v, c)) = _
    rw [ih, one _ (Nat.mod_lt _ (by decide))]
    have e : ((n + 1) % 32 + 1) % 32 = (n + 1 + 1) % 32 := by omega
    rw [e]


/-! ### products, quotients -/
def mulS (a b : Int) (s : Bool) : Int := if s then wrap32 a * wrap32 b % 18446744073709551616 else a * b % 18446744073709551616
def divuS (a b : Int) : Int := if b = 0 then 0 else a / b
def divsS (a b : Int) : Int := if b = 0 then 0 else (wrap32 a).tdiv (wrap32 b) % 4294967296

theorem mul_u (a b : Int) : IntKind.u64.wrap (a * b) = mulS a b false := by rw [IntKind.wrap_u64]; rfl
theorem wrap64_32 (a : Int) : wrap64 (wrap32 a) = wrap32 a := by unfold wrap64 wrap32; omega
theorem wrap64_mod64 (a : Int) : wrap64 a % 18446744073709551616 = a % 18446744073709551616 := by unfold wrap64; omega
theorem wrap64_mod32 (a : Int) : wrap64 a % 4294967296 = a % 4294967296 := by unfold wrap64; omega
theorem mul_s (a b : Int) : IntKind.u64.wrap (wrap64 (wrap64 (wrap32 a) * wrap64 (wrap32 b))) = mulS a b true := by
  rw [IntKind.wrap_u64, wrap64_32, wrap64_32, wrap64_mod64]; rfl
theorem divu_eq (a b : Int) (a0 : 0 ≤ a) (a1 : a < 4294967296) (b0 : 0 ≤ b) (hb : ¬ b = 0) : a.tdiv b % 4294967296 = divuS a b := by
  unfold divuS
  rw [if_neg hb, Int.tdiv_eq_ediv_of_nonneg a0]
  have h0 : 0 ≤ a / b := Int.ediv_nonneg a0 b0
  have h1 : a / b ≤ a := Int.ediv_le_self b a0
  omega
theorem divs_eq (a b : Int) (hb : ¬ b = 0) : wrap64 ((wrap64 (wrap32 a)).tdiv (wrap64 (wrap32 b))) % 4294967296 = divsS a b := by
  unfold divsS
  rw [if_neg hb, wrap64_32, wrap64_32, wrap64_mod32]
theorem divuS_bounds (a b : Int) (a0 : 0 ≤ a) (a1 : a < 4294967296) (b0 : 0 ≤ b) : 0 ≤ divuS a b ∧ divuS a b < 4294967296 := by
  unfold divuS
  split
  · omega
  · have h0 : 0 ≤ a / b := Int.ediv_nonneg a0 b0
    have h1 : a / b ≤ a := Int.ediv_le_self b a0
    omega
theorem divsS_bounds (a b : Int) : 0 ≤ divsS a b ∧ divsS a b < 4294967296 := by unfold divsS; split <;> omega
end Go.Proofs.Ytigmekboikgoaaa
