/- The contracts of package word's functions on bits and bytes, walked. -/
import Derived.Test.YtigmekboikgoaaaShift
import Derived.Test.YtigmekboikgoaaaPure4
import Derived.Lib.BitFns
namespace Go.Proofs.Ytigmekboikgoaaa
open Go.ChangeShapes Go.WideShapes Go.ChangeAt Go.RowKit
set_option linter.unusedVariables false
set_option linter.unusedSimpArgs false

theorem wrap64_small (x : Int) (h0 : 0 ≤ x) (h1 : x ≤ 1000) : wrap64 x = x := by unfold wrap64; omega

theorem len32_c (x : Int) (h0 : 0 ≤ x) (h1 : x < 4294967296) (w : World) :
    Calls Try.prog 98 #[.int .u32 x] w fun e w' => e = .returned (.int .i64 (Lib.bitLen x.toNat)) ∧ w' = w := by
  rcases (show x ≤ 255 ∨ (256 ≤ x ∧ x < 65536) ∨ (65536 ≤ x ∧ x < 16777216) ∨ 16777216 ≤ x by omega) with c | ⟨c, d⟩ | ⟨c, d⟩ | c
  · have h2 : x < 256 := by omega
    have h3 : x < 65536 := by omega
    go_enter Try.func98, Try.ntmps98
    go_wp2
    go_ret
    refine ⟨congrArg (fun x => Ending.returned (Value.int IntKind.i64 x)) ?_, rfl⟩
    rw [Lib.len8_of x h0 c]
    have l := Lib.bitLen_le8' x h0 c
    unfold wrap64
    omega
  · have h3 : x / 256 ≤ 255 := by omega
    have h4 : 0 ≤ x / 256 := by omega
    go_enter Try.func98, Try.ntmps98
    go_wp2
    go_ret
    refine ⟨congrArg (fun x => Ending.returned (Value.int IntKind.i64 x)) ?_, rfl⟩
    rw [Lib.len8_of _ h4 h3]
    have l := Lib.bitLen_le8' _ h4 h3
    have e : (x / 256).toNat = x.toNat / 256 := by omega
    have s := Lib.bitLen_shift8 x.toNat (by omega) (by omega)
    rw [e] at l ⊢
    unfold wrap64
    omega
  · have h3 : x / 65536 ≤ 255 := by omega
    have h5 : x / 65536 < 256 := by omega
    have h4 : 0 ≤ x / 65536 := by omega
    go_enter Try.func98, Try.ntmps98
    go_wp2
    go_ret
    refine ⟨congrArg (fun x => Ending.returned (Value.int IntKind.i64 x)) ?_, rfl⟩
    rw [Lib.len8_of _ h4 h3]
    have l := Lib.bitLen_le8' _ h4 h3
    have e : (x / 65536).toNat = x.toNat / 65536 := by omega
    have s := Lib.bitLen_shift16 x.toNat (by omega) (by omega)
    rw [e] at l ⊢
    unfold wrap64
    omega
  · have h3 : x / 65536 / 256 ≤ 255 := by omega
    have h4 : 0 ≤ x / 65536 / 256 := by omega
    have h5 : 256 ≤ x / 65536 := by omega
    have h6 : 65536 ≤ x := by omega
    go_enter Try.func98, Try.ntmps98
    go_wp2
    go_ret
    refine ⟨congrArg (fun x => Ending.returned (Value.int IntKind.i64 x)) ?_, rfl⟩
    rw [Lib.len8_of _ h4 h3]
    have l := Lib.bitLen_le8' _ h4 h3
    have e : (x / 65536 / 256).toNat = x.toNat / 16777216 := by omega
    have s := Lib.bitLen_shift24 x.toNat (by omega) (by omega)
    rw [e] at l ⊢
    unfold wrap64
    omega

def clzS (x : Int) : Int := 32 - (Lib.bitLen x.toNat : Int)
theorem bitLen_le32 (x : Int) (h0 : 0 ≤ x) (h1 : x < 4294967296) : Lib.bitLen x.toNat ≤ 32 := Lib.bitLen_le x.toNat 32 (by omega) (by omega)
theorem clzS_bounds (x : Int) (h0 : 0 ≤ x) (h1 : x < 4294967296) : 0 ≤ clzS x ∧ clzS x ≤ 32 := by
  have := bitLen_le32 x h0 h1
  unfold clzS
  omega

theorem lead_c (x : Int) (h0 : 0 ≤ x) (h1 : x < 4294967296) (w : World) :
    Calls Try.prog 97 #[.int .u32 x] w fun e w' => e = .returned (.int .i64 (clzS x)) ∧ w' = w := by
  have l := bitLen_le32 x h0 h1
  have hc := len32_c x h0 h1 w
  rw [show clzS x = 32 - (Lib.bitLen x.toNat : Int) from rfl]
  generalize Lib.bitLen x.toNat = n at *
  go_enter Try.func97, Try.ntmps97
  go_wp2_with (go_at_call 98; refine hc.mono ?_; rintro e w' ⟨rfl, rfl⟩)
  go_ret
  exact ⟨rfl, rfl⟩
def spreadS (x f : Int) : Int := if f = 1 then x * 65537 % 4294967296 else if f = 2 then x * 16777472 % 4294967296 else if f = 3 then x * 16843009 % 4294967296 else x
theorem spread_c (x f : Int) (x0 : 0 ≤ x) (x1 : x < 4294967296) (f0 : 0 ≤ f) (f1 : f < 4294967296) (w : World) :
    Calls Try.prog 89 #[.int .u32 x, .int .u32 f] w fun e w' => e = .returned (.int .u32 (spreadS x f)) ∧ w' = w := by
  rcases (show f = 1 ∨ f = 2 ∨ f = 3 ∨ (¬ f = 1 ∧ ¬ f = 2 ∧ ¬ f = 3) by omega) with h | h | h | ⟨h1, h2, h3⟩
  · subst h
    go_enter Try.func89, Try.ntmps89
    go_wp2
    go_ret
    exact ⟨rfl, rfl⟩
  · subst h
    go_enter Try.func89, Try.ntmps89
    go_wp2
    go_ret
    exact ⟨rfl, rfl⟩
  · subst h
    go_enter Try.func89, Try.ntmps89
    go_wp2
    go_ret
    exact ⟨rfl, rfl⟩
  · have e : spreadS x f = x := by unfold spreadS; rw [if_neg h1, if_neg h2, if_neg h3]
    rw [e]
    have t1 : (f == 1) = false := by simpa using h1
    have t2 : (f == 2) = false := by simpa using h2
    have t3 : (f == 3) = false := by simpa using h3
    clear h1 h2 h3 e
    go_enter Try.func89, Try.ntmps89
    go_wp2
    go_ret
    exact ⟨rfl, rfl⟩

theorem mask8 (i : Int) (i0 : 0 ≤ i) (i1 : i < 4294967296) : bits .and .u32 i 255 = i % 256 := by
  rw [u32_and _ _ i0 i1 (by omega) (by omega), show (255 : Int).toNat = 255 from rfl, nat_mask8]; omega
theorem mask5 (i : Int) (i0 : 0 ≤ i) (i1 : i < 4294967296) : bits .and .u32 i 31 = i % 32 := by
  rw [u32_and _ _ i0 i1 (by omega) (by omega), show (31 : Int).toNat = 31 from rfl, nat_mask5]; omega
theorem mask7 (i : Int) (i0 : 0 ≤ i) (i1 : i < 4294967296) : bits .and .u32 i 127 = i % 128 := by
  rw [u32_and _ _ i0 i1 (by omega) (by omega), show (127 : Int).toNat = 127 from rfl, nat_mask7]; omega
theorem mask2 (i : Int) (i0 : 0 ≤ i) (i1 : i < 4294967296) : bits .and .u32 i 3 = i % 4 := by
  rw [u32_and _ _ i0 i1 (by omega) (by omega), show (3 : Int).toNat = 3 from rfl, nat_mask2]; omega
theorem mask_c00 (i : Int) (i0 : 0 ≤ i) (i1 : i < 4294967296) : bits .and .u32 i 3072 = i / 1024 % 4 * 1024 := by
  rw [u32_and _ _ i0 i1 (by omega) (by omega), show (3072 : Int).toNat = 3072 from rfl]
  have h1 : (i.toNat &&& 3072) % 2 ^ 10 = i.toNat % 2 ^ 10 &&& 3072 % 2 ^ 10 := Nat.and_mod_two_pow
  have h2 : (i.toNat &&& 3072) / 2 ^ 10 = i.toNat / 2 ^ 10 &&& 3072 / 2 ^ 10 := Nat.and_div_two_pow
  rw [show 3072 % 2 ^ 10 = 0 by decide, Nat.and_zero] at h1
  rw [show 3072 / 2 ^ 10 = 3 by decide, nat_mask2] at h2
  omega
theorem or128 (x : Int) (x0 : 0 ≤ x) (x1 : x < 256) : bits .or .u32 x 128 = x % 128 + 128 := by
  rw [u32_or _ _ x0 (by omega) (by omega) (by omega), show (128 : Int).toNat = 128 from rfl]
  have h1 : (x.toNat ||| 128) % 2 ^ 7 = x.toNat % 2 ^ 7 ||| 128 % 2 ^ 7 := Nat.or_mod_two_pow
  have h2 : (x.toNat ||| 128) / 2 ^ 7 = x.toNat / 2 ^ 7 ||| 128 / 2 ^ 7 := Nat.or_div_two_pow
  rw [show 128 % 2 ^ 7 = 0 by decide, Nat.or_zero] at h1
  rw [show 128 / 2 ^ 7 = 1 by decide] at h2
  have h3 : x.toNat / 2 ^ 7 = 0 ∨ x.toNat / 2 ^ 7 = 1 := by omega
  rcases h3 with h3 | h3 <;> rw [h3] at h2 <;> simp at h2 <;> omega

def expandS (i : Int) (c : Bool) : Int × Bool × Bool :=
  if i / 1024 % 4 = 0 then (spreadS (i % 256) (i / 256 % 4), c, (i / 256 % 4 == 0) || (i % 256 != 0))
  else (rorS (i % 128 + 128) (i / 128 % 32).toNat, rorS (i % 128 + 128) (i / 128 % 32).toNat / 2147483648 == 1, true)

theorem expand_c (i : Int) (c : Bool) (i0 : 0 ≤ i) (i1 : i < 4294967296) (w : World) :
    Calls Try.prog 52 #[.int .u32 i, .bool c] w fun e w' => e = .returned (.tuple #[.int .u32 (expandS i c).1, .bool (expandS i c).2.1, .bool (expandS i c).2.2]) ∧ w' = w := by
  have m1 := mask8 i i0 i1
  have m2 := mask_c00 i i0 i1
  by_cases h : i / 1024 % 4 = 0
  · have t : (i / 1024 % 4 * 1024 != 0) = false := by rw [h]; rfl
    have m4 := mask2 (i / 256) (by omega) (by omega)
    have hc := spread_c (i % 256) (i / 256 % 4) (by omega) (by omega) (by omega) (by omega) w
    have e : expandS i c = (spreadS (i % 256) (i / 256 % 4), c, (i / 256 % 4 == 0) || (i % 256 != 0)) := by unfold expandS; rw [if_pos h]
    rw [e]
    clear e h
    generalize spreadS (i % 256) (i / 256 % 4) = r at *
    have f0 : 0 ≤ i / 256 % 4 := by omega
    have f1 : i / 256 % 4 < 4 := by omega
    generalize i / 256 % 4 = f at *
    have g0 : 0 ≤ i % 256 := by omega
    have g1 : i % 256 < 256 := by omega
    generalize i % 256 = x at *
    go_enter Try.func52, Try.ntmps52
    go_wp2_with (go_at_call 89; refine hc.mono ?_; rintro e w' ⟨rfl, rfl⟩)
    · go_ret3
      have hf : f = 0 := by assumption
      refine ⟨?_, rfl⟩
      simp [hf]
    · go_ret3
      exact ⟨rfl, rfl⟩
  · have t : (i / 1024 % 4 * 1024 != 0) = true := by simp; omega
    have m3 := mask5 (i / 128) (by omega) (by omega)
    have m5 := or128 (i % 256) (by omega) (by omega)
    have e5 : i % 256 % 128 = i % 128 := by omega
    rw [e5] at m5
    have hc := rotl_c (i % 128 + 128) (-(i / 128 % 32)) (by omega) (by omega) w
    have e : expandS i c = (rorS (i % 128 + 128) (i / 128 % 32).toNat, rorS (i % 128 + 128) (i / 128 % 32).toNat / 2147483648 == 1, true) := by unfold expandS; rw [if_neg h]
    rw [e]
    rw [show (32 - (-(i / 128 % 32) % 32).toNat) % 32 = (i / 128 % 32).toNat by omega] at hc
    clear e h e5
    generalize rorS (i % 128 + 128) (i / 128 % 32).toNat = r at *
    have f0 : 0 ≤ i / 128 % 32 := by omega
    have f1 : i / 128 % 32 < 32 := by omega
    generalize i / 128 % 32 = f at *
    go_enter Try.func52, Try.ntmps52
    go_wp2_with (go_at_call 88; refine hc.mono ?_; rintro e w' ⟨rfl, rfl⟩)
    go_ret3
    exact ⟨rfl, rfl⟩

def turnS (v : Int) : Int := clzS v + 8
def lowT (v : Int) : Int := rorS v ((32 - (turnS v % 32).toNat) % 32)
def turnedS (v : Int) : Int × Bool := if 255 < lowT v then (0, false) else (turnS v * 128 + lowT v % 128, true)
def compressS (v : Int) : Int × Bool :=
  if v = v % 256 then (v % 256, true)
  else if v = spreadS (v % 256) 1 then (256 + v % 256, true)
  else if v = spreadS (v / 256 % 256) 2 then (512 + v / 256 % 256, true)
  else if v = spreadS (v % 256) 3 then (768 + v % 256, true)
  else turnedS v

theorem lowT_bounds (v : Int) (v0 : 0 ≤ v) (v1 : v < 4294967296) : 0 ≤ lowT v ∧ lowT v < 4294967296 := rorS_bounds v _ v0 v1 (Nat.mod_lt _ (by decide))
theorem turned_join (t l : Int) (t0 : 0 ≤ t) (t1 : t ≤ 40) (l0 : 0 ≤ l) (l1 : l < 128) : bits .or .u32 (t * 128) l = t * 128 + l := by
  rw [or_join32 7 _ _ (by omega) (by omega) l0 (show t * 128 % 128 = 0 by omega) (show l < 128 from l1) (by omega)]

theorem turned_c (v : Int) (v0 : 0 ≤ v) (v1 : v < 4294967296) (w : World) :
    Calls Try.prog 92 #[.int .u32 v] w fun e w' => e = .returned (.tuple #[.int .u32 (turnedS v).1, .bool (turnedS v).2]) ∧ w' = w := by
  have h1 := lead_c v v0 v1 w
  have hb := clzS_bounds v v0 v1
  have h2 := rotl_c v (turnS v) v0 v1 w
  have hl := lowT_bounds v v0 v1
  rw [show rorS v ((32 - (turnS v % 32).toNat) % 32) = lowT v from rfl, show turnS v = clzS v + 8 from rfl] at h2
  have hj := turned_join (clzS v + 8) (lowT v % 128) (by omega) (by omega) (by omega) (by omega)
  have hm := mask7 (lowT v) hl.1 hl.2
  obtain ⟨b0, b1⟩ := hb
  obtain ⟨l0, l1⟩ := hl
  by_cases hh : 255 < lowT v
  · have e : turnedS v = (0, false) := by unfold turnedS; rw [if_pos hh]
    rw [e]
    clear e hm hj
    generalize lowT v = l at *
    generalize clzS v = z at *
    go_enter Try.func92, Try.ntmps92
    go_wp2_with (first | (go_at_call 97; refine h1.mono ?_; rintro e w' ⟨rfl, rfl⟩) | (go_at_call 88; refine h2.mono ?_; rintro e w' ⟨rfl, rfl⟩))
    go_ret2
    exact ⟨rfl, rfl⟩
  · have e : turnedS v = ((clzS v + 8) * 128 + lowT v % 128, true) := by unfold turnedS turnS; rw [if_neg hh]
    rw [e]
    clear e
    generalize lowT v = l at *
    generalize clzS v = z at *
    go_enter Try.func92, Try.ntmps92
    go_wp2_with (first | (go_at_call 97; refine h1.mono ?_; rintro e w' ⟨rfl, rfl⟩) | (go_at_call 88; refine h2.mono ?_; rintro e w' ⟨rfl, rfl⟩))
    go_ret2
    exact ⟨rfl, rfl⟩

theorem form_join (f l : Int) (f0 : f = 256 ∨ f = 512 ∨ f = 768) (l0 : 0 ≤ l) (l1 : l < 256) : bits .or .u32 f l = f + l := by
  rw [or_join32 8 _ _ (by omega) (by omega) l0 (show f % 256 = 0 by omega) (show l < 256 from l1) (by omega)]

set_option maxHeartbeats 1000000 in
theorem compress_0 (v l k a1 a2 a3 t1 : Int) (t2 : Bool) (w : World)
    (m1 : bits .and .u32 v 255 = l) (m2 : bits .and .u32 (v / 256) 255 = k) (v0 : 0 ≤ v) (v1 : v < 4294967296) (l0 : 0 ≤ l) (l1 : l < 256) (k0 : 0 ≤ k) (k1 : k < 256)
    (s0 : Calls Try.prog 89 #[.int .u32 l, .int .u32 0] w fun e w' => e = .returned (.int .u32 l) ∧ w' = w)
    (s1 : Calls Try.prog 89 #[.int .u32 l, .int .u32 1] w fun e w' => e = .returned (.int .u32 a1) ∧ w' = w)
    (s2 : Calls Try.prog 89 #[.int .u32 k, .int .u32 2] w fun e w' => e = .returned (.int .u32 a2) ∧ w' = w)
    (s3 : Calls Try.prog 89 #[.int .u32 l, .int .u32 3] w fun e w' => e = .returned (.int .u32 a3) ∧ w' = w)
    (st : Calls Try.prog 92 #[.int .u32 v] w fun e w' => e = .returned (.tuple #[.int .u32 t1, .bool t2]) ∧ w' = w)
    (d0 : (v == l) = true)  :
    Calls Try.prog 70 #[.int .u32 v] w fun e w' => e = .returned (.tuple #[(.int .u32 l), .bool true]) ∧ w' = w := by
  go_enter Try.func70, Try.ntmps70
  go_wp2_with fail
  refine s0.mono ?_
  rintro e _ ⟨rfl, rfl⟩
  go_wp2
  go_ret2
  exact ⟨rfl, rfl⟩

set_option maxHeartbeats 1000000 in
theorem compress_1 (v l k a1 a2 a3 t1 : Int) (t2 : Bool) (w : World)
    (m1 : bits .and .u32 v 255 = l) (m2 : bits .and .u32 (v / 256) 255 = k) (v0 : 0 ≤ v) (v1 : v < 4294967296) (l0 : 0 ≤ l) (l1 : l < 256) (k0 : 0 ≤ k) (k1 : k < 256)
    (s0 : Calls Try.prog 89 #[.int .u32 l, .int .u32 0] w fun e w' => e = .returned (.int .u32 l) ∧ w' = w)
    (s1 : Calls Try.prog 89 #[.int .u32 l, .int .u32 1] w fun e w' => e = .returned (.int .u32 a1) ∧ w' = w)
    (s2 : Calls Try.prog 89 #[.int .u32 k, .int .u32 2] w fun e w' => e = .returned (.int .u32 a2) ∧ w' = w)
    (s3 : Calls Try.prog 89 #[.int .u32 l, .int .u32 3] w fun e w' => e = .returned (.int .u32 a3) ∧ w' = w)
    (st : Calls Try.prog 92 #[.int .u32 v] w fun e w' => e = .returned (.tuple #[.int .u32 t1, .bool t2]) ∧ w' = w)
    (d0 : (v == l) = false) (d1 : (v == a1) = true) (j : bits .or .u32 256 l = 256 + l) :
    Calls Try.prog 70 #[.int .u32 v] w fun e w' => e = .returned (.tuple #[(.int .u32 (256 + l)), .bool true]) ∧ w' = w := by
  go_enter Try.func70, Try.ntmps70
  go_wp2_with fail
  refine s0.mono ?_
  rintro e _ ⟨rfl, rfl⟩
  go_wp2_with fail
  refine s1.mono ?_
  rintro e _ ⟨rfl, rfl⟩
  go_wp2
  go_ret2
  exact ⟨rfl, rfl⟩

set_option maxHeartbeats 1000000 in
theorem compress_2 (v l k a1 a2 a3 t1 : Int) (t2 : Bool) (w : World)
    (m1 : bits .and .u32 v 255 = l) (m2 : bits .and .u32 (v / 256) 255 = k) (v0 : 0 ≤ v) (v1 : v < 4294967296) (l0 : 0 ≤ l) (l1 : l < 256) (k0 : 0 ≤ k) (k1 : k < 256)
    (s0 : Calls Try.prog 89 #[.int .u32 l, .int .u32 0] w fun e w' => e = .returned (.int .u32 l) ∧ w' = w)
    (s1 : Calls Try.prog 89 #[.int .u32 l, .int .u32 1] w fun e w' => e = .returned (.int .u32 a1) ∧ w' = w)
    (s2 : Calls Try.prog 89 #[.int .u32 k, .int .u32 2] w fun e w' => e = .returned (.int .u32 a2) ∧ w' = w)
    (s3 : Calls Try.prog 89 #[.int .u32 l, .int .u32 3] w fun e w' => e = .returned (.int .u32 a3) ∧ w' = w)
    (st : Calls Try.prog 92 #[.int .u32 v] w fun e w' => e = .returned (.tuple #[.int .u32 t1, .bool t2]) ∧ w' = w)
    (d0 : (v == l) = false) (d1 : (v == a1) = false) (d2 : (v == a2) = true) (j : bits .or .u32 512 k = 512 + k) :
    Calls Try.prog 70 #[.int .u32 v] w fun e w' => e = .returned (.tuple #[(.int .u32 (512 + k)), .bool true]) ∧ w' = w := by
  go_enter Try.func70, Try.ntmps70
  go_wp2_with fail
  refine s0.mono ?_
  rintro e _ ⟨rfl, rfl⟩
  go_wp2_with fail
  refine s1.mono ?_
  rintro e _ ⟨rfl, rfl⟩
  go_wp2_with fail
  refine s2.mono ?_
  rintro e _ ⟨rfl, rfl⟩
  go_wp2
  go_ret2
  exact ⟨rfl, rfl⟩

set_option maxHeartbeats 1000000 in
theorem compress_3 (v l k a1 a2 a3 t1 : Int) (t2 : Bool) (w : World)
    (m1 : bits .and .u32 v 255 = l) (m2 : bits .and .u32 (v / 256) 255 = k) (v0 : 0 ≤ v) (v1 : v < 4294967296) (l0 : 0 ≤ l) (l1 : l < 256) (k0 : 0 ≤ k) (k1 : k < 256)
    (s0 : Calls Try.prog 89 #[.int .u32 l, .int .u32 0] w fun e w' => e = .returned (.int .u32 l) ∧ w' = w)
    (s1 : Calls Try.prog 89 #[.int .u32 l, .int .u32 1] w fun e w' => e = .returned (.int .u32 a1) ∧ w' = w)
    (s2 : Calls Try.prog 89 #[.int .u32 k, .int .u32 2] w fun e w' => e = .returned (.int .u32 a2) ∧ w' = w)
    (s3 : Calls Try.prog 89 #[.int .u32 l, .int .u32 3] w fun e w' => e = .returned (.int .u32 a3) ∧ w' = w)
    (st : Calls Try.prog 92 #[.int .u32 v] w fun e w' => e = .returned (.tuple #[.int .u32 t1, .bool t2]) ∧ w' = w)
    (d0 : (v == l) = false) (d1 : (v == a1) = false) (d2 : (v == a2) = false) (d3 : (v == a3) = true) (j : bits .or .u32 768 l = 768 + l) :
    Calls Try.prog 70 #[.int .u32 v] w fun e w' => e = .returned (.tuple #[(.int .u32 (768 + l)), .bool true]) ∧ w' = w := by
  go_enter Try.func70, Try.ntmps70
  go_wp2_with fail
  refine s0.mono ?_
  rintro e _ ⟨rfl, rfl⟩
  go_wp2_with fail
  refine s1.mono ?_
  rintro e _ ⟨rfl, rfl⟩
  go_wp2_with fail
  refine s2.mono ?_
  rintro e _ ⟨rfl, rfl⟩
  go_wp2_with fail
  refine s3.mono ?_
  rintro e _ ⟨rfl, rfl⟩
  go_wp2
  go_ret2
  exact ⟨rfl, rfl⟩

set_option maxHeartbeats 1000000 in
theorem compress_4 (v l k a1 a2 a3 t1 : Int) (t2 : Bool) (w : World)
    (m1 : bits .and .u32 v 255 = l) (m2 : bits .and .u32 (v / 256) 255 = k) (v0 : 0 ≤ v) (v1 : v < 4294967296) (l0 : 0 ≤ l) (l1 : l < 256) (k0 : 0 ≤ k) (k1 : k < 256)
    (s0 : Calls Try.prog 89 #[.int .u32 l, .int .u32 0] w fun e w' => e = .returned (.int .u32 l) ∧ w' = w)
    (s1 : Calls Try.prog 89 #[.int .u32 l, .int .u32 1] w fun e w' => e = .returned (.int .u32 a1) ∧ w' = w)
    (s2 : Calls Try.prog 89 #[.int .u32 k, .int .u32 2] w fun e w' => e = .returned (.int .u32 a2) ∧ w' = w)
    (s3 : Calls Try.prog 89 #[.int .u32 l, .int .u32 3] w fun e w' => e = .returned (.int .u32 a3) ∧ w' = w)
    (st : Calls Try.prog 92 #[.int .u32 v] w fun e w' => e = .returned (.tuple #[.int .u32 t1, .bool t2]) ∧ w' = w)
    (d0 : (v == l) = false) (d1 : (v == a1) = false) (d2 : (v == a2) = false) (d3 : (v == a3) = false)  :
    Calls Try.prog 70 #[.int .u32 v] w fun e w' => e = .returned (.tuple #[(.int .u32 t1), .bool t2]) ∧ w' = w := by
  go_enter Try.func70, Try.ntmps70
  go_wp2_with fail
  refine s0.mono ?_
  rintro e _ ⟨rfl, rfl⟩
  go_wp2_with fail
  refine s1.mono ?_
  rintro e _ ⟨rfl, rfl⟩
  go_wp2_with fail
  refine s2.mono ?_
  rintro e _ ⟨rfl, rfl⟩
  go_wp2_with fail
  refine s3.mono ?_
  rintro e _ ⟨rfl, rfl⟩
  go_wp2_with fail
  refine st.mono ?_
  rintro e _ ⟨rfl, rfl⟩
  go_wp2
  go_ret2
  exact ⟨rfl, rfl⟩

theorem compress_c (v : Int) (v0 : 0 ≤ v) (v1 : v < 4294967296) (w : World) :
    Calls Try.prog 70 #[.int .u32 v] w fun e w' => e = .returned (.tuple #[.int .u32 (compressS v).1, .bool (compressS v).2]) ∧ w' = w := by
  have m1 := mask8 v v0 v1
  have m2 := mask8 (v / 256) (by omega) (by omega)
  have s0 := spread_c (v % 256) 0 (by omega) (by omega) (by omega) (by omega) w
  have s1 := spread_c (v % 256) 1 (by omega) (by omega) (by omega) (by omega) w
  have s2 := spread_c (v / 256 % 256) 2 (by omega) (by omega) (by omega) (by omega) w
  have s3 := spread_c (v % 256) 3 (by omega) (by omega) (by omega) (by omega) w
  rw [show spreadS (v % 256) 0 = v % 256 from rfl] at s0
  have st := turned_c v v0 v1 w
  have j1 := form_join 256 (v % 256) (by omega) (by omega) (by omega)
  have j2 := form_join 512 (v / 256 % 256) (by omega) (by omega) (by omega)
  have j3 := form_join 768 (v % 256) (by omega) (by omega) (by omega)
  unfold compressS
  generalize spreadS (v % 256) 1 = a1 at *
  generalize spreadS (v / 256 % 256) 2 = a2 at *
  generalize spreadS (v % 256) 3 = a3 at *
  generalize turnedS v = tt at *
  obtain ⟨t1, t2⟩ := tt
  have l0 : 0 ≤ v % 256 := by omega
  have l1 : v % 256 < 256 := by omega
  have k0 : 0 ≤ v / 256 % 256 := by omega
  have k1 : v / 256 % 256 < 256 := by omega
  generalize v % 256 = l at *
  generalize v / 256 % 256 = k at *
  by_cases c0 : v = l
  · rw [if_pos c0]
    exact compress_0 v l k a1 a2 a3 t1 t2 w m1 m2 v0 v1 l0 l1 k0 k1 s0 s1 s2 s3 st (by simpa using c0)
  rw [if_neg c0]
  by_cases c1 : v = a1
  · rw [if_pos c1]
    exact compress_1 v l k a1 a2 a3 t1 t2 w m1 m2 v0 v1 l0 l1 k0 k1 s0 s1 s2 s3 st (by simpa using c0) (by simpa using c1) j1
  rw [if_neg c1]
  by_cases c2 : v = a2
  · rw [if_pos c2]
    exact compress_2 v l k a1 a2 a3 t1 t2 w m1 m2 v0 v1 l0 l1 k0 k1 s0 s1 s2 s3 st (by simpa using c0) (by simpa using c1) (by simpa using c2) j2
  rw [if_neg c2]
  by_cases c3 : v = a3
  · rw [if_pos c3]
    exact compress_3 v l k a1 a2 a3 t1 t2 w m1 m2 v0 v1 l0 l1 k0 k1 s0 s1 s2 s3 st (by simpa using c0) (by simpa using c1) (by simpa using c2) (by simpa using c3) j3
  rw [if_neg c3]
  exact compress_4 v l k a1 a2 a3 t1 t2 w m1 m2 v0 v1 l0 l1 k0 k1 s0 s1 s2 s3 st (by simpa using c0) (by simpa using c1) (by simpa using c2) (by simpa using c3)
end Go.Proofs.Ytigmekboikgoaaa
