/- The contracts of package word's functions on bits and bytes, walked. -/
import Derived.Test.YteflboidbogegaaShift
import Derived.Test.YteflboidbogegaaPure4
import Derived.Lib.BitFns
namespace Go.Proofs.Yteflboidbogegaa
open Go.ChangeShapes Go.WideShapes Go.ChangeAt Go.RowKit
set_option linter.unusedVariables false
set_option linter.unusedSimpArgs false

theorem wrap64_small (x : Int) (h0 : 0 ≤ x) (h1 : x ≤ 1000) : wrap64 x = x := by unfold wrap64; omega

theorem len32_c (x : Int) (h0 : 0 ≤ x) (h1 : x < 4294967296) (w : World) :
    Calls Try.prog 96 #[.int .u32 x] w fun e w' => e = .returned (.int .i64 (Lib.bitLen x.toNat)) ∧ w' = w := by
  rcases (show x ≤ 255 ∨ (256 ≤ x ∧ x < 65536) ∨ (65536 ≤ x ∧ x < 16777216) ∨ 16777216 ≤ x by omega) with c | ⟨c, d⟩ | ⟨c, d⟩ | c
  · have h2 : x < 256 := by omega
    have h3 : x < 65536 := by omega
    go_enter Try.func96, Try.ntmps96
    go_wp2
    go_ret
    refine ⟨congrArg (fun x => Ending.returned (Value.int IntKind.i64 x)) ?_, rfl⟩
    rw [Lib.len8_of x h0 c]
    have l := Lib.bitLen_le8' x h0 c
    unfold wrap64
    omega
  · have h3 : x / 256 ≤ 255 := by omega
    have h4 : 0 ≤ x / 256 := by omega
    go_enter Try.func96, Try.ntmps96
    go_wp2
    go_ret
    refine ⟨congrArg (fun x => Ending.returned (Value.int IntKind.i64 x)) ?_, rfl⟩
    rw [Lib.len8_of _ h4 h3]
    have l := Lib.bitLen_le8' _ h4 h3
    have e : (x / 256).toNat = x.toNat / 256 := by omega
    have s := Lib.bitLen_shift8 x.toNat (by omega) (by omega)
    rw [e] at l ⊢
    unfold wrap64
    omega
  · have h3 : x / 65536 ≤ 255 := by omega
    have h5 : x / 65536 < 256 := by omega
    have h4 : 0 ≤ x / 65536 := by omega
    go_enter Try.func96, Try.ntmps96
    go_wp2
    go_ret
    refine ⟨congrArg (fun x => Ending.returned (Value.int IntKind.i64 x)) ?_, rfl⟩
    rw [Lib.len8_of _ h4 h3]
    have l := Lib.bitLen_le8' _ h4 h3
    have e : (x / 65536).toNat = x.toNat / 65536 := by omega
    have s := Lib.bitLen_shift16 x.toNat (by omega) (by omega)
    rw [e] at l ⊢
    unfold wrap64
    omega
  · have h3 : x / 65536 / 256 ≤ 255 := by omega
    have h4 : 0 ≤ x / 65536 / 256 := by omega
    have h5 : 256 ≤ x / 65536 := by omega
    have h6 : 65536 ≤ x := by omega
    go_enter Try.func96, Try.ntmps96
    go_wp2
    go_ret
    refine ⟨congrArg (fun x => Ending.returned (Value.int IntKind.i64 x)) ?_, rfl⟩
    rw [Lib.len8_of _ h4 h3]
    have l := Lib.bitLen_le8' _ h4 h3
    have e : (x / 65536 / 256).toNat = x.toNat / 16777216 := by omega
    have s := Lib.bitLen_shift24 x.toNat (by omega) (by omega)
    rw [e] at l ⊢
    unfold wrap64
    omega

def clzS (x : Int) : Int := 32 - (Lib.bitLen x.toNat : Int)
theorem bitLen_le32 (x : Int) (h0 : 0 ≤ x) (h1 : x < 4294967296) : Lib.bitLen x.toNat ≤ 32 := Lib.bitLen_le x.toNat 32 (by omega) (by omega)
theorem clzS_bounds (x : Int) (h0 : 0 ≤ x) (h1 : x < 4294967296) : 0 ≤ clzS x ∧ clzS x ≤ 32 := by
  have := bitLen_le32 x h0 h1
  unfold clzS
  omega

theorem lead_c (x : Int) (h0 : 0 ≤ x) (h1 : x < 4294967296) (w : World) :
    Calls Try.prog 84 #[.int .u32 x] w fun e w' => e = .returned (.int .i64 (clzS x)) ∧ w' = w := by
  have l := bitLen_le32 x h0 h1
  have hc := len32_c x h0 h1 w
  rw [show clzS x = 32 - (Lib.bitLen x.toNat : Int) from rfl]
  generalize Lib.bitLen x.toNat = n at *
  go_enter Try.func84, Try.ntmps84
  go_wp2_with (go_at_call 96; refine hc.mono ?_; rintro e w' ⟨rfl, rfl⟩)
  go_ret
  exact ⟨rfl, rfl⟩
theorem clz_c (x : Int) (h0 : 0 ≤ x) (h1 : x < 4294967296) (w : World) :
    Calls Try.prog 54 #[.int .u32 x] w fun e w' => e = .returned (.int .i64 (clzS x)) ∧ w' = w := by
  have hc := lead_c x h0 h1 w
  generalize clzS x = n at *
  go_enter Try.func54, Try.ntmps54
  go_wp2_with (go_at_call 84; refine hc.mono ?_; rintro e w' ⟨rfl, rfl⟩)
  go_ret
  exact ⟨rfl, rfl⟩

def spreadS (x f : Int) : Int := if f = 1 then x * 65537 % 4294967296 else if f = 2 then x * 16777472 % 4294967296 else if f = 3 then x * 16843009 % 4294967296 else x
theorem mask8 (i : Int) (i0 : 0 ≤ i) (i1 : i < 4294967296) : bits .and .u32 i 255 = i % 256 := by
  rw [u32_and _ _ i0 i1 (by omega) (by omega), show (255 : Int).toNat = 255 from rfl, nat_mask8]; omega
theorem mask5 (i : Int) (i0 : 0 ≤ i) (i1 : i < 4294967296) : bits .and .u32 i 31 = i % 32 := by
  rw [u32_and _ _ i0 i1 (by omega) (by omega), show (31 : Int).toNat = 31 from rfl, nat_mask5]; omega
theorem mask7 (i : Int) (i0 : 0 ≤ i) (i1 : i < 4294967296) : bits .and .u32 i 127 = i % 128 := by
  rw [u32_and _ _ i0 i1 (by omega) (by omega), show (127 : Int).toNat = 127 from rfl, nat_mask7]; omega
theorem mask2 (i : Int) (i0 : 0 ≤ i) (i1 : i < 4294967296) : bits .and .u32 i 3 = i % 4 := by
  rw [u32_and _ _ i0 i1 (by omega) (by omega), show (3 : Int).toNat = 3 from rfl, nat_mask2]; omega
theorem mask_c00 (i : Int) (i0 : 0 ≤ i) (i1 : i < 4294967296) : bits .and .u32 i 3072 = i / 1024 % 4 * 1024 := by
  rw [u32_and _ _ i0 i1 (by omega) (by omega), show (3072 : Int).toNat = 3072 from rfl]
  have h1 : (i.toNat &&& 3072) % 2 ^ 10 = i.toNat % 2 ^ 10 &&& 3072 % 2 ^ 10 := Nat.and_mod_two_pow
  have h2 : (i.toNat &&& 3072) / 2 ^ 10 = i.toNat / 2 ^ 10 &&& 3072 / 2 ^ 10 := Nat.and_div_two_pow
  rw [show 3072 % 2 ^ 10 = 0 by decide, Nat.and_zero] at h1
  rw [show 3072 / 2 ^ 10 = 3 by decide, nat_mask2] at h2
  omega
theorem or128 (x : Int) (x0 : 0 ≤ x) (x1 : x < 256) : bits .or .u32 x 128 = x % 128 + 128 := by
  rw [u32_or _ _ x0 (by omega) (by omega) (by omega), show (128 : Int).toNat = 128 from rfl]
  have h1 : (x.toNat ||| 128) % 2 ^ 7 = x.toNat % 2 ^ 7 ||| 128 % 2 ^ 7 := Nat.or_mod_two_pow
  have h2 : (x.toNat ||| 128) / 2 ^ 7 = x.toNat / 2 ^ 7 ||| 128 / 2 ^ 7 := Nat.or_div_two_pow
  rw [show 128 % 2 ^ 7 = 0 by decide, Nat.or_zero] at h1
  rw [show 128 / 2 ^ 7 = 1 by decide] at h2
  have h3 : x.toNat / 2 ^ 7 = 0 ∨ x.toNat / 2 ^ 7 = 1 := by omega
  rcases h3 with h3 | h3 <;> rw [h3] at h2 <;> simp at h2 <;> omega

def expandS (i : Int) (c : Bool) : Int × Bool × Bool :=
  if i / 1024 % 4 = 0 then (spreadS (i % 256) (i / 256 % 4), c, (i / 256 % 4 == 0) || (i % 256 != 0))
  else (rorS (i % 128 + 128) (i / 128 % 32).toNat, rorS (i % 128 + 128) (i / 128 % 32).toNat / 2147483648 == 1, true)

def turnS (v : Int) : Int := clzS v + 8
def lowT (v : Int) : Int := rorS v ((32 - (turnS v % 32).toNat) % 32)
def turnedS (v : Int) : Int × Bool := if 255 < lowT v then (0, false) else (turnS v * 128 + lowT v % 128, true)
def compressS (v : Int) : Int × Bool :=
  if v = v % 256 then (v % 256, true)
  else if v = spreadS (v % 256) 1 then (256 + v % 256, true)
  else if v = spreadS (v / 256 % 256) 2 then (512 + v / 256 % 256, true)
  else if v = spreadS (v % 256) 3 then (768 + v % 256, true)
  else turnedS v

theorem lowT_bounds (v : Int) (v0 : 0 ≤ v) (v1 : v < 4294967296) : 0 ≤ lowT v ∧ lowT v < 4294967296 := rorS_bounds v _ v0 v1 (Nat.mod_lt _ (by decide))
theorem turned_join (t l : Int) (t0 : 0 ≤ t) (t1 : t ≤ 40) (l0 : 0 ≤ l) (l1 : l < 128) : bits .or .u32 (t * 128) l = t * 128 + l := by
  rw [or_join32 7 _ _ (by omega) (by omega) l0 (show t * 128 % 128 = 0 by omega) (show l < 128 from l1) (by omega)]

theorem form_join (f l : Int) (f0 : f = 256 ∨ f = 512 ∨ f = 768) (l0 : 0 ≤ l) (l1 : l < 256) : bits .or .u32 f l = f + l := by
  rw [or_join32 8 _ _ (by omega) (by omega) l0 (show f % 256 = 0 by omega) (show l < 256 from l1) (by omega)]

end Go.Proofs.Yteflboidbogegaa
