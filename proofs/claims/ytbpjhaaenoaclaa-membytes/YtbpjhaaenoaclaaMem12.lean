/- MemBytes, walked. -/
import Derived.Test.YtbpjhaaenoaclaaMem11
namespace Go.Proofs.Ytbpjhaaenoaclaa
open Go.ChangeShapes Go.WideShapes Go.ChangeAt Go.RowKit
set_option linter.unusedVariables false
set_option linter.unusedSimpArgs false

def zB : List Reg := seatBs 0 0 0 0
def zG : List (List Int) := [[], [], [], []]
def zD : List (List Int) := initD zB zG
theorem zG_le : ∀ g ∈ zG, g.length ≤ 65536 := by decide
theorem zB_ok : checkS (regAt zB) zB.length = 0 := by decide +kernel
def z1 : List Int := List.replicate 256 0
theorem zD_one : zD[1]? = some z1 := by decide +kernel
theorem z1_len : z1.length = 256 := by decide +kernel

/-- The four bytes. -/
def by4 (v : Int) (j : Nat) : Int := v / 256 ^ j % 256

def mbRel (w2 w4 : World) (p lo hi : Nat) (q : Nat → Nat) (D : List (List Int)) (i : Value) (wr : World) : Prop :=
  ∃ j : Nat, j ≤ 4 ∧ i = .int .u32 j ∧ MemAt wr p 0 lo hi zB zG D q ∧ Below w4.heap.size w4 wr

set_option maxHeartbeats 16000000 in
set_option maxRecDepth 100000 in
theorem membytes_c (v at_ k : Int) (hv0 : 0 ≤ v) (hv1 : v ≤ 4294967295) (ha0 : 0 ≤ at_) (ha1 : at_ ≤ 4294967295) (hk0 : 0 ≤ k) (hk1 : k ≤ 255) (w : World) :
    Calls Try.prog 6 #[.int .u32 v, .int .u32 at_, .int .u8 k] w fun e w' => e = .returned (.bool true) ∧ Below w.heap.size w w' := by
  obtain ⟨f, hf, hf4, hf252⟩ : ∃ f : Nat, at_ % 64 * 4 = (f : Int) ∧ f % 4 = 0 ∧ f ≤ 252 := ⟨(at_ % 64 * 4).toNat, by omega, by omega, by omega⟩
  obtain ⟨kk, hkk, hkk4⟩ : ∃ kk : Nat, k % 4 = (kk : Int) ∧ kk < 4 := ⟨(k % 4).toNat, by omega, by omega⟩
  have K : Hid _ := fun (w : World) => known_c w
  have S0 : Hid _ := fun (w : World) => seat_c (.slice none 0 0) (.slice none 0 0) (.slice none 0 0) (.slice none 0 0) [] [] [] [] w (bl_nil _ _) (bl_nil _ _) (bl_nil _ _) (bl_nil _ _) (by decide) (by decide) (by decide) (by decide)
  have d1l : ∀ v k f, (putS z1 f v k).length = 256 := fun v k f => by rw [putS_length, z1_len]
  have F0 : Hid (mayS (regAt zB) zB.length (536870912 + f) 4 true = 0) := seat_ram_may zB_ok (by show (f : Int) + 4 ≤ 256; omega) (by show (f : Int) % 4 = 0; omega) true
  have FD : Hid (storeS zB zD (536870912 + f) 4 v = zD.set 1 (putS z1 f v 4)) := storeS_ram zB_ok zD_one (by show (f : Int) + 4 ≤ 256; omega) (by show (f : Int) % 4 = 0; omega) v
  obtain ⟨D1, hD1⟩ : ∃ D1, D1 = zD.set 1 (putS z1 f v 4) := ⟨_, rfl⟩
  have hD11 : D1[1]? = some (putS z1 f v 4) := by rw [hD1]; exact List.getElem?_set_self (by decide +kernel)
  have hp : ∀ j, j < 4 → (putS z1 f v 4)[f + j]? = some (v / 256 ^ j % 256) := fun j hj => putS_at z1 f v 4 j hj (by rw [z1_len]; omega)
  have FL : Hid (∀ j : Nat, j < 4 → mayS (regAt zB) zB.length (536870912 + f + j) 1 false = 0 ∧ gotS zB D1 (536870912 + f + j) 1 = v / 256 ^ j % 256) := fun j hj => by
    have e : (536870912 : Int) + f + j = 536870912 + ((f + j : Nat) : Int) := by push_cast; omega
    rw [e]
    refine ⟨seat_ram_may zB_ok (by show ((f + j : Nat) : Int) + 1 ≤ 256; omega) (by show ((f + j : Nat) : Int) % 1 = 0; omega) false, ?_⟩
    have h := gotS_ram zB_ok hD11 (f := f + j) (s := 1) (by show ((f + j : Nat) : Int) + 1 ≤ 256; omega) (by show ((f + j : Nat) : Int) % 1 = 0; omega)
    exact h.trans (num1 (hp j hj))
  have p0 := hp 0 (by decide)
  have p1 := hp 1 (by decide)
  have p2 := hp 2 (by decide)
  have p3 := hp 3 (by decide)
  simp only [Nat.add_zero, Int.pow_zero, Int.ediv_one, show (256 : Int) ^ 1 = 256 from rfl, show (256 : Int) ^ 2 = 65536 from rfl, show (256 : Int) ^ 3 = 16777216 from rfl] at p0 p1 p2 p3
  have FLo : Hid (gotS zB D1 (536870912 + f) 2 = v % 65536) := by
    refine (gotS_ram zB_ok hD11 (f := f) (s := 2) (by show (f : Int) + 2 ≤ 256; omega) (by show (f : Int) % 2 = 0; omega)).trans ?_
    refine (num2 p0 p1).trans ?_
    omega
  have FHi : Hid (gotS zB D1 (536870912 + f + 2) 2 = v / 65536) := by
    have e : (536870912 : Int) + f + 2 = 536870912 + ((f + 2 : Nat) : Int) := by push_cast; omega
    rw [e]
    refine (gotS_ram zB_ok hD11 (f := f + 2) (s := 2) (by show ((f + 2 : Nat) : Int) + 2 ≤ 256; omega) (by show ((f + 2 : Nat) : Int) % 2 = 0; omega)).trans ?_
    refine (num2 p2 p3).trans ?_
    omega
  obtain ⟨D2, hD2⟩ : ∃ D2, D2 = D1.set 1 (putS (putS z1 f v 4) (f + kk) 511 1) := ⟨_, rfl⟩
  have FD2 : Hid (storeS zB D1 (536870912 + f + kk) 1 511 = D2) := by
    have e : (536870912 : Int) + f + kk = 536870912 + ((f + kk : Nat) : Int) := by push_cast; omega
    rw [e, hD2]
    exact storeS_ram zB_ok hD11 (f := f + kk) (s := 1) (by show ((f + kk : Nat) : Int) + 1 ≤ 256; omega) (by show ((f + kk : Nat) : Int) % 1 = 0; omega) 511
  have hD21 : D2[1]? = some (putS (putS z1 f v 4) (f + kk) 511 1) := by
    rw [hD2]
    exact List.getElem?_set_self (List.getElem?_eq_some_iff.1 hD11).1
  have hq0 : (putS (putS z1 f v 4) (f + kk) 511 1)[f + kk]? = some 255 := by
    have := putS_at (putS z1 f v 4) (f + kk) 511 1 0 (by decide) (by rw [d1l]; omega)
    simpa using this
  have hqo : ∀ j, j ≠ f + kk → (putS (putS z1 f v 4) (f + kk) 511 1)[j]? = (putS z1 f v 4)[j]? := fun j hj => putS_off _ _ _ _ _ (by omega)
  have FX : Hid (gotS zB D2 (536870912 + f) 4 = bits .or .u32 v (255 * 2 ^ (8 * kk)) ∧ ∃ y, (putS (putS z1 f v 4) (f + kk) 511 1)[f]? = some y ∧ y = bits .or .u32 v (255 * 2 ^ (8 * kk)) % 256) := by
    have hg := gotS_ram zB_ok hD21 (f := f) (s := 4) (by show (f : Int) + 4 ≤ 256; omega) (by show (f : Int) % 4 = 0; omega)
    have hor := or255 v hv0 hv1
    have h4 : kk = 0 ∨ kk = 1 ∨ kk = 2 ∨ kk = 3 := by omega
    rcases h4 with rfl | rfl | rfl | rfl
    · have e := hor.1
      have x0 := hq0
      simp only [Nat.add_zero] at x0
      have hn := num4 x0 ((hqo (f + 1) (by omega)).trans p1) ((hqo (f + 2) (by omega)).trans p2) ((hqo (f + 3) (by omega)).trans p3)
      refine ⟨hg.trans (hn.trans ?_), _, x0, ?_⟩
      · show _ = bits .or .u32 v 255
        rw [e]; omega
      · show _ = bits .or .u32 v 255 % 256
        rw [e]; omega
    · have e := hor.2.1
      have x0 := (hqo f (by omega)).trans p0
      have hn := num4 x0 hq0 ((hqo (f + 2) (by omega)).trans p2) ((hqo (f + 3) (by omega)).trans p3)
      refine ⟨hg.trans (hn.trans ?_), _, x0, ?_⟩
      · show _ = bits .or .u32 v 65280
        rw [e]; omega
      · show _ = bits .or .u32 v 65280 % 256
        rw [e]; omega
    · have e := hor.2.2.1
      have x0 := (hqo f (by omega)).trans p0
      have hn := num4 x0 ((hqo (f + 1) (by omega)).trans p1) hq0 ((hqo (f + 3) (by omega)).trans p3)
      refine ⟨hg.trans (hn.trans ?_), _, x0, ?_⟩
      · show _ = bits .or .u32 v 16711680
        rw [e]; omega
      · show _ = bits .or .u32 v 16711680 % 256
        rw [e]; omega
    · have e := hor.2.2.2
      have x0 := (hqo f (by omega)).trans p0
      have hn := num4 x0 ((hqo (f + 1) (by omega)).trans p1) ((hqo (f + 2) (by omega)).trans p2) hq0
      refine ⟨hg.trans (hn.trans ?_), _, x0, ?_⟩
      · show _ = bits .or .u32 v 4278190080
        rw [e]; omega
      · show _ = bits .or .u32 v 4278190080 % 256
        rw [e]; omega
  have HD21 : Hid _ := hD21
  have hl2 : Hid ((putS (putS z1 f v 4) (f + kk) 511 1).length = 256) := by show _ = _; rw [putS_length, d1l]
  have HD1 : Hid (zD.set 1 (putS z1 f v 4) = D1) := hD1.symm
  clear hp p0 p1 p2 p3 hD11 hD21 hq0 hqo hD2 hD1 d1l
  go_enter Try.func6, Try.ntmps6
  go_wp2_with fail
  refine (K.out _).mono ?_
  rintro e w1 ⟨rfl, hw1⟩
  have HB1 : Hid (Below w.heap.size w w1) := hw1
  clear hw1 K
  go_wp2_with fail
  refine (S0.out _).mono ?_
  rintro e w2 ⟨rfl, hrl, hb2⟩
  have HB2 : Hid (Below w.heap.size w w2) := HB1.out.trans (hb2.mono HB1.out.size)
  have N1 : Hid (Calls Try.prog 10 #[.slice (some ⟨w1.heap.size, 0, none⟩) 4 4] w2 fun e w' => NewPost w2 zB zG zD e w') := new_ok _ zB zG _ w2 hrl (fun b h => h) zB_ok zG_le
  clear hb2 hrl S0 HB1
  go_wp2_with fail
  refine Calls.mono N1.out ?_
  rintro e w3 ⟨p, q, rfl, hm3, hb3⟩
  have HM3 : Hid _ := hm3
  have HB3 : Hid (Below w.heap.size w w3) := HB2.out.trans (hb3.mono HB2.out.size)
  have HL : Hid (w.heap.size ≤ w2.heap.size ∧ w2.heap.size ≤ w3.heap.size) := ⟨HB2.out.size, hb3.size⟩
  obtain ⟨lo, hlo⟩ : ∃ lo, lo = w2.heap.size := ⟨_, rfl⟩
  obtain ⟨hi, hhi⟩ : ∃ hi, hi = w3.heap.size := ⟨_, rfl⟩
  rw [← hlo, ← hhi] at HM3
  rw [← hlo] at HL
  clear hm3 hb3 N1 HB2 hlo hhi
  go_wp2_with fail
  refine (store_c HM3.out (536870912 + f) 4 v (by omega) (by omega) hv0 hv1).mono ?_
  rintro e w4 ⟨he, hm4, hmid4⟩
  rw [FD.out, HD1.out] at hm4
  have he' : e = .returned (.int .i64 0) := by rw [he]; exact congrArg _ (congrArg _ F0.out)
  subst he'
  have hs3 := HM3.out.top
  have HM4 : Hid (MemAt w4 p 0 lo hi zB zG D1 q) := hm4
  have HB4 : Hid (Below w.heap.size w w4) := hmid4.low HB3.out HL.out.1 (by have := HM3.out.pin; omega)
  clear hm4 hmid4 HM3 he hf hf4 FD F0 HB3 hs3
  go_wp2_with fail
  go_loopw [10] (fun i wr => mbRel w3 w4 p lo hi q D1 i wr) (fun i _ => 4 - (intOf i).toNat)
  case atStart => exact ⟨0, by decide, rfl, HM4.out, Below.refl _ _⟩
  case round =>
    obtain ⟨j, hj, rfl, hM, hb⟩ := hrel
    have HM : Hid _ := hM
    have HB : Hid _ := hb
    clear hM hb
    by_cases hj4 : j < 4
    · have hx := FL.out j hj4
      have hjr : j = 0 ∨ j = 1 ∨ j = 2 ∨ j = 3 := by omega
      have HX : Hid _ := hx
      clear hx
      rcases hjr with rfl | rfl | rfl | rfl
      · have hx : mayS (regAt zB) zB.length (536870912 + (f : Int)) 1 false = 0 ∧ gotS zB D1 (536870912 + (f : Int)) 1 = v % 256 := by have := HX.out; simpa using this
        have HY : Hid _ := hx
        have HA : Hid (bits .and .u32 v 255 = v % 256) := and255 _ (by omega) (by omega)
        clear hx HX
        go_wp2_with fail
        refine Calls.mono (load_c HM.out _ 1 (by omega) (by omega)) ?_
        rintro e w5 ⟨he, hb5⟩
        rw [HY.out.1, HY.out.2, ← HA.out] at he
        subst he
        have HS : Hid (mbRel w3 w4 p lo hi q D1 (.int .u32 1) w5) := ⟨1, by decide, rfl, HM.out.below hb5, HB.out.trans (hb5.mono HB.out.size)⟩
        clear hb5 HY HA HM HB
        go_wp2
        exact ⟨HS.out, by decide⟩
      · have hx : mayS (regAt zB) zB.length (536870912 + (f : Int) + 1) 1 false = 0 ∧ gotS zB D1 (536870912 + (f : Int) + 1) 1 = (v / 256) % 256 := HX.out
        have HY : Hid _ := hx
        have HA : Hid (bits .and .u32 (v / 256) 255 = (v / 256) % 256) := and255 _ (by omega) (by omega)
        clear hx HX
        go_wp2_with fail
        refine Calls.mono (load_c HM.out _ 1 (by omega) (by omega)) ?_
        rintro e w5 ⟨he, hb5⟩
        rw [HY.out.1, HY.out.2, ← HA.out] at he
        subst he
        have HS : Hid (mbRel w3 w4 p lo hi q D1 (.int .u32 2) w5) := ⟨2, by decide, rfl, HM.out.below hb5, HB.out.trans (hb5.mono HB.out.size)⟩
        clear hb5 HY HA HM HB
        go_wp2
        exact ⟨HS.out, by decide⟩
      · have hx : mayS (regAt zB) zB.length (536870912 + (f : Int) + 2) 1 false = 0 ∧ gotS zB D1 (536870912 + (f : Int) + 2) 1 = (v / 65536) % 256 := HX.out
        have HY : Hid _ := hx
        have HA : Hid (bits .and .u32 (v / 65536) 255 = (v / 65536) % 256) := and255 _ (by omega) (by omega)
        clear hx HX
        go_wp2_with fail
        refine Calls.mono (load_c HM.out _ 1 (by omega) (by omega)) ?_
        rintro e w5 ⟨he, hb5⟩
        rw [HY.out.1, HY.out.2, ← HA.out] at he
        subst he
        have HS : Hid (mbRel w3 w4 p lo hi q D1 (.int .u32 3) w5) := ⟨3, by decide, rfl, HM.out.below hb5, HB.out.trans (hb5.mono HB.out.size)⟩
        clear hb5 HY HA HM HB
        go_wp2
        exact ⟨HS.out, by decide⟩
      · have hx : mayS (regAt zB) zB.length (536870912 + (f : Int) + 3) 1 false = 0 ∧ gotS zB D1 (536870912 + (f : Int) + 3) 1 = (v / 16777216) % 256 := HX.out
        have HY : Hid _ := hx
        have HA : Hid (bits .and .u32 (v / 16777216) 255 = (v / 16777216) % 256) := and255 _ (by omega) (by omega)
        clear hx HX
        go_wp2_with fail
        refine Calls.mono (load_c HM.out _ 1 (by omega) (by omega)) ?_
        rintro e w5 ⟨he, hb5⟩
        rw [HY.out.1, HY.out.2, ← HA.out] at he
        subst he
        have HS : Hid (mbRel w3 w4 p lo hi q D1 (.int .u32 4) w5) := ⟨4, by decide, rfl, HM.out.below hb5, HB.out.trans (hb5.mono HB.out.size)⟩
        clear hb5 HY HA HM HB
        go_wp2
        exact ⟨HS.out, by decide⟩
    · have j4 : j = 4 := by omega
      subst j4
      have HB5 : Hid (Below w.heap.size w wr) := HB4.out.trans (HB.out.mono HB4.out.size)
      clear HB HM4 HB4 FL
      go_wp2_with fail
      refine Calls.mono (load_c HM.out _ 2 (by omega) (by omega)) ?_
      rintro e w6 ⟨he, hb6⟩
      rw [FLo.out] at he
      subst he
      have HM6 : Hid _ := HM.out.below hb6
      have HB6 : Hid (Below w.heap.size w w6) := HB5.out.trans (hb6.mono HB5.out.size)
      clear hb6 HM HB5 FLo
      go_wp2_with fail
      refine Calls.mono (load_c HM6.out _ 2 (by omega) (by omega)) ?_
      rintro e w7 ⟨he, hb7⟩
      rw [FHi.out] at he
      subst he
      have HM7 : Hid _ := HM6.out.below hb7
      have HB7 : Hid (Below w.heap.size w w7) := HB6.out.trans (hb7.mono HB6.out.size)
      clear hb7 HM6 HB6 FHi
      go_wp2_with fail
      refine Calls.mono (store_c HM7.out _ 1 511 (by omega) (by omega) (by decide) (by decide)) ?_
      rintro e w8 ⟨he, hm8, hmid8⟩
      rw [FD2.out] at hm8
      subst he
      have HM8 : Hid (MemAt w8 p 0 lo hi zB zG D2 q) := hm8
      have HB8 : Hid (Below w.heap.size w w8) := hmid8.low HB7.out HL.out.1 (by have h1 := HM7.out.pin; have h2 := HM7.out.top; omega)
      clear hm8 hmid8 HM7 HB7 FD2
      go_wp2_with fail
      refine Calls.mono (load_c HM8.out _ 4 (by omega) (by omega)) ?_
      rintro e w9 ⟨he, hb9⟩
      have HM9 : Hid _ := HM8.out.below hb9
      have HB9 : Hid (Below w.heap.size w w9) := HB8.out.trans (hb9.mono HB8.out.size)
      have hand := and65535 v hv0 hv1
      obtain ⟨d2, hd2⟩ : ∃ d2, d2 = putS (putS z1 f v 4) (f + kk) 511 1 := ⟨_, rfl⟩
      rw [← hd2] at FX HD21 hl2
      have B1 : Hid (∀ wx, MemAt wx p 0 lo hi zB zG D2 q → Calls Try.prog 22 #[.pointer (some ⟨p, 0, none⟩), .int .i64 1] wx fun e w' => ∃ A c, e = .returned (.slice A 256 c) ∧ w'.ownsRow wx.heap.size 5 1 (.slice A 256 c) 256 (cb d2) ∧ Below wx.heap.size wx w') := fun wx hx => by
        have h := bytes_c hx (i := 1) HD21.out (by rw [hl2.out]; decide)
        unfold OwnPost at h
        rw [hl2.out] at h
        exact h
      have hf256 : (f : Int) < 256 := by omega
      clear hb9 HM8 HB8 hd2 HD21
      have hkr : kk = 0 ∨ kk = 1 ∨ kk = 2 ∨ kk = 3 := by omega
      rcases hkr with rfl | rfl | rfl | rfl
      · have HG : Hid (gotS zB D2 (536870912 + f) 4 = bits .or .u32 v 255 ∧ ∃ y, d2[f]? = some y ∧ y = bits .or .u32 v 255 % 256) := FX.out
        have hrange : 0 ≤ bits .or .u32 v 255 ∧ bits .or .u32 v 255 ≤ 4294967295 := by have := or255 v hv0 hv1; omega
        rw [HG.out.1] at he
        subst he
        obtain ⟨hr0, hr1⟩ := hrange
        clear FX
        try simp only [Int.natCast_zero] at hkk
        go_wp2_with fail
        refine (B1.out _ HM9.out).mono ?_
        rintro e wa ⟨Aa, ca, rfl, _, hba⟩
        have HMa : Hid _ := HM9.out.below hba
        have HBa : Hid (Below w.heap.size w wa) := HB9.out.trans (hba.mono HB9.out.size)
        clear hba HM9 HB9
        go_wp2_with fail
        refine (B1.out _ HMa.out).mono ?_
        rintro e wb ⟨Ab, cb', rfl, hob, hbb⟩
        have HBb : Hid (Below w.heap.size w wb) := HBa.out.trans (hbb.mono HBa.out.size)
        obtain ⟨gb, capb, hAb, _, _⟩ := hob.form (by decide)
        simp only [Value.slice.injEq, true_and] at hAb
        obtain ⟨rfl, rfl⟩ := hAb
        obtain ⟨y, hy, hyx⟩ := HG.out.2
        have hcell : wb.cell? ⟨gb, f, none⟩ = some (.int .u8 (bits .or .u32 v 255 % 256)) := by
          rw [hob.cellAt f (by omega), cb_at, hy, ← hyx]
          rfl
        clear hbb hob HMa HBa hy hyx HG B1
        go_wp2
        go_ret
        exact ⟨rfl, HBb.out⟩
      · have HG : Hid (gotS zB D2 (536870912 + f) 4 = bits .or .u32 v 65280 ∧ ∃ y, d2[f]? = some y ∧ y = bits .or .u32 v 65280 % 256) := FX.out
        have hrange : 0 ≤ bits .or .u32 v 65280 ∧ bits .or .u32 v 65280 ≤ 4294967295 := by have := or255 v hv0 hv1; omega
        rw [HG.out.1] at he
        subst he
        obtain ⟨hr0, hr1⟩ := hrange
        clear FX
        try simp only [Int.natCast_zero] at hkk
        go_wp2_with fail
        refine (B1.out _ HM9.out).mono ?_
        rintro e wa ⟨Aa, ca, rfl, _, hba⟩
        have HMa : Hid _ := HM9.out.below hba
        have HBa : Hid (Below w.heap.size w wa) := HB9.out.trans (hba.mono HB9.out.size)
        clear hba HM9 HB9
        go_wp2_with fail
        refine (B1.out _ HMa.out).mono ?_
        rintro e wb ⟨Ab, cb', rfl, hob, hbb⟩
        have HBb : Hid (Below w.heap.size w wb) := HBa.out.trans (hbb.mono HBa.out.size)
        obtain ⟨gb, capb, hAb, _, _⟩ := hob.form (by decide)
        simp only [Value.slice.injEq, true_and] at hAb
        obtain ⟨rfl, rfl⟩ := hAb
        obtain ⟨y, hy, hyx⟩ := HG.out.2
        have hcell : wb.cell? ⟨gb, f, none⟩ = some (.int .u8 (bits .or .u32 v 65280 % 256)) := by
          rw [hob.cellAt f (by omega), cb_at, hy, ← hyx]
          rfl
        clear hbb hob HMa HBa hy hyx HG B1
        go_wp2
        go_ret
        exact ⟨rfl, HBb.out⟩
      · have HG : Hid (gotS zB D2 (536870912 + f) 4 = bits .or .u32 v 16711680 ∧ ∃ y, d2[f]? = some y ∧ y = bits .or .u32 v 16711680 % 256) := FX.out
        have hrange : 0 ≤ bits .or .u32 v 16711680 ∧ bits .or .u32 v 16711680 ≤ 4294967295 := by have := or255 v hv0 hv1; omega
        rw [HG.out.1] at he
        subst he
        obtain ⟨hr0, hr1⟩ := hrange
        clear FX
        try simp only [Int.natCast_zero] at hkk
        go_wp2_with fail
        refine (B1.out _ HM9.out).mono ?_
        rintro e wa ⟨Aa, ca, rfl, _, hba⟩
        have HMa : Hid _ := HM9.out.below hba
        have HBa : Hid (Below w.heap.size w wa) := HB9.out.trans (hba.mono HB9.out.size)
        clear hba HM9 HB9
        go_wp2_with fail
        refine (B1.out _ HMa.out).mono ?_
        rintro e wb ⟨Ab, cb', rfl, hob, hbb⟩
        have HBb : Hid (Below w.heap.size w wb) := HBa.out.trans (hbb.mono HBa.out.size)
        obtain ⟨gb, capb, hAb, _, _⟩ := hob.form (by decide)
        simp only [Value.slice.injEq, true_and] at hAb
        obtain ⟨rfl, rfl⟩ := hAb
        obtain ⟨y, hy, hyx⟩ := HG.out.2
        have hcell : wb.cell? ⟨gb, f, none⟩ = some (.int .u8 (bits .or .u32 v 16711680 % 256)) := by
          rw [hob.cellAt f (by omega), cb_at, hy, ← hyx]
          rfl
        clear hbb hob HMa HBa hy hyx HG B1
        go_wp2
        go_ret
        exact ⟨rfl, HBb.out⟩
      · have HG : Hid (gotS zB D2 (536870912 + f) 4 = bits .or .u32 v 4278190080 ∧ ∃ y, d2[f]? = some y ∧ y = bits .or .u32 v 4278190080 % 256) := FX.out
        have hrange : 0 ≤ bits .or .u32 v 4278190080 ∧ bits .or .u32 v 4278190080 ≤ 4294967295 := by have := or255 v hv0 hv1; omega
        rw [HG.out.1] at he
        subst he
        obtain ⟨hr0, hr1⟩ := hrange
        clear FX
        try simp only [Int.natCast_zero] at hkk
        go_wp2_with fail
        refine (B1.out _ HM9.out).mono ?_
        rintro e wa ⟨Aa, ca, rfl, _, hba⟩
        have HMa : Hid _ := HM9.out.below hba
        have HBa : Hid (Below w.heap.size w wa) := HB9.out.trans (hba.mono HB9.out.size)
        clear hba HM9 HB9
        go_wp2_with fail
        refine (B1.out _ HMa.out).mono ?_
        rintro e wb ⟨Ab, cb', rfl, hob, hbb⟩
        have HBb : Hid (Below w.heap.size w wb) := HBa.out.trans (hbb.mono HBa.out.size)
        obtain ⟨gb, capb, hAb, _, _⟩ := hob.form (by decide)
        simp only [Value.slice.injEq, true_and] at hAb
        obtain ⟨rfl, rfl⟩ := hAb
        obtain ⟨y, hy, hyx⟩ := HG.out.2
        have hcell : wb.cell? ⟨gb, f, none⟩ = some (.int .u8 (bits .or .u32 v 4278190080 % 256)) := by
          rw [hob.cellAt f (by omega), cb_at, hy, ← hyx]
          rfl
        clear hbb hob HMa HBa hy hyx HG B1
        go_wp2
        go_ret
        exact ⟨rfl, HBb.out⟩
end Go.Proofs.Ytbpjhaaenoaclaa
