/- Plain words: what a store in the memory at 0x20000000 does; a word's bytes. -/
import Derived.Test.YteflboidbogegaaMem9
namespace Go.Proofs.Yteflboidbogegaa
open Go.ChangeShapes Go.WideShapes Go.ChangeAt Go.RowKit
set_option linter.unusedVariables false
set_option linter.unusedSimpArgs false

theorem seat_ram {l1 l2 l3 l4 : Nat} (hc : checkS (regAt (seatBs l1 l2 l3 l4)) (seatBs l1 l2 l3 l4).length = 0) {f : Nat} {s : Int} (hf : (f : Int) + widthS s ≤ 256) :
    findS (regAt (seatBs l1 l2 l3 l4)) (seatBs l1 l2 l3 l4).length (536870912 + f) s = some 1 := by
  have hw := widthS_cases s
  unfold findS
  rw [if_pos hc]
  refine firstS_hit _ _ _ (k := 1) (by simp [seatBs]) ?_ ?_
  · have : ¬ (536870912 + (f : Int) + widthS s ≤ 32768 + 1024) := by omega
    simp only [firstS, hitS, regAt, seatBs, List.getD]
    simp
    omega
  · simp only [hitS, regAt, seatBs, List.getD]
    simp
    omega
theorem seat_ram_may {l1 l2 l3 l4 : Nat} (hc : checkS (regAt (seatBs l1 l2 l3 l4)) (seatBs l1 l2 l3 l4).length = 0) {f : Nat} {s : Int} (hf : (f : Int) + widthS s ≤ 256) (ha : (f : Int) % widthS s = 0) (wr : Bool) :
    mayS (regAt (seatBs l1 l2 l3 l4)) (seatBs l1 l2 l3 l4).length (536870912 + f) s wr = 0 := by
  have h2 : (536870912 + (f : Int)) % widthS s = 0 := by rcases widthS_cases s with h | h | h <;> rw [h] at ha ⊢ <;> omega
  unfold mayS
  rw [seat_ram hc hf]
  simp only [hc, h2]
  cases wr <;> simp [regS, regAt, seatBs]
theorem gotS_ram {l1 l2 l3 l4 : Nat} (hc : checkS (regAt (seatBs l1 l2 l3 l4)) (seatBs l1 l2 l3 l4).length = 0) {D : List (List Int)} {d : List Int} (hd : D[1]? = some d) {f : Nat} {s : Int} (hf : (f : Int) + widthS s ≤ 256) (ha : (f : Int) % widthS s = 0) :
    gotS (seatBs l1 l2 l3 l4) D (536870912 + f) s = numS ((d.drop f).take (widthS s).toNat) := by
  unfold gotS loadS
  rw [seat_ram_may hc hf ha, if_pos rfl, seat_ram hc hf]
  have e1 : D.getD 1 [] = d := by simp [List.getD, hd]
  have e2 : (regAt (seatBs l1 l2 l3 l4) 1).fr = 536870912 := by simp [regAt, seatBs]
  simp only [e1, e2]
  rw [show (536870912 + (f : Int) - 536870912).toNat = f by omega]
theorem storeS_ram {l1 l2 l3 l4 : Nat} (hc : checkS (regAt (seatBs l1 l2 l3 l4)) (seatBs l1 l2 l3 l4).length = 0) {D : List (List Int)} {d : List Int} (hd : D[1]? = some d) {f : Nat} {s : Int} (hf : (f : Int) + widthS s ≤ 256) (ha : (f : Int) % widthS s = 0) (v : Int) :
    storeS (seatBs l1 l2 l3 l4) D (536870912 + f) s v = D.set 1 (putS d f v (widthS s).toNat) := by
  unfold storeS
  rw [seat_ram_may hc hf ha, if_pos rfl, seat_ram hc hf]
  have e1 : D.getD 1 [] = d := by simp [List.getD, hd]
  have e2 : (regAt (seatBs l1 l2 l3 l4) 1).fr = 536870912 := by simp [regAt, seatBs]
  simp only [e1, e2]
  rw [show (536870912 + (f : Int) - 536870912).toNat = f by omega]

theorem putS_off (d : List Int) (f : Nat) (v : Int) (k j : Nat) (h : j < f ∨ f + k ≤ j) : (putS d f v k)[j]? = d[j]? := by
  induction k with
  | zero => rfl
  | succ k ih =>
    rw [putS, List.getElem?_set_ne (by omega)]
    exact ih (by omega)
theorem putS_at (d : List Int) (f : Nat) (v : Int) (k j : Nat) (hj : j < k) (hf : f + j < d.length) : (putS d f v k)[f + j]? = some (v / 256 ^ j % 256) := by
  induction k with
  | zero => omega
  | succ k ih =>
    rw [putS]
    by_cases h : j = k
    · subst h
      rw [List.getElem?_set_self (by rw [putS_length]; exact hf)]
    · rw [List.getElem?_set_ne (by omega)]
      exact ih (by omega)

theorem num1 {d : List Int} {f : Nat} {x : Int} (h : d[f]? = some x) : numS ((d.drop f).take 1) = x := by
  have e : (d.drop f).take 1 = [x] := by
    obtain ⟨hl, rfl⟩ := List.getElem?_eq_some_iff.1 h
    rw [List.drop_eq_getElem_cons hl]
    rfl
  rw [e]
  simp [numS]
theorem take_next {d : List Int} {f n : Nat} {x : Int} (h : d[f]? = some x) : (d.drop f).take (n + 1) = x :: (d.drop (f + 1)).take n := by
  obtain ⟨hl, rfl⟩ := List.getElem?_eq_some_iff.1 h
  rw [List.drop_eq_getElem_cons hl, List.take_succ_cons]
theorem num2 {d : List Int} {f : Nat} {x y : Int} (h0 : d[f]? = some x) (h1 : d[f + 1]? = some y) : numS ((d.drop f).take 2) = x + 256 * y := by
  rw [take_next h0]
  show x + 256 * numS _ = _
  rw [num1 h1]
theorem num4 {d : List Int} {f : Nat} {x y z t : Int} (h0 : d[f]? = some x) (h1 : d[f + 1]? = some y) (h2 : d[f + 2]? = some z) (h3 : d[f + 3]? = some t) : numS ((d.drop f).take 4) = x + 256 * y + 65536 * z + 16777216 * t := by
  rw [take_next h0]
  show x + 256 * numS _ = _
  rw [take_next h1]
  show x + 256 * (y + 256 * numS _) = _
  rw [num2 h2 h3]
  omega

theorem nat_or255 (v i : Nat) : v ||| (255 <<< i) = (v / 2 ^ (i + 8)) * 2 ^ (i + 8) + 255 * 2 ^ i + v % 2 ^ i := by
  have hp : 0 < 2 ^ i := Nat.pos_of_ne_zero (by simp)
  have h1 : v = (v / 2 ^ i) <<< i ||| v % 2 ^ i := by
    rw [← Nat.shiftLeft_add_eq_or_of_lt (Nat.mod_lt _ hp), Nat.shiftLeft_eq, Nat.mul_comm]
    exact (Nat.div_add_mod v (2 ^ i)).symm
  have h2 : v / 2 ^ i = (v / 2 ^ i / 256) <<< 8 ||| v / 2 ^ i % 256 := by
    rw [← Nat.shiftLeft_add_eq_or_of_lt (Nat.mod_lt _ (by decide)), Nat.shiftLeft_eq, Nat.mul_comm]
    exact (Nat.div_add_mod _ 256).symm
  have h3 : ∀ b, b < 256 → b ||| 255 = 255 := by decide +kernel
  have h4 : v ||| (255 <<< i) = ((v / 2 ^ i / 256) <<< 8 ||| 255) <<< i ||| v % 2 ^ i := by
    conv => lhs; rw [h1]
    rw [Nat.or_assoc, Nat.or_comm (v % 2 ^ i), ← Nat.or_assoc, ← Nat.shiftLeft_or_distrib]
    conv => lhs; rw [h2]
    rw [Nat.or_assoc, h3 _ (Nat.mod_lt _ (by decide))]
  rw [h4, ← Nat.shiftLeft_add_eq_or_of_lt (Nat.mod_lt _ hp), ← Nat.shiftLeft_add_eq_or_of_lt (by decide), Nat.shiftLeft_eq, Nat.shiftLeft_eq, Nat.add_mul, Nat.div_div_eq_div_mul, Nat.pow_add]
  rw [Nat.mul_comm (2 ^ i) (2 ^ 8), Nat.mul_assoc, Nat.mul_comm (2 ^ 8) (2 ^ i)]

theorem or255 (v : Int) (v0 : 0 ≤ v) (v1 : v ≤ 4294967295) : bits .or .u32 v 255 = v / 256 * 256 + 255 ∧ bits .or .u32 v 65280 = v / 65536 * 65536 + 65280 + v % 256 ∧
    bits .or .u32 v 16711680 = v / 16777216 * 16777216 + 16711680 + v % 65536 ∧ bits .or .u32 v 4278190080 = 4278190080 + v % 16777216 := by
  obtain ⟨V, rfl⟩ := Int.eq_ofNat_of_zero_le v0
  have key : ∀ i : Nat, ∀ m : Nat, 255 <<< i = m → m < 4294967296 → bits .or .u32 (V : Int) (m : Int) = (((V / 2 ^ (i + 8)) * 2 ^ (i + 8) + 255 * 2 ^ i + V % 2 ^ i : Nat) : Int) := fun i m hm hlt => by
    rw [u32_or _ _ v0 (by omega) (by omega) (by omega)]
    simp only [Int.toNat_natCast]
    rw [← hm, nat_or255]
  have k0 := key 0 255 rfl (by decide)
  have k1 := key 8 65280 rfl (by decide)
  have k2 := key 16 16711680 rfl (by decide)
  have k3 := key 24 4278190080 rfl (by decide)
  simp at k0 k1 k2 k3
  refine ⟨?_, ?_, ?_, ?_⟩
  · rw [k0]; try omega
  · rw [k1]; try omega
  · rw [k2]; try omega
  · rw [k3]; try omega
theorem and255 (v : Int) (v0 : 0 ≤ v) (v1 : v ≤ 4294967295) : bits .and .u32 v 255 = v % 256 := by
  rw [u32_and _ _ v0 (by omega) (by omega) (by omega)]
  have := Nat.and_two_pow_sub_one_eq_mod v.toNat 8
  rw [show (255 : Int).toNat = 2 ^ 8 - 1 from rfl, this]
  omega
theorem and65535 (v : Int) (v0 : 0 ≤ v) (v1 : v ≤ 4294967295) : bits .and .u32 v 65535 = v % 65536 := by
  rw [u32_and _ _ v0 (by omega) (by omega) (by omega)]
  have := Nat.and_two_pow_sub_one_eq_mod v.toNat 16
  rw [show (65535 : Int).toNat = 2 ^ 16 - 1 from rfl, this]
  omega
end Go.Proofs.Yteflboidbogegaa
