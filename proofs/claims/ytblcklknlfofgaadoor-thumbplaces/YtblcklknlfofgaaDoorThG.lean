/- ThumbPlaces, reckoned out. -/
import Derived.Test.YtblcklknlfofgaaDoorThS
namespace Go.Proofs.YtblcklknlfofgaaDoor
open Go.RowKit
set_option linter.unusedVariables false
set_option linter.unusedSimpArgs false

def encNN (i : NV) (b : Bool) : List Nat → Nat × Bool
  | [] => (0, false)
  | h :: t => bif NV.beq (decN h b) i then (h, true) else encNN i b t
theorem encNN_eq (i : NV) (b : Bool) (hs : List Nat) : encN i.iv b hs = encNN i b hs := by
  induction hs with
  | nil => rfl
  | cons h t ih =>
    simp only [encN, encNN, ivEq_nv, ih]
    cases NV.beq (decN h b) i <;> rfl
def bNV (c imm : Nat) : NV := ⟨54, false, c, 0, 0, 0, imm, false, 0, false, false⟩
def brNN (c imm : Nat) : List Nat := [53248 + c % 16 * 256 + imm / 2 % 256, 57344 + imm / 2 % 2048]
theorem brN_eq (c imm : Nat) : brN c imm = brNN c imm := by
  have h1 : putN (c : Int) 8 4 = c % 16 * 256 := by unfold putN; simp; omega
  have h2 : putN ((imm : Int) / 2) 0 8 = imm / 2 % 256 := by unfold putN; simp; omega
  have h3 : putN ((imm : Int) / 2) 0 11 = imm / 2 % 2048 := by unfold putN; simp; omega
  unfold brN brNN
  rw [h1, h2, h3]
def immK (m k : Nat) : Nat := bif Nat.ble m k then 2 * (k - m) else 4294967296 - 2 * (m - k)
def pEq (x y : Nat × Bool) : Bool := Nat.beq x.1 y.1 && bEq x.2 y.2
theorem pEq_eq {x y : Nat × Bool} (h : pEq x y = true) : x = y := by
  obtain ⟨a, b⟩ := x
  obtain ⟨c, d⟩ := y
  simp only [pEq, Bool.and_eq_true] at h
  rw [Nat.eq_of_beq_eq_true h.1, bEq_eq h.2]
def nearN (c k : Nat) : Nat × Bool := bif Nat.ble 127 k && Nat.blt k 383 then (53248 + c * 256 + (k + 1) % 256, true) else (0, false)
def farK (k : Nat) : Nat × Bool := bif Nat.ble 1023 k && Nat.blt k 3071 then (57344 + (k + 1) % 2048, true) else (0, false)
def near_all : Bool := (List.range 14).all fun c => (List.range 511).all fun k => pEq (encNN (bNV c (immK 255 k)) false (brNN c (immK 255 k))) (nearN c k)
def far_all : Bool := (List.range 64).all fun a => (List.range 64).all fun b => pEq (encNN (bNV 14 (immK 2047 (a * 64 + b))) false (brNN 14 (immK 2047 (a * 64 + b)))) (farK (a * 64 + b)) || Nat.ble 4095 (a * 64 + b)
set_option maxRecDepth 100000 in
theorem near_ok : near_all = true := by kernel_rfl
set_option maxRecDepth 100000 in
theorem far_ok : far_all = true := by kernel_rfl
theorem near_at (c k : Nat) (hc : c < 14) (hk : k < 511) : encN (bNV c (immK 255 k)).iv false (brN c (immK 255 k)) = nearN c k := by
  have h := near_ok
  simp only [near_all, List.all_eq_true, List.mem_range] at h
  rw [encNN_eq, brN_eq]
  exact pEq_eq (h c hc k hk)
theorem far_at (k : Nat) (hk : k < 4095) : encN (bNV 14 (immK 2047 k)).iv false (brN (14 : Nat) (immK 2047 k)) = farK k := by
  have h := far_ok
  simp only [far_all, List.all_eq_true, List.mem_range] at h
  rw [encNN_eq, brN_eq]
  have := h (k / 64) (by omega) (k % 64) (by omega)
  rw [show k / 64 * 64 + k % 64 = k by omega] at this
  simp only [Bool.or_eq_true] at this
  rcases this with g | g
  · exact pEq_eq g
  · have := Nat.le_of_ble_eq_true g
    omega
end Go.Proofs.YtblcklknlfofgaaDoor
