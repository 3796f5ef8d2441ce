/- Stage 9: branches go and come back: plain numbers. -/
import Derived.Test.YtigmekboikgoaaaWd8
namespace Go.Proofs.Ytigmekboikgoaaa
open Go.ChangeShapes Go.WideShapes Go.ChangeAt Go.RowKit
set_option linter.unusedVariables false
set_option linter.unusedSimpArgs false

theorem lk_back (a s : Nat) (ha : a < 2) (hs : s < 2) : lk (lk a s) s = a := by
  rcases (show a = 0 ∨ a = 1 by omega) with rfl | rfl <;> rcases (show s = 0 ∨ s = 1 by omega) with rfl | rfl <;> rfl
theorem far_fields (row v : Nat) (hr : row = 4026568704 ∨ row = 4026585088) : fd (row + farB v) 26 1 = fd v 24 1 ∧ fd (row + farB v) 13 1 = lk (fd v 23 1) (fd v 24 1) ∧ fd (row + farB v) 11 1 = lk (fd v 22 1) (fd v 24 1) ∧ fd (row + farB v) 16 10 = fd v 12 10 ∧ fd (row + farB v) 0 11 = fd v 1 11
    ∧ fd (row + farB v) 27 5 = 30 ∧ fd (row + farB v) 15 1 = 1 ∧ fd (row + farB v) 12 1 = 1 ∧ (row = 4026568704 → fd (row + farB v) 14 1 = 0) ∧ (row = 4026585088 → fd (row + farB v) 14 1 = 1) := by
  have f24 : fd v 24 1 < 2 := fd_lt v 24 1
  have f12 : fd v 12 10 < 1024 := fd_lt v 12 10
  have f1 : fd v 1 11 < 2048 := fd_lt v 1 11
  have l1 : lk (fd v 23 1) (fd v 24 1) < 2 := Nat.mod_lt _ (by decide)
  have l2 : lk (fd v 22 1) (fd v 24 1) < 2 := Nat.mod_lt _ (by decide)
  have e : farB v = fd v 24 1 * 67108864 + fd v 12 10 * 65536 + (lk (fd v 23 1) (fd v 24 1) * 8192 + lk (fd v 22 1) (fd v 24 1) * 2048) + fd v 1 11 := rfl
  generalize farB v = FB at *
  generalize lk (fd v 23 1) (fd v 24 1) = a1 at *
  generalize lk (fd v 22 1) (fd v 24 1) = a2 at *
  generalize fd v 24 1 = s at *
  generalize fd v 12 10 = g at *
  generalize fd v 1 11 = k at *
  unfold fd
  simp only [Nat.reducePow]
  rcases hr with rfl | rfl
  · refine ⟨?_, ?_, ?_, ?_, ?_, ?_, ?_, ?_, ?_, ?_⟩ <;> omega
  · refine ⟨?_, ?_, ?_, ?_, ?_, ?_, ?_, ?_, ?_, ?_⟩ <;> omega
theorem far_back (row v : Nat) (hr : row = 4026568704 ∨ row = 4026585088) : farX (row + farB v) = v % 33554432 / 2 * 2 := by
  obtain ⟨h1, h2, h3, h4, h5, _⟩ := far_fields row v hr
  have f24 : fd v 24 1 < 2 := fd_lt v 24 1
  have f23 : fd v 23 1 < 2 := fd_lt v 23 1
  have f22 : fd v 22 1 < 2 := fd_lt v 22 1
  have e : farX (row + farB v) = fd (row + farB v) 26 1 * 16777216 + lk (fd (row + farB v) 13 1) (fd (row + farB v) 26 1) * 8388608 + lk (fd (row + farB v) 11 1) (fd (row + farB v) 26 1) * 4194304 + fd (row + farB v) 16 10 * 4096 + fd (row + farB v) 0 11 * 2 := rfl
  rw [h1, h2, h3, h4, h5, lk_back _ _ f23 f24, lk_back _ _ f22 f24] at e
  rw [e]
  unfold fd
  simp only [Nat.reducePow]
  omega
theorem sign25 (v : Nat) (h2 : v % 2 = 0) (h : v < 16777216 ∨ (4278190080 ≤ v ∧ v < 4294967296)) : signS ((v % 33554432 / 2 * 2 : Nat) : Int) 25 = (v : Int) := by
  unfold signS
  simp only [Int.reducePow, Nat.reduceSub]
  split <;> omega
theorem sign25_even (v : Nat) (hv : v < 4294967296) : signS ((v % 33554432 / 2 * 2 : Nat) : Int) 25 % 2 = 0 := by
  unfold signS
  simp only [Int.reducePow, Nat.reduceSub]
  split <;> omega
theorem cond_fields (c v : Nat) (hc : c < 14) : fd (condW c v) 26 1 = fd v 20 1 ∧ fd (condW c v) 11 1 = fd v 19 1 ∧ fd (condW c v) 13 1 = fd v 18 1 ∧ fd (condW c v) 16 6 = fd v 12 6 ∧ fd (condW c v) 0 11 = fd v 1 11
    ∧ fd (condW c v) 27 5 = 30 ∧ fd (condW c v) 15 1 = 1 ∧ fd (condW c v) 12 1 = 0 ∧ fd (condW c v) 14 1 = 0 ∧ fd (condW c v) 22 4 = c ∧ condW c v < 4294967296 := by
  have f20 : fd v 20 1 < 2 := fd_lt v 20 1
  have f19 : fd v 19 1 < 2 := fd_lt v 19 1
  have f18 : fd v 18 1 < 2 := fd_lt v 18 1
  have f12 : fd v 12 6 < 64 := fd_lt v 12 6
  have f1 : fd v 1 11 < 2048 := fd_lt v 1 11
  have e : condW c v = 4026531840 + fd v 20 1 * 67108864 + c * 4194304 + fd v 12 6 * 65536 + 32768 + fd v 18 1 * 8192 + fd v 19 1 * 2048 + fd v 1 11 := rfl
  generalize condW c v = FB at *
  generalize fd v 20 1 = s at *
  generalize fd v 19 1 = d at *
  generalize fd v 18 1 = t at *
  generalize fd v 12 6 = g at *
  generalize fd v 1 11 = k at *
  unfold fd
  simp only [Nat.reducePow]
  refine ⟨?_, ?_, ?_, ?_, ?_, ?_, ?_, ?_, ?_, ?_, ?_⟩ <;> omega
theorem cond_back (c v : Nat) (hc : c < 14) : condX (condW c v) = v % 2097152 / 2 * 2 := by
  obtain ⟨h1, h2, h3, h4, h5, _⟩ := cond_fields c v hc
  have e : condX (condW c v) = fd (condW c v) 26 1 * 1048576 + fd (condW c v) 11 1 * 524288 + fd (condW c v) 13 1 * 262144 + fd (condW c v) 16 6 * 4096 + fd (condW c v) 0 11 * 2 := rfl
  rw [h1, h2, h3, h4, h5] at e
  rw [e]
  unfold fd
  simp only [Nat.reducePow]
  omega
theorem sign21 (v : Nat) (h2 : v % 2 = 0) (h : v < 1048576 ∨ (4293918720 ≤ v ∧ v < 4294967296)) : signS ((v % 2097152 / 2 * 2 : Nat) : Int) 21 = (v : Int) := by
  unfold signS
  simp only [Int.reducePow, Nat.reduceSub]
  split <;> omega
theorem sign21_far : signS ((1048576 % 2097152 / 2 * 2 : Nat) : Int) 21 = 4293918720 := by decide
def farL (op v : Nat) : IV := brI op 14 (signS ((v % 33554432 / 2 * 2 : Nat) : Int) 25)
theorem far_B (v : Nat) : branchI (4026568704 + farB v) = farL 54 v := by
  obtain ⟨_, _, _, _, _, _, _, h12, h14, _⟩ := far_fields 4026568704 v (.inl rfl)
  rw [brI2 _ (h14 rfl) h12, far_back 4026568704 v (.inl rfl)]
  rfl
theorem far_L (v : Nat) : branchI (4026585088 + farB v) = farL 55 v := by
  obtain ⟨_, _, _, _, _, _, _, h12, _, h14⟩ := far_fields 4026585088 v (.inr rfl)
  rw [brI3 _ (h14 rfl) h12, far_back 4026585088 v (.inr rfl)]
  rfl
theorem cond_J (c v : Nat) (hc : c < 14) : branchI (condW c v) = brI 54 (c : Nat) (signS ((v % 2097152 / 2 * 2 : Nat) : Int) 21) := by
  obtain ⟨_, _, _, _, _, _, _, h12, h14, h22, _⟩ := cond_fields c v hc
  rw [brI0 _ h14 h12]
  unfold condI
  rw [h22, cond_back c v hc, nble, show decide (14 ≤ c) = false by simp; omega]
  exact cond_false _ _
end Go.Proofs.Ytigmekboikgoaaa
