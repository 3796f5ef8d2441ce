/- WordBack returns true for every two words and every count: what is turned twice is as it was, a sum is taken back, a number that was told is told again. -/
import Derived.Test.YtoidmnhghklicaaBack1
import Derived.Test.YtoidmnhghklicaaBack2
import Derived.Test.YtoidmnhghklicaaBack3
import Derived.Test.YtoidmnhghklicaaBack4
import Derived.Test.YtoidmnhghklicaaKnown
import Derived.Test.YtoidmnhghklicaaTwelve
namespace Go.Proofs.Ytoidmnhghklicaa
open Go.ChangeShapes Go.WideShapes Go.ChangeAt Go.RowKit
set_option linter.unusedVariables false
set_option linter.unusedSimpArgs false


/-! ### plain -/
theorem not_eq (b : Int) (b0 : 0 ≤ b) (b1 : b < 4294967296) : bits .xor .u32 IntKind.u32.max b = 4294967295 - b := by
  rw [show IntKind.u32.max = 4294967295 by decide]
  obtain ⟨B, rfl⟩ := bv_of b b0 b1
  have h := bv_xor (BitVec.allOnes 32) B
  rw [show (((BitVec.allOnes 32).toNat : Nat) : Int) = 4294967295 by decide] at h
  rw [h, BitVec.allOnes_xor, BitVec.toNat_not]
  have := B.isLt
  omega
theorem ror_back (a : Int) (k : Nat) (c : Bool) (a0 : 0 ≤ a) (a1 : a < 4294967296) (k0 : 1 ≤ k) (k1 : k ≤ 31) :
    (iterS 4 (32 - k) ((iterS 4 k (a, c)).1, false)).1 = a := by
  have b := iterS_bounds 4 k (a, c) a0 a1
  obtain ⟨j, hj⟩ : ∃ j, 32 - k = j + 1 := ⟨31 - k, by omega⟩
  have h1 := ror_iter (iterS 4 k (a, c)).1 false b.1 b.2 j
  have h2 := ror_iter (iterS 4 k (a, c)).1 (iterS 4 k (a, c)).2 b.1 b.2 j
  rw [← hj] at h1 h2
  have h3 : (iterS 4 (32 - k) (iterS 4 k (a, c))).1 = a := by
    rw [iterS_add, show k + (32 - k) = 31 + 1 by omega, ror_iter a c a0 a1 31]
    simp [rorS]
  rw [h1]
  have h4 : (iterS 4 (32 - k) (iterS 4 k (a, c))) = iterS 4 (32 - k) ((iterS 4 k (a, c)).1, (iterS 4 k (a, c)).2) := rfl
  rw [h4, h2] at h3
  exact h3

theorem back_walk (a b n : Int) (a0 : 0 ≤ a) (a1 : a < 4294967296) (b0 : 0 ≤ b) (b1 : b < 4294967296) (n0 : 0 ≤ n) (n1 : n < 256) (w : World) :
    Calls Try.prog 7 #[.int .u32 a, .int .u32 b, .int .u8 n] w fun r w' => r = .returned (.bool true) ∧ ∃ m, w' = w.drewN m := by
  have hnb := not_eq b b0 b1
  have sb := addS_bounds a b false
  have A1 := fun w => addCarry_c a b false a0 a1 b0 b1 w
  have A2 := fun w => addCarry_c (addS a b false) (4294967295 - b) true sb.1 sb.2 (by omega) (by omega) w
  have A3 := fun w => addCarry_c a (4294967295 - b) true a0 a1 (by omega) (by omega) w
  have e1 : addS (addS a b false) (4294967295 - b) true = a := by simp only [addS, carryN, if_true, if_false, Bool.false_eq_true]; omega
  have e2 : outS (addS a b false) (4294967295 - b) true = decide (b ≤ addS a b false) := by
    rw [Bool.eq_iff_iff]
    simp only [outS, carryN, if_true, beq_iff_eq, decide_eq_true_eq]
    omega
  have e3 : outS a (4294967295 - b) true = decide (b ≤ a) := by
    rw [Bool.eq_iff_iff]
    simp only [outS, carryN, if_true, beq_iff_eq, decide_eq_true_eq]
    omega
  rw [e1, e2] at A2
  rw [e3] at A3
  have k0 : 1 ≤ (n % 31 + 1).toNat := by omega
  have xb := iterS_bounds 4 (n % 31 + 1).toNat (a, false) a0 a1
  have S1 := fun w => shift_c a 4 (n % 31 + 1) false a0 a1 (by omega) (by omega) w
  have S2 := fun w => shift_c (iterS 4 (n % 31 + 1).toNat (a, false)).1 4 (32 - (n % 31 + 1)) false xb.1 xb.2 (by omega) (by omega) w
  rw [shiftS_of a 4 _ false (by decide) (by decide), countS_mid _ (by omega) (by omega)] at S1
  rw [shiftS_of _ 4 _ false (by decide) (by decide), countS_mid _ (by omega) (by omega), show (32 - (n % 31 + 1)).toNat = 32 - (n % 31 + 1).toNat by omega] at S2
  have e4 := ror_back a (n % 31 + 1).toNat false a0 a1 k0 (by omega)
  rw [e4] at S2
  have M1 := fun w => mul64_c a b false a0 a1 b0 b1 w
  have M2 := fun w => mul64_c b a false b0 b1 a0 a1 w
  have e5 : mulS b a false = mulS a b false := by simp only [mulS, Bool.false_eq_true, if_false]; rw [Int.mul_comm]
  rw [e5] at M2
  have hlo : a * b % 4294967296 = mulS a b false % 4294967296 := by
    simp only [mulS, Bool.false_eq_true, if_false]
    omega
  have Q1 := fun w => divu_c a b a0 a1 b0 b1 w
  have C1 := fun w => compress_c a a0 a1 w
  have R1 := fun w => rev_c a a0 a1 w
  have rb := ofB_bounds revB a
  have tb := ofB_bounds rbitB a
  have hb := ofB_bounds rev16B a
  have R2 := fun w => rev_c (ofB revB a) rb.1 rb.2 w
  have B1 := fun w => rbit_c a a0 a1 w
  have B2 := fun w => rbit_c (ofB rbitB a) tb.1 tb.2 w
  have H1 := fun w => rev16_c a a0 a1 w
  have H2 := fun w => rev16_c (ofB rev16B a) hb.1 hb.2 w
  have X1 := fun w => rev_c (ofB rbitB a) tb.1 tb.2 w
  have X2 := fun w => rbit_c (ofB revB a) rb.1 rb.2 w
  rw [show ofB revB (ofB revB a) = a by rw [ofB_ofB]; exact ofB_id _ revB_revB a a0 a1] at R2
  rw [show ofB rbitB (ofB rbitB a) = a by rw [ofB_ofB]; exact ofB_id _ rbitB_rbitB a a0 a1] at B2
  rw [show ofB rev16B (ofB rev16B a) = a by rw [ofB_ofB]; exact ofB_id _ rev16B_rev16B a a0 a1] at H2
  rw [show ofB rbitB (ofB revB a) = ofB revB (ofB rbitB a) by rw [ofB_ofB, ofB_ofB]; exact congrArg (fun f => ofB f a) (funext fun b => (revB_rbitB b).symm)] at X2
  have cb : 0 ≤ (compressS a).1 ∧ (compressS a).1 < 4294967296 := by
    by_cases h : (compressS a).2 = true
    · have := compress_back a false a0 a1 h
      omega
    · have hh : (compressS a).2 = true ∨ (compressS a).1 = 0 := by
        unfold compressS turnedS
        split
        · left; rfl
        split
        · left; rfl
        split
        · left; rfl
        split
        · left; rfl
        split
        · right; rfl
        · left; rfl
      rcases hh with hh | hh
      · exact absurd hh h
      · omega
  have E1 := fun w => expand_c (compressS a).1 false cb.1 cb.2 w
  by_cases hz : b = 0
  · have bz : (b == 0) = true := by simpa using hz
    by_cases ok : (compressS a).2 = true
    · have cbk := compress_back a false a0 a1 ok
      rw [cbk.2.2.1] at E1
      rw [ok] at C1
      exact back_zy a b n _ _ _ _ _ _ _ _ 0 _ _ _ _ _ _ _ _ _ _ _ _ a0 a1 b0 b1 n0 n1 hnb A1 A2 A3 S1 S2 M1 M2 Q1 C1 E1 R1 R2 B1 B2 H1 H2 X1 X2 hlo bz w
    · rw [Bool.not_eq_true] at ok
      rw [ok] at C1
      exact back_zn a b n _ _ _ _ _ _ _ _ _ _ _ _ _ _ _ _ _ _ _ _ _ a0 a1 b0 b1 n0 n1 hnb A1 A2 A3 S1 S2 M1 M2 Q1 C1 E1 R1 R2 B1 B2 H1 H2 X1 X2 hlo bz w
  · have bz : (b == 0) = false := by simpa using hz
    have eq : divuS a b = a / b := by unfold divuS; rw [if_neg hz]
    have p0 : 0 ≤ a / b * b := Int.mul_nonneg (Int.ediv_nonneg a0 b0) b0
    have p1 := Int.mul_ediv_add_emod a b
    have p2 := Int.emod_nonneg a hz
    have p3 := Int.emod_lt_of_pos a (show 0 < b by omega)
    rw [Int.mul_comm] at p1
    have hp : divuS a b * b % 4294967296 = a / b * b := by rw [eq]; exact Int.emod_eq_of_lt p0 (by omega)
    by_cases ok : (compressS a).2 = true
    · have cbk := compress_back a false a0 a1 ok
      rw [cbk.2.2.1] at E1
      rw [ok] at C1
      exact back_ny a b n _ _ _ _ _ _ _ _ 0 _ _ _ _ _ _ _ _ _ _ _ _ a0 a1 b0 b1 n0 n1 hnb A1 A2 A3 S1 S2 M1 M2 Q1 C1 E1 R1 R2 B1 B2 H1 H2 X1 X2 hlo bz _ hp p0 (by omega) (by omega) w
    · rw [Bool.not_eq_true] at ok
      rw [ok] at C1
      exact back_nn a b n _ _ _ _ _ _ _ _ _ _ _ _ _ _ _ _ _ _ _ _ _ a0 a1 b0 b1 n0 n1 hnb A1 A2 A3 S1 S2 M1 M2 Q1 C1 E1 R1 R2 B1 B2 H1 H2 X1 X2 hlo bz _ hp p0 (by omega) (by omega) w
end Go.Proofs.Ytoidmnhghklicaa
