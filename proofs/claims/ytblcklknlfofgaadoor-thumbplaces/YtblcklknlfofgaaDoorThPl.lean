/- ThumbPlaces, walked. -/
import Derived.Test.YtblcklknlfofgaaDoorThK
import Derived.Test.YtblcklknlfofgaaDoorThG
namespace Go.Proofs.YtblcklknlfofgaaDoor
open Go.ChangeShapes Go.WideShapes Go.ChangeAt Go.RowKit
set_option linter.unusedVariables false
set_option linter.unusedSimpArgs false

def and255 : Bool := (List.range 511).all fun k => decide (bits .and .i64 ((k : Int) - 255) 255 = (((k + 1) % 256 : Nat) : Int))
def and2047 : Bool := (List.range 4095).all fun k => decide (bits .and .i64 ((k : Int) - 2047) 2047 = (((k + 1) % 2048 : Nat) : Int))
set_option maxRecDepth 100000 in
theorem and255_ok : and255 = true := by kernel_rfl
set_option maxRecDepth 100000 in
theorem and2047_ok : and2047 = true := by kernel_rfl
theorem and255_at (k : Nat) (hk : k < 511) : bits .and .i64 ((k : Int) - 255) 255 = (((k + 1) % 256 : Nat) : Int) := by
  have h := and255_ok
  simp only [and255, List.all_eq_true, List.mem_range, decide_eq_true_eq] at h
  exact h k hk
theorem and2047_at (k : Nat) (hk : k < 4095) : bits .and .i64 ((k : Int) - 2047) 2047 = (((k + 1) % 2048 : Nat) : Int) := by
  have h := and2047_ok
  simp only [and2047, List.all_eq_true, List.mem_range, decide_eq_true_eq] at h
  exact h k hk
theorem immK_eq (m k : Nat) (hm : m ≤ 4000) (hk : k ≤ 8000) : ((k : Int) - m) * 2 % 4294967296 = ((immK m k : Nat) : Int) := by
  unfold immK
  rw [nble]
  by_cases h : m ≤ k
  · simp only [h, decide_true, cond_true]
    omega
  · simp only [h, decide_false, cond_false]
    omega
theorem enc_b (w : World) (HT : LT w) (C X : Int) (c imm : Nat) (hC : C = c) (hX : X = imm) (hi : imm ≤ 4294967295) (r : Nat × Bool) (hr : encN (bNV c imm).iv false (brN c imm) = r) :
    Calls Tryd.prog 14 #[.agg #[.int .i64 54, .bool false, .bool false, .int .i64 C, .int .i64 0, .int .i64 0, .int .i64 0, .int .i64 0, .int .u32 X, .bool false, .int .i64 0, .int .i64 0, .int .i64 0, .bool false, .bool false], .bool false] w fun e w' => e = .returned (.tuple #[.int .u16 (r.1 : Nat), .bool r.2]) ∧ Below w.heap.size w w' := by
  subst hC hX
  have h1 : ∀ x ∈ brN c imm, x < 65536 := by
    rw [brN_eq]
    intro x hx
    simp only [brNN, List.mem_cons, List.not_mem_nil, or_false] at hx
    rcases hx with rfl | rfl <;> omega
  have := encode_of (bNV c imm).iv false (brN c imm) h1 (by simp [brN]) w HT (fun w2 _ => halves54_c (bNV c imm).iv rfl ⟨by simp [bNV, NV.iv], by simp [bNV, NV.iv]; omega⟩ w2)
  rw [hr] at this
  exact this
set_option maxHeartbeats 8000000 in
set_option maxRecDepth 100000 in
theorem places_c (n c : Int) (c0 : 0 ≤ c) (c1 : c ≤ 255) (w : World) (HT : LT w) : Calls Tryd.prog 7 #[.int .i64 n, .int .u8 c] w fun e w' => e = .returned (.bool true) ∧ Below w.heap.size w w' := by
  have CK : Hid (∀ w1, LT w1 → Calls Tryd.prog 8 #[] w1 fun e w' => e = .returned (.bool true) ∧ Below w1.heap.size w1 w') := known_c
  obtain ⟨D, hD⟩ : ∃ D, n.tmod 256 = D := ⟨_, rfl⟩
  obtain ⟨E, hE⟩ : ∃ E, n.tmod 2048 = E := ⟨_, rfl⟩
  have D0 : -255 ≤ D ∧ D ≤ 255 := by have := Int.tmod_lt_of_pos n (show (0:Int) < 256 by decide); have := Int.lt_tmod_of_pos n (show (0:Int) < 256 by decide); omega
  have E0 : -2047 ≤ E ∧ E ≤ 2047 := by have := Int.tmod_lt_of_pos n (show (0:Int) < 2048 by decide); have := Int.lt_tmod_of_pos n (show (0:Int) < 2048 by decide); omega
  obtain ⟨k, hk⟩ : ∃ k : Nat, D = (k : Int) - 255 := ⟨(D + 255).toNat, by omega⟩
  obtain ⟨j, hj⟩ : ∃ j : Nat, E = (j : Int) - 2047 := ⟨(E + 2047).toNat, by omega⟩
  obtain ⟨z, hz⟩ : ∃ z : Nat, c % 14 = (z : Int) := ⟨(c % 14).toNat, by omega⟩
  have z14 : z < 14 := by omega
  have m1 : immK 255 k ≤ 4294967295 := by have := immK_eq 255 k (by decide) (by omega); omega
  have m2 : immK 2047 j ≤ 4294967295 := by have := immK_eq 2047 j (by decide) (by omega); omega
  have B1 : Hid (∀ w1, LT w1 → Calls Tryd.prog 14 #[.agg #[.int .i64 54, .bool false, .bool false, .int .i64 (z : Int), .int .i64 0, .int .i64 0, .int .i64 0, .int .i64 0, .int .u32 (D * 2 % 4294967296), .bool false, .int .i64 0, .int .i64 0, .int .i64 0, .bool false, .bool false], .bool false] w1 fun e w' => e = .returned (.tuple #[.int .u16 ((nearN z k).1 : Nat), .bool (nearN z k).2]) ∧ Below w1.heap.size w1 w') := fun w1 h1 => enc_b w1 h1 _ _ z (immK 255 k) rfl (by rw [hk]; exact immK_eq 255 k (by decide) (by omega)) m1 _ (near_at z k z14 (by omega))
  have B2 : Hid (∀ w1, LT w1 → Calls Tryd.prog 14 #[.agg #[.int .i64 54, .bool false, .bool false, .int .i64 14, .int .i64 0, .int .i64 0, .int .i64 0, .int .i64 0, .int .u32 (E * 2 % 4294967296), .bool false, .int .i64 0, .int .i64 0, .int .i64 0, .bool false, .bool false], .bool false] w1 fun e w' => e = .returned (.tuple #[.int .u16 ((farK j).1 : Nat), .bool (farK j).2]) ∧ Below w1.heap.size w1 w') := fun w1 h1 => enc_b w1 h1 _ _ 14 (immK 2047 j) rfl (by rw [hj]; exact immK_eq 2047 j (by decide) (by omega)) m2 _ (far_at j (by omega))
  have a1 : bits .and .i64 D 255 = (((k + 1) % 256 : Nat) : Int) := by rw [hk]; exact and255_at k (by omega)
  have a2 : bits .and .i64 E 2047 = (((j + 1) % 2048 : Nat) : Int) := by rw [hj]; exact and2047_at j (by omega)
  have o1 : bits .or .u16 53248 ((z : Int) * 256) = ((53248 + z * 256 : Nat) : Int) := by exact u16_join 53248 (z * 256) 12 (by decide) (by decide) (by omega) (by omega)
  have o2 : bits .or .u16 ((53248 + z * 256 : Nat) : Int) (((k + 1) % 256 : Nat) : Int) = ((53248 + z * 256 + (k + 1) % 256 : Nat) : Int) := u16_join _ _ 8 (by omega) (by omega) (by omega) (by omega)
  have o3 : bits .or .u16 57344 (((j + 1) % 2048 : Nat) : Int) = ((57344 + (j + 1) % 2048 : Nat) : Int) := u16_join _ _ 11 (by decide) (by decide) (by omega) (by omega)
  have l1 : (k + 1) % 256 < 256 := Nat.mod_lt _ (by decide)
  have l2 : (j + 1) % 2048 < 2048 := Nat.mod_lt _ (by decide)
  have n1 : nearN z k = if (127 ≤ k ∧ k < 383) then (53248 + z * 256 + (k + 1) % 256, true) else (0, false) := by
    unfold nearN
    rw [nble, nblt]
    by_cases g1 : 127 ≤ k <;> by_cases g2 : k < 383 <;> simp [g1, g2]
  have n2 : farK j = if (1023 ≤ j ∧ j < 3071) then (57344 + (j + 1) % 2048, true) else (0, false) := by
    unfold farK
    rw [nble, nblt]
    by_cases g1 : 1023 ≤ j <;> by_cases g2 : j < 3071 <;> simp [g1, g2]
  rw [n1] at B1
  rw [n2] at B2
  clear n1 n2 m1 m2
  generalize (k + 1) % 256 = x1 at *
  generalize (j + 1) % 2048 = x2 at *
  generalize 53248 + z * 256 = y1 at *
  generalize y1 + x1 = y2 at *
  generalize 57344 + x2 = y3 at *
  rcases (show (127 ≤ k ∧ k < 383) ∨ k < 127 ∨ 383 ≤ k by omega) with g | g | g
  · rw [if_pos g] at B1
    have tD1 : decide (D ≥ -128) = true := by simp; omega
    have tD2 : decide (D < 128) = true := by simp; omega
    rcases (show (1023 ≤ j ∧ j < 3071) ∨ j < 1023 ∨ 3071 ≤ j by omega) with f | f | f
    · rw [if_pos f] at B2
      have tE1 : decide (E ≥ -1024) = true := by simp; omega
      have tE2 : decide (E < 1024) = true := by simp; omega
      clear hk hj
      go_enter Tryd.func7, Tryd.ntmps7
      have S := SH.start w
      go_wp2_with (first
        | (go_at_call 8; refine (CK.out _ (HT.next S.low)).mono ?_; rintro e wf ⟨rfl, hbf⟩; replace S := S.below hbf; clear hbf)
        | (go_at_call 14; (first | with_reducible refine (B1.out _ (HT.next S.low)).mono ?_ | with_reducible refine (B2.out _ (HT.next S.low)).mono ?_); rintro e wf ⟨rfl, hbf⟩; replace S := S.below hbf; clear hbf))
      go_ret
      exact ⟨by first | rfl | simp, S.low⟩
    · rw [if_neg (by omega)] at B2
      have tE1 : decide (E ≥ -1024) = false := by simp; omega
      clear hk hj
      go_enter Tryd.func7, Tryd.ntmps7
      have S := SH.start w
      go_wp2_with (first
        | (go_at_call 8; refine (CK.out _ (HT.next S.low)).mono ?_; rintro e wf ⟨rfl, hbf⟩; replace S := S.below hbf; clear hbf)
        | (go_at_call 14; (first | with_reducible refine (B1.out _ (HT.next S.low)).mono ?_ | with_reducible refine (B2.out _ (HT.next S.low)).mono ?_); rintro e wf ⟨rfl, hbf⟩; replace S := S.below hbf; clear hbf))
      go_ret
      exact ⟨by first | rfl | simp, S.low⟩
    · rw [if_neg (by omega)] at B2
      have tE1 : decide (E ≥ -1024) = true := by simp; omega
      have tE2 : decide (E < 1024) = false := by simp; omega
      clear hk hj
      go_enter Tryd.func7, Tryd.ntmps7
      have S := SH.start w
      go_wp2_with (first
        | (go_at_call 8; refine (CK.out _ (HT.next S.low)).mono ?_; rintro e wf ⟨rfl, hbf⟩; replace S := S.below hbf; clear hbf)
        | (go_at_call 14; (first | with_reducible refine (B1.out _ (HT.next S.low)).mono ?_ | with_reducible refine (B2.out _ (HT.next S.low)).mono ?_); rintro e wf ⟨rfl, hbf⟩; replace S := S.below hbf; clear hbf))
      go_ret
      exact ⟨by first | rfl | simp, S.low⟩
  · rw [if_neg (by omega)] at B1
    have tD1 : decide (D ≥ -128) = false := by simp; omega
    rcases (show (1023 ≤ j ∧ j < 3071) ∨ j < 1023 ∨ 3071 ≤ j by omega) with f | f | f
    · rw [if_pos f] at B2
      have tE1 : decide (E ≥ -1024) = true := by simp; omega
      have tE2 : decide (E < 1024) = true := by simp; omega
      clear hk hj
      go_enter Tryd.func7, Tryd.ntmps7
      have S := SH.start w
      go_wp2_with (first
        | (go_at_call 8; refine (CK.out _ (HT.next S.low)).mono ?_; rintro e wf ⟨rfl, hbf⟩; replace S := S.below hbf; clear hbf)
        | (go_at_call 14; (first | with_reducible refine (B1.out _ (HT.next S.low)).mono ?_ | with_reducible refine (B2.out _ (HT.next S.low)).mono ?_); rintro e wf ⟨rfl, hbf⟩; replace S := S.below hbf; clear hbf))
      go_ret
      exact ⟨by first | rfl | simp, S.low⟩
    · rw [if_neg (by omega)] at B2
      have tE1 : decide (E ≥ -1024) = false := by simp; omega
      clear hk hj
      go_enter Tryd.func7, Tryd.ntmps7
      have S := SH.start w
      go_wp2_with (first
        | (go_at_call 8; refine (CK.out _ (HT.next S.low)).mono ?_; rintro e wf ⟨rfl, hbf⟩; replace S := S.below hbf; clear hbf)
        | (go_at_call 14; (first | with_reducible refine (B1.out _ (HT.next S.low)).mono ?_ | with_reducible refine (B2.out _ (HT.next S.low)).mono ?_); rintro e wf ⟨rfl, hbf⟩; replace S := S.below hbf; clear hbf))
      go_ret
      exact ⟨by first | rfl | simp, S.low⟩
    · rw [if_neg (by omega)] at B2
      have tE1 : decide (E ≥ -1024) = true := by simp; omega
      have tE2 : decide (E < 1024) = false := by simp; omega
      clear hk hj
      go_enter Tryd.func7, Tryd.ntmps7
      have S := SH.start w
      go_wp2_with (first
        | (go_at_call 8; refine (CK.out _ (HT.next S.low)).mono ?_; rintro e wf ⟨rfl, hbf⟩; replace S := S.below hbf; clear hbf)
        | (go_at_call 14; (first | with_reducible refine (B1.out _ (HT.next S.low)).mono ?_ | with_reducible refine (B2.out _ (HT.next S.low)).mono ?_); rintro e wf ⟨rfl, hbf⟩; replace S := S.below hbf; clear hbf))
      go_ret
      exact ⟨by first | rfl | simp, S.low⟩
  · rw [if_neg (by omega)] at B1
    have tD1 : decide (D ≥ -128) = true := by simp; omega
    have tD2 : decide (D < 128) = false := by simp; omega
    rcases (show (1023 ≤ j ∧ j < 3071) ∨ j < 1023 ∨ 3071 ≤ j by omega) with f | f | f
    · rw [if_pos f] at B2
      have tE1 : decide (E ≥ -1024) = true := by simp; omega
      have tE2 : decide (E < 1024) = true := by simp; omega
      clear hk hj
      go_enter Tryd.func7, Tryd.ntmps7
      have S := SH.start w
      go_wp2_with (first
        | (go_at_call 8; refine (CK.out _ (HT.next S.low)).mono ?_; rintro e wf ⟨rfl, hbf⟩; replace S := S.below hbf; clear hbf)
        | (go_at_call 14; (first | with_reducible refine (B1.out _ (HT.next S.low)).mono ?_ | with_reducible refine (B2.out _ (HT.next S.low)).mono ?_); rintro e wf ⟨rfl, hbf⟩; replace S := S.below hbf; clear hbf))
      go_ret
      exact ⟨by first | rfl | simp, S.low⟩
    · rw [if_neg (by omega)] at B2
      have tE1 : decide (E ≥ -1024) = false := by simp; omega
      clear hk hj
      go_enter Tryd.func7, Tryd.ntmps7
      have S := SH.start w
      go_wp2_with (first
        | (go_at_call 8; refine (CK.out _ (HT.next S.low)).mono ?_; rintro e wf ⟨rfl, hbf⟩; replace S := S.below hbf; clear hbf)
        | (go_at_call 14; (first | with_reducible refine (B1.out _ (HT.next S.low)).mono ?_ | with_reducible refine (B2.out _ (HT.next S.low)).mono ?_); rintro e wf ⟨rfl, hbf⟩; replace S := S.below hbf; clear hbf))
      go_ret
      exact ⟨by first | rfl | simp, S.low⟩
    · rw [if_neg (by omega)] at B2
      have tE1 : decide (E ≥ -1024) = true := by simp; omega
      have tE2 : decide (E < 1024) = false := by simp; omega
      clear hk hj
      go_enter Tryd.func7, Tryd.ntmps7
      have S := SH.start w
      go_wp2_with (first
        | (go_at_call 8; refine (CK.out _ (HT.next S.low)).mono ?_; rintro e wf ⟨rfl, hbf⟩; replace S := S.below hbf; clear hbf)
        | (go_at_call 14; (first | with_reducible refine (B1.out _ (HT.next S.low)).mono ?_ | with_reducible refine (B2.out _ (HT.next S.low)).mono ?_); rintro e wf ⟨rfl, hbf⟩; replace S := S.below hbf; clear hbf))
      go_ret
      exact ⟨by first | rfl | simp, S.low⟩
end Go.Proofs.YtblcklknlfofgaaDoor
