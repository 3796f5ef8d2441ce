/- CondNumbers returns true for every two words: the conditions behind a comparison say how two numbers stand. -/
import Derived.Test.YtmgnmoohfnaekaaDoorCKnown
import Derived.Test.YtmgnmoohfnaekaaDoorPure2
namespace Go.Proofs.YtmgnmoohfnaekaaDoor
open Go.ChangeShapes Go.WideShapes Go.ChangeAt Go.RowKit
set_option linter.unusedVariables false
set_option linter.unusedSimpArgs false

theorem below_drewN {B : Nat} {w w1 : World} (m : Nat) (h : Below B w w1) : Below B w (w1.drewN m) := ⟨h.os, h.tape, h.output, h.size, h.block⟩

def lessV (a b : Int) : Bool := bits .and .u32 (bits .xor .u32 a b) (bits .xor .u32 a ((a - b) % 4294967296)) / 2147483648 == 1

theorem less_over (a b : Int) (a0 : 0 ≤ a) (a1 : a < 4294967296) (b0 : 0 ≤ b) (b1 : b < 4294967296) :
    lessV a b = decide (wrap32 a - wrap32 b ≠ wrap32 ((a - b) % 4294967296)) := by
  unfold lessV wrap32
  rw [u32_xor a b a0 a1 b0 b1, u32_xor a _ a0 a1 (by omega) (by omega)]
  have l1 := xor_lt32 a.toNat b.toNat (by omega) (by omega)
  have l2 := xor_lt32 a.toNat ((a - b) % 4294967296).toNat (by omega) (by omega)
  rw [u32_and _ _ (by omega) (by omega) (by omega) (by omega)]
  have t1 := top_xor a.toNat b.toNat (by omega) (by omega)
  have t2 := top_xor a.toNat ((a - b) % 4294967296).toNat (by omega) (by omega)
  have t3 := top_and _ _ l1 l2
  simp only [Int.toNat_natCast]
  generalize hX : a.toNat ^^^ b.toNat = X at *
  generalize hY : a.toNat ^^^ ((a - b) % 4294967296).toNat = Y at *
  generalize hZ : X &&& Y = Z at *
  rw [t1, t2] at t3
  clear hX hY hZ t1 t2 l1 l2
  have q1 : a.toNat / 2147483648 = 0 ∨ a.toNat / 2147483648 = 1 := by omega
  have q2 : b.toNat / 2147483648 = 0 ∨ b.toNat / 2147483648 = 1 := by omega
  have q3 : ((a - b) % 4294967296).toNat / 2147483648 = 0 ∨ ((a - b) % 4294967296).toNat / 2147483648 = 1 := by omega
  rw [Bool.eq_iff_iff]
  simp only [beq_iff_eq, decide_eq_true_eq]
  rcases q1 with q1 | q1 <;> rcases q2 with q2 | q2 <;> rcases q3 with q3 | q3 <;> rw [q1, q2, q3] at t3 <;> simp at t3 <;> omega

theorem num_z (a b : Int) (a0 : 0 ≤ a) (a1 : a < 4294967296) (b0 : 0 ≤ b) (b1 : b < 4294967296) : ((a - b) % 4294967296 == 0) = (a == b) := by
  rw [Bool.eq_iff_iff]; simp only [beq_iff_eq]; omega
theorem num_ge (a b : Int) (a0 : 0 ≤ a) (a1 : a < 4294967296) (b0 : 0 ≤ b) (b1 : b < 4294967296) : (topS ((a - b) % 4294967296) == lessV a b) = decide (wrap32 b ≤ wrap32 a) := by
  rw [less_over a b a0 a1 b0 b1]
  unfold topS wrap32
  rw [Bool.eq_iff_iff]
  simp only [beq_iff_eq, decide_eq_decide, decide_eq_true_eq]
  omega

def numF (a b : Int) : Int := resultS ((a - b) % 4294967296) (decide (b ≤ a)) (lessV a b)
theorem numF_holds (a b c : Int) : flagsHold c (numF a b) = holdsS c (topS ((a - b) % 4294967296)) ((a - b) % 4294967296 == 0) (decide (b ≤ a)) (lessV a b) := of_holds _ _ _ _ _

theorem num_l (a b : Int) (a0 : 0 ≤ a) (a1 : a < 4294967296) (b0 : 0 ≤ b) (b1 : b < 4294967296) (k : Nat) (hk : k < 4) :
    #[Value.bool (a == b), Value.bool (a != b), Value.bool (decide (b ≤ a)), Value.bool (decide (a < b))][k]? = some (.bool (flagsHold k (numF a b))) := by
  have z := num_z a b a0 a1 b0 b1
  rw [numF_holds, z]
  rcases (show k = 0 ∨ k = 1 ∨ k = 2 ∨ k = 3 by omega) with h | h | h | h <;> subst h
  · rfl
  · rfl
  · rfl
  · show some (Value.bool (decide (a < b))) = some (.bool (!decide (b ≤ a)))
    rw [show decide (a < b) = !decide (b ≤ a) by rw [Bool.eq_iff_iff]; simp]
theorem num_s (a b : Int) (a0 : 0 ≤ a) (a1 : a < 4294967296) (b0 : 0 ≤ b) (b1 : b < 4294967296) (k : Nat) (hk : k < 6) :
    #[Value.bool (decide (b < a)), Value.bool (decide (a ≤ b)), Value.bool (decide (wrap32 b ≤ wrap32 a)), Value.bool (decide (wrap32 a < wrap32 b)), Value.bool (decide (wrap32 b < wrap32 a)), Value.bool (decide (wrap32 a ≤ wrap32 b))][k]?
      = some (.bool (flagsHold (8 + k) (numF a b))) := by
  have z := num_z a b a0 a1 b0 b1
  have g := num_ge a b a0 a1 b0 b1
  have hz : (a == b) = (wrap32 a == wrap32 b) := by
    rw [Bool.eq_iff_iff]; simp only [beq_iff_eq, wrap32]; omega
  rw [numF_holds, z]
  rcases (show k = 0 ∨ k = 1 ∨ k = 2 ∨ k = 3 ∨ k = 4 ∨ k = 5 by omega) with h | h | h | h | h | h <;> subst h
  · show some (Value.bool (decide (b < a))) = some (.bool (decide (b ≤ a) && !(a == b)))
    rw [show decide (b < a) = (decide (b ≤ a) && !(a == b)) by rw [Bool.eq_iff_iff]; simp; omega]
  · show some (Value.bool (decide (a ≤ b))) = some (.bool (!(decide (b ≤ a) && !(a == b))))
    rw [show decide (a ≤ b) = (!(decide (b ≤ a) && !(a == b))) by rw [Bool.eq_iff_iff]; simp; omega]
  · show some (Value.bool (decide (wrap32 b ≤ wrap32 a))) = some (.bool (topS ((a - b) % 4294967296) == lessV a b))
    rw [g]
  · show some (Value.bool (decide (wrap32 a < wrap32 b))) = some (.bool (!(topS ((a - b) % 4294967296) == lessV a b)))
    rw [g, show decide (wrap32 a < wrap32 b) = !decide (wrap32 b ≤ wrap32 a) by rw [Bool.eq_iff_iff]; simp]
  · show some (Value.bool (decide (wrap32 b < wrap32 a))) = some (.bool (!(a == b) && topS ((a - b) % 4294967296) == lessV a b))
    rw [g, hz, show decide (wrap32 b < wrap32 a) = (!(wrap32 a == wrap32 b) && decide (wrap32 b ≤ wrap32 a)) by rw [Bool.eq_iff_iff]; simp; omega]
  · show some (Value.bool (decide (wrap32 a ≤ wrap32 b))) = some (.bool (!(!(a == b) && topS ((a - b) % 4294967296) == lessV a b)))
    rw [g, hz, show decide (wrap32 a ≤ wrap32 b) = (!(!(wrap32 a == wrap32 b) && decide (wrap32 b ≤ wrap32 a))) by rw [Bool.eq_iff_iff]; simp; omega]

set_option maxHeartbeats 1000000 in
theorem numbers_walk (a b : Int) (a0 : 0 ≤ a) (a1 : a < 4294967296) (b0 : 0 ≤ b) (b1 : b < 4294967296) (w : World) (h1 : 1 < w.heap.size) (hT : w.cell? ⟨1, 1, none⟩ = some (.int .u8 1)) :
    Calls Tryd.prog 5 #[.int .u32 a, .int .u32 b] w fun e w' => e = .returned (.bool true) ∧ Below w.heap.size w w' := by
  have KN : Hid _ := known_true w h1 hT
  clear h1 hT
  have R : Hid (∀ w, Calls Tryd.prog 13 #[.int .u32 ((a - b) % 4294967296), .bool (decide (b ≤ a)), .bool (bits .and .u32 (bits .xor .u32 a b) (bits .xor .u32 a ((a - b) % 4294967296)) / 2147483648 == 1)] w fun e w' => e = .returned (.int .i64 (numF a b)) ∧ w' = w) :=
    fun w => result_c ((a - b) % 4294967296) (decide (b ≤ a)) (lessV a b) (by omega) (by omega) w
  have HC : Hid (∀ w : World, (∀ k, k < 4 → ((w.alloc (Obj.cells #[Value.bool (a == b), Value.bool (a != b), Value.bool (decide (b ≤ a)), Value.bool (decide (a < b))] 4)).alloc
      (Obj.cells #[Value.bool (decide (b < a)), Value.bool (decide (a ≤ b)), Value.bool (decide (wrap32 b ≤ wrap32 a)), Value.bool (decide (wrap32 a < wrap32 b)), Value.bool (decide (wrap32 b < wrap32 a)), Value.bool (decide (wrap32 a ≤ wrap32 b))] 4)).cell? ⟨w.heap.size, k, none⟩ = some (Value.bool (flagsHold k (numF a b)))) ∧
      (∀ k, k < 6 → ((w.alloc (Obj.cells #[Value.bool (a == b), Value.bool (a != b), Value.bool (decide (b ≤ a)), Value.bool (decide (a < b))] 4)).alloc
      (Obj.cells #[Value.bool (decide (b < a)), Value.bool (decide (a ≤ b)), Value.bool (decide (wrap32 b ≤ wrap32 a)), Value.bool (decide (wrap32 a < wrap32 b)), Value.bool (decide (wrap32 b < wrap32 a)), Value.bool (decide (wrap32 a ≤ wrap32 b))] 4)).cell? ⟨w.heap.size + 1, k, none⟩ = some (Value.bool (flagsHold (8 + k) (numF a b))))) := by
    intro w
    refine ⟨fun k hk => ?_, fun k hk => ?_⟩
    · rw [Below.cell (Below.alloc (Below.refl (w.heap.size + 1) _) (by rw [alloc_size']; exact Nat.le_refl _) _) (by exact Nat.lt_succ_self _), World.cell?_alloc_new]
      exact num_l a b a0 a1 b0 b1 k hk
    · have e : (w.alloc (Obj.cells #[Value.bool (a == b), Value.bool (a != b), Value.bool (decide (b ≤ a)), Value.bool (decide (a < b))] 4)).heap.size = w.heap.size + 1 := alloc_size' _ _
      rw [← e, World.cell?_alloc_new]
      exact num_s a b a0 a1 b0 b1 k hk
  go_enter Tryd.func5, Tryd.ntmps5
  go_wp2_with fail
  refine Calls.mono KN.out ?_
  rintro e w1 ⟨rfl, hb1⟩
  have HB : Hid _ := hb1
  clear hb1 KN
  go_wp2_with fail
  refine (R.out _).mono ?_
  rintro e w2 ⟨rfl, hw2⟩
  replace hw2 := hw2.symm
  subst hw2
  clear R
  go_wp2_with fail
  have HW := HC.out w1
  have hgW : Below w.heap.size w ((w1.alloc (Obj.cells #[Value.bool (a == b), Value.bool (a != b), Value.bool (decide (b ≤ a)), Value.bool (decide (a < b))] 4)).alloc
      (Obj.cells #[Value.bool (decide (b < a)), Value.bool (decide (a ≤ b)), Value.bool (decide (wrap32 b ≤ wrap32 a)), Value.bool (decide (wrap32 a < wrap32 b)), Value.bool (decide (wrap32 b < wrap32 a)), Value.bool (decide (wrap32 a ≤ wrap32 b))] 4)) :=
    Below.alloc (Below.alloc HB.out HB.out.size _) (by rw [alloc_size']; exact Nat.le_succ_of_le HB.out.size) _
  have hsW : w1.heap.size + 1 < ((w1.alloc (Obj.cells #[Value.bool (a == b), Value.bool (a != b), Value.bool (decide (b ≤ a)), Value.bool (decide (a < b))] 4)).alloc
      (Obj.cells #[Value.bool (decide (b < a)), Value.bool (decide (a ≤ b)), Value.bool (decide (wrap32 b ≤ wrap32 a)), Value.bool (decide (wrap32 a < wrap32 b)), Value.bool (decide (wrap32 b < wrap32 a)), Value.bool (decide (wrap32 a ≤ wrap32 b))] 4)).heap.size := by
    rw [alloc_size', alloc_size']; omega
  generalize (w1.alloc (Obj.cells #[Value.bool (a == b), Value.bool (a != b), Value.bool (decide (b ≤ a)), Value.bool (decide (a < b))] 4)).alloc _ = W at *
  generalize numF a b = F at *
  have HX : Hid _ := And.intro HW (And.intro hgW hsW)
  clear HW hgW HC HB hsW
  go_loopw [12] (fun i wr => ∃ k : Nat, k ≤ 4 ∧ i = .int .i64 k ∧ Below W.heap.size W wr) (fun i _ => 4 - (intOf i).toNat)
  case atStart => exact ⟨0, by decide, rfl, Below.refl _ _⟩
  case round =>
    obtain ⟨k, hk, rfl, hb⟩ := hrel
    by_cases hk4 : k < 4
    · have hc := (hb.cell (p := ⟨w1.heap.size, k, none⟩) (by have := HX.out.2.2; show w1.heap.size < _; omega)).trans (HX.out.1.1 k hk4)
      have C : Hid _ := fun w => holds_c k F w
      generalize flagsHold k F = p at *
      have HB : Hid _ := hb
      clear hb
      go_wp2_with fail
      go_big_quiet (first | (go_at_call 7; refine Calls.quiet_of_same (C.out _)))
      go_wp2
      refine ⟨⟨k + 1, by omega, by simp, below_drewN nq HB.out⟩, ?_⟩
      simp only [intOf]
      omega
    · have k4 : k = 4 := by omega
      subst k4
      have HB : Hid _ := hb
      clear hk hk4 hb
      go_wp2_with fail
      go_loopw [13] (fun i wx => ∃ k : Nat, k ≤ 6 ∧ i = .int .i64 k ∧ Below W.heap.size W wx) (fun i _ => 6 - (intOf i).toNat)
      case atStart => exact ⟨0, by decide, rfl, HB.out⟩
      case round =>
        obtain ⟨k, hk, rfl, hb⟩ := hrel
        by_cases hk6 : k < 6
        · have hc := (hb.cell (p := ⟨w1.heap.size + 1, k, none⟩) (by exact HX.out.2.2)).trans (HX.out.1.2 k hk6)
          have C : Hid _ := fun w => holds_c (8 + k) F w
          generalize flagsHold (8 + k) F = p at *
          have HB2 : Hid _ := hb
          clear hb
          go_wp2_with fail
          go_big_quiet (first | (go_at_call 7; refine Calls.quiet_of_same (C.out _)))
          go_wp2
          refine ⟨⟨k + 1, by omega, by simp, below_drewN nq HB2.out⟩, ?_⟩
          simp only [intOf]
          omega
        · have k6 : k = 6 := by omega
          subst k6
          have HB2 : Hid _ := hb
          clear hb
          go_wp2
          go_ret
          exact ⟨rfl, Below.trans HX.out.2.1 (Below.mono HB2.out HX.out.2.1.size)⟩
end Go.Proofs.YtmgnmoohfnaekaaDoor
