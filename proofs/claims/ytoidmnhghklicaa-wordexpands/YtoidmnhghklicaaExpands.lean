/- WordExpands returns true for every two words, carry and two bytes: which numbers twelve bits say, and which of them say a number, is the reference's. -/
import Derived.Test.YtoidmnhghklicaaRefs4
namespace Go.Proofs.Ytoidmnhghklicaa
open Go.ChangeShapes Go.WideShapes Go.ChangeAt Go.RowKit
set_option linter.unusedVariables false
set_option linter.unusedSimpArgs false

theorem three_cells (a x1 x2 : Int) (h : ∀ x ∈ [a, x1, x2], 0 ≤ x ∧ x < 4294967296) (j : Nat) (hj : j < 3) :
    isU32 (#[Value.int IntKind.u32 a, Value.int IntKind.u32 x1, Value.int IntKind.u32 x2][j]?) := by
  rcases (show j = 0 ∨ j = 1 ∨ j = 2 by omega) with h' | h' | h' <;> subst h' <;> exact ⟨_, rfl, (h _ (by simp)).1, (h _ (by simp)).2⟩
theorem mask2_u8 (i : Int) (i0 : 0 ≤ i) (i1 : i < 256) : bits .and .u8 i 3 = i % 4 := by
  rw [u8_and _ _ i0 i1 (by omega) (by omega), show (3 : Int).toNat = 3 from rfl, nat_mask2]; omega
theorem expand_there (n : Int) (c : Bool) (n0 : 0 ≤ n) (ok : (expandS n c).2.2 = true) : (compressS (expandS n c).1).2 = true := by
  rw [expandS_mod] at ok ⊢
  obtain ⟨m, hm⟩ := Int.eq_ofNat_of_zero_le (show 0 ≤ n % 4096 by omega)
  rw [hm] at ok ⊢
  rw [(expandS_carry m c false).1]
  rw [(expandS_carry m c false).2] at ok
  exact (compress_least m (by omega) ok).1

set_option maxHeartbeats 4000000 in
set_option maxRecDepth 100000 in
theorem expands_walk (i v : Int) (c : Bool) (x k : Int) (i0 : 0 ≤ i) (i1 : i < 4294967296) (v0 : 0 ≤ v) (v1 : v < 4294967296) (x0 : 0 ≤ x) (x1 : x < 256) (k0 : 0 ≤ k) (k1 : k < 256) (w : World) :
    Calls Try.prog 4 #[.int .u32 i, .int .u32 v, .bool c, .int .u8 x, .int .u8 k] w fun r w' => r = .returned (.bool true) ∧ Grown w w' := by
  have m2 := mask2_u8 k k0 k1
  have s0 : 0 ≤ k % 4 := by omega
  have s1 : k % 4 < 4 := by omega
  have y1 := bits_u32_bounds .and i 4095
  have y2 := bits_u32_bounds .or x (k % 4 * 256)
  generalize k % 4 = kk at *
  generalize ex1 : bits .and .u32 i 4095 = i4 at *
  generalize ex2 : bits .or .u32 x (kk * 256) = xk at *
  have HP : Hid _ := three_cells i i4 xk (by intro x hx; simp at hx; rcases hx with h | h | h <;> subst h <;> first | assumption | exact ⟨i0, i1⟩)
  clear y1 y2
  go_enter Try.func4, Try.ntmps4
  go_wp2_with fail
  refine (known_true _).mono ?_
  rintro r w1 ⟨rfl, hw1⟩
  go_wp2_with fail
  obtain ⟨O1, hO1⟩ : ∃ O, O = Obj.cells #[Value.int IntKind.u32 i, Value.int IntKind.u32 i4, Value.int IntKind.u32 xk] 22 := ⟨_, rfl⟩
  have HW : Hid ((∀ j, j < 3 → isU32 ((w1.alloc O1).cell? ⟨w1.heap.size, j, none⟩)) ∧ Grown w (w1.alloc O1) ∧ w1.heap.size < (w1.alloc O1).heap.size) := by
    subst hO1
    refine ⟨fun j hj => ?_, Grown.alloc (grown_drewN' hw1) _ _, alloc_size _ _⟩
    rw [World.cell?_alloc_new]
    exact HP.out j hj
  rw [← hO1]
  clear hO1 HP hw1 ex1 ex2 m2
  generalize w1.alloc O1 = W at *
  go_loopw [41] (fun i wr => ∃ k : Nat, k ≤ 3 ∧ i = .int .i64 k ∧ Grown w wr ∧ Below W.heap.size W wr) (fun i _ => 3 - (intOf i).toNat)
  case atStart => exact ⟨0, by decide, rfl, HW.out.2.1, Below.refl _ _⟩
  case round =>
    obtain ⟨l, hl, rfl, hg, hb⟩ := hrel
    by_cases hl3 : l < 3
    · obtain ⟨n, hx, N0, N1⟩ := HW.out.1 l hl3
      have hx' : wr.cell? ⟨w1.heap.size, l, none⟩ = some (.int .u32 n) := (hb.cell (by exact HW.out.2.2)).trans hx
      have HG : Hid _ := And.intro hg hb
      clear hg hb hx HW
      have E1 : Hid _ := fun w => expand_c n c N0 N1 w
      have E2 : Hid _ := fun w => rExpand_c n c N0 N1 w
      have HT : Hid _ := expand_there n c N0
      have eb := expandS_bounds n c
      generalize expandS n c = p at *
      obtain ⟨X, c1, ok⟩ := p
      have C1 : Hid _ := fun w => compress_c X eb.1 eb.2 w
      have C2 : Hid _ := fun w => rCompress_c X eb.1 eb.2 w
      clear eb
      generalize compressS X = q at *
      obtain ⟨Y, there⟩ := q
      go_wp2_with fail
      refine (E1.out _).mono ?_
      rintro r _ ⟨rfl, rfl⟩
      go_wp2_with fail
      refine (E2.out _).mono ?_
      rintro r w2 ⟨rfl, hw2⟩
      have HG2 : Hid _ := And.intro (grown_trans HG.out.1 hw2.1) (Below.trans HG.out.2 (Below.mono hw2.2 HG.out.2.size))
      clear hw2 HG hx'
      go_wp2_with fail
      refine (C1.out _).mono ?_
      rintro r _ ⟨rfl, rfl⟩
      go_wp2_with fail
      refine (C2.out _).mono ?_
      rintro r w3 ⟨rfl, hw3⟩
      have HG3 : Hid _ := And.intro (grown_trans HG2.out.1 hw3.1) (Below.trans HG2.out.2 (Below.mono hw3.2 HG2.out.2.size))
      clear hw3 HG2
      cases ok
      · go_wp2
        refine ⟨⟨l + 1, by omega, by simp, HG3.out.1, HG3.out.2⟩, ?_⟩
        simp only [intOf]
        omega
      · have ht : there = true := HT.out rfl
        subst ht
        go_wp2
        refine ⟨⟨l + 1, by omega, by simp, HG3.out.1, HG3.out.2⟩, ?_⟩
        simp only [intOf]
        omega
    · have l3 : l = 3 := by omega
      subst l3
      have HG : Hid _ := hg
      clear hg hb HW
      have C1 : Hid _ := fun w => compress_c v v0 v1 w
      have C2 : Hid _ := fun w => rCompress_c v v0 v1 w
      generalize compressS v = q at *
      obtain ⟨Y, there⟩ := q
      go_wp2_with fail
      refine (C1.out _).mono ?_
      rintro r _ ⟨rfl, rfl⟩
      go_wp2_with fail
      refine (C2.out _).mono ?_
      rintro r w3 ⟨rfl, hw3⟩
      have HG3 : Hid _ := grown_trans HG.out hw3.1
      clear hw3 HG
      go_wp2
      go_ret
      refine ⟨?_, HG3.out⟩
      simp
end Go.Proofs.Ytoidmnhghklicaa
