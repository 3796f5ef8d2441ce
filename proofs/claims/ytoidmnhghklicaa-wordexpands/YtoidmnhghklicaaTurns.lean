/- WordTurns returns true for every two words and every count: what becomes of a word's bits and bytes is the reference's. -/
import Derived.Test.YtoidmnhghklicaaAdds
import Derived.Test.YtoidmnhghklicaaRefs3
namespace Go.Proofs.Ytoidmnhghklicaa
open Go.ChangeShapes Go.WideShapes Go.ChangeAt Go.RowKit
set_option linter.unusedVariables false
set_option linter.unusedSimpArgs false

theorem words_cells (a x1 x2 x3 x4 : Int) (h : ∀ x ∈ [a, x1, x2, x3, x4], 0 ≤ x ∧ x < 4294967296) (j : Nat) (hj : j < 5) :
    isU32 (#[Value.int IntKind.u32 a, Value.int IntKind.u32 x1, Value.int IntKind.u32 x2, Value.int IntKind.u32 x3, Value.int IntKind.u32 x4][j]?) := by
  rcases (show j = 0 ∨ j = 1 ∨ j = 2 ∨ j = 3 ∨ j = 4 by omega) with h' | h' | h' | h' | h' <;> subst h' <;> exact ⟨_, rfl, (h _ (by simp)).1, (h _ (by simp)).2⟩
theorem widths_cells (n s : Int) (h0 : -9223372036854775808 ≤ n) (h1 : n ≤ 9223372036854775807) (s0 : 0 ≤ s) (s1 : s < 32) (j : Nat) (hj : j < 5) :
    isI64 (#[Value.int IntKind.i64 n, Value.int IntKind.i64 s, Value.int IntKind.i64 8, Value.int IntKind.i64 16, Value.int IntKind.i64 32][j]?) := by
  rcases (show j = 0 ∨ j = 1 ∨ j = 2 ∨ j = 3 ∨ j = 4 by omega) with h | h | h | h | h <;> subst h <;> exact ⟨_, rfl, by omega, by omega⟩

set_option maxHeartbeats 4000000 in
set_option maxRecDepth 100000 in
theorem turns_walk (a b n : Int) (a0 : 0 ≤ a) (a1 : a < 4294967296) (b0 : 0 ≤ b) (b1 : b < 4294967296) (n0 : -9223372036854775808 ≤ n) (n1 : n ≤ 9223372036854775807) (w : World) :
    Calls Try.prog 5 #[.int .u32 a, .int .u32 b, .int .i64 n] w fun r w' => r = .returned (.bool true) ∧ Grown w w' := by
  have m5 := mask5 b b0 b1
  have s0 : 0 ≤ b % 32 := by omega
  have s1 : b % 32 < 32 := by omega
  have HN : Hid _ := widths_cells n (b % 32) n0 n1 s0 s1
  have x1 := bits_u32_bounds .and a 255
  have x2 := div_u32 a (b % 32).toNat a0 a1
  have x3 := bits_u32_bounds .xor IntKind.u32.max a
  have x4 := bits_u32_bounds .and a b
  generalize b % 32 = s at *
  generalize ex1 : bits .and .u32 a 255 = a255 at *
  generalize ex2 : a / 2 ^ s.toNat = ash at *
  generalize ex3 : bits .xor .u32 IntKind.u32.max a = na at *
  generalize ex4 : bits .and .u32 a b = ab at *
  have HP : Hid _ := words_cells a a255 ash na ab (by intro x hx; simp at hx; rcases hx with h | h | h | h | h <;> subst h <;> first | assumption | exact ⟨a0, a1⟩)
  clear x1 x2 x3 x4
  go_enter Try.func5, Try.ntmps5
  go_wp2_with fail
  refine (known_true _).mono ?_
  rintro r w1 ⟨rfl, hw1⟩
  go_wp2_with fail
  obtain ⟨O1, hO1⟩ : ∃ O, O = Obj.cells #[Value.int IntKind.u32 a, Value.int IntKind.u32 a255, Value.int IntKind.u32 ash, Value.int IntKind.u32 na, Value.int IntKind.u32 ab] 22 := ⟨_, rfl⟩
  have HW : Hid ((∀ j, j < 5 → isU32 ((w1.alloc O1).cell? ⟨w1.heap.size, j, none⟩)) ∧ Grown w (w1.alloc O1) ∧ w1.heap.size < (w1.alloc O1).heap.size) := by
    subst hO1
    refine ⟨fun j hj => ?_, Grown.alloc (grown_drewN' hw1) _ _, alloc_size _ _⟩
    rw [World.cell?_alloc_new]
    exact HP.out j hj
  rw [← hO1]
  clear hO1 HP hw1 ex1 ex2 ex3 ex4
  generalize w1.alloc O1 = W at *
  go_loopw [27] (fun i wr => ∃ k : Nat, k ≤ 5 ∧ i = .int .i64 k ∧ Grown w wr ∧ Below W.heap.size W wr) (fun i _ => 5 - (intOf i).toNat)
  case atStart => exact ⟨0, by decide, rfl, HW.out.2.1, Below.refl _ _⟩
  case round =>
    obtain ⟨k, hk, rfl, hg, hb⟩ := hrel
    by_cases hk5 : k < 5
    · obtain ⟨x, hx, x0, x1⟩ := HW.out.1 k hk5
      have hx' : wr.cell? ⟨w1.heap.size, k, none⟩ = some (.int .u32 x) := (hb.cell (by exact HW.out.2.2)).trans hx
      have HG : Hid _ := And.intro hg hb
      clear hg hb hx HW
      have hd : decide ((k : Int) < 5) = true := by simp; omega
      have C1 : Hid _ := fun w => clz_c x x0 x1 w
      have C2 : Hid _ := fun w => rClz_c x x0 x1 w
      have C3 : Hid _ := fun w => rbit_c x x0 x1 w
      have C4 : Hid _ := fun w => rRbit_c x x0 x1 w
      have C5 : Hid _ := fun w => rev_c x x0 x1 w
      have C6 : Hid _ := fun w => rRev_c x x0 x1 w
      have C7 : Hid _ := fun w => rev16_c x x0 x1 w
      have C8 : Hid _ := fun w => rRev16_c x x0 x1 w
      have C9 : Hid _ := fun w => revsh_c x x0 x1 w
      have C10 : Hid _ := fun w => rRevsh_c x x0 x1 w
      generalize clzS x = z1 at *
      generalize ofB rbitB x = z2 at *
      generalize ofB revB x = z3 at *
      generalize signS (ofB rev16B x) 16 = z5 at *
      generalize ofB rev16B x = z4 at *
      go_wp2_with fail
      refine (C1.out _).mono ?_
      rintro r _ ⟨rfl, rfl⟩
      go_wp2_with fail
      refine (C2.out _).mono ?_
      rintro r _ ⟨rfl, rfl⟩
      go_wp2_with fail
      refine (C3.out _).mono ?_
      rintro r _ ⟨rfl, rfl⟩
      go_wp2_with fail
      refine (C4.out _).mono ?_
      rintro r _ ⟨rfl, rfl⟩
      go_wp2_with fail
      refine (C5.out _).mono ?_
      rintro r _ ⟨rfl, rfl⟩
      go_wp2_with fail
      refine (C6.out _).mono ?_
      rintro r _ ⟨rfl, rfl⟩
      go_wp2_with fail
      refine (C7.out _).mono ?_
      rintro r _ ⟨rfl, rfl⟩
      go_wp2_with fail
      refine (C8.out _).mono ?_
      rintro r _ ⟨rfl, rfl⟩
      go_wp2_with fail
      refine (C9.out _).mono ?_
      rintro r _ ⟨rfl, rfl⟩
      go_wp2_with fail
      refine (C10.out _).mono ?_
      rintro r wo ⟨rfl, rfl⟩
      clear C1 C2 C3 C4 C5 C6 C7 C8 C9 C10
      go_wp2_with fail
      obtain ⟨O2, hO2⟩ : ∃ O, O = Obj.cells #[Value.int IntKind.i64 n, Value.int IntKind.i64 s, Value.int IntKind.i64 8, Value.int IntKind.i64 16, Value.int IntKind.i64 32] 3 := ⟨_, rfl⟩
      have HV : Hid ((∀ j, j < 5 → isI64 ((wo.alloc O2).cell? ⟨wo.heap.size, j, none⟩)) ∧ Grown w (wo.alloc O2) ∧ wo.heap.size < (wo.alloc O2).heap.size ∧ Below W.heap.size W (wo.alloc O2) ∧ W.heap.size ≤ (wo.alloc O2).heap.size) := by
        subst hO2
        refine ⟨fun j hj => ?_, Grown.alloc HG.out.1 _ _, alloc_size _ _, Below.alloc HG.out.2 HG.out.2.size _, ?_⟩
        · rw [World.cell?_alloc_new]
          exact HN.out j hj
        · have h1 := HG.out.2.size
          have h2 := alloc_size wo (Obj.cells #[Value.int IntKind.i64 n, Value.int IntKind.i64 s, Value.int IntKind.i64 8, Value.int IntKind.i64 16, Value.int IntKind.i64 32] 3)
          omega
      rw [← hO2]
      clear hO2 HN HG hx'
      generalize wo.alloc O2 = V at *
      go_loopw [70] (fun i wr => ∃ l : Nat, l ≤ 5 ∧ i = .int .i64 l ∧ Grown w wr ∧ Below V.heap.size V wr) (fun i _ => 5 - (intOf i).toNat)
      case atStart => exact ⟨0, by decide, rfl, HV.out.2.1, Below.refl _ _⟩
      case round =>
        obtain ⟨l, hl, rfl, hg, hb⟩ := hrel
        by_cases hl5 : l < 5
        · obtain ⟨N, hx, N0, N1⟩ := HV.out.1 l hl5
          have hx' : wr.cell? ⟨wo.heap.size, l, none⟩ = some (.int .i64 N) := (hb.cell (by exact HV.out.2.2.1)).trans hx
          have HG : Hid _ := And.intro hg hb
          have S1 : Hid _ := fun w => sign_c x N N0 N1 x0 x1 w
          have S2 : Hid _ := fun w => rSign_c x N N0 N1 x0 x1 w
          have S3 : Hid _ := fun w => zero_c x N N0 N1 x0 x1 w
          have S4 : Hid _ := fun w => rZero_c x N N0 N1 x0 x1 w
          generalize signS x (clampW N) = y1 at *
          generalize zeroS x (clampW N) = y2 at *
          clear hg hb hx HV
          go_wp2_with fail
          refine (S1.out _).mono ?_
          rintro r _ ⟨rfl, rfl⟩
          go_wp2_with fail
          refine (S2.out _).mono ?_
          rintro r _ ⟨rfl, rfl⟩
          go_wp2_with fail
          refine (S3.out _).mono ?_
          rintro r _ ⟨rfl, rfl⟩
          go_wp2_with fail
          refine (S4.out _).mono ?_
          rintro r _ ⟨rfl, rfl⟩
          go_wp2
          refine ⟨⟨l + 1, by omega, by simp, HG.out.1, HG.out.2⟩, ?_⟩
          simp only [intOf]
          omega
        · have l5 : l = 5 := by omega
          subst l5
          have HG : Hid _ := And.intro hg (Below.trans HV.out.2.2.2.1 (Below.mono hb HV.out.2.2.2.2))
          clear hg hb HV
          go_wp2
          refine ⟨⟨k + 1, by omega, by simp, HG.out.1, HG.out.2⟩, ?_⟩
          simp only [intOf]
          omega
    · have k5 : k = 5 := by omega
      subst k5
      have HG : Hid _ := hg
      clear hg hb HW HN
      go_wp2
      go_ret
      exact ⟨rfl, HG.out⟩
end Go.Proofs.Ytoidmnhghklicaa
