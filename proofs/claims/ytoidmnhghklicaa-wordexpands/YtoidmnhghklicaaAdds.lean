/- WordAdds returns true for every two words, carry, count and kind: sums and shifts, with what goes out, are the reference's. -/
import Derived.Test.YtoidmnhghklicaaTimes
import Derived.Test.YtoidmnhghklicaaRefs2
namespace Go.Proofs.Ytoidmnhghklicaa
open Go.ChangeShapes Go.WideShapes Go.ChangeAt Go.RowKit
set_option linter.unusedVariables false
set_option linter.unusedSimpArgs false

def isI64 (v : Option Value) : Prop := ∃ x : Int, v = some (.int .i64 x) ∧ -9223372036854775808 ≤ x ∧ x ≤ 9223372036854775807
theorem mask31_i64 (x : Int) : bits .and .i64 x 31 = x % 32 := by
  show IntKind.i64.wrap ((BitVec.ofInt 64 x &&& BitVec.ofInt 64 31).toNat : Int) = _
  rw [BitVec.toNat_and, BitVec.toNat_ofInt, show (BitVec.ofInt 64 31).toNat = 31 by decide, nat_mask5, IntKind.wrap_i64]
  omega
theorem mask63_i64 (x : Int) : bits .and .i64 x 63 = x % 64 := by
  show IntKind.i64.wrap ((BitVec.ofInt 64 x &&& BitVec.ofInt 64 63).toNat : Int) = _
  rw [BitVec.toNat_and, BitVec.toNat_ofInt, show (BitVec.ofInt 64 63).toNat = 63 by decide, nat_mask6, IntKind.wrap_i64]
  omega

theorem kinds_cells (kind : Int) (h0 : -9223372036854775808 ≤ kind) (h1 : kind ≤ 9223372036854775807) (j : Nat) (hj : j < 7) :
    isI64 (#[Value.int IntKind.i64 kind, Value.int IntKind.i64 0, Value.int IntKind.i64 1, Value.int IntKind.i64 2, Value.int IntKind.i64 3, Value.int IntKind.i64 4, Value.int IntKind.i64 5][j]?) := by
  rcases (show j = 0 ∨ j = 1 ∨ j = 2 ∨ j = 3 ∨ j = 4 ∨ j = 5 ∨ j = 6 by omega) with h | h | h | h | h | h | h <;> subst h <;> exact ⟨_, rfl, by omega, by omega⟩
theorem counts_cells (n n31 n63 : Int) (h0 : -9223372036854775808 ≤ n) (h1 : n ≤ 9223372036854775807) (a0 : 0 ≤ n31) (a1 : n31 < 32) (b0 : 0 ≤ n63) (b1 : n63 < 64) (j : Nat) (hj : j < 5) :
    isI64 (#[Value.int IntKind.i64 n, Value.int IntKind.i64 n31, Value.int IntKind.i64 (n63 + 1), Value.int IntKind.i64 32, Value.int IntKind.i64 0][j]?) := by
  rcases (show j = 0 ∨ j = 1 ∨ j = 2 ∨ j = 3 ∨ j = 4 by omega) with h | h | h | h | h <;> subst h <;> exact ⟨_, rfl, by omega, by omega⟩
theorem pairs_cells (a b na nb oa ob ca cb : Int) (h : ∀ x ∈ [a, b, na, nb, oa, ob, ca, cb], 0 ≤ x ∧ x < 4294967296) (j : Nat) (hj : j < 10) :
    isU32 (#[Value.int IntKind.u32 a, Value.int IntKind.u32 b, Value.int IntKind.u32 a, Value.int IntKind.u32 na, Value.int IntKind.u32 a, Value.int IntKind.u32 nb, Value.int IntKind.u32 oa, Value.int IntKind.u32 ob, Value.int IntKind.u32 ca, Value.int IntKind.u32 cb][j]?) := by
  rcases (show j = 0 ∨ j = 1 ∨ j = 2 ∨ j = 3 ∨ j = 4 ∨ j = 5 ∨ j = 6 ∨ j = 7 ∨ j = 8 ∨ j = 9 by omega) with h' | h' | h' | h' | h' | h' | h' | h' | h' | h' <;> subst h' <;> exact ⟨_, rfl, (h _ (by simp)).1, (h _ (by simp)).2⟩
theorem alloc_size (w : World) (o : Obj) : w.heap.size < (w.alloc o).heap.size := by
  show w.heap.size < (w.heap.push _).size
  simp

set_option maxHeartbeats 4000000 in
set_option maxRecDepth 100000 in
theorem adds_walk (a b : Int) (c : Bool) (n kind : Int) (a0 : 0 ≤ a) (a1 : a < 4294967296) (b0 : 0 ≤ b) (b1 : b < 4294967296) (n0 : -9223372036854775808 ≤ n) (n1 : n ≤ 9223372036854775807)
    (k0 : -9223372036854775808 ≤ kind) (k1 : kind ≤ 9223372036854775807) (w : World) :
    Calls Try.prog 3 #[.int .u32 a, .int .u32 b, .bool c, .int .i64 n, .int .i64 kind] w fun r w' => r = .returned (.bool true) ∧ Grown w w' := by
  have HK : Hid _ := kinds_cells kind k0 k1
  have HN : Hid _ := counts_cells n (n % 32) (n % 64) n0 n1 (by omega) (by omega) (by omega) (by omega)
  have m31 := mask31_i64 n
  have m63 := mask63_i64 n
  have p0 : 0 ≤ n % 64 := by omega
  have p1 : n % 64 < 64 := by omega
  generalize n % 32 = n31 at *
  generalize n % 64 = n63 at *
  have x1 := bits_u32_bounds .xor IntKind.u32.max a
  have x2 := bits_u32_bounds .xor IntKind.u32.max b
  have x3 := bits_u32_bounds .or a 2147483648
  have x4 := bits_u32_bounds .or b 2147483648
  have x5 := bits_u32_bounds .and a 2147483647
  have x6 := bits_u32_bounds .and b 2147483647
  generalize ex1 : bits .xor .u32 IntKind.u32.max a = na at *
  generalize ex2 : bits .xor .u32 IntKind.u32.max b = nb at *
  generalize ex3 : bits .or .u32 a 2147483648 = oa at *
  generalize ex4 : bits .or .u32 b 2147483648 = ob at *
  generalize ex5 : bits .and .u32 a 2147483647 = ca at *
  generalize ex6 : bits .and .u32 b 2147483647 = cb at *
  have HP : Hid _ := pairs_cells a b na nb oa ob ca cb (by intro x hx; simp at hx; rcases hx with h | h | h | h | h | h | h | h <;> subst h <;> first | assumption | exact ⟨a0, a1⟩ | exact ⟨b0, b1⟩)
  clear x1 x2 x3 x4 x5 x6
  go_enter Try.func3, Try.ntmps3
  go_wp2_with fail
  refine (known_true _).mono ?_
  rintro r w1 ⟨rfl, hw1⟩
  go_wp2_with fail
  obtain ⟨O1, hO1⟩ : ∃ O, O = Obj.cells #[Value.int IntKind.i64 kind, Value.int IntKind.i64 0, Value.int IntKind.i64 1, Value.int IntKind.i64 2, Value.int IntKind.i64 3, Value.int IntKind.i64 4, Value.int IntKind.i64 5] 3 := ⟨_, rfl⟩
  have HW : Hid ((∀ j, j < 7 → isI64 ((w1.alloc O1).cell? ⟨w1.heap.size, j, none⟩)) ∧ Grown w (w1.alloc O1) ∧ w1.heap.size < (w1.alloc O1).heap.size) := by
    subst hO1
    refine ⟨fun j hj => ?_, Grown.alloc (grown_drewN' hw1) _ _, alloc_size _ _⟩
    rw [World.cell?_alloc_new]
    exact HK.out j hj
  rw [← hO1]
  clear hO1 HK hw1
  generalize w1.alloc O1 = W at *
  go_loopw [32] (fun i wr => ∃ k : Nat, k ≤ 7 ∧ i = .int .i64 k ∧ Grown w wr ∧ Below W.heap.size W wr) (fun i _ => 7 - (intOf i).toNat)
  case atStart => exact ⟨0, by decide, rfl, HW.out.2.1, Below.refl _ _⟩
  case round =>
    obtain ⟨k, hk, rfl, hg, hb⟩ := hrel
    by_cases hk7 : k < 7
    · obtain ⟨K, hx, K0, K1⟩ := HW.out.1 k hk7
      have hx' : wr.cell? ⟨w1.heap.size, k, none⟩ = some (.int .i64 K) := (hb.cell (by exact HW.out.2.2)).trans hx
      have HG : Hid _ := And.intro hg hb
      clear hg hb hx HW HP
      have hd : decide ((k : Int) < 7) = true := by simp; omega
      go_wp2_with fail
      obtain ⟨O2, hO2⟩ : ∃ O, O = Obj.cells #[Value.int IntKind.i64 n, Value.int IntKind.i64 n31, Value.int IntKind.i64 (n63 + 1), Value.int IntKind.i64 32, Value.int IntKind.i64 0] 3 := ⟨_, rfl⟩
      have HV : Hid ((∀ j, j < 5 → isI64 ((wr.alloc O2).cell? ⟨wr.heap.size, j, none⟩)) ∧ Grown w (wr.alloc O2) ∧ wr.heap.size < (wr.alloc O2).heap.size ∧ Below W.heap.size W (wr.alloc O2) ∧ W.heap.size ≤ (wr.alloc O2).heap.size) := by
        subst hO2
        refine ⟨fun j hj => ?_, Grown.alloc HG.out.1 _ _, alloc_size _ _, Below.alloc HG.out.2 HG.out.2.size _, ?_⟩
        · rw [World.cell?_alloc_new]
          exact HN.out j hj
        · have h1 := HG.out.2.size
          have h2 := alloc_size wr (Obj.cells #[Value.int IntKind.i64 n, Value.int IntKind.i64 n31, Value.int IntKind.i64 (n63 + 1), Value.int IntKind.i64 32, Value.int IntKind.i64 0] 3)
          omega
      rw [← hO2]
      clear hO2 HN HG hx'
      obtain ⟨wo, hwo⟩ : ∃ wo : World, wo = wr := ⟨_, rfl⟩
      subst hwo
      generalize wo.alloc O2 = V at *
      go_loopw [44] (fun i wr => ∃ l : Nat, l ≤ 5 ∧ i = .int .i64 l ∧ Grown w wr ∧ Below V.heap.size V wr) (fun i _ => 5 - (intOf i).toNat)
      case atStart => exact ⟨0, by decide, rfl, HV.out.2.1, Below.refl _ _⟩
      case round =>
        obtain ⟨l, hl, rfl, hg, hb⟩ := hrel
        by_cases hl5 : l < 5
        · obtain ⟨N, hx, N0, N1⟩ := HV.out.1 l hl5
          have hx' : wr.cell? ⟨wo.heap.size, l, none⟩ = some (.int .i64 N) := (hb.cell (by exact HV.out.2.2.1)).trans hx
          have HG : Hid _ := And.intro hg hb
          have S1 : Hid _ := fun w => shift_c a K N c a0 a1 N0 N1 w
          have S2 : Hid _ := fun w => rShift_c a K N c a0 a1 N0 N1 w
          generalize shiftS a K N c = q at *
          obtain ⟨X, B⟩ := q
          clear hg hb hx HV
          go_wp2_with fail
          refine (S1.out _).mono ?_
          rintro r w3 ⟨rfl, hw3⟩
          go_wp2_with fail
          refine (S2.out _).mono ?_
          rintro r _ ⟨rfl, rfl⟩
          go_wp2
          obtain ⟨m, rfl⟩ := hw3
          refine ⟨⟨l + 1, by omega, by simp, HG.out.1, below_drewN m HG.out.2⟩, ?_⟩
          simp only [intOf]
          omega
        · have l5 : l = 5 := by omega
          subst l5
          have HG : Hid _ := And.intro hg (Below.trans HV.out.2.2.2.1 (Below.mono hb HV.out.2.2.2.2))
          clear hg hb HV
          go_wp2
          refine ⟨⟨k + 1, by omega, by simp, HG.out.1, HG.out.2⟩, ?_⟩
          simp only [intOf]
          omega
    · have k7 : k = 7 := by omega
      subst k7
      have HG : Hid _ := hg
      clear hg hb HW HN
      go_wp2_with fail
      obtain ⟨O2, hO2⟩ : ∃ O, O = Obj.cells #[Value.int IntKind.u32 a, Value.int IntKind.u32 b, Value.int IntKind.u32 a, Value.int IntKind.u32 na, Value.int IntKind.u32 a, Value.int IntKind.u32 nb, Value.int IntKind.u32 oa, Value.int IntKind.u32 ob, Value.int IntKind.u32 ca, Value.int IntKind.u32 cb] 27 := ⟨_, rfl⟩
      have HV : Hid ((∀ j, j < 10 → isU32 ((wr.alloc O2).cell? ⟨wr.heap.size, j, none⟩)) ∧ Grown w (wr.alloc O2) ∧ wr.heap.size < (wr.alloc O2).heap.size) := by
        subst hO2
        refine ⟨fun j hj => ?_, Grown.alloc HG.out _ _, alloc_size _ _⟩
        rw [World.cell?_alloc_new]
        exact HP.out j hj
      rw [← hO2]
      clear hO2 HP HG ex1 ex2 ex3 ex4 ex5 ex6 m31 m63
      obtain ⟨wo, hwo⟩ : ∃ wo : World, wo = wr := ⟨_, rfl⟩
      subst hwo
      generalize wo.alloc O2 = V at *
      go_loopw [97] (fun i wr => ∃ l : Nat, l ≤ 5 ∧ i = .int .i64 l ∧ Grown w wr ∧ Below V.heap.size V wr) (fun i _ => 5 - (intOf i).toNat)
      case atStart => exact ⟨0, by decide, rfl, HV.out.2.1, Below.refl _ _⟩
      case round =>
        obtain ⟨l, hl, rfl, hg, hb⟩ := hrel
        by_cases hl5 : l < 5
        · obtain ⟨x, hx, x0, x1⟩ := HV.out.1 (l * 2) (by omega)
          obtain ⟨y, hy, y0, y1⟩ := HV.out.1 (l * 2 + 1) (by omega)
          have hx' : wr.cell? ⟨wo.heap.size, l * 2, none⟩ = some (.int .u32 x) := (hb.cell (by exact HV.out.2.2)).trans hx
          have hy' : wr.cell? ⟨wo.heap.size, l * 2 + 1, none⟩ = some (.int .u32 y) := (hb.cell (by exact HV.out.2.2)).trans hy
          have hv0 : (wr.alloc (Obj.cells #[Value.int IntKind.u32 x, Value.int IntKind.u32 y] 27)).cell? ⟨wr.heap.size, 0, none⟩ = some (.int .u32 x) := by rw [World.cell?_alloc_new]; rfl
          have hv1 : (wr.alloc (Obj.cells #[Value.int IntKind.u32 x, Value.int IntKind.u32 y] 27)).cell? ⟨wr.heap.size, 1, none⟩ = some (.int .u32 y) := by rw [World.cell?_alloc_new]; rfl
          have HG : Hid _ := And.intro (And.intro hv0 hv1) (And.intro (Grown.alloc hg #[Value.int IntKind.u32 x, Value.int IntKind.u32 y] 27) (Below.alloc hb hb.size (Obj.cells #[Value.int IntKind.u32 x, Value.int IntKind.u32 y] 27)))
          have S1 : Hid _ := fun w => addCarry_c x y c x0 x1 y0 y1 w
          have S2 : Hid _ := fun w => rAdd_c x y c x0 x1 y0 y1 w
          generalize addS x y c = X at *
          generalize outS x y c = B at *
          generalize overS x y c = C at *
          clear hg hb hx hy HV hv0 hv1
          go_wp2_with fail
          generalize wr.alloc _ = U at *
          refine (S1.out _).mono ?_
          rintro r _ ⟨rfl, rfl⟩
          have hv0 := HG.out.1.1
          have hv1 := HG.out.1.2
          go_wp2_with fail
          refine (S2.out _).mono ?_
          rintro r _ ⟨rfl, rfl⟩
          go_wp2
          refine ⟨⟨l + 1, by omega, by simp, HG.out.2.1, HG.out.2.2⟩, ?_⟩
          simp only [intOf]
          omega
        · have l5 : l = 5 := by omega
          subst l5
          have HG : Hid _ := hg
          clear hg hb HV
          go_wp2
          go_ret
          exact ⟨rfl, HG.out⟩
end Go.Proofs.Ytoidmnhghklicaa
