/- WordTimes returns true for every two words, with and without signs: products and quotients are the reference's. -/
import Derived.Test.YtoidmnhghklicaaKnown
import Derived.Test.YtoidmnhghklicaaRefs
namespace Go.Proofs.Ytoidmnhghklicaa
open Go.ChangeShapes Go.WideShapes Go.ChangeAt Go.RowKit
set_option linter.unusedVariables false
set_option linter.unusedSimpArgs false

theorem grown_drewN' {w w1 : World} (h : ∃ m, w1 = w.drewN m) : Grown w w1 := by
  obtain ⟨m, rfl⟩ := h
  exact (Grown.refl w : Grown w (w.drewN m))
theorem below_drewN {B : Nat} {w w1 : World} (m : Nat) (h : Below B w w1) : Below B w (w1.drewN m) := ⟨h.os, h.tape, h.output, h.size, h.block⟩

def isU32 (v : Option Value) : Prop := ∃ x : Int, v = some (.int .u32 x) ∧ 0 ≤ x ∧ x < 4294967296

theorem times_cells (a b b15 a16 : Int) (a0 : 0 ≤ a) (a1 : a < 4294967296) (b0 : 0 ≤ b) (b1 : b < 4294967296) (c0 : 0 ≤ b15) (c1 : b15 < 4294967296) (d0 : 0 ≤ a16) (d1 : a16 < 4294967296) (j : Nat) (hj : j < 12) :
    isU32 (#[Value.int IntKind.u32 a, Value.int IntKind.u32 b, Value.int IntKind.u32 a, Value.int IntKind.u32 b15, Value.int IntKind.u32 a,
      Value.int IntKind.u32 4294967295, Value.int IntKind.u32 2147483648, Value.int IntKind.u32 b, Value.int IntKind.u32 a, Value.int IntKind.u32 0, Value.int IntKind.u32 a16, Value.int IntKind.u32 b][j]?) := by
  rcases (show j = 0 ∨ j = 1 ∨ j = 2 ∨ j = 3 ∨ j = 4 ∨ j = 5 ∨ j = 6 ∨ j = 7 ∨ j = 8 ∨ j = 9 ∨ j = 10 ∨ j = 11 by omega) with h | h | h | h | h | h | h | h | h | h | h | h <;> subst h <;> exact ⟨_, rfl, by omega, by omega⟩

set_option maxHeartbeats 2000000 in
set_option maxRecDepth 100000 in
theorem times_walk (a b : Int) (c : Bool) (a0 : 0 ≤ a) (a1 : a < 4294967296) (b0 : 0 ≤ b) (b1 : b < 4294967296) (w : World) :
    Calls Try.prog 6 #[.int .u32 a, .int .u32 b, .bool c] w fun r w' => r = .returned (.bool true) ∧ Grown w w' := by
  have hq := bits_u32_bounds .and b 15
  have HC : Hid _ := times_cells a b (bits .and .u32 b 15) (a / 65536) a0 a1 b0 b1 hq.1 hq.2 (by omega) (by omega)
  clear hq
  generalize hb15 : bits .and .u32 b 15 = b15 at *
  go_enter Try.func6, Try.ntmps6
  go_wp2_with fail
  refine (known_true _).mono ?_
  rintro r w1 ⟨rfl, hw1⟩
  go_wp2_with fail
  have hcW : ∀ j, j < 12 → isU32 ((w1.alloc (Obj.cells #[Value.int IntKind.u32 a, Value.int IntKind.u32 b, Value.int IntKind.u32 a, Value.int IntKind.u32 b15, Value.int IntKind.u32 a,
      Value.int IntKind.u32 4294967295, Value.int IntKind.u32 2147483648, Value.int IntKind.u32 b, Value.int IntKind.u32 a, Value.int IntKind.u32 0, Value.int IntKind.u32 (a / 65536), Value.int IntKind.u32 b] 27)).cell? ⟨w1.heap.size, j, none⟩) := by
    intro j hj
    rw [World.cell?_alloc_new]
    exact HC.out j hj
  have hgW : Grown w (w1.alloc (Obj.cells #[Value.int IntKind.u32 a, Value.int IntKind.u32 b, Value.int IntKind.u32 a, Value.int IntKind.u32 b15, Value.int IntKind.u32 a,
      Value.int IntKind.u32 4294967295, Value.int IntKind.u32 2147483648, Value.int IntKind.u32 b, Value.int IntKind.u32 a, Value.int IntKind.u32 0, Value.int IntKind.u32 (a / 65536), Value.int IntKind.u32 b] 27)) := Grown.alloc (grown_drewN' hw1) _ _
  have hsW : w1.heap.size < (w1.alloc (Obj.cells #[Value.int IntKind.u32 a, Value.int IntKind.u32 b, Value.int IntKind.u32 a, Value.int IntKind.u32 b15, Value.int IntKind.u32 a,
      Value.int IntKind.u32 4294967295, Value.int IntKind.u32 2147483648, Value.int IntKind.u32 b, Value.int IntKind.u32 a, Value.int IntKind.u32 0, Value.int IntKind.u32 (a / 65536), Value.int IntKind.u32 b] 27)).heap.size := by
    show w1.heap.size < (w1.heap.push _).size
    simp
  generalize w1.alloc _ = W at *
  clear HC hb15 hw1
  go_loopw [34] (fun i wr => ∃ k : Nat, k ≤ 6 ∧ i = .int .i64 k ∧ Grown w wr ∧ Below W.heap.size W wr) (fun i _ => 6 - (intOf i).toNat)
  case atStart => exact ⟨0, by decide, rfl, hgW, Below.refl _ _⟩
  case round =>
    obtain ⟨k, hk, rfl, hg, hb⟩ := hrel
    by_cases hk6 : k < 6
    · obtain ⟨x, hx, x0, x1⟩ := hcW (k * 2) (by omega)
      obtain ⟨y, hy, y0, y1⟩ := hcW (k * 2 + 1) (by omega)
      have hx' : wr.cell? ⟨w1.heap.size, k * 2, none⟩ = some (.int .u32 x) := (hb.cell (by exact hsW)).trans hx
      have hy' : wr.cell? ⟨w1.heap.size, k * 2 + 1, none⟩ = some (.int .u32 y) := (hb.cell (by exact hsW)).trans hy
      have hgV : Grown w (wr.alloc (Obj.cells #[Value.int IntKind.u32 x, Value.int IntKind.u32 y] 27)) := Grown.alloc hg _ _
      have hbV : Below W.heap.size W (wr.alloc (Obj.cells #[Value.int IntKind.u32 x, Value.int IntKind.u32 y] 27)) := Below.alloc hb hb.size _
      have hv0 : (wr.alloc (Obj.cells #[Value.int IntKind.u32 x, Value.int IntKind.u32 y] 27)).cell? ⟨wr.heap.size, 0, none⟩ = some (.int .u32 x) := by rw [World.cell?_alloc_new]; rfl
      have hv1 : (wr.alloc (Obj.cells #[Value.int IntKind.u32 x, Value.int IntKind.u32 y] 27)).cell? ⟨wr.heap.size, 1, none⟩ = some (.int .u32 y) := by rw [World.cell?_alloc_new]; rfl
      have HK : Hid _ := And.intro hgV hbV
      clear hcW hgW hg hb hx hy hsW hgV hbV
      have M1 : Hid _ := fun w => mul64_c x y c x0 x1 y0 y1 w
      have M2 : Hid _ := fun w => rMul_c x y c x0 x1 y0 y1 w
      generalize mulS x y c % 4294967296 = lo at *
      generalize mulS x y c / 4294967296 % 4294967296 = hi at *
      have D1 : Hid _ := fun w => divu_c x y x0 x1 y0 y1 w
      have D2 : Hid _ := fun w => rDivu_c x y x0 x1 y0 y1 w
      have D3 : Hid _ := fun w => divs_c x y x0 x1 y0 y1 w
      have D4 : Hid _ := fun w => rDivs_c x y x0 x1 y0 y1 w
      generalize divuS x y = qu at *
      generalize divsS x y = qs at *
      have HV : Hid _ := And.intro hv0 hv1
      clear hv0 hv1
      go_wp2_with fail
      generalize wr.alloc _ = V at *
      refine (M1.out _).mono ?_
      rintro r _ ⟨rfl, rfl⟩
      have hv0 := HV.out.1
      have hv1 := HV.out.2
      go_wp2_with fail
      refine (M2.out _).mono ?_
      rintro r _ ⟨rfl, rfl⟩
      go_wp2_with fail
      go_big_quiet (first | (go_at_call 34; refine Calls.quiet_of_same (D1.out _)) | (go_at_call 35; refine Calls.quiet_of_same (D2.out _)) | (go_at_call 36; refine Calls.quiet_of_same (D3.out _)) | (go_at_call 37; refine Calls.quiet_of_same (D4.out _)))
      go_wp2
      refine ⟨⟨k + 1, by omega, by simp, HK.out.1, below_drewN nq HK.out.2⟩, ?_⟩
      simp only [intOf]
      omega
    · have k6 : k = 6 := by omega
      subst k6
      have HK : Hid _ := hg
      clear hcW hgW hg hb hsW
      go_wp2
      go_ret
      exact ⟨rfl, HK.out⟩
end Go.Proofs.Ytoidmnhghklicaa
