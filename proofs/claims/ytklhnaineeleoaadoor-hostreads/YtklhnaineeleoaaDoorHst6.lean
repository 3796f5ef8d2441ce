/- Read, the document's, walked. -/
import Derived.Test.YtklhnaineeleoaaDoorHst5
namespace Go.Proofs.YtklhnaineeleoaaDoor
open Go.ChangeShapes Go.WideShapes Go.ChangeAt Go.RowKit
set_option linter.unusedVariables false
set_option linter.unusedSimpArgs false

set_option maxHeartbeats 4000000 in
theorem rread_short (v : Value) (bs : List Int) (S : Nat → Prop) (w : World) (h : BL w S v bs) (hn : (bs.length : Int) ≤ 9223372036854775807) (h9 : bs.length < 9) : Calls Tryd.prog 14 #[v] w fun e w' => ReadPost w bs e w' := by
  have HS : Hid (readS bs = (zHV, 20)) := by show _ = _; unfold readS; rw [if_pos h9]
  have h9' : (bs.length : Int) < 9 := by omega
  obtain ⟨_, A, c, rfl, _⟩ := h
  generalize bs.length = n at *
  go_enter Tryd.func14, Tryd.ntmps14
  go_wp2
  (try simp only [Exit.inBlock, Exit.then])
  refine bodyPost_ret (results_row_tmp rfl _ _ w.heap.size _ _ _ _ rfl (heap_alloc_new w _) Tryd.underlying26 rfl (by kernel_rfl)) rfl ⟨?_, (Below.refl _ _).alloc (Nat.le_refl _) _⟩
  rw [HS.out]
  rfl

def rimS (b5 b6 b7 b8 : Int) (k : Nat) : Int := match k with
  | 0 => 0
  | 1 => b5
  | 2 => b5 + b6 * 256
  | 3 => b5 + b6 * 256 + b7 * 65536
  | _ => imS b5 b6 b7 b8
def rdRel (W : World) (b0 b1 b2 b3 b4 b5 b6 b7 b8 : Int) (i : Value) (wr : World) : Prop :=
  ((i = .int .i64 0 ∧ At6 wr W.heap.size 0 ⟨b0, b1, b2, b3, b4, 0⟩) ∨ (i = .int .i64 1 ∧ At6 wr W.heap.size 0 ⟨b0, b1, b2, b3, b4, b5⟩) ∨ (i = .int .i64 2 ∧ At6 wr W.heap.size 0 ⟨b0, b1, b2, b3, b4, b5 + b6 * 256⟩) ∨
    (i = .int .i64 3 ∧ At6 wr W.heap.size 0 ⟨b0, b1, b2, b3, b4, b5 + b6 * 256 + b7 * 65536⟩) ∨ (i = .int .i64 4 ∧ At6 wr W.heap.size 0 ⟨b0, b1, b2, b3, b4, imS b5 b6 b7 b8⟩)) ∧ (∀ j, wr.frozen? ⟨W.heap.size, j, none⟩ = false) ∧ Below W.heap.size W wr
theorem At6.setIm {w : World} {b : Nat} {b0 b1 b2 b3 b4 im : Int} (h : At6 w b 0 ⟨b0, b1, b2, b3, b4, im⟩) (x : Int) : At6 (w.drew.setCell ⟨b, 5, none⟩ (.int .u32 x)) b 0 ⟨b0, b1, b2, b3, b4, x⟩ := by
  obtain ⟨h0, h1, h2, h3, h4, h5⟩ := h
  refine ⟨?_, ?_, ?_, ?_, ?_, World.cell?_setCell_same _ _ _ h5⟩
  · rw [World.cell?_setCell_other _ _ _ _ (by simp)]; exact h0
  · rw [World.cell?_setCell_other _ _ _ _ (by simp)]; exact h1
  · rw [World.cell?_setCell_other _ _ _ _ (by simp)]; exact h2
  · rw [World.cell?_setCell_other _ _ _ _ (by simp)]; exact h3
  · rw [World.cell?_setCell_other _ _ _ _ (by simp)]; exact h4

set_option maxHeartbeats 8000000 in
theorem rread_w (w : World) (b o c n : Nat) (b0 b1 b2 b3 b4 b5 b6 b7 b8 : Int) (r : Bool) (hb : b < w.heap.size) (hn9 : 9 ≤ n) (hn : (n : Int) ≤ 9223372036854775807)
    (e0 : w.cell? ⟨b, o, none⟩ = some (.int .u8 b0)) (e1 : w.cell? ⟨b, o + 1, none⟩ = some (.int .u8 b1)) (e2 : w.cell? ⟨b, o + 2, none⟩ = some (.int .u8 b2)) (e3 : w.cell? ⟨b, o + 3, none⟩ = some (.int .u8 b3)) (e4 : w.cell? ⟨b, o + 4, none⟩ = some (.int .u8 b4))
    (e5 : w.cell? ⟨b, o + 5, none⟩ = some (.int .u8 b5)) (e6 : w.cell? ⟨b, o + 6, none⟩ = some (.int .u8 b6)) (e7 : w.cell? ⟨b, o + 7, none⟩ = some (.int .u8 b7)) (e8 : w.cell? ⟨b, o + 8, none⟩ = some (.int .u8 b8))
    (l0 : 0 ≤ b0) (m0 : b0 ≤ 255) (l1 : 0 ≤ b1) (m1 : b1 ≤ 255) (l2 : 0 ≤ b2) (m2 : b2 ≤ 255) (l3 : 0 ≤ b3) (m3 : b3 ≤ 255) (l4 : 0 ≤ b4) (m4 : b4 ≤ 255) (l5 : 0 ≤ b5) (m5 : b5 ≤ 255) (l6 : 0 ≤ b6) (m6 : b6 ≤ 255) (l7 : 0 ≤ b7) (m7 : b7 ≤ 255) (l8 : 0 ≤ b8) (m8 : b8 ≤ 255)
    (C : Hid (∀ w, Calls Tryd.prog 10 #[.agg #[.int .i64 b0, .int .i64 b1, .int .i64 b2, .int .i64 b3, .int .i64 b4, .int .u32 (imS b5 b6 b7 b8)]] w fun e w' => e = .returned (.bool r) ∧ Below w.heap.size w w')) :
    Calls Tryd.prog 14 #[.slice (some ⟨b, o, none⟩) n c] w fun e w' => e = .returned (.tuple #[if n = 9 ∧ r then .agg #[.int .i64 b0, .int .i64 b1, .int .i64 b2, .int .i64 b3, .int .i64 b4, .int .u32 (imS b5 b6 b7 b8)] else zHV.val, .int .i64 (if n = 9 ∧ r then 0 else 21)]) ∧ Below w.heap.size w w' := by
  have n9 : ¬ (n : Int) < 9 := by omega
  have n0 : (0 : Int) < n := by omega
  have n0' : 0 < n := by omega
  have n1 : (1 : Int) < n := by omega
  have n2 : (2 : Int) < n := by omega
  have n3 : (3 : Int) < n := by omega
  have n4 : (4 : Int) < n := by omega
  have HQ : Hid ((IntKind.i64.wrap b0 = b0 ∧ IntKind.i64.wrap b1 = b1 ∧ IntKind.i64.wrap b2 = b2 ∧ IntKind.i64.wrap b3 = b3 ∧ IntKind.i64.wrap b4 = b4)) := by
    simp only [IntKind.wrap_i64]
    refine ⟨?_, ?_, ?_, ?_, ?_⟩ <;> first | omega | (unfold wrap64; omega)
  obtain ⟨q1, q2, q3⟩ := im_or b5 b6 b7 b8 l5 m5 l6 m6 l7 m7 l8 m8
  have q0 : bits .or .u32 0 b5 = b5 := by rw [u32_or 0 b5 (by omega) (by omega) l5 (by omega)]; simp; omega
  have n5 : (5 : Int) < n := by omega
  have n6 : (6 : Int) < n := by omega
  have n7 : (7 : Int) < n := by omega
  have n8 : (8 : Int) < n := by omega
  have hb1 : b ≠ w.heap.size := by omega
  go_enter Tryd.func14, Tryd.ntmps14
  go_wp2_with fail
  obtain ⟨W, hW⟩ : ∃ W, W = w.alloc (Obj.cells #[.int .i64 0, .int .i64 0, .int .i64 0, .int .i64 0, .int .i64 0, .int .u32 0] 26) := ⟨_, rfl⟩
  have hc : ∀ k, W.cell? ⟨b, k, none⟩ = w.cell? ⟨b, k, none⟩ := fun k => by rw [hW]; exact World.cell?_alloc_old _ _ _ hb1
  have HW : Hid (W.heap.size = w.heap.size + 1 ∧ At6 W w.heap.size 0 zHV ∧ (∀ j, W.frozen? ⟨w.heap.size, j, none⟩ = false) ∧ Below w.heap.size w W) := by
    rw [hW]
    exact ⟨alloc_size' _ _, At6.new w zHV 26, fun j => World.frozen?_alloc_at _ _ _ _ rfl, (Below.refl _ _).alloc (Nat.le_refl _) _⟩
  rw [← hW]
  rw [← hc] at e0 e1 e2 e3 e4 e5 e6 e7 e8
  have hb2 : b < W.heap.size := World.block_lt_of_cell? W _ e0
  have HE : Hid (W.cell? ⟨b, o + 5, none⟩ = some (.int .u8 b5) ∧ W.cell? ⟨b, o + 6, none⟩ = some (.int .u8 b6) ∧ W.cell? ⟨b, o + 7, none⟩ = some (.int .u8 b7) ∧ W.cell? ⟨b, o + 8, none⟩ = some (.int .u8 b8)) := ⟨e5, e6, e7, e8⟩
  clear hc hW hb e5 e6 e7 e8
  go_region_held3 (fun w' => w'.cell? ⟨b, o, none⟩ = some (.int .u8 b0) ∧ w'.cell? ⟨b, o + 1, none⟩ = some (.int .u8 b1) ∧ w'.cell? ⟨b, o + 2, none⟩ = some (.int .u8 b2) ∧ w'.cell? ⟨b, o + 3, none⟩ = some (.int .u8 b3) ∧ w'.cell? ⟨b, o + 4, none⟩ = some (.int .u8 b4))
    (first | exact ⟨e0, e1, e2, e3, e4⟩ | go_keep)
    (fail)
  rename_i hS
  clear hS e0 e1 e2 e3 e4
  simp only [HQ.out.1, HQ.out.2.1, HQ.out.2.2.1, HQ.out.2.2.2.1, HQ.out.2.2.2.2]
  obtain ⟨W2, hW2⟩ : ∃ W2, W2 = (W.alloc (Obj.cells #[.int .i64 b0, .int .i64 b1, .int .i64 b2, .int .i64 b3, .int .i64 b4, .int .u32 0] 26)).drew := ⟨_, rfl⟩
  have HST : Hid (rdRel W b0 b1 b2 b3 b4 b5 b6 b7 b8 (.int .i64 0) W2) := by
    rw [hW2]
    exact ⟨.inl ⟨rfl, At6.new W ⟨b0, b1, b2, b3, b4, 0⟩ 26⟩, fun j => World.frozen?_alloc_at _ _ _ _ rfl, ((Below.refl _ _).alloc (Nat.le_refl _) _).drew⟩
  rw [← hW2]
  have hne : ¬ W.heap.size = w.heap.size := by have := HW.out.1; omega
  have hne' : ¬ w.heap.size = W.heap.size := by omega
  have hne2 : ¬ b = W.heap.size := by omega
  have hne3 : ¬ W.heap.size = b := by omega
  clear hW2 HQ hb1
  go_wp2_with fail
  go_loopw [5] (fun i wr => rdRel W b0 b1 b2 b3 b4 b5 b6 b7 b8 i wr) (fun i _ => 4 - (intOf i).toNat)
  case atStart => exact HST.out
  case round =>
    obtain ⟨hd, hf, hb⟩ := hrel
    have f5 := (hb.cell hb2).trans HE.out.1
    have f6 := (hb.cell hb2).trans HE.out.2.1
    have f7 := (hb.cell hb2).trans HE.out.2.2.1
    have f8 := (hb.cell hb2).trans HE.out.2.2.2
    have hbl : b < wr.heap.size := Nat.lt_of_lt_of_le hb2 hb.size
    have HB : Hid (Below W.heap.size W wr) := hb
    have HF : Hid (∀ j, wr.frozen? ⟨W.heap.size, j, none⟩ = false) := hf
    clear hb HST
    rcases hd with ⟨rfl, h6⟩ | ⟨rfl, h6⟩ | ⟨rfl, h6⟩ | ⟨rfl, h6⟩ | ⟨rfl, h6⟩
    · have HN : Hid (At6 (wr.drew.setCell ⟨W.heap.size, 5, none⟩ (.int .u32 (b5))) W.heap.size 0 ⟨b0, b1, b2, b3, b4, b5⟩) := h6.setIm _
      obtain ⟨_, _, _, _, _, g5⟩ := h6
      simp only [Nat.zero_add] at g5
      have hh : W.heap.size < wr.heap.size := World.block_lt_of_cell? wr _ g5
      go_wp2_with fail
      go_big_region
      go_wp2
      exact ⟨⟨.inr (.inl ⟨rfl, HN.out⟩), fun j => (World.frozen?_setCell wr _ _ _).trans (HF.out j), (HB.out.setCell (Nat.le_refl _) _).drew⟩, by decide⟩
    · have HN : Hid (At6 (wr.drew.setCell ⟨W.heap.size, 5, none⟩ (.int .u32 (b5 + b6 * 256))) W.heap.size 0 ⟨b0, b1, b2, b3, b4, b5 + b6 * 256⟩) := h6.setIm _
      obtain ⟨_, _, _, _, _, g5⟩ := h6
      simp only [Nat.zero_add] at g5
      have hh : W.heap.size < wr.heap.size := World.block_lt_of_cell? wr _ g5
      go_wp2_with fail
      go_big_region
      go_wp2
      exact ⟨⟨.inr (.inr (.inl ⟨rfl, HN.out⟩)), fun j => (World.frozen?_setCell wr _ _ _).trans (HF.out j), (HB.out.setCell (Nat.le_refl _) _).drew⟩, by decide⟩
    · have HN : Hid (At6 (wr.drew.setCell ⟨W.heap.size, 5, none⟩ (.int .u32 (b5 + b6 * 256 + b7 * 65536))) W.heap.size 0 ⟨b0, b1, b2, b3, b4, b5 + b6 * 256 + b7 * 65536⟩) := h6.setIm _
      obtain ⟨_, _, _, _, _, g5⟩ := h6
      simp only [Nat.zero_add] at g5
      have hh : W.heap.size < wr.heap.size := World.block_lt_of_cell? wr _ g5
      go_wp2_with fail
      go_big_region
      go_wp2
      exact ⟨⟨.inr (.inr (.inr (.inl ⟨rfl, HN.out⟩))), fun j => (World.frozen?_setCell wr _ _ _).trans (HF.out j), (HB.out.setCell (Nat.le_refl _) _).drew⟩, by decide⟩
    · have HN : Hid (At6 (wr.drew.setCell ⟨W.heap.size, 5, none⟩ (.int .u32 (imS b5 b6 b7 b8))) W.heap.size 0 ⟨b0, b1, b2, b3, b4, imS b5 b6 b7 b8⟩) := h6.setIm _
      obtain ⟨_, _, _, _, _, g5⟩ := h6
      simp only [Nat.zero_add] at g5
      have hh : W.heap.size < wr.heap.size := World.block_lt_of_cell? wr _ g5
      go_wp2_with fail
      go_big_region
      go_wp2
      exact ⟨⟨.inr (.inr (.inr (.inr ⟨rfl, HN.out⟩))), fun j => (World.frozen?_setCell wr _ _ _).trans (HF.out j), (HB.out.setCell (Nat.le_refl _) _).drew⟩, by decide⟩
    · have hs2 : w.heap.size < W.heap.size ∧ W.heap.size < wr.heap.size := ⟨by rw [HW.out.1]; omega, h6.lt⟩
      have HS2 : Hid (w.heap.size < W.heap.size ∧ W.heap.size < wr.heap.size) := hs2
      have hz2 : At6 wr w.heap.size 0 zHV := HW.out.2.1.below HB.out hs2.1
      have hf2 : ∀ j, wr.frozen? ⟨w.heap.size, j, none⟩ = false := fun j => (HB.out.frozen hs2.1).trans (HW.out.2.2.1 j)
      have HB2 : Hid (Below w.heap.size w wr) := HW.out.2.2.2.trans (HB.out.mono (Nat.le_of_lt hs2.1))
      have H62 : Hid (At6 wr W.heap.size 0 ⟨b0, b1, b2, b3, b4, imS b5 b6 b7 b8⟩) := h6
      have HZ2 : Hid (At6 wr w.heap.size 0 zHV) := hz2
      have HF2 : Hid (∀ j, wr.frozen? ⟨w.heap.size, j, none⟩ = false) := hf2
      obtain ⟨g0, g1, g2, g3, g4, g5⟩ := h6
      obtain ⟨z0, z1, z2, z3, z4, z5⟩ := hz2
      simp only [Nat.zero_add, zHV] at g0 g1 g2 g3 g4 g5 z0 z1 z2 z3 z4 z5
      clear HW HB HF hf hs2 f5 f6 f7 f8 hbl HE q0 q1 q2 q3 l0 l1 l2 l3 l4 l5 l6 l7 l8 m0 m1 m2 m3 m4 m5 m6 m7 m8 n0 n0' n1 n2 n3 n4 n5 n6 n7 n8 hne2 hne3 hb2
      by_cases h9 : n = 9
      · subst h9
        clear hf2
        cases r
        · go_wp2_with fail
          refine (C.out _).mono ?_
          rintro e w1 ⟨rfl, hw1⟩
          obtain ⟨c0, c1, c2, c3, c4, c5⟩ := H62.out.below hw1 HS2.out.2
          obtain ⟨d0, d1, d2, d3, d4, d5⟩ := HZ2.out.below hw1 (Nat.lt_trans HS2.out.1 HS2.out.2)
          have fz : ∀ j, w1.frozen? ⟨w.heap.size, j, none⟩ = false := fun j => (hw1.frozen (Nat.lt_trans HS2.out.1 HS2.out.2)).trans (HF2.out j)
          simp only [Nat.zero_add, zHV] at c0 c1 c2 c3 c4 c5 d0 d1 d2 d3 d4 d5
          have HB : Hid (Below w.heap.size w w1) := HB2.out.trans (hw1.mono (Nat.le_of_lt (Nat.lt_trans HS2.out.1 HS2.out.2)))
          clear hw1 C H62 HZ2 HF2 HB2 g0 g1 g2 g3 g4 g5 z0 z1 z2 z3 z4 z5
          go_wp2
          (try simp only [Exit.inBlock, Exit.then])
          refine bodyPost_ret (v := .tuple #[.agg #[.int .i64 0, .int .i64 0, .int .i64 0, .int .i64 0, .int .i64 0, .int .u32 0], .int .i64 21]) ?_ rfl ⟨rfl, ?_⟩
          · rw [results_cell_tmp rfl]
            go_simp
          · exact ((((((HB.out.setCell (Nat.le_refl _) _).setCell (Nat.le_refl _) _).setCell (Nat.le_refl _) _).setCell (Nat.le_refl _) _).setCell (Nat.le_refl _) _).setCell (Nat.le_refl _) _)
        · go_wp2_with fail
          refine (C.out _).mono ?_
          rintro e w1 ⟨rfl, hw1⟩
          obtain ⟨c0, c1, c2, c3, c4, c5⟩ := H62.out.below hw1 HS2.out.2
          obtain ⟨d0, d1, d2, d3, d4, d5⟩ := HZ2.out.below hw1 (Nat.lt_trans HS2.out.1 HS2.out.2)
          have fz : ∀ j, w1.frozen? ⟨w.heap.size, j, none⟩ = false := fun j => (hw1.frozen (Nat.lt_trans HS2.out.1 HS2.out.2)).trans (HF2.out j)
          simp only [Nat.zero_add, zHV] at c0 c1 c2 c3 c4 c5 d0 d1 d2 d3 d4 d5
          have HB : Hid (Below w.heap.size w w1) := HB2.out.trans (hw1.mono (Nat.le_of_lt (Nat.lt_trans HS2.out.1 HS2.out.2)))
          clear hw1 C H62 HZ2 HF2 HB2 g0 g1 g2 g3 g4 g5 z0 z1 z2 z3 z4 z5
          go_wp2
          (try simp only [Exit.inBlock, Exit.then])
          refine bodyPost_ret (v := .tuple #[.agg #[.int .i64 b0, .int .i64 b1, .int .i64 b2, .int .i64 b3, .int .i64 b4, .int .u32 (imS b5 b6 b7 b8)], .int .i64 0]) ?_ rfl ⟨rfl, ?_⟩
          · rw [results_cell_tmp rfl]
            go_simp
          · exact ((((((HB.out.setCell (Nat.le_refl _) _).setCell (Nat.le_refl _) _).setCell (Nat.le_refl _) _).setCell (Nat.le_refl _) _).setCell (Nat.le_refl _) _).setCell (Nat.le_refl _) _)
      · have h9' : ((n : Int) == 9) = false := by simp; omega
        have h9'' : ((n : Int) != 9) = true := by simp; omega
        clear C
        go_wp2
        (try simp only [Exit.inBlock, Exit.then])
        refine bodyPost_ret (v := .tuple #[.agg #[.int .i64 0, .int .i64 0, .int .i64 0, .int .i64 0, .int .i64 0, .int .u32 0], .int .i64 21]) ?_ rfl ⟨by simp [h9, zHV, HV.val], ?_⟩
        · rw [results_cell_tmp rfl]
          go_simp
        · exact ((((((HB2.out.setCell (Nat.le_refl _) _).setCell (Nat.le_refl _) _).setCell (Nat.le_refl _) _).setCell (Nat.le_refl _) _).setCell (Nat.le_refl _) _).setCell (Nat.le_refl _) _)

theorem rread_c (v : Value) (bs : List Int) (S : Nat → Prop) (w : World) (h : BL w S v bs) (hn : (bs.length : Int) ≤ 9223372036854775807) : Calls Tryd.prog 14 #[v] w fun e w' => ReadPost w bs e w' := by
  by_cases h9 : bs.length < 9
  · exact rread_short v bs S w h hn h9
  · obtain ⟨b, o, c, rfl, hb, hc⟩ := h.nine (by omega)
    have k : ∀ j, j < 9 → _ := fun j hj => hc j (by omega)
    have q := rread_w w b o c bs.length _ _ _ _ _ _ _ _ _ (rightS (ofNine bs)) hb (by omega) hn (k 0 (by decide)).1 (k 1 (by decide)).1 (k 2 (by decide)).1 (k 3 (by decide)).1 (k 4 (by decide)).1 (k 5 (by decide)).1 (k 6 (by decide)).1 (k 7 (by decide)).1 (k 8 (by decide)).1
      (k 0 (by decide)).2.1 (k 0 (by decide)).2.2 (k 1 (by decide)).2.1 (k 1 (by decide)).2.2 (k 2 (by decide)).2.1 (k 2 (by decide)).2.2 (k 3 (by decide)).2.1 (k 3 (by decide)).2.2 (k 4 (by decide)).2.1 (k 4 (by decide)).2.2 (k 5 (by decide)).2.1 (k 5 (by decide)).2.2 (k 6 (by decide)).2.1 (k 6 (by decide)).2.2 (k 7 (by decide)).2.1 (k 7 (by decide)).2.2 (k 8 (by decide)).2.1 (k 8 (by decide)).2.2
      (fun w => rright_c (ofNine bs) w)
    refine q.mono ?_
    rintro e w' ⟨rfl, hb⟩
    refine ⟨?_, hb⟩
    by_cases h10 : bs.length = 9
    · have hs : readS bs = if rightS (ofNine bs) then (ofNine bs, 0) else (zHV, 21) := by unfold readS; rw [if_neg (by omega), if_neg (by omega)]
      rw [hs, h10]
      cases rightS (ofNine bs) <;> simp <;> rfl
    · have hs : readS bs = (zHV, 21) := by unfold readS; rw [if_neg (by omega), if_pos (by omega)]
      rw [hs]
      simp [h10]
end Go.Proofs.YtklhnaineeleoaaDoor
