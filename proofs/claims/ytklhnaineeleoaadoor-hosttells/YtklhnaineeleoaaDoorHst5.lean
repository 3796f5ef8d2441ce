/- Read, the program's, walked. -/
import Derived.Test.YtklhnaineeleoaaDoorHst4
import Derived.Deep.RegionHeld3
namespace Go.Proofs.YtklhnaineeleoaaDoor
open Go.ChangeShapes Go.WideShapes Go.ChangeAt Go.RowKit
set_option linter.unusedVariables false
set_option linter.unusedSimpArgs false

theorem or_join32 (i : Nat) (x y : Int) (x0 : 0 ≤ x) (x1 : x < 4294967296) (y0 : 0 ≤ y) (hx : x % 2 ^ i = 0) (hy : y < 2 ^ i) (y1 : y < 4294967296) : bits .or .u32 x y = x + y := by
  rw [u32_or x y x0 x1 y0 y1]
  obtain ⟨X, rfl⟩ := Int.eq_ofNat_of_zero_le x0
  obtain ⟨Y, rfl⟩ := Int.eq_ofNat_of_zero_le y0
  simp only [Int.toNat_natCast]
  have e : ((2 : Int) ^ i) = ((2 ^ i : Nat) : Int) := by simp
  rw [e] at hx hy
  rw [nat_join i X Y (by exact_mod_cast hx) (by exact_mod_cast hy)]
  simp
theorem or_low (i : Nat) (v X : Int) (v0 : 0 ≤ v) (v1 : v < 2 ^ i) (x0 : 0 ≤ X) (x1 : X < 4294967296) (hx : X % 2 ^ i = 0) (v2 : v < 4294967296) : bits .or .u32 v X = v + X := by
  have h := or_join32 i X v x0 x1 v0 hx v1 v2
  rw [u32_or X v x0 x1 v0 v2] at h
  rw [u32_or v X v0 v2 x0 x1, Nat.or_comm, h, Int.add_comm]

def imS (a b c d : Int) : Int := a + b * 256 + c * 65536 + d * 16777216
theorem im_or (a b c d : Int) (a0 : 0 ≤ a) (a1 : a ≤ 255) (b0 : 0 ≤ b) (b1 : b ≤ 255) (c0 : 0 ≤ c) (c1 : c ≤ 255) (d0 : 0 ≤ d) (d1 : d ≤ 255) :
    bits .or .u32 a (b * 256) = a + b * 256 ∧ bits .or .u32 (a + b * 256) (c * 65536) = a + b * 256 + c * 65536 ∧ bits .or .u32 (a + b * 256 + c * 65536) (d * 16777216) = imS a b c d :=
  ⟨or_low 8 _ _ a0 (by omega) (by omega) (by omega) (by omega) (by omega), or_low 16 _ _ (by omega) (by omega) (by omega) (by omega) (by omega) (by omega), or_low 24 _ _ (by omega) (by omega) (by omega) (by omega) (by omega) (by omega)⟩
def zHV : HV := ⟨0, 0, 0, 0, 0, 0⟩
def ofNine (bs : List Int) : HV := ⟨bs.getD 0 0, bs.getD 1 0, bs.getD 2 0, bs.getD 3 0, bs.getD 4 0, imS (bs.getD 5 0) (bs.getD 6 0) (bs.getD 7 0) (bs.getD 8 0)⟩
def readS (bs : List Int) : HV × Int := if bs.length < 9 then (zHV, 20) else if 9 < bs.length then (zHV, 21) else if rightS (ofNine bs) then (ofNine bs, 0) else (zHV, 21)
def ReadPost (w : World) (bs : List Int) (e : Ending) (w' : World) : Prop := e = .returned (.tuple #[(readS bs).1.val, .int .i64 (readS bs).2]) ∧ Below w.heap.size w w'

/-- The first nine bytes behind a slice. -/
theorem BL.nine {w : World} {S : Nat → Prop} {v : Value} {bs : List Int} (h : BL w S v bs) (hn : 9 ≤ bs.length) : ∃ b o c, v = .slice (some ⟨b, o, none⟩) bs.length c ∧ b < w.heap.size ∧ ∀ j, j < bs.length → w.cell? ⟨b, o + j, none⟩ = some (.int .u8 (bs.getD j 0)) ∧ 0 ≤ bs.getD j 0 ∧ bs.getD j 0 ≤ 255 := by
  obtain ⟨h0, A, c, rfl, h2, h3⟩ := h
  obtain ⟨b, o, rfl, _, e3⟩ := h3 0 _ (List.getElem?_eq_getElem (by omega))
  refine ⟨b, o, c, rfl, World.block_lt_of_cell? w _ e3, fun j hj => ?_⟩
  obtain ⟨b', o', e1, _, e4⟩ := h3 j _ (List.getElem?_eq_getElem hj)
  simp only [Option.some.injEq, Addr.mk.injEq, and_true] at e1
  obtain ⟨rfl, rfl⟩ := e1
  have hg : bs.getD j 0 = bs[j] := by simp [List.getD, hj]
  rw [hg]
  exact ⟨e4, h0 _ (List.getElem_mem hj)⟩

theorem results_row_tmp {P : Program} {fn : Func} {p u : Tmp} {ty : TypeId} (h : fn.results = #[.cell p ty, .tmp u]) (tmps : Array Value) (w : World) (g : Nat) (t : TypeId) (cs : Array Value) (fr : Nat × Nat) (d : TypeDesc)
    (hp : tmps.getD p undef = .pointer (some ⟨g, 0, none⟩)) (hg : w.heap[g]? = some (.cells cs t fr))
    (hu : P.underlying ty = some d) (hd : (match d with | .struct _ | .array _ _ => true | _ => false) = true) (hi : (P.info? ty).map (·.size) = some cs.size) :
    (results fn tmps).run P w = .ok (.tuple #[.agg cs, tmps.getD u undef]) w := by
  rw [results_cell_tmp h, hp]
  simp [asAddr, run_loadVar_row w g t ty cs fr d hg hu hd hi, Result.andThen]

set_option maxHeartbeats 4000000 in
theorem read_odd (v : Value) (bs : List Int) (S : Nat → Prop) (w : World) (h : BL w S v bs) (hn : (bs.length : Int) ≤ 9223372036854775807) (h9 : bs.length ≠ 9) : Calls Tryd.prog 13 #[v] w fun e w' => ReadPost w bs e w' := by
  by_cases h9 : bs.length < 9
  · have HS : Hid (readS bs = (zHV, 20)) := by show _ = _; unfold readS; rw [if_pos h9]
    have h9' : (bs.length : Int) < 9 := by omega
    obtain ⟨_, A, c, rfl, _⟩ := h
    generalize bs.length = n at *
    go_enter Tryd.func13, Tryd.ntmps13
    go_wp2
    (try simp only [Exit.inBlock, Exit.then])
    refine bodyPost_ret (results_row_tmp rfl _ _ w.heap.size _ _ _ _ rfl (heap_alloc_new w _) Tryd.underlying26 rfl (by kernel_rfl)) rfl ⟨?_, (Below.refl _ _).alloc (Nat.le_refl _) _⟩
    rw [HS.out]
    rfl
  · have h10 : 9 < bs.length := by omega
    have HS : Hid (readS bs = (zHV, 21)) := by show _ = _; unfold readS; rw [if_neg h9, if_pos h10]
    have h9' : ¬ (bs.length : Int) < 9 := by omega
    have h10' : (9 : Int) < bs.length := by omega
    obtain ⟨_, A, c, rfl, _⟩ := h
    generalize bs.length = n at *
    go_enter Tryd.func13, Tryd.ntmps13
    go_wp2
    (try simp only [Exit.inBlock, Exit.then])
    refine bodyPost_ret (results_row_tmp rfl _ _ w.heap.size _ _ _ _ rfl (heap_alloc_new w _) Tryd.underlying26 rfl (by kernel_rfl)) rfl ⟨?_, (Below.refl _ _).alloc (Nat.le_refl _) _⟩
    rw [HS.out]
    rfl

set_option maxHeartbeats 8000000 in
theorem read_w (w : World) (b o c : Nat) (b0 b1 b2 b3 b4 b5 b6 b7 b8 : Int) (r : Bool) (hb : b < w.heap.size)
    (e0 : w.cell? ⟨b, o, none⟩ = some (.int .u8 b0)) (e1 : w.cell? ⟨b, o + 1, none⟩ = some (.int .u8 b1)) (e2 : w.cell? ⟨b, o + 2, none⟩ = some (.int .u8 b2)) (e3 : w.cell? ⟨b, o + 3, none⟩ = some (.int .u8 b3)) (e4 : w.cell? ⟨b, o + 4, none⟩ = some (.int .u8 b4))
    (e5 : w.cell? ⟨b, o + 5, none⟩ = some (.int .u8 b5)) (e6 : w.cell? ⟨b, o + 6, none⟩ = some (.int .u8 b6)) (e7 : w.cell? ⟨b, o + 7, none⟩ = some (.int .u8 b7)) (e8 : w.cell? ⟨b, o + 8, none⟩ = some (.int .u8 b8))
    (l0 : 0 ≤ b0) (m0 : b0 ≤ 255) (l1 : 0 ≤ b1) (m1 : b1 ≤ 255) (l2 : 0 ≤ b2) (m2 : b2 ≤ 255) (l3 : 0 ≤ b3) (m3 : b3 ≤ 255) (l4 : 0 ≤ b4) (m4 : b4 ≤ 255) (l5 : 0 ≤ b5) (m5 : b5 ≤ 255) (l6 : 0 ≤ b6) (m6 : b6 ≤ 255) (l7 : 0 ≤ b7) (m7 : b7 ≤ 255) (l8 : 0 ≤ b8) (m8 : b8 ≤ 255)
    (C : Hid (∀ w, Calls Tryd.prog 9 #[.agg #[.int .i64 b0, .int .i64 b1, .int .i64 b2, .int .i64 b3, .int .i64 b4, .int .u32 (imS b5 b6 b7 b8)]] w fun e w' => e = .returned (.bool r) ∧ Below w.heap.size w w')) :
    Calls Tryd.prog 13 #[.slice (some ⟨b, o, none⟩) 9 c] w fun e w' => e = .returned (.tuple #[if r then .agg #[.int .i64 b0, .int .i64 b1, .int .i64 b2, .int .i64 b3, .int .i64 b4, .int .u32 (imS b5 b6 b7 b8)] else zHV.val, .int .i64 (if r then 0 else 21)]) ∧ Below w.heap.size w w' := by
  obtain ⟨q1, q2, q3⟩ := im_or b5 b6 b7 b8 l5 m5 l6 m6 l7 m7 l8 m8
  have hb1 : b ≠ w.heap.size := by omega
  have HQ : Hid ((IntKind.i64.wrap b0 = b0 ∧ IntKind.i64.wrap b1 = b1 ∧ IntKind.i64.wrap b2 = b2 ∧ IntKind.i64.wrap b3 = b3 ∧ IntKind.i64.wrap b4 = b4) ∧ (IntKind.u32.wrap b5 = b5 ∧ IntKind.u32.wrap b6 = b6 ∧ IntKind.u32.wrap b7 = b7 ∧ IntKind.u32.wrap b8 = b8) ∧ IntKind.u32.wrap (b6 * 256) = b6 * 256 ∧ IntKind.u32.wrap (b7 * 65536) = b7 * 65536 ∧ IntKind.u32.wrap (b8 * 16777216) = b8 * 16777216) := by
    simp only [IntKind.wrap_i64, IntKind.wrap_u32]
    refine ⟨⟨?_, ?_, ?_, ?_, ?_⟩, ⟨?_, ?_, ?_, ?_⟩, ?_, ?_, ?_⟩ <;> first | omega | (unfold wrap64; omega)
  have HI : Hid _ := And.intro q1 (And.intro q2 q3)
  clear q1 q2 q3 l0 l1 l2 l3 l4 l5 l6 l7 l8 m0 m1 m2 m3 m4 m5 m6 m7 m8
  go_enter Tryd.func13, Tryd.ntmps13
  go_wp2_with fail
  obtain ⟨W, hW⟩ : ∃ W, W = w.alloc (Obj.cells #[.int .i64 0, .int .i64 0, .int .i64 0, .int .i64 0, .int .i64 0, .int .u32 0] 26) := ⟨_, rfl⟩
  have hc : ∀ k, W.cell? ⟨b, k, none⟩ = w.cell? ⟨b, k, none⟩ := fun k => by rw [hW]; exact World.cell?_alloc_old _ _ _ hb1
  have HW : Hid (W.heap.size = w.heap.size + 1 ∧ At6 W w.heap.size 0 zHV ∧ (∀ j, W.frozen? ⟨w.heap.size, j, none⟩ = false) ∧ Below w.heap.size w W) := by
    rw [hW]
    exact ⟨alloc_size' _ _, At6.new w zHV 26, fun j => World.frozen?_alloc_at _ _ _ _ rfl, (Below.refl _ _).alloc (Nat.le_refl _) _⟩
  rw [← hW]
  rw [← hc] at e0 e1 e2 e3 e4 e5 e6 e7 e8
  have hb2 : b < W.heap.size := World.block_lt_of_cell? W _ e0
  clear hc hW hb
  go_region_held3 (fun w' => w'.cell? ⟨b, o, none⟩ = some (.int .u8 b0) ∧ w'.cell? ⟨b, o + 1, none⟩ = some (.int .u8 b1) ∧ w'.cell? ⟨b, o + 2, none⟩ = some (.int .u8 b2) ∧ w'.cell? ⟨b, o + 3, none⟩ = some (.int .u8 b3) ∧ w'.cell? ⟨b, o + 4, none⟩ = some (.int .u8 b4) ∧ w'.cell? ⟨b, o + 5, none⟩ = some (.int .u8 b5) ∧ w'.cell? ⟨b, o + 6, none⟩ = some (.int .u8 b6) ∧ w'.cell? ⟨b, o + 7, none⟩ = some (.int .u8 b7) ∧ w'.cell? ⟨b, o + 8, none⟩ = some (.int .u8 b8))
    (first | exact ⟨e0, e1, e2, e3, e4, e5, e6, e7, e8⟩ | go_keep)
    (fail)
  rename_i hS
  clear hS e0 e1 e2 e3 e4 e5 e6 e7 e8
  simp only [HQ.out.1.1, HQ.out.1.2.1, HQ.out.1.2.2.1, HQ.out.1.2.2.2.1, HQ.out.1.2.2.2.2, HQ.out.2.1.1, HQ.out.2.1.2.1, HQ.out.2.1.2.2.1, HQ.out.2.1.2.2.2, HQ.out.2.2.1, HQ.out.2.2.2.1, HQ.out.2.2.2.2, HI.out.1, HI.out.2.1, HI.out.2.2]
  obtain ⟨W2, hW2⟩ : ∃ W2, W2 = (W.alloc (Obj.cells #[.int .i64 b0, .int .i64 b1, .int .i64 b2, .int .i64 b3, .int .i64 b4, .int .u32 (imS b5 b6 b7 b8)] 26)).drew := ⟨_, rfl⟩
  have h62 : At6 W2 W.heap.size 0 ⟨b0, b1, b2, b3, b4, imS b5 b6 b7 b8⟩ := by rw [hW2]; exact At6.new W ⟨b0, b1, b2, b3, b4, imS b5 b6 b7 b8⟩ 26
  have hW2b : Below W.heap.size W W2 := by rw [hW2]; exact ((Below.refl _ _).alloc (Nat.le_refl _) _).drew
  rw [← hW2]
  have hz2 : At6 W2 w.heap.size 0 zHV := HW.out.2.1.below hW2b (by rw [HW.out.1]; omega)
  have hf2 : ∀ j, W2.frozen? ⟨w.heap.size, j, none⟩ = false := fun j => (hW2b.frozen (by rw [HW.out.1]; exact Nat.lt_succ_self _)).trans (HW.out.2.2.1 j)
  have hs2 : w.heap.size < W.heap.size ∧ W.heap.size < W2.heap.size := ⟨by rw [HW.out.1]; omega, h62.lt⟩
  have HB2 : Hid (Below w.heap.size w W2) := HW.out.2.2.2.trans (hW2b.mono (Nat.le_of_lt hs2.1))
  have hne : ¬ W.heap.size = w.heap.size := by omega
  have hne' : ¬ w.heap.size = W.heap.size := by omega
  clear hW2 hW2b HQ HI HW
  have H62 : Hid (At6 W2 W.heap.size 0 ⟨b0, b1, b2, b3, b4, imS b5 b6 b7 b8⟩) := h62
  have HZ2 : Hid (At6 W2 w.heap.size 0 zHV) := hz2
  have HF2 : Hid (∀ j, W2.frozen? ⟨w.heap.size, j, none⟩ = false) := hf2
  have HS2 : Hid (w.heap.size < W.heap.size ∧ W.heap.size < W2.heap.size) := hs2
  obtain ⟨g0, g1, g2, g3, g4, g5⟩ := h62
  simp only [Nat.zero_add] at g0 g1 g2 g3 g4 g5
  clear hz2 hf2 hs2 hb1 hb2
  cases r
  · go_wp2_with fail
    refine (C.out _).mono ?_
    rintro e w1 ⟨rfl, hw1⟩
    obtain ⟨c0, c1, c2, c3, c4, c5⟩ := H62.out.below hw1 HS2.out.2
    obtain ⟨d0, d1, d2, d3, d4, d5⟩ := HZ2.out.below hw1 (Nat.lt_trans HS2.out.1 HS2.out.2)
    have fz : ∀ j, w1.frozen? ⟨w.heap.size, j, none⟩ = false := fun j => (hw1.frozen (Nat.lt_trans HS2.out.1 HS2.out.2)).trans (HF2.out j)
    simp only [Nat.zero_add, zHV] at c0 c1 c2 c3 c4 c5 d0 d1 d2 d3 d4 d5
    have HB : Hid (Below w.heap.size w w1) := HB2.out.trans (hw1.mono (Nat.le_of_lt (Nat.lt_trans HS2.out.1 HS2.out.2)))
    clear hw1 C H62 HZ2 HF2 HB2 g0 g1 g2 g3 g4 g5
    go_wp2
    (try simp only [Exit.inBlock, Exit.then])
    refine bodyPost_ret (v := .tuple #[.agg #[.int .i64 0, .int .i64 0, .int .i64 0, .int .i64 0, .int .i64 0, .int .u32 0], .int .i64 21]) ?_ rfl ⟨rfl, ?_⟩
    · rw [results_cell_tmp rfl]
      go_simp
    · exact ((((((HB.out.setCell (Nat.le_refl _) _).setCell (Nat.le_refl _) _).setCell (Nat.le_refl _) _).setCell (Nat.le_refl _) _).setCell (Nat.le_refl _) _).setCell (Nat.le_refl _) _)
  · go_wp2_with fail
    refine (C.out _).mono ?_
    rintro e w1 ⟨rfl, hw1⟩
    obtain ⟨c0, c1, c2, c3, c4, c5⟩ := H62.out.below hw1 HS2.out.2
    obtain ⟨d0, d1, d2, d3, d4, d5⟩ := HZ2.out.below hw1 (Nat.lt_trans HS2.out.1 HS2.out.2)
    have fz : ∀ j, w1.frozen? ⟨w.heap.size, j, none⟩ = false := fun j => (hw1.frozen (Nat.lt_trans HS2.out.1 HS2.out.2)).trans (HF2.out j)
    simp only [Nat.zero_add, zHV] at c0 c1 c2 c3 c4 c5 d0 d1 d2 d3 d4 d5
    have HB : Hid (Below w.heap.size w w1) := HB2.out.trans (hw1.mono (Nat.le_of_lt (Nat.lt_trans HS2.out.1 HS2.out.2)))
    clear hw1 C H62 HZ2 HF2 HB2 g0 g1 g2 g3 g4 g5
    go_wp2
    (try simp only [Exit.inBlock, Exit.then])
    refine bodyPost_ret (v := .tuple #[.agg #[.int .i64 b0, .int .i64 b1, .int .i64 b2, .int .i64 b3, .int .i64 b4, .int .u32 (imS b5 b6 b7 b8)], .int .i64 0]) ?_ rfl ⟨rfl, ?_⟩
    · rw [results_cell_tmp rfl]
      go_simp
    · exact ((((((HB.out.setCell (Nat.le_refl _) _).setCell (Nat.le_refl _) _).setCell (Nat.le_refl _) _).setCell (Nat.le_refl _) _).setCell (Nat.le_refl _) _).setCell (Nat.le_refl _) _)

theorem read_c (v : Value) (bs : List Int) (S : Nat → Prop) (w : World) (h : BL w S v bs) (hn : (bs.length : Int) ≤ 9223372036854775807) : Calls Tryd.prog 13 #[v] w fun e w' => ReadPost w bs e w' := by
  by_cases h9 : bs.length = 9
  · obtain ⟨b, o, c, rfl, hb, hc⟩ := h.nine (by omega)
    have k : ∀ j, j < 9 → _ := fun j hj => hc j (by omega)
    have q := read_w w b o c _ _ _ _ _ _ _ _ _ (rightS (ofNine bs)) hb (k 0 (by decide)).1 (k 1 (by decide)).1 (k 2 (by decide)).1 (k 3 (by decide)).1 (k 4 (by decide)).1 (k 5 (by decide)).1 (k 6 (by decide)).1 (k 7 (by decide)).1 (k 8 (by decide)).1
      (k 0 (by decide)).2.1 (k 0 (by decide)).2.2 (k 1 (by decide)).2.1 (k 1 (by decide)).2.2 (k 2 (by decide)).2.1 (k 2 (by decide)).2.2 (k 3 (by decide)).2.1 (k 3 (by decide)).2.2 (k 4 (by decide)).2.1 (k 4 (by decide)).2.2 (k 5 (by decide)).2.1 (k 5 (by decide)).2.2 (k 6 (by decide)).2.1 (k 6 (by decide)).2.2 (k 7 (by decide)).2.1 (k 7 (by decide)).2.2 (k 8 (by decide)).2.1 (k 8 (by decide)).2.2
      (fun w => right_c (ofNine bs) w)
    rw [h9]
    refine q.mono ?_
    rintro e w' ⟨rfl, hb⟩
    refine ⟨?_, hb⟩
    have hs : readS bs = if rightS (ofNine bs) then (ofNine bs, 0) else (zHV, 21) := by unfold readS; rw [if_neg (by omega), if_neg (by omega)]
    rw [hs]
    cases rightS (ofNine bs) <;> rfl
  · exact read_odd v bs S w h hn h9
end Go.Proofs.YtklhnaineeleoaaDoor
