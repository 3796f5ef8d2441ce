/- HostReads, walked. -/
import Derived.Test.YtklhnaineeleoaaDoorHstR
namespace Go.Proofs.YtklhnaineeleoaaDoor
open Go.ChangeShapes Go.WideShapes Go.ChangeAt Go.RowKit
set_option linter.unusedVariables false
set_option linter.unusedSimpArgs false

set_option maxHeartbeats 16000000 in
theorem reads_w (A : Option Addr) (n cc : Nat) (bs : List Int) (o d a b c v at_ x op D E B C : Int) (p : Nat) (o1 : 0 ≤ o) (o2 : o ≤ 255) (d1 : 0 ≤ d) (d2 : d ≤ 255) (a1 : 0 ≤ a) (a2 : a ≤ 255) (b1 : 0 ≤ b) (b2 : b ≤ 255) (c1 : 0 ≤ c) (c2 : c ≤ 255) (v1 : 0 ≤ v) (v2 : v ≤ 4294967295) (t1 : 0 ≤ at_) (t2 : at_ ≤ 255) (x1 : 0 ≤ x) (x2 : x ≤ 255)
    (eop : o % 32 + 1 = op) (eD : d % 33 = D) (eE : a % 33 = E) (eB : b % 33 = B) (eC : c % 33 = C) (ep : at_ % 9 = (p : Int)) (w : World) (hT : LT w) (hn : n ≤ 30) (hbl : BL w (fun b => b < w.heap.size) (.slice A n cc) bs) :
    Calls Tryd.prog 5 #[.slice A n cc, .int .u8 o, .int .u8 d, .int .u8 a, .int .u8 b, .int .u8 c, .int .u32 v, .int .u8 at_, .int .u8 x] w fun e w' => e = .returned (.bool true) ∧ Below w.heap.size w w' := by
  obtain ⟨i0, hi, hz0, hz1, hz2⟩ := info_parts infoByte
  have K : Hid _ := known_c w hT
  have HL : Hid (BL w (fun b => b < w.heap.size) (.slice A n cc) bs) := hbl
  have hn' : ¬ (30 : Int) < n := by omega
  have p0 : (0 : Int) ≤ (p : Int) := by omega
  have p9 : (p : Int) < 9 := by omega
  have p9' : (p : Int) ≤ 9 := by omega
  clear hT hbl
  go_enter Tryd.func5, Tryd.ntmps5
  go_wp2_with fail
  refine Calls.mono K.out ?_
  rintro e w1 ⟨rfl, hw1⟩
  have HB1 : Hid (Below w.heap.size w w1) := hw1
  clear hw1 K
  go_wp2_with (first
    | (at_builtin; refine wpList_append_own _ rfl _ _ 29 rfl (w1.heap.size + 1) 5 i0 (.int .u8 0) 1 1 Tryd.underlying29 hi hz0 hz1 hz2 rfl (by decide) _ 0 [] rfl (World.ownsRow_nil _ _ _ _) ⟨w1.heap.size, 0, none⟩ 9 9 (cb (lS op D E B C v)) rfl rfl (l_news w1 op D E B C v) (cb_one _) (by decide) (by decide) (by rw [alloc_size']; exact Nat.le_refl _) ?_)
    | fail)
  intro v3 w3 ho3 hg3 _
  obtain ⟨gm, cap, rfl, hgb, hgl⟩ := ho3.form (by decide)
  have HO3 : Hid (w3.ownsRow (w1.heap.size + 1) 5 1 (.slice (some ⟨gm, 0, none⟩) 9 cap) 9 (cb (lS op D E B C v))) := ho3
  have HB3 : Hid (Below (w1.heap.size + 1) (w1.alloc (Obj.cells (cb (lS op D E B C v)).toArray 5)) w3) := Below.grown (Below.refl _ _) hg3 (by rw [alloc_size']; exact Nat.le_refl _) (fun k hk => by cases hk)
  obtain ⟨y, hy⟩ : ∃ y, (lS op D E B C v)[p]? = some y := ⟨(lS op D E B C v)[p]'(by show p < 9; omega), List.getElem?_eq_getElem _⟩
  have cm : w3.cell? ⟨gm, p, none⟩ = some (.int .u8 y) := by rw [HO3.out.cellAt p (by omega), cb_at, hy]; rfl
  have fm : ∀ j, w3.frozen? ⟨gm, j, none⟩ = false := fun j => HO3.out.frozenAt j
  clear ho3 hg3 hy hi hz0 hz1 hz2
  go_wp2_with fail
  have HO4 : Hid ((w3.setCell ⟨gm, p, none⟩ (.int .u8 x)).ownsRow (w1.heap.size + 1) 5 1 (.slice (some ⟨gm, 0, none⟩) 9 cap) 9 (cb ((lS op D E B C v).set p x))) := by
    have h := (HO3.out.stored p (.int .u8 x)).1
    rw [cb_set] at h
    exact h
  have HB4 : Hid (Below (w1.heap.size + 1) (w1.alloc (Obj.cells (cb (lS op D E B C v)).toArray 5)) (w3.setCell ⟨gm, p, none⟩ (.int .u8 x))) := HB3.out.setCell hgb _
  have HOL : Hid (okB (lS op D E B C v)) := l_ok (by omega) (by omega) (by omega) (by omega) (by omega) ⟨v1, v2⟩
  have HBA : Hid (Below w.heap.size w (w1.alloc (Obj.cells (cb (lS op D E B C v)).toArray 5))) := HB1.out.alloc HB1.out.size _
  have hs1 := HB1.out.size
  have HLr : Hid (BL (w3.setCell ⟨gm, p, none⟩ (.int .u8 x)) (fun b => b < w1.heap.size + 1) (.slice A n cc) bs) := by
    refine BL.mono (S := fun b => b < w.heap.size) ?_ (fun b hb => by omega)
    exact (BL.kept HL.out (fun b hb _ => HBA.out.block b hb)).kept (fun b hb _ => HB4.out.block b (by omega))
  have HLl : Hid (BL (w3.setCell ⟨gm, p, none⟩ (.int .u8 x)) (fun b => b < w1.heap.size + 1) (.slice (some ⟨w1.heap.size, 0, none⟩) 9 9) (lS op D E B C v)) := by
    refine BL.mono (S := fun b => b = w1.heap.size) ?_ (fun b hb => by omega)
    exact (BL.lit w1 (lS op D E B C v) HOL.out (by show (9 : Nat) ≤ _; decide)).kept (fun b hb _ => HB4.out.block b (by omega))
  have HBW : Hid (Below w.heap.size w (w3.setCell ⟨gm, p, none⟩ (.int .u8 x))) := HBA.out.trans (HB4.out.mono (by omega))
  have hs4 : w1.heap.size + 1 ≤ (w3.setCell ⟨gm, p, none⟩ (.int .u8 x)).heap.size := by have := HB4.out.size; rw [alloc_size'] at this; exact this
  generalize w3.setCell ⟨gm, p, none⟩ (.int .u8 x) = W4 at *
  clear HB1 HB3 HO3 cm fm HBA HL
  have hbn : bs.length = n := by
    obtain ⟨_, A', c', h1, _⟩ := HLr.out
    simp only [Value.slice.injEq] at h1
    exact h1.2.1.symm
  have m1 : at_.tmod 9 = (p : Int) := by rw [Int.tmod_eq_emod_of_nonneg t1]; exact ep
  have m2 : o.tmod 32 = o % 32 := Int.tmod_eq_emod_of_nonneg o1
  have m3 : d.tmod 33 = D := by rw [Int.tmod_eq_emod_of_nonneg d1]; exact eD
  have m4 : a.tmod 33 = E := by rw [Int.tmod_eq_emod_of_nonneg a1]; exact eE
  have m5 : IntKind.u8.wrap op = op := by rw [IntKind.wrap_u8, ← eop]; omega
  go_region_held3 (fun _ => True) (trivial)
    (first
      | (refine step_append_bl (by rfl) _ _ (by rfl) (w1.heap.size + 1) gm 9 cap (cb ((lS op D E B C v).set p x)) (by rfl) (by first | exact HO4.out | exact HO4.out.alloc _) (fun b => b < w1.heap.size + 1) (.slice A n cc) bs (by rfl) (by first | exact HLr.out | exact BL.below HLr.out (((Below.refl _ _).alloc (Nat.le_refl _) _).drew)) n hbn (by decide) (by omega) (by first | exact hs4 | exact Nat.le_trans hs4 (Below.size (((Below.refl W4.heap.size W4).alloc (Nat.le_refl _) _).drew))) ?_; intro g5 cap5 w5 ho5 hg5 hk5))
  all_goals
    clear m1 m2 m3 m4 m5
  · have hbo : Below (w1.heap.size + 1) W4 W4.drew := (Below.refl _ _).drew
    have hb5 : Below (w1.heap.size + 1) W4 w5 := Below.grown hbo hg5 hs4 (fun k hk => by cases hk; exact hgb)
    obtain ⟨w6, hw6⟩ : ∃ w6, w6 = w5.alloc (Obj.cells (cb [op, D, E, 0, 0, 0, 0, 0, 0]).toArray 5) := ⟨_, rfl⟩
    have hb6 : Below w5.heap.size w5 w6 := by rw [hw6]; exact (Below.refl _ _).alloc (Nat.le_refl _) _
    have e0 : BL w6 (fun _ => True) (.slice A n cc) bs := ((BL.kept HLr.out (fun b hb _ => hb5.block b hb)).mono fun _ _ => trivial).below hb6
    have e1 : BL w6 (fun _ => True) (.slice (some ⟨w1.heap.size, 0, none⟩) 9 9) (lS op D E B C v) := ((BL.kept HLl.out (fun b hb _ => hb5.block b hb)).mono fun _ _ => trivial).below hb6
    have okm : okB ((lS op D E B C v).set p x) := okB_set HOL.out ⟨x1, x2⟩
    have m4 : BL W4 (fun _ => True) (.slice (some ⟨gm, 0, none⟩) 9 cap) ((lS op D E B C v).set p x) := (BL.own okm (by simpa [lS] using HO4.out)).mono fun _ _ => trivial
    have e2 : BL w6 (fun _ => True) (.slice (some ⟨gm, 0, none⟩) 9 cap) ((lS op D E B C v).set p x) := (m4.cells (w' := w5) (S' := fun _ => True) (fun j hj => hk5 j hj) trivial).below hb6
    have e4 : BL w6 (fun _ => True) (.slice (some ⟨g5, 0, none⟩) (9 + n) cap5) ((lS op D E B C v).set p x ++ bs) := by
      have hl : ((lS op D E B C v).set p x ++ bs).length = 9 + n := by simp [lS, hbn]
      have h := ho5
      rw [← cb_append, ← hl] at h
      rw [← hl]
      exact ((BL.own (okB_append okm HLr.out.1) h).mono fun _ _ => trivial).below hb6
    have ok9 : okB [op, D, E, 0, 0, 0, 0, 0, 0] := by
      intro y hy
      simp only [List.mem_cons, List.not_mem_nil, or_false] at hy
      omega
    have e5 : BL w6 (fun _ => True) (.slice (some ⟨w5.heap.size, 0, none⟩) 9 9) [op, D, E, 0, 0, 0, 0, 0, 0] := by
      rw [hw6]
      exact (BL.lit w5 [op, D, E, 0, 0, 0, 0, 0, 0] ok9 (by show (9 : Nat) ≤ _; decide)).mono fun _ _ => trivial
    have h6 := six_at e0 e1 e2 (e1.pre p (by omega)) e4 e5 (by omega) (by show (9 : Nat) ≤ 39; decide) (by simp [lS]) (by simp [lS]; omega) (by simp [lS]; omega) (by show (9 : Nat) ≤ 39; decide)
    have hz6 : w6.heap.size = w5.heap.size + 1 := by rw [hw6, alloc_size']
    obtain ⟨W, hW⟩ : ∃ W, W = ((w5.alloc (Obj.cells (cb [op, D, E, 0, 0, 0, 0, 0, 0]).toArray 5)).alloc (Obj.cells #[.slice A n cc, .slice (some ⟨w1.heap.size, 0, none⟩) 9 9, .slice (some ⟨gm, 0, none⟩) 9 cap, .slice (some ⟨w1.heap.size, 0, none⟩) p 9, .slice (some ⟨g5, 0, none⟩) (9 + n) cap5, .slice (some ⟨w5.heap.size, 0, none⟩) 9 9] 29)) := ⟨_, rfl⟩
    obtain ⟨V, Y, hV⟩ : ∃ V Y, SixAt W (w5.heap.size + 1) V Y := ⟨_, _, by rw [hW, ← hw6, ← hz6]; exact h6⟩
    have HBE : Hid (Below w.heap.size w W) := by
      have h0 : Below w.heap.size w w5 := HBW.out.trans (hb5.mono (by omega))
      show Below _ _ _
      rw [hW]
      exact (h0.alloc h0.size _).alloc (by rw [alloc_size']; exact Nat.le_succ_of_le h0.size) _
    simp only [cb, List.map_cons, List.map_nil] at hW
    rw [← hW]
    generalize w5.heap.size + 1 = go at *
    have HS : Hid (SixAt W go V Y) := hV
    clear hV hW h6 e0 e1 e2 e4 e5 okm m4 ok9 hbo hb5 hk5 hg5 ho5 HLr HLl HO4 HB4 HBW HOL hz6 hw6 hb6
    go_wp2_with fail
    go_loopw [82] (fun i wr => sixRel W i wr) (fun i _ => 6 - (intOf i).toNat)
    case atStart => exact ⟨0, by decide, rfl, Below.refl _ _⟩
    case round =>
      obtain ⟨k, hk, rfl, hb⟩ := hrel
      have HB : Hid (Below W.heap.size W wr) := hb
      by_cases hk6 : k < 6
      · have hk' : (k : Int) < 6 := by omega
        have hk0 : (0 : Int) ≤ (k : Int) := by omega
        obtain ⟨hc, hbl, hlen⟩ := HS.out k hk6
        have f0 : wr.cell? ⟨go, k, none⟩ = some (V k) := (hb.cell (World.block_lt_of_cell? W _ hc)).trans hc
        have C1 : Hid (∀ w6, Below W.heap.size W w6 → Calls Tryd.prog 13 #[V k] w6 fun e w' => e = .returned (.tuple #[(readS (Y k)).1.val, .int .i64 (readS (Y k)).2]) ∧ Below w6.heap.size w6 w' ∧ Below W.heap.size W w') := fun w6 hb6 => (read_c _ _ _ w6 (hbl.below hb6) (by omega)).mono fun e w' ⟨h1, h2⟩ => ⟨h1, h2, hb6.trans (h2.mono hb6.size)⟩
        have C2 : Hid (∀ w6, Below W.heap.size W w6 → Calls Tryd.prog 14 #[V k] w6 fun e w' => e = .returned (.tuple #[(readS (Y k)).1.val, .int .i64 (readS (Y k)).2]) ∧ Below w6.heap.size w6 w' ∧ Below W.heap.size W w') := fun w6 hb6 => (rread_c _ _ _ w6 (hbl.below hb6) (by omega)).mono fun e w' ⟨h1, h2⟩ => ⟨h1, h2, hb6.trans (h2.mono hb6.size)⟩
        have CY : Hid (∀ w6, Below W.heap.size W w6 → (convert 29 9 (V k)).run Tryd.prog w6 = .ok (.string (strS (Y k))) w6) := fun w6 hb6 => (hbl.below hb6).str
        have HRC := read_cases hbl.1
        clear hc hbl hlen HS hb
        generalize V k = vk at *
        generalize Y k = yk at *
        rcases HRC with ⟨h, he, hr, hw, h9⟩ | he | he
        · have C3 : Hid (∀ (Wx w6 : World), Below Wx.heap.size Wx w6 → Calls Tryd.prog 11 #[h.val] w6 fun e w' => ∃ A c, e = .returned (.slice A 9 c) ∧ (convert 29 9 (.slice A 9 c)).run Tryd.prog w' = .ok (.string (strS yk)) w' ∧ Below Wx.heap.size Wx w') := fun Wx w6 hb6 => (put_c h hw w6).mono fun e w' hp => by
            unfold putS at hp
            rw [hr] at hp
            obtain ⟨A, c, rfl, ho, hb'⟩ := hp
            refine ⟨A, c, rfl, ?_, hb6.trans (hb'.mono hb6.size)⟩
            have h0 := (BL.own (nine_ok (right_small hr) hw) ho).str
            rw [← h9]
            exact h0
          rw [he] at C1 C2
          clear he hr hw h9
          obtain ⟨ho, hd, ha, hq, hc, hi⟩ := h
          simp only [HV.val] at C1 C2 C3
          go_wp2_with fail
          refine (C1.out _ HB.out).mono ?_
          rintro e wa ⟨rfl, hsa, hba⟩
          have HBa : Hid (Below W.heap.size W wa) := hba
          have HBa' : Hid (∀ o, Below W.heap.size W (wa.alloc o)) := fun o => hba.alloc hba.size o
          clear hsa hba C1 f0
          go_wp2_with fail
          refine (C2.out _ (HBa'.out _)).mono ?_
          rintro e wb ⟨rfl, hsb, hbb⟩
          have Hh : Hid (At6 wb wa.heap.size 0 ⟨ho, hd, ha, hq, hc, hi⟩) := (At6.new wa ⟨ho, hd, ha, hq, hc, hi⟩ 26).below hsb (by rw [alloc_size']; omega)
          have HBb : Hid (Below W.heap.size W wb) := hbb
          clear hsb hbb C2 HBa HBa'
          go_wp2_with fail
          obtain ⟨Wr, hWr⟩ : ∃ Wr, Wr = wb.alloc (Obj.cells #[Value.int IntKind.i64 ho, Value.int IntKind.i64 hd, Value.int IntKind.i64 ha, Value.int IntKind.i64 hq, Value.int IntKind.i64 hc, Value.int IntKind.u32 hi] 26) := ⟨_, rfl⟩
          have hwb : Below wb.heap.size wb Wr := by rw [hWr]; exact (Below.refl _ _).alloc (Nat.le_refl _) _
          have hh6 : At6 Wr wa.heap.size 0 ⟨ho, hd, ha, hq, hc, hi⟩ := Hh.out.below hwb Hh.out.lt
          have hw6 : At6 Wr wb.heap.size 0 ⟨ho, hd, ha, hq, hc, hi⟩ := by rw [hWr]; exact At6.new wb ⟨ho, hd, ha, hq, hc, hi⟩ 26
          have HBr : Hid (Below W.heap.size W Wr) := HBb.out.trans (hwb.mono HBb.out.size)
          rw [← hWr]
          have HLt : Hid (wa.heap.size < Wr.heap.size ∧ wb.heap.size < Wr.heap.size) := ⟨hh6.lt, hw6.lt⟩
          obtain ⟨x0, x1, x2, x3, x4, x5⟩ := hh6
          obtain ⟨z0, z1, z2, z3, z4, z5⟩ := hw6
          simp only [Nat.zero_add] at x0 x1 x2 x3 x4 x5 z0 z1 z2 z3 z4 z5
          clear hWr hwb Hh HBb
          go_region_held (fun w' => w'.cell? ⟨wa.heap.size, 0, none⟩ = some (.int .i64 ho) ∧ w'.cell? ⟨wa.heap.size, 1, none⟩ = some (.int .i64 hd) ∧ w'.cell? ⟨wa.heap.size, 2, none⟩ = some (.int .i64 ha) ∧ w'.cell? ⟨wa.heap.size, 3, none⟩ = some (.int .i64 hq) ∧ w'.cell? ⟨wa.heap.size, 4, none⟩ = some (.int .i64 hc) ∧ w'.cell? ⟨wa.heap.size, 5, none⟩ = some (.int .u32 hi) ∧ w'.cell? ⟨wb.heap.size, 0, none⟩ = some (.int .i64 ho) ∧ w'.cell? ⟨wb.heap.size, 1, none⟩ = some (.int .i64 hd) ∧ w'.cell? ⟨wb.heap.size, 2, none⟩ = some (.int .i64 ha) ∧ w'.cell? ⟨wb.heap.size, 3, none⟩ = some (.int .i64 hq) ∧ w'.cell? ⟨wb.heap.size, 4, none⟩ = some (.int .i64 hc) ∧ w'.cell? ⟨wb.heap.size, 5, none⟩ = some (.int .u32 hi) ∧ (convert 29 9 vk).run Tryd.prog w' = .ok (.string (strS yk)) w')
            (first
              | exact ⟨x0, x1, x2, x3, x4, x5, z0, z1, z2, z3, z4, z5, CY.out _ HBr.out.drew⟩
              | exact ⟨(hb8.cell HLt.out.1).trans x0, (hb8.cell HLt.out.1).trans x1, (hb8.cell HLt.out.1).trans x2, (hb8.cell HLt.out.1).trans x3, (hb8.cell HLt.out.1).trans x4, (hb8.cell HLt.out.1).trans x5, (hb8.cell HLt.out.2).trans z0, (hb8.cell HLt.out.2).trans z1, (hb8.cell HLt.out.2).trans z2, (hb8.cell HLt.out.2).trans z3, (hb8.cell HLt.out.2).trans z4, (hb8.cell HLt.out.2).trans z5, CY.out _ (HBr.out.trans (hb8.mono HBr.out.size))⟩
              | go_keep)
            (first
              | (go_at_call 11; refine (C3.out Wr _ ((Below.refl _ _).drew)).mono ?_; rintro e w8 ⟨A8, c8, rfl, hv8, hb8⟩))
          all_goals
            have HN : Hid (sixRel W (.int .i64 ((k : Int) + 1)) w8) := ⟨k + 1, hk6, by push_cast; rfl, HBr.out.trans (hb8.mono HBr.out.size)⟩
            clear x0 x1 x2 x3 x4 x5 z0 z1 z2 z3 z4 z5 CY
            go_wp2
            exact ⟨HN.out, by simp only [intOf]; omega⟩
        · rw [he] at C1 C2
          clear he
          simp only [HV.val, zHV] at C1 C2
          go_wp2_with fail
          refine (C1.out _ HB.out).mono ?_
          rintro e wa ⟨rfl, hsa, hba⟩
          have HBa : Hid (Below W.heap.size W wa) := hba
          have HBa' : Hid (∀ o, Below W.heap.size W (wa.alloc o)) := fun o => hba.alloc hba.size o
          clear hsa hba C1 f0
          go_wp2_with fail
          refine (C2.out _ (HBa'.out _)).mono ?_
          rintro e wb ⟨rfl, hsb, hbb⟩
          have Hh : Hid (At6 wb wa.heap.size 0 ⟨0, 0, 0, 0, 0, 0⟩) := (At6.new wa ⟨0, 0, 0, 0, 0, 0⟩ 26).below hsb (by rw [alloc_size']; omega)
          have HBb : Hid (Below W.heap.size W wb) := hbb
          clear hsb hbb C2 HBa HBa'
          go_wp2_with fail
          obtain ⟨Wr, hWr⟩ : ∃ Wr, Wr = wb.alloc (Obj.cells #[Value.int IntKind.i64 0, Value.int IntKind.i64 0, Value.int IntKind.i64 0, Value.int IntKind.i64 0, Value.int IntKind.i64 0, Value.int IntKind.u32 0] 26) := ⟨_, rfl⟩
          have hwb : Below wb.heap.size wb Wr := by rw [hWr]; exact (Below.refl _ _).alloc (Nat.le_refl _) _
          have hh6 : At6 Wr wa.heap.size 0 ⟨0, 0, 0, 0, 0, 0⟩ := Hh.out.below hwb Hh.out.lt
          have hw6 : At6 Wr wb.heap.size 0 ⟨0, 0, 0, 0, 0, 0⟩ := by rw [hWr]; exact At6.new wb ⟨0, 0, 0, 0, 0, 0⟩ 26
          have HBr : Hid (Below W.heap.size W Wr) := HBb.out.trans (hwb.mono HBb.out.size)
          rw [← hWr]
          have HLt : Hid (wa.heap.size < Wr.heap.size ∧ wb.heap.size < Wr.heap.size) := ⟨hh6.lt, hw6.lt⟩
          obtain ⟨x0, x1, x2, x3, x4, x5⟩ := hh6
          obtain ⟨z0, z1, z2, z3, z4, z5⟩ := hw6
          simp only [Nat.zero_add] at x0 x1 x2 x3 x4 x5 z0 z1 z2 z3 z4 z5
          clear hWr hwb Hh HBb
          clear HLt
          go_big_region
          all_goals
            have HN : Hid (sixRel W (.int .i64 ((k : Int) + 1)) Wr.drew) := ⟨k + 1, hk6, by push_cast; rfl, HBr.out.drew⟩
            clear x0 x1 x2 x3 x4 x5 z0 z1 z2 z3 z4 z5 CY
            go_wp2
            exact ⟨HN.out, by simp only [intOf]; omega⟩
        · rw [he] at C1 C2
          clear he
          simp only [HV.val, zHV] at C1 C2
          go_wp2_with fail
          refine (C1.out _ HB.out).mono ?_
          rintro e wa ⟨rfl, hsa, hba⟩
          have HBa : Hid (Below W.heap.size W wa) := hba
          have HBa' : Hid (∀ o, Below W.heap.size W (wa.alloc o)) := fun o => hba.alloc hba.size o
          clear hsa hba C1 f0
          go_wp2_with fail
          refine (C2.out _ (HBa'.out _)).mono ?_
          rintro e wb ⟨rfl, hsb, hbb⟩
          have Hh : Hid (At6 wb wa.heap.size 0 ⟨0, 0, 0, 0, 0, 0⟩) := (At6.new wa ⟨0, 0, 0, 0, 0, 0⟩ 26).below hsb (by rw [alloc_size']; omega)
          have HBb : Hid (Below W.heap.size W wb) := hbb
          clear hsb hbb C2 HBa HBa'
          go_wp2_with fail
          obtain ⟨Wr, hWr⟩ : ∃ Wr, Wr = wb.alloc (Obj.cells #[Value.int IntKind.i64 0, Value.int IntKind.i64 0, Value.int IntKind.i64 0, Value.int IntKind.i64 0, Value.int IntKind.i64 0, Value.int IntKind.u32 0] 26) := ⟨_, rfl⟩
          have hwb : Below wb.heap.size wb Wr := by rw [hWr]; exact (Below.refl _ _).alloc (Nat.le_refl _) _
          have hh6 : At6 Wr wa.heap.size 0 ⟨0, 0, 0, 0, 0, 0⟩ := Hh.out.below hwb Hh.out.lt
          have hw6 : At6 Wr wb.heap.size 0 ⟨0, 0, 0, 0, 0, 0⟩ := by rw [hWr]; exact At6.new wb ⟨0, 0, 0, 0, 0, 0⟩ 26
          have HBr : Hid (Below W.heap.size W Wr) := HBb.out.trans (hwb.mono HBb.out.size)
          rw [← hWr]
          have HLt : Hid (wa.heap.size < Wr.heap.size ∧ wb.heap.size < Wr.heap.size) := ⟨hh6.lt, hw6.lt⟩
          obtain ⟨x0, x1, x2, x3, x4, x5⟩ := hh6
          obtain ⟨z0, z1, z2, z3, z4, z5⟩ := hw6
          simp only [Nat.zero_add] at x0 x1 x2 x3 x4 x5 z0 z1 z2 z3 z4 z5
          clear hWr hwb Hh HBb
          clear HLt
          go_big_region
          all_goals
            have HN : Hid (sixRel W (.int .i64 ((k : Int) + 1)) Wr.drew) := ⟨k + 1, hk6, by push_cast; rfl, HBr.out.drew⟩
            clear x0 x1 x2 x3 x4 x5 z0 z1 z2 z3 z4 z5 CY
            go_wp2
            exact ⟨HN.out, by simp only [intOf]; omega⟩
      · have hk' : ¬ (k : Int) < 6 := by omega
        have HBB : Hid (Below w.heap.size w wr) := HBE.out.trans (HB.out.mono HBE.out.size)
        clear hb HS HB
        go_wp2
        go_ret
        exact ⟨rfl, HBB.out⟩
  · have hbo : Below (w1.heap.size + 1) W4 (W4.alloc (Obj.cells (cb [op, D, E, 0, 0, 0, 0, 0, 0]).toArray 5)).drew := ((Below.refl _ _).alloc hs4 _).drew
    have hb5 : Below (w1.heap.size + 1) W4 w5 := Below.grown hbo hg5 (Nat.le_trans hs4 (Below.size hbo)) (fun k hk => by cases hk; exact hgb)
    have e0 : BL w5 (fun _ => True) (.slice A n cc) bs := (BL.kept HLr.out (fun b hb _ => hb5.block b hb)).mono fun _ _ => trivial
    have e1 : BL w5 (fun _ => True) (.slice (some ⟨w1.heap.size, 0, none⟩) 9 9) (lS op D E B C v) := (BL.kept HLl.out (fun b hb _ => hb5.block b hb)).mono fun _ _ => trivial
    have okm : okB ((lS op D E B C v).set p x) := okB_set HOL.out ⟨x1, x2⟩
    have m4 : BL W4 (fun _ => True) (.slice (some ⟨gm, 0, none⟩) 9 cap) ((lS op D E B C v).set p x) := (BL.own okm (by simpa [lS] using HO4.out)).mono fun _ _ => trivial
    have gm4 : gm < W4.heap.size := (HO4.out.lt gm rfl).2
    have e2 : BL w5 (fun _ => True) (.slice (some ⟨gm, 0, none⟩) 9 cap) ((lS op D E B C v).set p x) := m4.cells (fun j hj => (hk5 j hj).trans (World.cell?_alloc_old W4 _ _ (Nat.ne_of_lt gm4))) trivial
    have e4 : BL w5 (fun _ => True) (.slice (some ⟨g5, 0, none⟩) (9 + n) cap5) ((lS op D E B C v).set p x ++ bs) := by
      have hl : ((lS op D E B C v).set p x ++ bs).length = 9 + n := by simp [lS, hbn]
      have h := ho5
      rw [← cb_append, ← hl] at h
      rw [← hl]
      exact (BL.own (okB_append okm HLr.out.1) h).mono fun _ _ => trivial
    have ok9 : okB [op, D, E, 0, 0, 0, 0, 0, 0] := by
      intro y hy
      simp only [List.mem_cons, List.not_mem_nil, or_false] at hy
      omega
    have e5 : BL w5 (fun _ => True) (.slice (some ⟨W4.heap.size, 0, none⟩) 9 9) [op, D, E, 0, 0, 0, 0, 0, 0] := by
      have h := BL.lit W4 [op, D, E, 0, 0, 0, 0, 0, 0] ok9 (by show (9 : Nat) ≤ _; decide)
      exact (BL.kept (w := (W4.alloc (Obj.cells (cb [op, D, E, 0, 0, 0, 0, 0, 0]).toArray 5)).drew) h (fun b hb hlt => hg5.block b hlt (by intro h; cases h; omega))).mono fun _ _ => trivial
    have h6 := six_at e0 e1 e2 (e1.pre p (by omega)) e4 e5 (by omega) (by show (9 : Nat) ≤ 39; decide) (by simp [lS]) (by simp [lS]; omega) (by simp [lS]; omega) (by show (9 : Nat) ≤ 39; decide)
    obtain ⟨W, hW⟩ : ∃ W, W = (w5.alloc (Obj.cells #[.slice A n cc, .slice (some ⟨w1.heap.size, 0, none⟩) 9 9, .slice (some ⟨gm, 0, none⟩) 9 cap, .slice (some ⟨w1.heap.size, 0, none⟩) p 9, .slice (some ⟨g5, 0, none⟩) (9 + n) cap5, .slice (some ⟨W4.heap.size, 0, none⟩) 9 9] 29)) := ⟨_, rfl⟩
    obtain ⟨V, Y, hV⟩ : ∃ V Y, SixAt W w5.heap.size V Y := ⟨_, _, by rw [hW]; exact h6⟩
    have HBE : Hid (Below w.heap.size w W) := by
      have h0 : Below w.heap.size w w5 := HBW.out.trans (hb5.mono (by omega))
      show Below _ _ _
      rw [hW]
      exact h0.alloc h0.size _
    rw [← hW]
    generalize w5.heap.size = go at *
    have HS : Hid (SixAt W go V Y) := hV
    clear hV hW h6 e0 e1 e2 e4 e5 okm m4 ok9 hbo hb5 hk5 hg5 ho5 HLr HLl HO4 HB4 HBW HOL gm4
    go_wp2_with fail
    go_loopw [82] (fun i wr => sixRel W i wr) (fun i _ => 6 - (intOf i).toNat)
    case atStart => exact ⟨0, by decide, rfl, Below.refl _ _⟩
    case round =>
      obtain ⟨k, hk, rfl, hb⟩ := hrel
      have HB : Hid (Below W.heap.size W wr) := hb
      by_cases hk6 : k < 6
      · have hk' : (k : Int) < 6 := by omega
        have hk0 : (0 : Int) ≤ (k : Int) := by omega
        obtain ⟨hc, hbl, hlen⟩ := HS.out k hk6
        have f0 : wr.cell? ⟨go, k, none⟩ = some (V k) := (hb.cell (World.block_lt_of_cell? W _ hc)).trans hc
        have C1 : Hid (∀ w6, Below W.heap.size W w6 → Calls Tryd.prog 13 #[V k] w6 fun e w' => e = .returned (.tuple #[(readS (Y k)).1.val, .int .i64 (readS (Y k)).2]) ∧ Below w6.heap.size w6 w' ∧ Below W.heap.size W w') := fun w6 hb6 => (read_c _ _ _ w6 (hbl.below hb6) (by omega)).mono fun e w' ⟨h1, h2⟩ => ⟨h1, h2, hb6.trans (h2.mono hb6.size)⟩
        have C2 : Hid (∀ w6, Below W.heap.size W w6 → Calls Tryd.prog 14 #[V k] w6 fun e w' => e = .returned (.tuple #[(readS (Y k)).1.val, .int .i64 (readS (Y k)).2]) ∧ Below w6.heap.size w6 w' ∧ Below W.heap.size W w') := fun w6 hb6 => (rread_c _ _ _ w6 (hbl.below hb6) (by omega)).mono fun e w' ⟨h1, h2⟩ => ⟨h1, h2, hb6.trans (h2.mono hb6.size)⟩
        have CY : Hid (∀ w6, Below W.heap.size W w6 → (convert 29 9 (V k)).run Tryd.prog w6 = .ok (.string (strS (Y k))) w6) := fun w6 hb6 => (hbl.below hb6).str
        have HRC := read_cases hbl.1
        clear hc hbl hlen HS hb
        generalize V k = vk at *
        generalize Y k = yk at *
        rcases HRC with ⟨h, he, hr, hw, h9⟩ | he | he
        · have C3 : Hid (∀ (Wx w6 : World), Below Wx.heap.size Wx w6 → Calls Tryd.prog 11 #[h.val] w6 fun e w' => ∃ A c, e = .returned (.slice A 9 c) ∧ (convert 29 9 (.slice A 9 c)).run Tryd.prog w' = .ok (.string (strS yk)) w' ∧ Below Wx.heap.size Wx w') := fun Wx w6 hb6 => (put_c h hw w6).mono fun e w' hp => by
            unfold putS at hp
            rw [hr] at hp
            obtain ⟨A, c, rfl, ho, hb'⟩ := hp
            refine ⟨A, c, rfl, ?_, hb6.trans (hb'.mono hb6.size)⟩
            have h0 := (BL.own (nine_ok (right_small hr) hw) ho).str
            rw [← h9]
            exact h0
          rw [he] at C1 C2
          clear he hr hw h9
          obtain ⟨ho, hd, ha, hq, hc, hi⟩ := h
          simp only [HV.val] at C1 C2 C3
          go_wp2_with fail
          refine (C1.out _ HB.out).mono ?_
          rintro e wa ⟨rfl, hsa, hba⟩
          have HBa : Hid (Below W.heap.size W wa) := hba
          have HBa' : Hid (∀ o, Below W.heap.size W (wa.alloc o)) := fun o => hba.alloc hba.size o
          clear hsa hba C1 f0
          go_wp2_with fail
          refine (C2.out _ (HBa'.out _)).mono ?_
          rintro e wb ⟨rfl, hsb, hbb⟩
          have Hh : Hid (At6 wb wa.heap.size 0 ⟨ho, hd, ha, hq, hc, hi⟩) := (At6.new wa ⟨ho, hd, ha, hq, hc, hi⟩ 26).below hsb (by rw [alloc_size']; omega)
          have HBb : Hid (Below W.heap.size W wb) := hbb
          clear hsb hbb C2 HBa HBa'
          go_wp2_with fail
          obtain ⟨Wr, hWr⟩ : ∃ Wr, Wr = wb.alloc (Obj.cells #[Value.int IntKind.i64 ho, Value.int IntKind.i64 hd, Value.int IntKind.i64 ha, Value.int IntKind.i64 hq, Value.int IntKind.i64 hc, Value.int IntKind.u32 hi] 26) := ⟨_, rfl⟩
          have hwb : Below wb.heap.size wb Wr := by rw [hWr]; exact (Below.refl _ _).alloc (Nat.le_refl _) _
          have hh6 : At6 Wr wa.heap.size 0 ⟨ho, hd, ha, hq, hc, hi⟩ := Hh.out.below hwb Hh.out.lt
          have hw6 : At6 Wr wb.heap.size 0 ⟨ho, hd, ha, hq, hc, hi⟩ := by rw [hWr]; exact At6.new wb ⟨ho, hd, ha, hq, hc, hi⟩ 26
          have HBr : Hid (Below W.heap.size W Wr) := HBb.out.trans (hwb.mono HBb.out.size)
          rw [← hWr]
          have HLt : Hid (wa.heap.size < Wr.heap.size ∧ wb.heap.size < Wr.heap.size) := ⟨hh6.lt, hw6.lt⟩
          obtain ⟨x0, x1, x2, x3, x4, x5⟩ := hh6
          obtain ⟨z0, z1, z2, z3, z4, z5⟩ := hw6
          simp only [Nat.zero_add] at x0 x1 x2 x3 x4 x5 z0 z1 z2 z3 z4 z5
          clear hWr hwb Hh HBb
          go_region_held (fun w' => w'.cell? ⟨wa.heap.size, 0, none⟩ = some (.int .i64 ho) ∧ w'.cell? ⟨wa.heap.size, 1, none⟩ = some (.int .i64 hd) ∧ w'.cell? ⟨wa.heap.size, 2, none⟩ = some (.int .i64 ha) ∧ w'.cell? ⟨wa.heap.size, 3, none⟩ = some (.int .i64 hq) ∧ w'.cell? ⟨wa.heap.size, 4, none⟩ = some (.int .i64 hc) ∧ w'.cell? ⟨wa.heap.size, 5, none⟩ = some (.int .u32 hi) ∧ w'.cell? ⟨wb.heap.size, 0, none⟩ = some (.int .i64 ho) ∧ w'.cell? ⟨wb.heap.size, 1, none⟩ = some (.int .i64 hd) ∧ w'.cell? ⟨wb.heap.size, 2, none⟩ = some (.int .i64 ha) ∧ w'.cell? ⟨wb.heap.size, 3, none⟩ = some (.int .i64 hq) ∧ w'.cell? ⟨wb.heap.size, 4, none⟩ = some (.int .i64 hc) ∧ w'.cell? ⟨wb.heap.size, 5, none⟩ = some (.int .u32 hi) ∧ (convert 29 9 vk).run Tryd.prog w' = .ok (.string (strS yk)) w')
            (first
              | exact ⟨x0, x1, x2, x3, x4, x5, z0, z1, z2, z3, z4, z5, CY.out _ HBr.out.drew⟩
              | exact ⟨(hb8.cell HLt.out.1).trans x0, (hb8.cell HLt.out.1).trans x1, (hb8.cell HLt.out.1).trans x2, (hb8.cell HLt.out.1).trans x3, (hb8.cell HLt.out.1).trans x4, (hb8.cell HLt.out.1).trans x5, (hb8.cell HLt.out.2).trans z0, (hb8.cell HLt.out.2).trans z1, (hb8.cell HLt.out.2).trans z2, (hb8.cell HLt.out.2).trans z3, (hb8.cell HLt.out.2).trans z4, (hb8.cell HLt.out.2).trans z5, CY.out _ (HBr.out.trans (hb8.mono HBr.out.size))⟩
              | go_keep)
            (first
              | (go_at_call 11; refine (C3.out Wr _ ((Below.refl _ _).drew)).mono ?_; rintro e w8 ⟨A8, c8, rfl, hv8, hb8⟩))
          all_goals
            have HN : Hid (sixRel W (.int .i64 ((k : Int) + 1)) w8) := ⟨k + 1, hk6, by push_cast; rfl, HBr.out.trans (hb8.mono HBr.out.size)⟩
            clear x0 x1 x2 x3 x4 x5 z0 z1 z2 z3 z4 z5 CY
            go_wp2
            exact ⟨HN.out, by simp only [intOf]; omega⟩
        · rw [he] at C1 C2
          clear he
          simp only [HV.val, zHV] at C1 C2
          go_wp2_with fail
          refine (C1.out _ HB.out).mono ?_
          rintro e wa ⟨rfl, hsa, hba⟩
          have HBa : Hid (Below W.heap.size W wa) := hba
          have HBa' : Hid (∀ o, Below W.heap.size W (wa.alloc o)) := fun o => hba.alloc hba.size o
          clear hsa hba C1 f0
          go_wp2_with fail
          refine (C2.out _ (HBa'.out _)).mono ?_
          rintro e wb ⟨rfl, hsb, hbb⟩
          have Hh : Hid (At6 wb wa.heap.size 0 ⟨0, 0, 0, 0, 0, 0⟩) := (At6.new wa ⟨0, 0, 0, 0, 0, 0⟩ 26).below hsb (by rw [alloc_size']; omega)
          have HBb : Hid (Below W.heap.size W wb) := hbb
          clear hsb hbb C2 HBa HBa'
          go_wp2_with fail
          obtain ⟨Wr, hWr⟩ : ∃ Wr, Wr = wb.alloc (Obj.cells #[Value.int IntKind.i64 0, Value.int IntKind.i64 0, Value.int IntKind.i64 0, Value.int IntKind.i64 0, Value.int IntKind.i64 0, Value.int IntKind.u32 0] 26) := ⟨_, rfl⟩
          have hwb : Below wb.heap.size wb Wr := by rw [hWr]; exact (Below.refl _ _).alloc (Nat.le_refl _) _
          have hh6 : At6 Wr wa.heap.size 0 ⟨0, 0, 0, 0, 0, 0⟩ := Hh.out.below hwb Hh.out.lt
          have hw6 : At6 Wr wb.heap.size 0 ⟨0, 0, 0, 0, 0, 0⟩ := by rw [hWr]; exact At6.new wb ⟨0, 0, 0, 0, 0, 0⟩ 26
          have HBr : Hid (Below W.heap.size W Wr) := HBb.out.trans (hwb.mono HBb.out.size)
          rw [← hWr]
          have HLt : Hid (wa.heap.size < Wr.heap.size ∧ wb.heap.size < Wr.heap.size) := ⟨hh6.lt, hw6.lt⟩
          obtain ⟨x0, x1, x2, x3, x4, x5⟩ := hh6
          obtain ⟨z0, z1, z2, z3, z4, z5⟩ := hw6
          simp only [Nat.zero_add] at x0 x1 x2 x3 x4 x5 z0 z1 z2 z3 z4 z5
          clear hWr hwb Hh HBb
          clear HLt
          go_big_region
          all_goals
            have HN : Hid (sixRel W (.int .i64 ((k : Int) + 1)) Wr.drew) := ⟨k + 1, hk6, by push_cast; rfl, HBr.out.drew⟩
            clear x0 x1 x2 x3 x4 x5 z0 z1 z2 z3 z4 z5 CY
            go_wp2
            exact ⟨HN.out, by simp only [intOf]; omega⟩
        · rw [he] at C1 C2
          clear he
          simp only [HV.val, zHV] at C1 C2
          go_wp2_with fail
          refine (C1.out _ HB.out).mono ?_
          rintro e wa ⟨rfl, hsa, hba⟩
          have HBa : Hid (Below W.heap.size W wa) := hba
          have HBa' : Hid (∀ o, Below W.heap.size W (wa.alloc o)) := fun o => hba.alloc hba.size o
          clear hsa hba C1 f0
          go_wp2_with fail
          refine (C2.out _ (HBa'.out _)).mono ?_
          rintro e wb ⟨rfl, hsb, hbb⟩
          have Hh : Hid (At6 wb wa.heap.size 0 ⟨0, 0, 0, 0, 0, 0⟩) := (At6.new wa ⟨0, 0, 0, 0, 0, 0⟩ 26).below hsb (by rw [alloc_size']; omega)
          have HBb : Hid (Below W.heap.size W wb) := hbb
          clear hsb hbb C2 HBa HBa'
          go_wp2_with fail
          obtain ⟨Wr, hWr⟩ : ∃ Wr, Wr = wb.alloc (Obj.cells #[Value.int IntKind.i64 0, Value.int IntKind.i64 0, Value.int IntKind.i64 0, Value.int IntKind.i64 0, Value.int IntKind.i64 0, Value.int IntKind.u32 0] 26) := ⟨_, rfl⟩
          have hwb : Below wb.heap.size wb Wr := by rw [hWr]; exact (Below.refl _ _).alloc (Nat.le_refl _) _
          have hh6 : At6 Wr wa.heap.size 0 ⟨0, 0, 0, 0, 0, 0⟩ := Hh.out.below hwb Hh.out.lt
          have hw6 : At6 Wr wb.heap.size 0 ⟨0, 0, 0, 0, 0, 0⟩ := by rw [hWr]; exact At6.new wb ⟨0, 0, 0, 0, 0, 0⟩ 26
          have HBr : Hid (Below W.heap.size W Wr) := HBb.out.trans (hwb.mono HBb.out.size)
          rw [← hWr]
          have HLt : Hid (wa.heap.size < Wr.heap.size ∧ wb.heap.size < Wr.heap.size) := ⟨hh6.lt, hw6.lt⟩
          obtain ⟨x0, x1, x2, x3, x4, x5⟩ := hh6
          obtain ⟨z0, z1, z2, z3, z4, z5⟩ := hw6
          simp only [Nat.zero_add] at x0 x1 x2 x3 x4 x5 z0 z1 z2 z3 z4 z5
          clear hWr hwb Hh HBb
          clear HLt
          go_big_region
          all_goals
            have HN : Hid (sixRel W (.int .i64 ((k : Int) + 1)) Wr.drew) := ⟨k + 1, hk6, by push_cast; rfl, HBr.out.drew⟩
            clear x0 x1 x2 x3 x4 x5 z0 z1 z2 z3 z4 z5 CY
            go_wp2
            exact ⟨HN.out, by simp only [intOf]; omega⟩
      · have hk' : ¬ (k : Int) < 6 := by omega
        have HBB : Hid (Below w.heap.size w wr) := HBE.out.trans (HB.out.mono HBE.out.size)
        clear hb HS HB
        go_wp2
        go_ret
        exact ⟨rfl, HBB.out⟩
end Go.Proofs.YtklhnaineeleoaaDoor
