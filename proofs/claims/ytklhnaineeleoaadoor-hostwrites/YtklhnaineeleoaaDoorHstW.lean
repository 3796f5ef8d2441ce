/- HostWrites, walked. -/
import Derived.Test.YtklhnaineeleoaaDoorHst8
import Derived.Test.YtklhnaineeleoaaDoorHst6
import Derived.Deep.RegionHeld
namespace Go.Proofs.YtklhnaineeleoaaDoor
open Go.ChangeShapes Go.WideShapes Go.ChangeAt Go.RowKit
set_option linter.unusedVariables false
set_option linter.unusedSimpArgs false

theorem of_nine {h : HV} (hw : h.wf) : ofNine (nineS h) = h := by
  obtain ⟨op, d, a, b, c, im⟩ := h
  unfold HV.wf at hw
  simp only at hw
  have e : imS (im % 256) (im / 256 % 256) (im / 65536 % 256) (im / 16777216) = im := by unfold imS; omega
  show HV.mk op d a b c (imS (im % 256) (im / 256 % 256) (im / 65536 % 256) (im / 16777216)) = _
  rw [e]
theorem read_nine {h : HV} (hw : h.wf) (hr : rightS h = true) : readS (nineS h) = (h, 0) := by
  unfold readS
  rw [if_neg (by show ¬ (9 : Nat) < 9; omega), if_neg (by show ¬ (9 : Nat) < 9; omega), of_nine hw, hr]
  rfl

def wElems (raw : HV) (op D A B C v t : Int) (k : Nat) : HV := match k with
  | 0 => raw
  | 1 => ⟨op, D, A, B, C, v⟩
  | 2 => ⟨op, D, A, 0, 0, 0⟩
  | 3 => ⟨op, D, A, B, 0, 0⟩
  | 4 => ⟨op, 0, 0, 0, 0, v⟩
  | 5 => ⟨op, 0, A, 0, 0, v⟩
  | 6 => ⟨op, 0, A, B, 0, v⟩
  | 7 => ⟨op, D, A, 0, 0, v⟩
  | 8 => ⟨op, D, 0, 0, 0, v⟩
  | 9 => ⟨op, 0, 0, 0, 0, 0⟩
  | 10 => ⟨31, 0, 0, 0, 0, t⟩
  | _ => ⟨op, D, A, B, C, 0⟩

theorem wElems_wf (raw : HV) (op D A B C v t : Int) (hraw : raw.wf) (hv : 0 ≤ v ∧ v ≤ 4294967295) (ht : 0 ≤ t ∧ t ≤ 4294967295) (k : Nat) : (wElems raw op D A B C v t k).wf := by
  match k with
  | 0 => exact hraw
  | 1 => exact hv
  | 2 => exact ⟨Int.le_refl _, by show (0 : Int) ≤ _; decide⟩
  | 3 => exact ⟨Int.le_refl _, by show (0 : Int) ≤ _; decide⟩
  | 4 => exact hv
  | 5 => exact hv
  | 6 => exact hv
  | 7 => exact hv
  | 8 => exact hv
  | 9 => exact ⟨Int.le_refl _, by show (0 : Int) ≤ _; decide⟩
  | 10 => exact ht
  | _ + 11 => exact ⟨Int.le_refl _, by show (0 : Int) ≤ _; decide⟩

/-- A contract's world behind it: bytes that are a string, in every world that follows. -/
def PutStr (W w6 : World) (n : Nat) (s : ByteArray) (e : Ending) (w' : World) : Prop :=
  ∃ A c, e = .returned (.slice A n c) ∧ (∀ wx, Below w'.heap.size w' wx → (convert 29 9 (.slice A n c)).run Tryd.prog wx = .ok (.string s) wx) ∧ Below w'.heap.size w' w' ∧ Below w6.heap.size w6 w' ∧ Below W.heap.size W w'
theorem putStr_of {W w6 : World} {h : HV} (hw : h.wf) (hb : Below W.heap.size W w6) {e : Ending} {w' : World} (hp : OwnPost w6 (putS h) e w') : PutStr W w6 (putS h).length (strS (putS h)) e w' := by
  obtain ⟨A, c, rfl, ho, hb'⟩ := hp
  refine ⟨A, c, rfl, fun wx hx => ?_, Below.refl _ _, hb', hb.trans (hb'.mono hb.size)⟩
  exact ((BL.own (put_ok hw) ho).below hx).str

def wrRel (W : World) (i : Value) (wr : World) : Prop := ∃ k : Nat, k ≤ 12 ∧ i = .int .i64 k ∧ Below W.heap.size W wr

set_option maxHeartbeats 4000000 in
theorem writes_w (raw : HV) (o d a b c v op D A B C t : Int) (hraw : raw.wf) (o1 : 0 ≤ o) (o2 : o ≤ 255) (d1 : 0 ≤ d) (d2 : d ≤ 255) (a1 : 0 ≤ a) (a2 : a ≤ 255) (b1 : 0 ≤ b) (b2 : b ≤ 255) (c1 : 0 ≤ c) (c2 : c ≤ 255) (v1 : 0 ≤ v) (v2 : v ≤ 4294967295)
    (eop : o % 32 + 1 = op) (eD : d % 34 = D) (eA : a % 34 = A) (eB : b % 34 = B) (eC : c % 34 = C) (et : v % 110 = t) (w : World) (hT : LT w) :
    Calls Tryd.prog 4 #[raw.val, .int .u8 o, .int .u8 d, .int .u8 a, .int .u8 b, .int .u8 c, .int .u32 v] w fun e w' => e = .returned (.bool true) ∧ Below w.heap.size w w' := by
  have K : Hid (∀ w1, Below w.heap.size w w1 → _) := fun w1 hb => known_c w1 (hT.next hb)
  clear hT
  obtain ⟨ro, rd, ra, rb, rc, ri⟩ := raw
  simp only [HV.val] at *
  go_enter Tryd.func4, Tryd.ntmps4
  go_wp2_with fail
  refine (K.out _ ((Below.refl _ _).alloc (Nat.le_refl _) _)).mono ?_
  rintro e w1 ⟨rfl, hw1⟩
  obtain ⟨r0, r1, r2, r3, r4, r5⟩ := (At6.new w ⟨ro, rd, ra, rb, rc, ri⟩ 26).below hw1 (by simp [alloc_size'])
  simp only [Nat.zero_add] at r0 r1 r2 r3 r4 r5
  have hlt : w.heap.size < w1.heap.size := World.block_lt_of_cell? w1 _ r0
  have three : ∀ o1 o2 o3 k, (((w1.alloc o1).alloc o2).alloc o3).cell? ⟨w.heap.size, k, none⟩ = w1.cell? ⟨w.heap.size, k, none⟩ := fun o1 o2 o3 k => by
    rw [World.cell?_alloc_old _ _ _ (by simp [alloc_size']; omega), World.cell?_alloc_old _ _ _ (by simp [alloc_size']; omega), World.cell?_alloc_old _ _ _ (Nat.ne_of_lt hlt)]
  have s0 : ∀ o1 o2 o3, (((w1.alloc o1).alloc o2).alloc o3).cell? ⟨w.heap.size, 0, none⟩ = some (.int .i64 ro) := fun o1 o2 o3 => (three o1 o2 o3 0).trans r0
  have s1 : ∀ o1 o2 o3, (((w1.alloc o1).alloc o2).alloc o3).cell? ⟨w.heap.size, 1, none⟩ = some (.int .i64 rd) := fun o1 o2 o3 => (three o1 o2 o3 1).trans r1
  have s2 : ∀ o1 o2 o3, (((w1.alloc o1).alloc o2).alloc o3).cell? ⟨w.heap.size, 2, none⟩ = some (.int .i64 ra) := fun o1 o2 o3 => (three o1 o2 o3 2).trans r2
  have s3 : ∀ o1 o2 o3, (((w1.alloc o1).alloc o2).alloc o3).cell? ⟨w.heap.size, 3, none⟩ = some (.int .i64 rb) := fun o1 o2 o3 => (three o1 o2 o3 3).trans r3
  have s4 : ∀ o1 o2 o3, (((w1.alloc o1).alloc o2).alloc o3).cell? ⟨w.heap.size, 4, none⟩ = some (.int .i64 rc) := fun o1 o2 o3 => (three o1 o2 o3 4).trans r4
  have s5 : ∀ o1 o2 o3, (((w1.alloc o1).alloc o2).alloc o3).cell? ⟨w.heap.size, 5, none⟩ = some (.int .u32 ri) := fun o1 o2 o3 => (three o1 o2 o3 5).trans r5
  have HB1 : Hid (Below w.heap.size w w1) := ((Below.refl _ _).alloc (Nat.le_refl _) _).trans (hw1.mono (by simp [alloc_size']))
  clear hw1 K three r0 r1 r2 r3 r4 r5
  go_wp2_with fail
  obtain ⟨W0, hW0⟩ : ∃ W0, W0 = ((w1.alloc (Obj.cells #[Value.int IntKind.i64 op, Value.int IntKind.i64 D, Value.int IntKind.i64 A, Value.int IntKind.i64 B, Value.int IntKind.i64 C, Value.int IntKind.u32 v] 26)).alloc (Obj.cells #[Value.int IntKind.i64 op, Value.int IntKind.i64 D, Value.int IntKind.i64 A, Value.int IntKind.i64 0, Value.int IntKind.i64 0, Value.int IntKind.u32 0] 26)).alloc (Obj.cells #[Value.int IntKind.i64 op, Value.int IntKind.i64 D, Value.int IntKind.i64 A, Value.int IntKind.i64 B, Value.int IntKind.i64 0, Value.int IntKind.u32 0] 26) := ⟨_, rfl⟩
  have hz : W0.heap.size = w1.heap.size + 1 + 1 + 1 := by rw [hW0]; simp [alloc_size']
  have hbW0 : Below w1.heap.size w1 W0 := by rw [hW0]; exact (((Below.refl _ _).alloc (Nat.le_refl _) _).alloc (by simp [alloc_size']) _).alloc (by simp [alloc_size']; omega) _
  rw [← hW0, ← hz]
  obtain ⟨W, hW⟩ : ∃ W, W = W0.alloc (Obj.cells #[.int .i64 ro, .int .i64 rd, .int .i64 ra, .int .i64 rb, .int .i64 rc, .int .u32 ri, .int .i64 op, .int .i64 D, .int .i64 A, .int .i64 B, .int .i64 C, .int .u32 v, .int .i64 op, .int .i64 D, .int .i64 A, .int .i64 0, .int .i64 0, .int .u32 0, .int .i64 op, .int .i64 D, .int .i64 A, .int .i64 B, .int .i64 0, .int .u32 0, .int .i64 op, .int .i64 0, .int .i64 0, .int .i64 0, .int .i64 0, .int .u32 v, .int .i64 op, .int .i64 0, .int .i64 A, .int .i64 0, .int .i64 0, .int .u32 v, .int .i64 op, .int .i64 0, .int .i64 A, .int .i64 B, .int .i64 0, .int .u32 v, .int .i64 op, .int .i64 D, .int .i64 A, .int .i64 0, .int .i64 0, .int .u32 v, .int .i64 op, .int .i64 D, .int .i64 0, .int .i64 0, .int .i64 0, .int .u32 v, .int .i64 op, .int .i64 0, .int .i64 0, .int .i64 0, .int .i64 0, .int .u32 0, .int .i64 31, .int .i64 0, .int .i64 0, .int .i64 0, .int .i64 0, .int .u32 t, .int .i64 op, .int .i64 D, .int .i64 A, .int .i64 B, .int .i64 C, .int .u32 0] 26) := ⟨_, rfl⟩
  have HC : Hid (∀ k, k < 12 → At6 W W0.heap.size (k * 6) (wElems ⟨ro, rd, ra, rb, rc, ri⟩ op D A B C v t k)) := by
    intro k hk
    rw [hW]
    rcases (show k = 0 ∨ k = 1 ∨ k = 2 ∨ k = 3 ∨ k = 4 ∨ k = 5 ∨ k = 6 ∨ k = 7 ∨ k = 8 ∨ k = 9 ∨ k = 10 ∨ k = 11 by omega) with rfl | rfl | rfl | rfl | rfl | rfl | rfl | rfl | rfl | rfl | rfl | rfl <;>
      (refine ⟨?_, ?_, ?_, ?_, ?_, ?_⟩ <;> (rw [World.cell?_alloc_new]; rfl))
  have HBW : Hid (Below w.heap.size w W) := by
    have h0 : Below w.heap.size w W0 := HB1.out.trans (hbW0.mono HB1.out.size)
    show Below _ _ _
    rw [hW]
    exact h0.alloc h0.size _
  have HW : Hid (∀ k, (wElems ⟨ro, rd, ra, rb, rc, ri⟩ op D A B C v t k).wf) := fun k => wElems_wf _ _ _ _ _ _ _ _ hraw ⟨v1, v2⟩ ⟨by omega, by omega⟩ k
  rw [← hW]
  generalize W0.heap.size = g at *
  generalize wElems ⟨ro, rd, ra, rb, rc, ri⟩ op D A B C v t = E at *
  clear hW hW0 hz hbW0 HB1 hraw s0 s1 s2 s3 s4 s5 eop eD eA eB eC et
  go_loopw [113] (fun i wr => wrRel W i wr) (fun i _ => 12 - (intOf i).toNat)
  case atStart => exact ⟨0, by decide, rfl, Below.refl _ _⟩
  case round =>
    obtain ⟨k, hk, rfl, hb⟩ := hrel
    have HB : Hid (Below W.heap.size W wr) := hb
    by_cases hk12 : k < 12
    · have hk' : (k : Int) < 12 := by omega
      have hk0 : (0 : Int) ≤ (k : Int) := by omega
      have h6 := (HC.out k hk12).below hb (HC.out k hk12).lt
      have hwf := HW.out k
      obtain ⟨h, hh⟩ : ∃ h, h = E k := ⟨_, rfl⟩
      rw [← hh] at h6 hwf
      clear hh HC HW hb
      have C1 : Hid (∀ (W6 w6 : World), Below W6.heap.size W6 w6 → Calls Tryd.prog 9 #[h.val] w6 fun e w' => e = .returned (.bool (rightS h)) ∧ Below w6.heap.size w6 w' ∧ Below W6.heap.size W6 w') := fun W6 w6 hb6 => (right_c h w6).mono fun e w' ⟨h1, h2⟩ => ⟨h1, h2, hb6.trans (h2.mono hb6.size)⟩
      have C2 : Hid (∀ (W6 w6 : World), Below W6.heap.size W6 w6 → Calls Tryd.prog 10 #[h.val] w6 fun e w' => e = .returned (.bool (rightS h)) ∧ Below w6.heap.size w6 w' ∧ Below W6.heap.size W6 w') := fun W6 w6 hb6 => (rright_c h w6).mono fun e w' ⟨h1, h2⟩ => ⟨h1, h2, hb6.trans (h2.mono hb6.size)⟩
      have C3 : Hid (∀ (W6 w6 : World), Below W6.heap.size W6 w6 → Calls Tryd.prog 11 #[h.val] w6 fun e w' => PutStr W6 w6 (putS h).length (strS (putS h)) e w') := fun W6 w6 hb6 => (put_c h hwf w6).mono fun e w' hp => putStr_of hwf hb6 hp
      have C4 : Hid (∀ (W6 w6 : World), Below W6.heap.size W6 w6 → Calls Tryd.prog 12 #[h.val] w6 fun e w' => PutStr W6 w6 (putS h).length (strS (putS h)) e w') := fun W6 w6 hb6 => (rput_c h hwf w6).mono fun e w' hp => putStr_of hwf hb6 hp
      have C5 : Hid (rightS h = true → ∀ (w6 : World), Calls Tryd.prog 11 #[h.val] w6 fun e w' => ∃ A c, e = .returned (.slice A 9 c) ∧ BL w' (fun _ => True) (.slice A 9 c) (nineS h) ∧ Below w6.heap.size w6 w') := fun hr w6 => (put_c h hwf w6).mono fun e w' hp => by
        unfold putS at hp
        rw [hr] at hp
        obtain ⟨A, c, rfl, ho, hb'⟩ := hp
        exact ⟨A, c, rfl, (BL.own (nine_ok (right_small hr) hwf) ho).mono fun _ _ => trivial, hb'⟩
      have C6 : Hid (rightS h = true → ∀ (w6 : World) (A : Option Addr) (c : Nat), BL w6 (fun _ => True) (.slice A 9 c) (nineS h) → Calls Tryd.prog 13 #[.slice A 9 c] w6 fun e w' => e = .returned (.tuple #[h.val, .int .i64 0]) ∧ Below w6.heap.size w6 w') := fun hr w6 A c hl => (read_c _ _ _ w6 hl (by show (9 : Int) ≤ _; decide)).mono fun e w' hp => by
        unfold ReadPost at hp
        rw [read_nine hwf hr] at hp
        exact hp
      obtain ⟨ho, hd, ha, hb, hc, hi⟩ := h
      generalize (putS ⟨ho, hd, ha, hb, hc, hi⟩).length = n at *
      generalize strS (putS ⟨ho, hd, ha, hb, hc, hi⟩) = st at *
      generalize rightS ⟨ho, hd, ha, hb, hc, hi⟩ = r at *
      generalize nineS ⟨ho, hd, ha, hb, hc, hi⟩ = nine at *
      simp only [HV.val] at C1 C2 C3 C4 C5 C6
      obtain ⟨f0, f1, f2, f3, f4, f5⟩ := h6
      clear hwf
      go_wp2_with fail
      obtain ⟨Wr, hWr⟩ : ∃ Wr, Wr = wr.alloc (Obj.cells #[Value.int IntKind.i64 ho, Value.int IntKind.i64 hd, Value.int IntKind.i64 ha, Value.int IntKind.i64 hb, Value.int IntKind.i64 hc, Value.int IntKind.u32 hi] 26) := ⟨_, rfl⟩
      have h6 : At6 Wr wr.heap.size 0 ⟨ho, hd, ha, hb, hc, hi⟩ := by rw [hWr]; exact At6.new wr ⟨ho, hd, ha, hb, hc, hi⟩ 26
      have HBr : Hid (Below W.heap.size W Wr) := by show Below _ _ _; rw [hWr]; exact HB.out.alloc HB.out.size _
      rw [← hWr]
      have HLt : Hid (wr.heap.size < Wr.heap.size) := h6.lt
      have H6 : Hid (At6 Wr wr.heap.size 0 ⟨ho, hd, ha, hb, hc, hi⟩) := h6
      obtain ⟨x0, x1, x2, x3, x4, x5⟩ := h6
      simp only [Nat.zero_add] at x0 x1 x2 x3 x4 x5
      clear hWr f0 f1 f2 f3 f4 f5 HB
      go_region_held (fun w' => w'.cell? ⟨wr.heap.size, 0, none⟩ = some (.int .i64 ho) ∧ w'.cell? ⟨wr.heap.size, 1, none⟩ = some (.int .i64 hd) ∧ w'.cell? ⟨wr.heap.size, 2, none⟩ = some (.int .i64 ha) ∧ w'.cell? ⟨wr.heap.size, 3, none⟩ = some (.int .i64 hb) ∧ w'.cell? ⟨wr.heap.size, 4, none⟩ = some (.int .i64 hc) ∧ w'.cell? ⟨wr.heap.size, 5, none⟩ = some (.int .u32 hi))
        (first
          | exact ⟨x0, x1, x2, x3, x4, x5⟩
          | exact ⟨(hb8.cell HLt.out).trans x0, (hb8.cell HLt.out).trans x1, (hb8.cell HLt.out).trans x2, (hb8.cell HLt.out).trans x3, (hb8.cell HLt.out).trans x4, (hb8.cell HLt.out).trans x5⟩
          | go_keep)
        (first
          | (go_at_call 9; refine (C1.out Wr _ (by first | exact hb8 | exact (Below.refl _ _).drew)).mono ?_; rintro e w8 ⟨rfl, hs8, hb8⟩)
          | (go_at_call 10; refine (C2.out Wr _ (by first | exact hb8 | exact (Below.refl _ _).drew)).mono ?_; rintro e w8 ⟨rfl, hs8, hb8⟩)
          | (go_at_call 11; refine (C3.out Wr _ (by first | exact hb8 | exact (Below.refl _ _).drew)).mono ?_; rintro e w8 ⟨A8, c8, rfl, hv8, hr8, hs8, hb8⟩)
          | (go_at_call 12; refine (C4.out Wr _ (by first | exact hb8 | exact (Below.refl _ _).drew)).mono ?_; rintro e w8 ⟨A8, c8, rfl, hv8, hr8, hs8, hb8⟩))
      all_goals
        have H8 : Hid (At6 w8 wr.heap.size 0 ⟨ho, hd, ha, hb, hc, hi⟩) := H6.out.below hb8 HLt.out
        have HB8 : Hid (Below W.heap.size W w8) := HBr.out.trans (hb8.mono HBr.out.size)
        obtain ⟨y0, y1, y2, y3, y4, y5⟩ := H8.out
        simp only [Nat.zero_add] at y0 y1 y2 y3 y4 y5
        clear hb8 x0 x1 x2 x3 x4 x5 H6 HBr HLt C1 C3 C4
        cases r
        · clear C5 C6
          go_wp2_with fail
          refine (C2.out W _ HB8.out).mono ?_
          rintro e w9 ⟨rfl, _, hb9⟩
          have HN : Hid (wrRel W (.int .i64 ((k : Int) + 1)) w9) := ⟨k + 1, hk12, by push_cast; rfl, hb9⟩
          clear hb9 y0 y1 y2 y3 y4 y5 H8 HB8 C2
          go_wp2
          exact ⟨HN.out, by simp only [intOf]; omega⟩
        · go_wp2_with fail
          refine (C2.out W _ HB8.out).mono ?_
          rintro e w9 ⟨rfl, hs9, hb9⟩
          have H9 : Hid (At6 w9 wr.heap.size 0 ⟨ho, hd, ha, hb, hc, hi⟩) := H8.out.below hs9 H8.out.lt
          have HB9 : Hid (Below W.heap.size W w9) := hb9
          clear hs9 hb9 y0 y1 y2 y3 y4 y5 H8 HB8 C2
          obtain ⟨y0, y1, y2, y3, y4, y5⟩ := H9.out
          simp only [Nat.zero_add] at y0 y1 y2 y3 y4 y5
          go_wp2_with fail
          refine (C5.out (by first | trivial | rfl) _).mono ?_
          rintro e wa ⟨Aa, ca, rfl, hla, hba⟩
          have Ha : Hid (At6 wa wr.heap.size 0 ⟨ho, hd, ha, hb, hc, hi⟩) := H9.out.below hba H9.out.lt
          have HBa : Hid (Below W.heap.size W wa) := HB9.out.trans (hba.mono HB9.out.size)
          have HLa : Hid _ := hla
          clear hla hba y0 y1 y2 y3 y4 y5 H9 HB9 C5
          go_wp2_with fail
          refine (C6.out (by first | trivial | rfl) _ _ _ HLa.out).mono ?_
          rintro e wb ⟨rfl, hbb⟩
          have Hb : Hid (At6 wb wr.heap.size 0 ⟨ho, hd, ha, hb, hc, hi⟩) := Ha.out.below hbb Ha.out.lt
          have HBb : Hid (Below W.heap.size W wb) := HBa.out.trans (hbb.mono HBa.out.size)
          have HN : Hid (∀ o, wrRel W (.int .i64 ((k : Int) + 1)) (wb.alloc o)) := fun o => ⟨k + 1, hk12, by push_cast; rfl, HBb.out.alloc HBb.out.size _⟩
          obtain ⟨y0, y1, y2, y3, y4, y5⟩ := Hb.out
          simp only [Nat.zero_add] at y0 y1 y2 y3 y4 y5
          have hl : wr.heap.size < wb.heap.size := Hb.out.lt
          have hl' : ¬ wr.heap.size = wb.heap.size := by omega
          clear hbb Ha HBa HLa C6 Hb
          go_wp2
          exact ⟨HN.out _, by simp only [intOf]; omega⟩
    · have hk' : ¬ (k : Int) < 12 := by omega
      have HBB : Hid (Below w.heap.size w wr) := HBW.out.trans (HB.out.mono HBW.out.size)
      clear hb HC HW HB
      go_wp2
      go_ret
      exact ⟨rfl, HBB.out⟩
end Go.Proofs.YtklhnaineeleoaaDoor
