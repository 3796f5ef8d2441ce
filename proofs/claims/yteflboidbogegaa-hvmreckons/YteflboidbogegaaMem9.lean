/- The regions of a seat; what is known: walked. -/
import Derived.Test.YteflboidbogegaaMem8
namespace Go.Proofs.Yteflboidbogegaa
open Go.ChangeShapes Go.WideShapes Go.ChangeAt Go.RowKit
set_option linter.unusedVariables false
set_option linter.unusedSimpArgs false

def seatBs (l1 l2 l3 l4 : Nat) : List Reg :=
  [⟨32768, 1024, true, false, true, false, none, l1, 0⟩, ⟨536870912, 256, true, true, false, false, none, l2, 0⟩, ⟨805306368, 128, true, true, false, true, none, l3, 0⟩, ⟨1073741824, 128, true, true, true, false, none, l4, 0⟩]
theorem seat_check {l1 l2 l3 l4 : Nat} (h1 : l1 ≤ 1024) (h2 : l2 ≤ 256) (h3 : l3 ≤ 128) (h4 : l4 ≤ 128) : checkS (regAt (seatBs l1 l2 l3 l4)) (seatBs l1 l2 l3 l4).length = 0 := by
  have e1 : (l1 : Int) ≤ 1024 := by omega
  have e2 : (l2 : Int) ≤ 256 := by omega
  have e3 : (l3 : Int) ≤ 128 := by omega
  have e4 : (l4 : Int) ≤ 128 := by omega
  simp [checkS, tooS, sumS, goodS, mayBeS, freeS, endS, regAt, seatBs, e1, e2, e3, e4]

/-- The seat's list is there. -/
def SeatPost (w : World) (b1 b2 b3 b4 : List Int) (e : Ending) (w' : World) : Prop :=
  e = .returned (.slice (some ⟨w.heap.size, 0, none⟩) 4 4) ∧ RL w' (fun b => b < w'.heap.size) (.slice (some ⟨w.heap.size, 0, none⟩) 4 4) (seatBs b1.length b2.length b3.length b4.length) [b1, b2, b3, b4] ∧ Below w.heap.size w w'

theorem bl_len {w : World} {S : Nat → Prop} {v : Value} {bs : List Int} (h : BL w S v bs) : ∃ A c, v = .slice A bs.length c := by
  obtain ⟨_, A, c, h, _⟩ := h
  exact ⟨A, c, h⟩

set_option maxHeartbeats 2000000 in
theorem seat_c (v1 v2 v3 v4 : Value) (b1 b2 b3 b4 : List Int) (w : World) (h1 : BL w (fun b => b < w.heap.size) v1 b1) (h2 : BL w (fun b => b < w.heap.size) v2 b2) (h3 : BL w (fun b => b < w.heap.size) v3 b3) (h4 : BL w (fun b => b < w.heap.size) v4 b4)
    (l1 : b1.length ≤ 1024) (l2 : b2.length ≤ 1024) (l3 : b3.length ≤ 1024) (l4 : b4.length ≤ 1024) :
    Calls Try.prog 17 #[v1, v2, v3, v4] w fun e w' => SeatPost w b1 b2 b3 b4 e w' := by
  obtain ⟨A1, c1, rfl⟩ := bl_len h1
  obtain ⟨A2, c2, rfl⟩ := bl_len h2
  obtain ⟨A3, c3, rfl⟩ := bl_len h3
  obtain ⟨A4, c4, rfl⟩ := bl_len h4
  have HE : Hid (∀ w', w' = w.alloc (Obj.cells #[.int .u32 32768, .int .u32 1024, .bool true, .bool false, .bool true, .bool false, .slice A1 b1.length c1,
      .int .u32 536870912, .int .u32 256, .bool true, .bool true, .bool false, .bool false, .slice A2 b2.length c2, .int .u32 805306368, .int .u32 128, .bool true, .bool true, .bool false, .bool true, .slice A3 b3.length c3,
      .int .u32 1073741824, .int .u32 128, .bool true, .bool true, .bool true, .bool false, .slice A4 b4.length c4] 86) → SeatPost w b1 b2 b3 b4 (.returned (.slice (some ⟨w.heap.size, 0, none⟩) 4 4)) w') := by
    intro w' hw
    have hb : Below w.heap.size w w' := by rw [hw]; exact (Below.refl _ _).alloc (Nat.le_refl _) _
    have hs : w'.heap.size = w.heap.size + 1 := by rw [hw, alloc_size']
    refine ⟨rfl, ⟨[⟨32768, 1024, true, false, true, false, A1, b1.length, c1⟩, ⟨536870912, 256, true, true, false, false, A2, b2.length, c2⟩, ⟨805306368, 128, true, true, false, true, A3, b3.length, c3⟩, ⟨1073741824, 128, true, true, true, false, A4, b4.length, c4⟩], rfl, rfl, some ⟨w.heap.size, 0, none⟩, 4, rfl, fun h => (by cases h), fun b o h _ => ?_, ⟨by simp, fun i hi => ?_⟩, fun i r g hr hg => ?_⟩, hb⟩
    · simp only [Option.some.injEq, Addr.mk.injEq, and_true] at h
      omega
    · have hi4 : i = 0 ∨ i = 1 ∨ i = 2 ∨ i = 3 := by simp at hi; omega
      rw [hw]
      rcases hi4 with rfl | rfl | rfl | rfl
      all_goals
        refine ⟨⟨by simp [regAt], by simp [regAt], by simp [regAt], by simp [regAt], by simp [regAt]; omega⟩, w.heap.size, 0, rfl, ?_⟩
        refine ⟨?_, ?_, ?_, ?_, ?_, ?_, ?_⟩ <;> (rw [World.cell?_alloc_new]; rfl)
    · have up : ∀ {v : Value} {bs : List Int}, BL w (fun b => b < w.heap.size) v bs → BL w' (fun b => b < w'.heap.size) v bs := fun h => (h.below hb).mono fun b h => by omega
      match i, hr, hg with
      | 0, hr, hg => simp at hr hg; subst hr; subst hg; exact ⟨rfl, up h1⟩
      | 1, hr, hg => simp at hr hg; subst hr; subst hg; exact ⟨rfl, up h2⟩
      | 2, hr, hg => simp at hr hg; subst hr; subst hg; exact ⟨rfl, up h3⟩
      | 3, hr, hg => simp at hr hg; subst hr; subst hg; exact ⟨rfl, up h4⟩
      | n + 4, hr, hg => simp at hr
  clear h1 h2 h3 h4 l1 l2 l3 l4
  go_enter Try.func17, Try.ntmps17
  go_wp2
  go_ret
  exact HE.out _ rfl

theorem bl_nil (w : World) (S : Nat → Prop) : BL w S (.slice none 0 0) [] := ⟨fun x hx => (by cases hx), none, 0, rfl, fun _ => ⟨rfl, rfl⟩, fun j x hx => (by simp at hx)⟩

/-- The list of one region that may not be. -/
theorem one_bad (w : World) : Calls Try.prog 16 #[.slice (some ⟨w.heap.size, 0, none⟩) 1 1] (w.alloc (Obj.cells #[.int .u32 0, .int .u32 0, .bool false, .bool false, .bool false, .bool false, .slice none 0 0] 86)) fun e w' =>
    e = .returned (.tuple #[.pointer none, .int .i64 23]) ∧ Below w.heap.size w w' := by
  have hb : Below w.heap.size w (w.alloc (Obj.cells #[.int .u32 0, .int .u32 0, .bool false, .bool false, .bool false, .bool false, .slice none 0 0] 86)) := (Below.refl _ _).alloc (Nat.le_refl _) _
  have hR : RL (w.alloc (Obj.cells #[.int .u32 0, .int .u32 0, .bool false, .bool false, .bool false, .bool false, .slice none 0 0] 86)) (fun _ => True) (.slice (some ⟨w.heap.size, 0, none⟩) 1 1) [noReg] [[]] := by
    refine ⟨[noReg], rfl, rfl, some ⟨w.heap.size, 0, none⟩, 1, rfl, fun h => (by cases h), fun _ _ _ _ => trivial, ⟨by decide, fun i hi => ⟨?_, w.heap.size, 0, rfl, ?_⟩⟩, fun i r g hr hg => ?_⟩
    · have : i = 0 := by simp at hi; omega
      subst this
      unfold Reg.wf regAt noReg
      decide
    · have : i = 0 := by simp at hi; omega
      subst this
      exact At7.new w noReg 86
    · match i, hr, hg with
      | 0, hr, hg => simp at hr hg; subst hr; subst hg; exact ⟨rfl, bl_nil _ _⟩
      | n + 1, hr, hg => simp at hr
  have h := new_bad _ [noReg] [[]] _ _ hR (by decide +kernel)
  · rw [show checkS (regAt [noReg]) [noReg].length = 23 by decide +kernel] at h
    exact h.mono fun e w' ⟨h1, h2⟩ => ⟨h1, hb.trans (h2.mono hb.size)⟩

theorem Mid.low {lo hi B : Nat} {w0 w w' : World} (h : Mid lo hi w w') (hb : Below B w0 w) (hB : B ≤ lo) (hl : lo ≤ w.heap.size) : Below B w0 w' := hb.trans ((h.below hl).mono hB)
end Go.Proofs.Yteflboidbogegaa
