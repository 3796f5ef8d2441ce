/- The document's Right, walked. -/
import Derived.Test.YtjhmmfpmmgebjaaGreatHst2r
namespace Go.Proofs.YtjhmmfpmmgebjaaGreat
open Go.ChangeShapes Go.WideShapes Go.ChangeAt Go.RowKit
set_option linter.unusedVariables false
set_option linter.unusedSimpArgs false

theorem rright_out (h : HV) (hi : isS h.op = false) (w : World) : Calls Tryz.prog 26 #[h.val] w fun e w' => e = .returned (.bool (rightS h)) ∧ Below w.heap.size w w' := by
  have hr : rightS h = false := by simp [rightS, hi]
  rw [hr]
  clear hr
  obtain ⟨op, d, a, b, c, im⟩ := h
  simp only [HV.val, isS] at *
  rcases (show op < 1 ∨ 32 ≤ op by simp at hi; omega) with h1 | h1
  · clear hi
    go_enter Tryz.func26, Tryz.ntmps26
    go_wp2
    go_ret
    exact ⟨rfl, (Below.refl _ _).alloc (Nat.le_refl _) _⟩
  · have h2 : ¬ op < 1 := by omega
    clear hi
    go_enter Tryz.func26, Tryz.ntmps26
    go_wp2
    go_ret
    exact ⟨rfl, (Below.refl _ _).alloc (Nat.le_refl _) _⟩

/-- An instruction's six cells from an address on. -/
def At6 (w : World) (b o : Nat) (h : HV) : Prop :=
  w.cell? ⟨b, o, none⟩ = some (.int .i64 h.op) ∧ w.cell? ⟨b, o + 1, none⟩ = some (.int .i64 h.d) ∧ w.cell? ⟨b, o + 2, none⟩ = some (.int .i64 h.a) ∧ w.cell? ⟨b, o + 3, none⟩ = some (.int .i64 h.b) ∧
  w.cell? ⟨b, o + 4, none⟩ = some (.int .i64 h.c) ∧ w.cell? ⟨b, o + 5, none⟩ = some (.int .u32 h.im)
theorem At6.lt {w : World} {b o : Nat} {r : HV} (h : At6 w b o r) : b < w.heap.size := World.block_lt_of_cell? w ⟨b, o, none⟩ h.1
theorem At6.below {B : Nat} {w w' : World} {b o : Nat} {r : HV} (h : At6 w b o r) (hb : Below B w w') (hB : b < B) : At6 w' b o r := by
  obtain ⟨h0, h1, h2, h3, h4, h5⟩ := h
  exact ⟨(hb.cell hB).trans h0, (hb.cell hB).trans h1, (hb.cell hB).trans h2, (hb.cell hB).trans h3, (hb.cell hB).trans h4, (hb.cell hB).trans h5⟩
theorem At6.new (w : World) (r : HV) (t : TypeId) : At6 (w.alloc (Obj.cells #[.int .i64 r.op, .int .i64 r.d, .int .i64 r.a, .int .i64 r.b, .int .i64 r.c, .int .u32 r.im] t)) w.heap.size 0 r := by
  refine ⟨?_, ?_, ?_, ?_, ?_, ?_⟩ <;> (rw [World.cell?_alloc_new]; rfl)

theorem regOk_of {r : Int} {u : Bool} : regOk r u = (decide (0 ≤ r) && (decide (r < 32) && (u || r == 0))) := by
  unfold regOk
  cases u
  · by_cases h : r = 0
    · subst h; rfl
    · have : (r == 0) = false := by simpa using h
      simp [this]
  · simp

def rrRel (W : World) (i : Value) (wr : World) (r1 r2 r3 r4 : Bool) : Prop :=
  wr = W ∧ (i = .int .i64 0 ∨ (i = .int .i64 1 ∧ r1 = true) ∨ (i = .int .i64 2 ∧ r1 = true ∧ r2 = true) ∨ (i = .int .i64 3 ∧ r1 = true ∧ r2 = true ∧ r3 = true) ∨ (i = .int .i64 4 ∧ r1 = true ∧ r2 = true ∧ r3 = true ∧ r4 = true))

theorem regOk_cases (r : Int) (u : Bool) : (r < 0 ∧ regOk r u = false) ∨ (0 ≤ r ∧ 32 ≤ r ∧ regOk r u = false) ∨ (0 ≤ r ∧ r < 32 ∧ u = true ∧ regOk r u = true) ∨ (0 ≤ r ∧ r < 32 ∧ u = false ∧ (r != 0) = false ∧ regOk r u = true) ∨ (0 ≤ r ∧ r < 32 ∧ u = false ∧ (r != 0) = true ∧ regOk r u = false) := by
  rw [regOk_of]
  by_cases h0 : 0 ≤ r
  · by_cases h1 : r < 32
    · cases u
      · by_cases h2 : r = 0
        · subst h2; simp
        · simp [h0, h1, h2]
      · simp [h0, h1]
    · refine .inr (.inl ⟨h0, by omega, ?_⟩)
      simp [h1]
  · refine .inl ⟨by omega, ?_⟩
    rw [show decide (0 ≤ r) = false by simpa using h0]
    rfl

set_option maxHeartbeats 8000000 in
theorem rright_in (h : HV) (x1 x2 x3 x4 x5 : Bool) (h0 : 1 ≤ h.op) (h1 : h.op ≤ 31) (U : Hid (∀ w, Calls Tryz.prog 76 #[.int .i64 h.op] w fun e w' => e = .returned (.agg #[.bool x1, .bool x2, .bool x3, .bool x4, .bool x5]) ∧ Below w.heap.size w w')) (w : World) :
    Calls Tryz.prog 26 #[h.val] w fun e w' => e = .returned (.bool (regOk h.d x1 && (regOk h.a x2 && (regOk h.b x3 && (regOk h.c x4 && (if h.op = 31 then decide (1 ≤ h.im) && decide (h.im ≤ 99) else if x5 then true else h.im == 0)))))) ∧ Below w.heap.size w w' := by
  obtain ⟨op, d, a, b, c, im⟩ := h
  simp only [HV.val] at *
  have R1 : Hid _ := regOk_cases d x1
  have R2 : Hid _ := regOk_cases a x2
  have R3 : Hid _ := regOk_cases b x3
  have R4 : Hid _ := regOk_cases c x4
  generalize regOk d x1 = r1 at *
  generalize regOk a x2 = r2 at *
  generalize regOk b x3 = r3 at *
  generalize regOk c x4 = r4 at *
  generalize hq : (if op = 31 then decide (1 ≤ im) && decide (im ≤ 99) else if x5 = true then true else im == 0) = q
  have HQ : Hid _ := hq
  clear hq
  go_enter Tryz.func26, Tryz.ntmps26
  go_wp2_with fail
  refine (U.out _).mono ?_
  rintro e w1 ⟨rfl, hw1⟩
  obtain ⟨d0, d1, d2, d3, d4, d5⟩ := (At6.new w ⟨op, d, a, b, c, im⟩ 31).below hw1 (by simp [alloc_size'])
  simp only [Nat.zero_add] at d0 d1 d2 d3 d4 d5
  have hsz : w.heap.size < w1.heap.size := by have := hw1.size; simp [alloc_size'] at this; omega
  have HB : Hid (Below w.heap.size w w1) := ((Below.refl _ _).alloc (Nat.le_refl _) _).trans (hw1.mono (by simp [alloc_size']))
  clear hw1 U
  go_wp2_with fail
  have hW : Hid (Below w.heap.size w ((w1.alloc (Obj.cells #[Value.bool x1, Value.bool x2, Value.bool x3, Value.bool x4, Value.bool x5] 100)).alloc (Obj.cells #[Value.int IntKind.i64 d, Value.int IntKind.i64 a, Value.int IntKind.i64 b, Value.int IntKind.i64 c] 3))) := (HB.out.alloc (Nat.le_of_lt hsz) _).alloc (by simp [alloc_size']; omega) _
  have hc : ∀ k, ((w1.alloc (Obj.cells #[Value.bool x1, Value.bool x2, Value.bool x3, Value.bool x4, Value.bool x5] 100)).alloc (Obj.cells #[Value.int IntKind.i64 d, Value.int IntKind.i64 a, Value.int IntKind.i64 b, Value.int IntKind.i64 c] 3)).cell? ⟨w.heap.size, k, none⟩ = w1.cell? ⟨w.heap.size, k, none⟩ := fun k => by
    rw [World.cell?_alloc_old _ _ _ (by simp [alloc_size']; omega), World.cell?_alloc_old _ _ _ (Nat.ne_of_lt hsz)]
  have hu : ∀ k, ((w1.alloc (Obj.cells #[Value.bool x1, Value.bool x2, Value.bool x3, Value.bool x4, Value.bool x5] 100)).alloc (Obj.cells #[Value.int IntKind.i64 d, Value.int IntKind.i64 a, Value.int IntKind.i64 b, Value.int IntKind.i64 c] 3)).cell? ⟨w1.heap.size, k, none⟩ = #[Value.bool x1, Value.bool x2, Value.bool x3, Value.bool x4, Value.bool x5][k]? := fun k => by
    rw [World.cell?_alloc_old _ _ _ (by simp [alloc_size']), World.cell?_alloc_new]
  have hr : ∀ k, ((w1.alloc (Obj.cells #[Value.bool x1, Value.bool x2, Value.bool x3, Value.bool x4, Value.bool x5] 100)).alloc (Obj.cells #[Value.int IntKind.i64 d, Value.int IntKind.i64 a, Value.int IntKind.i64 b, Value.int IntKind.i64 c] 3)).cell? ⟨w1.heap.size + 1, k, none⟩ = #[Value.int IntKind.i64 d, Value.int IntKind.i64 a, Value.int IntKind.i64 b, Value.int IntKind.i64 c][k]? := fun k => by
    rw [← alloc_size' w1 (Obj.cells #[Value.bool x1, Value.bool x2, Value.bool x3, Value.bool x4, Value.bool x5] 100), World.cell?_alloc_new]
  generalize ((w1.alloc (Obj.cells #[Value.bool x1, Value.bool x2, Value.bool x3, Value.bool x4, Value.bool x5] 100)).alloc (Obj.cells #[Value.int IntKind.i64 d, Value.int IntKind.i64 a, Value.int IntKind.i64 b, Value.int IntKind.i64 c] 3)) = W at *
  have q0 := (hc 0).trans d0
  have q5 := (hc 5).trans d5
  have u0 := hu 0
  have u1 := hu 1
  have u2 := hu 2
  have u3 := hu 3
  have u4 := hu 4
  have s0 := hr 0
  have s1 := hr 1
  have s2 := hr 2
  have s3 := hr 3
  simp only [List.getElem?_toArray, List.getElem?_cons_zero, List.getElem?_cons_succ] at u0 u1 u2 u3 u4 s0 s1 s2 s3
  clear hc hu hr d0 d1 d2 d3 d4 d5 HB
  go_loopw [5] (fun i wr => rrRel W i wr r1 r2 r3 r4) (fun i _ => 4 - (intOf i).toNat)
  case atStart => exact ⟨rfl, .inl rfl⟩
  case round =>
    obtain ⟨rfl, rfl | ⟨rfl, rfl⟩ | ⟨rfl, rfl, rfl⟩ | ⟨rfl, rfl, rfl, rfl⟩ | ⟨rfl, rfl, rfl, rfl, rfl⟩⟩ := hrel
    · rcases R1.out with ⟨g1, rfl⟩ | ⟨g1, g2, rfl⟩ | ⟨g1, g2, rfl, rfl⟩ | ⟨g1, g2, rfl, g3, rfl⟩ | ⟨g1, g2, rfl, g3, rfl⟩
      · clear R1 R2 R3 R4
        go_wp2
        go_ret
        exact ⟨by simp, hW.out⟩
      · clear R1 R2 R3 R4
        go_wp2
        go_ret
        exact ⟨by simp, hW.out⟩
      · clear R1 R2 R3 R4
        go_wp2
        exact ⟨⟨rfl, .inr (.inl ⟨rfl, rfl⟩)⟩, by decide⟩
      · clear R1 R2 R3 R4
        go_wp2
        exact ⟨⟨rfl, .inr (.inl ⟨rfl, rfl⟩)⟩, by decide⟩
      · clear R1 R2 R3 R4
        go_wp2
        go_ret
        exact ⟨by simp, hW.out⟩
    · rcases R2.out with ⟨g1, rfl⟩ | ⟨g1, g2, rfl⟩ | ⟨g1, g2, rfl, rfl⟩ | ⟨g1, g2, rfl, g3, rfl⟩ | ⟨g1, g2, rfl, g3, rfl⟩
      · clear R1 R2 R3 R4
        go_wp2
        go_ret
        exact ⟨by simp, hW.out⟩
      · clear R1 R2 R3 R4
        go_wp2
        go_ret
        exact ⟨by simp, hW.out⟩
      · clear R1 R2 R3 R4
        go_wp2
        exact ⟨⟨rfl, .inr (.inr (.inl ⟨rfl, rfl, rfl⟩))⟩, by decide⟩
      · clear R1 R2 R3 R4
        go_wp2
        exact ⟨⟨rfl, .inr (.inr (.inl ⟨rfl, rfl, rfl⟩))⟩, by decide⟩
      · clear R1 R2 R3 R4
        go_wp2
        go_ret
        exact ⟨by simp, hW.out⟩
    · rcases R3.out with ⟨g1, rfl⟩ | ⟨g1, g2, rfl⟩ | ⟨g1, g2, rfl, rfl⟩ | ⟨g1, g2, rfl, g3, rfl⟩ | ⟨g1, g2, rfl, g3, rfl⟩
      · clear R1 R2 R3 R4
        go_wp2
        go_ret
        exact ⟨by simp, hW.out⟩
      · clear R1 R2 R3 R4
        go_wp2
        go_ret
        exact ⟨by simp, hW.out⟩
      · clear R1 R2 R3 R4
        go_wp2
        exact ⟨⟨rfl, .inr (.inr (.inr (.inl ⟨rfl, rfl, rfl, rfl⟩)))⟩, by decide⟩
      · clear R1 R2 R3 R4
        go_wp2
        exact ⟨⟨rfl, .inr (.inr (.inr (.inl ⟨rfl, rfl, rfl, rfl⟩)))⟩, by decide⟩
      · clear R1 R2 R3 R4
        go_wp2
        go_ret
        exact ⟨by simp, hW.out⟩
    · rcases R4.out with ⟨g1, rfl⟩ | ⟨g1, g2, rfl⟩ | ⟨g1, g2, rfl, rfl⟩ | ⟨g1, g2, rfl, g3, rfl⟩ | ⟨g1, g2, rfl, g3, rfl⟩
      · clear R1 R2 R3 R4
        go_wp2
        go_ret
        exact ⟨by simp, hW.out⟩
      · clear R1 R2 R3 R4
        go_wp2
        go_ret
        exact ⟨by simp, hW.out⟩
      · clear R1 R2 R3 R4
        go_wp2
        exact ⟨⟨rfl, .inr (.inr (.inr (.inr ⟨rfl, rfl, rfl, rfl, rfl⟩)))⟩, by decide⟩
      · clear R1 R2 R3 R4
        go_wp2
        exact ⟨⟨rfl, .inr (.inr (.inr (.inr ⟨rfl, rfl, rfl, rfl, rfl⟩)))⟩, by decide⟩
      · clear R1 R2 R3 R4
        go_wp2
        go_ret
        exact ⟨by simp, hW.out⟩
    · clear R1 R2 R3 R4
      by_cases h31 : op = 31
      · subst h31
        rw [if_pos rfl] at HQ
        by_cases g1 : 1 ≤ im
        · by_cases g2 : im ≤ 99
          · go_wp2
            go_ret
            exact ⟨by rw [← HQ.out]; simp [g1, g2], hW.out⟩
          · go_wp2
            go_ret
            exact ⟨by rw [← HQ.out]; simp [g1, g2], hW.out⟩
        · go_wp2
          go_ret
          exact ⟨by rw [← HQ.out, show decide (1 ≤ im) = false by simpa using g1]; rfl, hW.out⟩
      · rw [if_neg h31] at HQ
        have g31 : (op == 31) = false := by simpa using h31
        cases x5
        · go_wp2
          go_ret
          exact ⟨by rw [← HQ.out]; simp, hW.out⟩
        · go_wp2
          go_ret
          exact ⟨by rw [← HQ.out]; simp, hW.out⟩

theorem rright_c (h : HV) (w : World) : Calls Tryz.prog 26 #[h.val] w fun e w' => e = .returned (.bool (rightS h)) ∧ Below w.heap.size w w' := by
  cases hi : isS h.op
  · exact rright_out h hi w
  · have hi' := hi
    unfold isS at hi'
    simp only [Bool.and_eq_true, decide_eq_true_eq] at hi'
    have h := rright_in h _ _ _ _ _ (by omega) (by omega) (fun w => ruses_c h.op (by omega) (by omega) w) w
    unfold rightS immOk
    rw [hi, Bool.true_and]
    exact h
end Go.Proofs.YtjhmmfpmmgebjaaGreat
