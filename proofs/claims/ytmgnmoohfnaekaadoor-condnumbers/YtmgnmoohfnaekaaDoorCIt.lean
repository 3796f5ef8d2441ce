/- cond.It at the two places where the statements ask it: (0, 6) and (15, 8). -/
import Derived.Test.YtmgnmoohfnaekaaDoorCond2
namespace Go.Proofs.YtmgnmoohfnaekaaDoor
open Go.ChangeShapes Go.WideShapes Go.ChangeAt Go.RowKit
set_option linter.unusedVariables false
set_option linter.unusedSimpArgs false

theorem tz64_6 (w : World) (hc : w.cell? ⟨1, 1, none⟩ = some (.int .u8 1)) : Calls Tryd.prog 25 #[.int .u64 6] w fun e w' => e = .returned (.int .i64 1) ∧ w' = w := by
  have key : IntKind.u64.wrap (bits BinOp.and IntKind.u64 6 (IntKind.u64.wrap (-6)) * 285870213051353865) / 288230376151711744 = 1 := by decide +kernel
  go_enter Tryd.func25, Tryd.ntmps25
  go_wp2_with (simp only [key])
  go_ret
  exact ⟨rfl, rfl⟩
theorem tz_6 (w : World) (hc : w.cell? ⟨1, 1, none⟩ = some (.int .u8 1)) : Calls Tryd.prog 22 #[.int .u64 6] w fun e w' => e = .returned (.int .i64 1) ∧ w' = w := by
  have C : Hid (Calls Tryd.prog 25 #[.int .u64 6] w fun e w' => e = .returned (.int .i64 1) ∧ w' = w) := tz64_6 w hc
  clear hc
  go_enter Tryd.func22, Tryd.ntmps22
  go_wp2_with fail
  refine Calls.mono C.out ?_
  rintro e _ ⟨rfl, rfl⟩
  go_wp2
  go_ret
  exact ⟨rfl, rfl⟩
theorem may_6 (w : World) : Calls Tryd.prog 21 #[.int .i64 0, .int .i64 6] w fun e w' => e = .returned (.bool true) ∧ w' = w := by
  go_enter Tryd.func21, Tryd.ntmps21
  go_wp2
  go_ret
  exact ⟨rfl, rfl⟩
theorem may_15 (w : World) : Calls Tryd.prog 21 #[.int .i64 15, .int .i64 8] w fun e w' => e = .returned (.bool false) ∧ w' = w := by
  go_enter Tryd.func21, Tryd.ntmps21
  go_wp2
  go_ret
  exact ⟨rfl, rfl⟩
theorem it_15 (w : World) : Calls Tryd.prog 17 #[.int .i64 15, .int .i64 8] w fun e w' => e = .returned (.tuple #[.slice none 0 0, .bool false]) ∧ w' = w := by
  have C : Hid _ := fun w => may_15 w
  go_enter Tryd.func17, Tryd.ntmps17
  go_wp2_with fail
  refine (C.out _).mono ?_
  rintro e _ ⟨rfl, rfl⟩
  go_wp2
  go_ret2
  exact ⟨rfl, rfl⟩
theorem info3 : (Tryd.prog.info? 3).map (fun i => (i.zero, i.size, i.bytes)) = some (some (.int .i64 0), 1, 8) := by kernel_rfl

def itRel (w wr : World) (v i : Value) : Prop :=
  Below w.heap.size w wr ∧ ((i = .int .i64 3 ∧ wr.ownsRow w.heap.size 3 1 v 1 [.int .i64 0]) ∨ (i = .int .i64 2 ∧ wr.ownsRow w.heap.size 3 1 v 2 [.int .i64 0, .int .i64 0]) ∨ (i = .int .i64 1 ∧ wr.ownsRow w.heap.size 3 1 v 3 [.int .i64 0, .int .i64 0, .int .i64 1]))

theorem alloc_size' (w : World) (o : Obj) : (w.alloc o).heap.size = w.heap.size + 1 := by
  show (w.heap.push o).size = _
  simp

theorem row_form {W : World} {base : Nat} {e : TypeId} {size : Nat} {v : Value} {k : Nat} {xs : List Value} (h : W.ownsRow base e size v (k + 1) xs) : ∃ g cap, v = .slice (some ⟨g, 0, none⟩) (k + 1) cap := by
  obtain ⟨_, ⟨_, h0⟩ | ⟨g, cap, _, rfl, _⟩⟩ := h
  · cases h0
  · exact ⟨g, cap, rfl⟩

theorem one_new (w : World) (x : Value) : ∀ j u, [x][j]? = some u → (w.alloc (Obj.cells #[x] 3)).cell? ((⟨w.heap.size, 0, none⟩ : Addr).add j) = some u := by
  intro j u hj
  match j, hj with
  | 0, hj =>
    simp only [List.getElem?_cons_zero, Option.some.injEq] at hj
    subst hj
    rw [show (⟨w.heap.size, 0, none⟩ : Addr).add 0 = ⟨w.heap.size, 0, none⟩ from rfl, World.cell?_alloc_new]
    rfl

set_option maxHeartbeats 1000000 in
theorem it_6 (w : World) (h1 : 1 < w.heap.size) (hT : w.cell? ⟨1, 1, none⟩ = some (.int .u8 1)) : Calls Tryd.prog 17 #[.int .i64 0, .int .i64 6] w fun e w' =>
    (∃ g cap, e = .returned (.tuple #[.slice (some ⟨g, 0, none⟩) 3 cap, .bool true]) ∧ w'.cell? ⟨g, 0, none⟩ = some (.int .i64 0) ∧ w'.cell? ⟨g, 1, none⟩ = some (.int .i64 0) ∧ w'.cell? ⟨g, 2, none⟩ = some (.int .i64 1)) ∧ Below w.heap.size w w' := by
  obtain ⟨i0, hi, hz0, hz1, hz2⟩ := info_parts info3
  have C : Hid _ := fun w => may_6 w
  have N : Hid _ := fun w => not_c 0 w
  rw [show notS 0 = 1 by decide +kernel] at N
  have hst : itRel w (w.alloc (Obj.cells #[Value.int IntKind.i64 0] 3)) (.slice (some ⟨w.heap.size, 0, none⟩) 1 1) (.int .i64 3) :=
    ⟨Below.alloc (Below.refl _ _) (Nat.le_refl _) _, Or.inl ⟨rfl, World.ownsRow_lit w #[Value.int IntKind.i64 0] 1 (Nat.le_refl _) (by decide) rfl⟩⟩
  have q1 : (bits .and .i64 1 1 == bits .and .i64 0 1) = false := by decide +kernel
  have q0 : (bits .and .i64 0 1 == bits .and .i64 0 1) = true := by decide +kernel
  go_enter Tryd.func17, Tryd.ntmps17
  go_wp2_with fail
  refine (C.out _).mono ?_
  rintro e w1 ⟨rfl, hw1⟩
  subst hw1
  go_wp2_with fail
  go_loopw [6, 7] (fun v i wr => itRel w1 wr v i) (fun _ i _ => (intOf i).toNat)
  case atStart => exact hst
  case round =>
    obtain ⟨hb, ⟨rfl, ho⟩ | ⟨rfl, ho⟩ | ⟨rfl, ho⟩⟩ := hrel
    · have T : Hid (Calls Tryd.prog 22 #[.int .u64 6] wr fun e w' => e = .returned (.int .i64 1) ∧ w' = wr) := tz_6 wr ((hb.cell (by exact h1)).trans hT)
      have hsz := hb.size
      have HB : Hid _ := hb
      clear hb h1 hT C hst
      go_wp2_with fail
      refine Calls.mono T.out ?_
      rintro e w2 ⟨rfl, hw2⟩
      replace hw2 := hw2.symm
      subst hw2
      go_wp2_with (first
        | (at_builtin; refine wpList_append_own _ rfl _ _ 34 rfl w1.heap.size 3 i0 (.int .i64 0) 1 8 Tryd.underlying34 hi hz0 hz1 hz2 rfl (by decide) _ 1 [.int .i64 0] rfl (ho.alloc _) ⟨wr.heap.size, 0, none⟩ 1 1 [.int .i64 0] rfl rfl (one_new _ _) (by intro u hu; simp at hu; subst hu; rfl) (by decide) (by decide) (by rw [alloc_size']; omega) ?_)
        | fail)
      intro v' w3 ho' hg _
      have HR : itRel w1 w3 v' (.int .i64 2) := by
        refine ⟨Below.grown (Below.alloc HB.out hsz _) hg (by rw [alloc_size']; omega) (fun k hk => (ho.lt k hk).1), Or.inr (Or.inl ⟨rfl, ho'⟩)⟩
      have HR' : Hid _ := HR
      clear HR ho' hg HB ho hsz T N hi hz0 hz1 hz2
      go_wp2
      go_roundw
      case rel => exact HR'.out
      case measure => decide
    · have T : Hid (Calls Tryd.prog 22 #[.int .u64 6] wr fun e w' => e = .returned (.int .i64 1) ∧ w' = wr) := tz_6 wr ((hb.cell (by exact h1)).trans hT)
      have hsz := hb.size
      have HB : Hid _ := hb
      clear hb h1 hT C hst
      go_wp2_with fail
      refine Calls.mono T.out ?_
      rintro e w2 ⟨rfl, hw2⟩
      replace hw2 := hw2.symm
      subst hw2
      go_wp2_with fail
      refine (N.out _).mono ?_
      rintro e w2 ⟨rfl, hw2⟩
      replace hw2 := hw2.symm
      subst hw2
      go_wp2_with (first
        | (at_builtin; refine wpList_append_own _ rfl _ _ 34 rfl w1.heap.size 3 i0 (.int .i64 0) 1 8 Tryd.underlying34 hi hz0 hz1 hz2 rfl (by decide) _ 2 [.int .i64 0, .int .i64 0] rfl (ho.alloc _) ⟨wr.heap.size, 0, none⟩ 1 1 [.int .i64 1] rfl rfl (one_new _ _) (by intro u hu; simp at hu; subst hu; rfl) (by decide) (by decide) (by rw [alloc_size']; omega) ?_)
        | fail)
      intro v' w3 ho' hg _
      have HR : itRel w1 w3 v' (.int .i64 1) := by
        refine ⟨Below.grown (Below.alloc HB.out hsz _) hg (by rw [alloc_size']; omega) (fun k hk => (ho.lt k hk).1), Or.inr (Or.inr ⟨rfl, ho'⟩)⟩
      have HR' : Hid _ := HR
      clear HR ho' hg HB ho hsz T N hi hz0 hz1 hz2
      go_wp2
      go_roundw
      case rel => exact HR'.out
      case measure => decide
    · have T : Hid (Calls Tryd.prog 22 #[.int .u64 6] wr fun e w' => e = .returned (.int .i64 1) ∧ w' = wr) := tz_6 wr ((hb.cell (by exact h1)).trans hT)
      have HB : Hid _ := hb
      obtain ⟨g, cap, rfl⟩ := row_form ho
      have HO : Hid (wr.ownsRow w1.heap.size 3 1 (.slice (some ⟨g, 0, none⟩) 3 cap) 3 [.int .i64 0, .int .i64 0, .int .i64 1]) := ho
      clear hb h1 hT C hst N ho
      go_wp2_with fail
      refine Calls.mono T.out ?_
      rintro e w2 ⟨rfl, hw2⟩
      replace hw2 := hw2.symm
      subst hw2
      clear T
      go_wp2
      go_ret2
      exact ⟨⟨g, cap, rfl, World.ownsRow.cellAt HO.out 0 (by decide), World.ownsRow.cellAt HO.out 1 (by decide), World.ownsRow.cellAt HO.out 2 (by decide)⟩, HB.out⟩
end Go.Proofs.YtmgnmoohfnaekaaDoor
