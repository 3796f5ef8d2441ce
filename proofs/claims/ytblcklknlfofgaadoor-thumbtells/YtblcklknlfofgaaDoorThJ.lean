/- Stage 8: cond.It, walked. -/
import Derived.Test.YtblcklknlfofgaaDoorThI
namespace Go.Proofs.YtblcklknlfofgaaDoor
open Go.ChangeShapes Go.WideShapes Go.ChangeAt Go.RowKit
set_option linter.unusedVariables false
set_option linter.unusedSimpArgs false

theorem info3 : (Tryd.prog.info? 3).map (fun i => (i.zero, i.size, i.bytes)) = some (some (.int .i64 0), 1, 8) := by kernel_rfl
theorem alloc_size' (w : World) (o : Obj) : (w.alloc o).heap.size = w.heap.size + 1 := by
  show (w.heap.push o).size = _
  simp
theorem one_new (w : World) (x : Value) : ∀ j u, [x][j]? = some u → (w.alloc (Obj.cells #[x] 3)).cell? ((⟨w.heap.size, 0, none⟩ : Addr).add j) = some u := by
  intro j u hj
  match j, hj with
  | 0, hj =>
    simp only [List.getElem?_cons_zero, Option.some.injEq] at hj
    subst hj
    rw [show (⟨w.heap.size, 0, none⟩ : Addr).add 0 = ⟨w.heap.size, 0, none⟩ from rfl, World.cell?_alloc_new]
    rfl
def itRel (w wr : World) (v i : Value) : Prop :=
  Below w.heap.size w wr ∧ ((i = .int .i64 3 ∧ ∃ xs, wr.ownsRow w.heap.size 3 1 v 1 xs) ∨ (i = .int .i64 2 ∧ ∃ xs, wr.ownsRow w.heap.size 3 1 v 2 xs) ∨ (i = .int .i64 1 ∧ ∃ xs, wr.ownsRow w.heap.size 3 1 v 3 xs) ∨ (i = .int .i64 0 ∧ ∃ xs, wr.ownsRow w.heap.size 3 1 v 4 xs))
set_option maxHeartbeats 4000000 in
theorem it_c (c m : Nat) (hc : c < 16) (h1 : 1 ≤ m) (h2 : m ≤ 15) (w : World) (HT : LT w) : Calls Tryd.prog 71 #[.int .i64 c, .int .i64 m] w fun e w' => (∃ v, e = .returned (.tuple #[v, .bool (itOk c m)])) ∧ Below w.heap.size w w' := by
  obtain ⟨i0, hi, hz0, hz1, hz2⟩ := info_parts info3
  have C : Hid (∀ w, Calls Tryd.prog 72 #[.int .i64 c, .int .i64 m] w fun e w' => e = .returned (.bool (itOk c m)) ∧ w' = w) := fun w => may_c c m hc h1 h2 w
  have N : Hid (∀ w, Calls Tryd.prog 74 #[.int .i64 c] w fun e w' => (∃ x : Int, e = .returned (.int .i64 x)) ∧ w' = w) := fun w => cnot_c c w
  have hst : itRel w (w.alloc (Obj.cells #[Value.int IntKind.i64 c] 3)) (.slice (some ⟨w.heap.size, 0, none⟩) 1 1) (.int .i64 3) :=
    ⟨Below.alloc (Below.refl _ _) (Nat.le_refl _) _, Or.inl ⟨rfl, _, World.ownsRow_lit w #[Value.int IntKind.i64 c] 1 (Nat.le_refl _) (by decide) rfl⟩⟩
  have hT3 := tzN_le m h1 h2
  have TZ : Hid (∀ wr, Below w.heap.size w wr → Calls Tryd.prog 73 #[.int .u64 m] wr fun e w' => e = .returned (.int .i64 (tzN m : Nat)) ∧ w' = wr) := fun wr hb => tz_c m h1 h2 wr (HT.next hb)
  generalize tzN m = T at *
  cases hok : itOk c m
  · rw [hok] at C
    go_enter Tryd.func71, Tryd.ntmps71
    go_wp2_with fail
    refine (C.out _).mono ?_
    rintro e _ ⟨rfl, rfl⟩
    go_wp2
    go_ret2
    exact ⟨⟨_, rfl⟩, Below.refl _ _⟩
  · rw [hok] at C
    clear hok HT
    have hm0 : (0 : Int) ≤ m := by omega
    go_enter Tryd.func71, Tryd.ntmps71
    go_wp2_with fail
    refine (C.out _).mono ?_
    rintro e w1 ⟨rfl, hw1⟩
    subst hw1
    go_wp2_with fail
    go_loopw [6, 7] (fun v i wr => itRel w1 wr v i) (fun _ i _ => (intOf i).toNat)
    case atStart => exact hst
    case round =>
      obtain ⟨hb, ⟨rfl, xs, ho⟩ | ⟨rfl, xs, ho⟩ | ⟨rfl, xs, ho⟩ | ⟨rfl, xs, ho⟩⟩ := hrel
      · have TR : Hid (Calls Tryd.prog 73 #[.int .u64 m] wr fun e w' => e = .returned (.int .i64 T) ∧ w' = wr) := TZ.out wr hb
        have hsz := hb.size
        have HB : Hid _ := hb
        clear hb C hst TZ
        go_wp2_with fail
        refine Calls.mono TR.out ?_
        rintro e w2 ⟨rfl, hw2⟩
        replace hw2 := hw2.symm
        subst hw2
        clear TR
        by_cases hlt : (T : Int) < 3
        · obtain ⟨q, hq⟩ : ∃ q, (bits .and .i64 ((m : Int) / 8) 1 == bits .and .i64 (c : Int) 1) = q := ⟨_, rfl⟩
          cases q
          · go_wp2_with fail
            refine (N.out _).mono ?_
            rintro e w2 ⟨⟨x, rfl⟩, hw2⟩
            replace hw2 := hw2.symm
            subst hw2
            go_wp2_with (first
              | (at_builtin; refine wpList_append_own _ rfl _ _ 44 rfl w1.heap.size 3 i0 (.int .i64 0) 1 8 Tryd.underlying44 hi hz0 hz1 hz2 rfl (by decide) _ 1 xs rfl (ho.alloc _) ⟨wr.heap.size, 0, none⟩ 1 1 [.int .i64 x] rfl rfl (one_new _ _) (by intro u hu; simp at hu; subst hu; rfl) (by decide) (by decide) (by rw [alloc_size']; omega) ?_)
              | fail)
            intro v' w3 ho' hg _
            have HR : itRel w1 w3 v' (.int .i64 2) := by
              refine ⟨Below.grown (Below.alloc HB.out hsz _) hg (by rw [alloc_size']; omega) (fun k hk => (ho.lt k hk).1), ?_⟩
              first | exact Or.inr (Or.inl ⟨rfl, _, ho'⟩) | exact Or.inr (Or.inr (Or.inl ⟨rfl, _, ho'⟩)) | exact Or.inr (Or.inr (Or.inr ⟨rfl, _, ho'⟩))
            have HR' : Hid _ := HR
            clear HR ho' hg HB ho hsz N hi hz0 hz1 hz2
            go_wp2
            go_roundw
            case rel => exact HR'.out
            case measure => decide

          · go_wp2_with (first
              | (at_builtin; refine wpList_append_own _ rfl _ _ 44 rfl w1.heap.size 3 i0 (.int .i64 0) 1 8 Tryd.underlying44 hi hz0 hz1 hz2 rfl (by decide) _ 1 xs rfl (ho.alloc _) ⟨wr.heap.size, 0, none⟩ 1 1 [.int .i64 c] rfl rfl (one_new _ _) (by intro u hu; simp at hu; subst hu; rfl) (by decide) (by decide) (by rw [alloc_size']; omega) ?_)
              | fail)
            intro v' w3 ho' hg _
            have HR : itRel w1 w3 v' (.int .i64 2) := by
              refine ⟨Below.grown (Below.alloc HB.out hsz _) hg (by rw [alloc_size']; omega) (fun k hk => (ho.lt k hk).1), ?_⟩
              first | exact Or.inr (Or.inl ⟨rfl, _, ho'⟩) | exact Or.inr (Or.inr (Or.inl ⟨rfl, _, ho'⟩)) | exact Or.inr (Or.inr (Or.inr ⟨rfl, _, ho'⟩))
            have HR' : Hid _ := HR
            clear HR ho' hg HB ho hsz N hi hz0 hz1 hz2
            go_wp2
            go_roundw
            case rel => exact HR'.out
            case measure => decide

        · go_wp2
          go_ret2
          exact ⟨⟨_, rfl⟩, HB.out⟩
      · have TR : Hid (Calls Tryd.prog 73 #[.int .u64 m] wr fun e w' => e = .returned (.int .i64 T) ∧ w' = wr) := TZ.out wr hb
        have hsz := hb.size
        have HB : Hid _ := hb
        clear hb C hst TZ
        go_wp2_with fail
        refine Calls.mono TR.out ?_
        rintro e w2 ⟨rfl, hw2⟩
        replace hw2 := hw2.symm
        subst hw2
        clear TR
        by_cases hlt : (T : Int) < 2
        · obtain ⟨q, hq⟩ : ∃ q, (bits .and .i64 ((m : Int) / 4) 1 == bits .and .i64 (c : Int) 1) = q := ⟨_, rfl⟩
          cases q
          · go_wp2_with fail
            refine (N.out _).mono ?_
            rintro e w2 ⟨⟨x, rfl⟩, hw2⟩
            replace hw2 := hw2.symm
            subst hw2
            go_wp2_with (first
              | (at_builtin; refine wpList_append_own _ rfl _ _ 44 rfl w1.heap.size 3 i0 (.int .i64 0) 1 8 Tryd.underlying44 hi hz0 hz1 hz2 rfl (by decide) _ 2 xs rfl (ho.alloc _) ⟨wr.heap.size, 0, none⟩ 1 1 [.int .i64 x] rfl rfl (one_new _ _) (by intro u hu; simp at hu; subst hu; rfl) (by decide) (by decide) (by rw [alloc_size']; omega) ?_)
              | fail)
            intro v' w3 ho' hg _
            have HR : itRel w1 w3 v' (.int .i64 1) := by
              refine ⟨Below.grown (Below.alloc HB.out hsz _) hg (by rw [alloc_size']; omega) (fun k hk => (ho.lt k hk).1), ?_⟩
              first | exact Or.inr (Or.inl ⟨rfl, _, ho'⟩) | exact Or.inr (Or.inr (Or.inl ⟨rfl, _, ho'⟩)) | exact Or.inr (Or.inr (Or.inr ⟨rfl, _, ho'⟩))
            have HR' : Hid _ := HR
            clear HR ho' hg HB ho hsz N hi hz0 hz1 hz2
            go_wp2
            go_roundw
            case rel => exact HR'.out
            case measure => decide

          · go_wp2_with (first
              | (at_builtin; refine wpList_append_own _ rfl _ _ 44 rfl w1.heap.size 3 i0 (.int .i64 0) 1 8 Tryd.underlying44 hi hz0 hz1 hz2 rfl (by decide) _ 2 xs rfl (ho.alloc _) ⟨wr.heap.size, 0, none⟩ 1 1 [.int .i64 c] rfl rfl (one_new _ _) (by intro u hu; simp at hu; subst hu; rfl) (by decide) (by decide) (by rw [alloc_size']; omega) ?_)
              | fail)
            intro v' w3 ho' hg _
            have HR : itRel w1 w3 v' (.int .i64 1) := by
              refine ⟨Below.grown (Below.alloc HB.out hsz _) hg (by rw [alloc_size']; omega) (fun k hk => (ho.lt k hk).1), ?_⟩
              first | exact Or.inr (Or.inl ⟨rfl, _, ho'⟩) | exact Or.inr (Or.inr (Or.inl ⟨rfl, _, ho'⟩)) | exact Or.inr (Or.inr (Or.inr ⟨rfl, _, ho'⟩))
            have HR' : Hid _ := HR
            clear HR ho' hg HB ho hsz N hi hz0 hz1 hz2
            go_wp2
            go_roundw
            case rel => exact HR'.out
            case measure => decide

        · go_wp2
          go_ret2
          exact ⟨⟨_, rfl⟩, HB.out⟩
      · have TR : Hid (Calls Tryd.prog 73 #[.int .u64 m] wr fun e w' => e = .returned (.int .i64 T) ∧ w' = wr) := TZ.out wr hb
        have hsz := hb.size
        have HB : Hid _ := hb
        clear hb C hst TZ
        go_wp2_with fail
        refine Calls.mono TR.out ?_
        rintro e w2 ⟨rfl, hw2⟩
        replace hw2 := hw2.symm
        subst hw2
        clear TR
        by_cases hlt : (T : Int) < 1
        · obtain ⟨q, hq⟩ : ∃ q, (bits .and .i64 ((m : Int) / 2) 1 == bits .and .i64 (c : Int) 1) = q := ⟨_, rfl⟩
          cases q
          · go_wp2_with fail
            refine (N.out _).mono ?_
            rintro e w2 ⟨⟨x, rfl⟩, hw2⟩
            replace hw2 := hw2.symm
            subst hw2
            go_wp2_with (first
              | (at_builtin; refine wpList_append_own _ rfl _ _ 44 rfl w1.heap.size 3 i0 (.int .i64 0) 1 8 Tryd.underlying44 hi hz0 hz1 hz2 rfl (by decide) _ 3 xs rfl (ho.alloc _) ⟨wr.heap.size, 0, none⟩ 1 1 [.int .i64 x] rfl rfl (one_new _ _) (by intro u hu; simp at hu; subst hu; rfl) (by decide) (by decide) (by rw [alloc_size']; omega) ?_)
              | fail)
            intro v' w3 ho' hg _
            have HR : itRel w1 w3 v' (.int .i64 0) := by
              refine ⟨Below.grown (Below.alloc HB.out hsz _) hg (by rw [alloc_size']; omega) (fun k hk => (ho.lt k hk).1), ?_⟩
              first | exact Or.inr (Or.inl ⟨rfl, _, ho'⟩) | exact Or.inr (Or.inr (Or.inl ⟨rfl, _, ho'⟩)) | exact Or.inr (Or.inr (Or.inr ⟨rfl, _, ho'⟩))
            have HR' : Hid _ := HR
            clear HR ho' hg HB ho hsz N hi hz0 hz1 hz2
            go_wp2
            go_roundw
            case rel => exact HR'.out
            case measure => decide

          · go_wp2_with (first
              | (at_builtin; refine wpList_append_own _ rfl _ _ 44 rfl w1.heap.size 3 i0 (.int .i64 0) 1 8 Tryd.underlying44 hi hz0 hz1 hz2 rfl (by decide) _ 3 xs rfl (ho.alloc _) ⟨wr.heap.size, 0, none⟩ 1 1 [.int .i64 c] rfl rfl (one_new _ _) (by intro u hu; simp at hu; subst hu; rfl) (by decide) (by decide) (by rw [alloc_size']; omega) ?_)
              | fail)
            intro v' w3 ho' hg _
            have HR : itRel w1 w3 v' (.int .i64 0) := by
              refine ⟨Below.grown (Below.alloc HB.out hsz _) hg (by rw [alloc_size']; omega) (fun k hk => (ho.lt k hk).1), ?_⟩
              first | exact Or.inr (Or.inl ⟨rfl, _, ho'⟩) | exact Or.inr (Or.inr (Or.inl ⟨rfl, _, ho'⟩)) | exact Or.inr (Or.inr (Or.inr ⟨rfl, _, ho'⟩))
            have HR' : Hid _ := HR
            clear HR ho' hg HB ho hsz N hi hz0 hz1 hz2
            go_wp2
            go_roundw
            case rel => exact HR'.out
            case measure => decide

        · go_wp2
          go_ret2
          exact ⟨⟨_, rfl⟩, HB.out⟩
      · have TR : Hid (Calls Tryd.prog 73 #[.int .u64 m] wr fun e w' => e = .returned (.int .i64 T) ∧ w' = wr) := TZ.out wr hb
        have HB : Hid _ := hb
        clear hb C hst TZ
        go_wp2_with fail
        refine Calls.mono TR.out ?_
        rintro e w2 ⟨rfl, hw2⟩
        replace hw2 := hw2.symm
        subst hw2
        clear TR
        have hlt : ¬ (T : Int) < 0 := by omega
        go_wp2
        go_ret2
        exact ⟨⟨_, rfl⟩, HB.out⟩
end Go.Proofs.YtblcklknlfofgaaDoor
