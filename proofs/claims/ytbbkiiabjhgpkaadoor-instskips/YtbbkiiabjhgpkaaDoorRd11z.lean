/- Stage 8: the document's narrow words, walked. -/
import Derived.Test.YtbbkiiabjhgpkaaDoorRd1b
import Derived.Test.YtbbkiiabjhgpkaaDoorThJ
namespace Go.Proofs.YtbbkiiabjhgpkaaDoor
open Go.ChangeShapes Go.WideShapes Go.ChangeAt Go.RowKit
set_option linter.unusedVariables false
set_option linter.unusedSimpArgs false

theorem tzbit (m : Nat) (h1 : 1 ≤ m) (h2 : m ≤ 15) (k : Nat) (hk : k ≤ tzN m) : (bits .and .i64 ((m / 2 ^ k : Nat) : Int) 1 == 0) = decide (k < tzN m) := by
  have key : ∀ m : Fin 16, ∀ k : Fin 4, 1 ≤ m.val → k.val ≤ tzN m.val → (bits .and .i64 ((m.val / 2 ^ k.val : Nat) : Int) 1 == 0) = decide (k.val < tzN m.val) := by decide +kernel
  have := tzN_le m h1 h2
  exact key ⟨m, by omega⟩ ⟨k, by omega⟩ h1 hk
theorem rnot_c (c : Int) (w : World) : Calls Tryd.prog 56 #[.int .i64 c] w fun e w' => (∃ x : Int, e = .returned (.int .i64 x)) ∧ w' = w := by
  go_enter Tryd.func56, Tryd.ntmps56
  go_wp2
  all_goals (go_ret; exact ⟨⟨_, rfl⟩, rfl⟩)
def lowRel (w wr : World) (T : Nat) (i : Value) : Prop := wr = w ∧ ∃ k : Nat, k ≤ T ∧ ((k = 0 ∧ i = .int .i64 0) ∨ (k = 1 ∧ i = .int .i64 1) ∨ (k = 2 ∧ i = .int .i64 2) ∨ (k = 3 ∧ i = .int .i64 3))
set_option maxHeartbeats 8000000 in
set_option maxRecDepth 100000 in
theorem rit_lo (c m : Nat) (hc : c < 16) (h1 : 1 ≤ m) (h2 : m ≤ 15) (q : c ≤ 13) (w : World) : Calls Tryd.prog 41 #[.int .i64 c, .int .i64 m] w fun e w' => (∃ v, e = .returned (.tuple #[v, .bool true])) ∧ Below w.heap.size w w' := by
  obtain ⟨i0, hi, hz0, hz1, hz2⟩ := info_parts info3
  have N : Hid (∀ w, Calls Tryd.prog 56 #[.int .i64 c] w fun e w' => (∃ x : Int, e = .returned (.int .i64 x)) ∧ w' = w) := fun w => rnot_c c w
  have hT3 := tzN_le m h1 h2
  have BB : Hid (∀ k : Nat, k ≤ tzN m → (bits .and .i64 ((m / 2 ^ k : Nat) : Int) 1 == 0) = decide (k < tzN m)) := fun k hk => tzbit m h1 h2 k hk
  generalize tzN m = T at *
  have hm0 : (0 : Int) ≤ m := by omega
  have t1 : decide ((c : Int) < 0) = false := by simp
  have t2 : decide ((c : Int) > 14) = false := by simp; omega
  have t3 : decide ((m : Int) < 1) = false := by simp; omega
  have t4 : decide ((m : Int) > 15) = false := by simp; omega
  have t5 : ((c : Int) == 14) = false := by simp; omega
  go_enter Tryd.func41, Tryd.ntmps41
  go_wp2_with fail
  go_loopw [6] (fun i wr => lowRel w wr T i) (fun i _ => 4 - (intOf i).toNat)
  case atStart => exact ⟨rfl, 0, Nat.zero_le _, .inl ⟨rfl, rfl⟩⟩
  case round =>
    obtain ⟨hw, k, hkT, hk⟩ := hrel
    subst hw
    rcases hk with ⟨rfl, rfl⟩ | ⟨rfl, rfl⟩ | ⟨rfl, rfl⟩ | ⟨rfl, rfl⟩
    · have tb : (bits .and .i64 ((m : Int)) 1 == 0) = decide (0 < T) := by
        have := BB.out 0 hkT
        simpa using this
      by_cases hlt : 0 < T
      · rw [decide_eq_true hlt] at tb
        have HL : Hid (0 < T) := hlt
        clear hlt hkT
        go_wp2
        go_roundw
        case rel => exact ⟨rfl, 1, HL.out, by first | exact .inr (.inl ⟨rfl, rfl⟩) | exact .inr (.inr (.inl ⟨rfl, rfl⟩)) | exact .inr (.inr (.inr ⟨rfl, rfl⟩))⟩
        case measure => decide
      · rw [decide_eq_false hlt] at tb
        clear hlt hkT BB hT3
        obtain ⟨w1, hw1⟩ : ∃ x, x = wr := ⟨wr, rfl⟩
        subst hw1
        have hst : itRel w1 (w1.alloc (Obj.cells #[Value.int IntKind.i64 c] 3)) (.slice (some ⟨w1.heap.size, 0, none⟩) 1 1) (.int .i64 3) :=
          ⟨Below.alloc (Below.refl _ _) (Nat.le_refl _) _, Or.inl ⟨rfl, _, World.ownsRow_lit w1 #[Value.int IntKind.i64 c] 1 (Nat.le_refl _) (by decide) rfl⟩⟩
        go_wp2_with fail
        go_loopw [7, 8] (fun v i wr => itRel w1 wr v i) (fun _ i _ => (intOf i).toNat)
        case atStart => exact hst
        case round =>
          clear hst
          obtain ⟨hb, ⟨rfl, xs, ho⟩ | ⟨rfl, xs, ho⟩ | ⟨rfl, xs, ho⟩ | ⟨rfl, xs, ho⟩⟩ := hrel
          · have hsz := hb.size
            have HB : Hid _ := hb
            clear hb
            obtain ⟨q, hq⟩ : ∃ q, (bits .and .i64 ((m : Int) / 8) 1 == bits .and .i64 (c : Int) 1) = q := ⟨_, rfl⟩
            cases q
            · go_wp2_with fail
              refine (N.out _).mono ?_
              rintro e w2 ⟨⟨x, rfl⟩, hw2⟩
              replace hw2 := hw2.symm
              subst hw2
              go_wp2_with (first
                | (at_builtin; refine wpList_append_own _ rfl _ _ 23 rfl w1.heap.size 3 i0 (.int .i64 0) 1 8 Tryd.underlying23 hi hz0 hz1 hz2 rfl (by decide) _ 1 xs rfl (ho.alloc _) ⟨wr.heap.size, 0, none⟩ 1 1 [.int .i64 x] rfl rfl (one_new _ _) (by intro u hu; simp at hu; subst hu; rfl) (by decide) (by decide) (by rw [alloc_size']; omega) ?_)
                | fail)
              intro v' w3 ho' hg _
              have HR : itRel w1 w3 v' (.int .i64 2) := by
                refine ⟨Below.grown (Below.alloc HB.out hsz _) hg (by rw [alloc_size']; omega) (fun k hk => (ho.lt k hk).1), ?_⟩
                first | exact Or.inr (Or.inl ⟨rfl, _, ho'⟩) | exact Or.inr (Or.inr (Or.inl ⟨rfl, _, ho'⟩)) | exact Or.inr (Or.inr (Or.inr ⟨rfl, _, ho'⟩))
              have HR' : Hid _ := HR
              clear HR ho' hg HB ho hsz N hi hz0 hz1 hz2
              go_wp2
              go_roundw
              case rel => exact HR'.out
              case measure => decide
            · go_wp2_with (first
                | (at_builtin; refine wpList_append_own _ rfl _ _ 23 rfl w1.heap.size 3 i0 (.int .i64 0) 1 8 Tryd.underlying23 hi hz0 hz1 hz2 rfl (by decide) _ 1 xs rfl (ho.alloc _) ⟨wr.heap.size, 0, none⟩ 1 1 [.int .i64 c] rfl rfl (one_new _ _) (by intro u hu; simp at hu; subst hu; rfl) (by decide) (by decide) (by rw [alloc_size']; omega) ?_)
                | fail)
              intro v' w3 ho' hg _
              have HR : itRel w1 w3 v' (.int .i64 2) := by
                refine ⟨Below.grown (Below.alloc HB.out hsz _) hg (by rw [alloc_size']; omega) (fun k hk => (ho.lt k hk).1), ?_⟩
                first | exact Or.inr (Or.inl ⟨rfl, _, ho'⟩) | exact Or.inr (Or.inr (Or.inl ⟨rfl, _, ho'⟩)) | exact Or.inr (Or.inr (Or.inr ⟨rfl, _, ho'⟩))
              have HR' : Hid _ := HR
              clear HR ho' hg HB ho hsz N hi hz0 hz1 hz2
              go_wp2
              go_roundw
              case rel => exact HR'.out
              case measure => decide
          · have hsz := hb.size
            have HB : Hid _ := hb
            clear hb
            obtain ⟨q, hq⟩ : ∃ q, (bits .and .i64 ((m : Int) / 4) 1 == bits .and .i64 (c : Int) 1) = q := ⟨_, rfl⟩
            cases q
            · go_wp2_with fail
              refine (N.out _).mono ?_
              rintro e w2 ⟨⟨x, rfl⟩, hw2⟩
              replace hw2 := hw2.symm
              subst hw2
              go_wp2_with (first
                | (at_builtin; refine wpList_append_own _ rfl _ _ 23 rfl w1.heap.size 3 i0 (.int .i64 0) 1 8 Tryd.underlying23 hi hz0 hz1 hz2 rfl (by decide) _ 2 xs rfl (ho.alloc _) ⟨wr.heap.size, 0, none⟩ 1 1 [.int .i64 x] rfl rfl (one_new _ _) (by intro u hu; simp at hu; subst hu; rfl) (by decide) (by decide) (by rw [alloc_size']; omega) ?_)
                | fail)
              intro v' w3 ho' hg _
              have HR : itRel w1 w3 v' (.int .i64 1) := by
                refine ⟨Below.grown (Below.alloc HB.out hsz _) hg (by rw [alloc_size']; omega) (fun k hk => (ho.lt k hk).1), ?_⟩
                first | exact Or.inr (Or.inl ⟨rfl, _, ho'⟩) | exact Or.inr (Or.inr (Or.inl ⟨rfl, _, ho'⟩)) | exact Or.inr (Or.inr (Or.inr ⟨rfl, _, ho'⟩))
              have HR' : Hid _ := HR
              clear HR ho' hg HB ho hsz N hi hz0 hz1 hz2
              go_wp2
              go_roundw
              case rel => exact HR'.out
              case measure => decide
            · go_wp2_with (first
                | (at_builtin; refine wpList_append_own _ rfl _ _ 23 rfl w1.heap.size 3 i0 (.int .i64 0) 1 8 Tryd.underlying23 hi hz0 hz1 hz2 rfl (by decide) _ 2 xs rfl (ho.alloc _) ⟨wr.heap.size, 0, none⟩ 1 1 [.int .i64 c] rfl rfl (one_new _ _) (by intro u hu; simp at hu; subst hu; rfl) (by decide) (by decide) (by rw [alloc_size']; omega) ?_)
                | fail)
              intro v' w3 ho' hg _
              have HR : itRel w1 w3 v' (.int .i64 1) := by
                refine ⟨Below.grown (Below.alloc HB.out hsz _) hg (by rw [alloc_size']; omega) (fun k hk => (ho.lt k hk).1), ?_⟩
                first | exact Or.inr (Or.inl ⟨rfl, _, ho'⟩) | exact Or.inr (Or.inr (Or.inl ⟨rfl, _, ho'⟩)) | exact Or.inr (Or.inr (Or.inr ⟨rfl, _, ho'⟩))
              have HR' : Hid _ := HR
              clear HR ho' hg HB ho hsz N hi hz0 hz1 hz2
              go_wp2
              go_roundw
              case rel => exact HR'.out
              case measure => decide
          · have hsz := hb.size
            have HB : Hid _ := hb
            clear hb
            obtain ⟨q, hq⟩ : ∃ q, (bits .and .i64 ((m : Int) / 2) 1 == bits .and .i64 (c : Int) 1) = q := ⟨_, rfl⟩
            cases q
            · go_wp2_with fail
              refine (N.out _).mono ?_
              rintro e w2 ⟨⟨x, rfl⟩, hw2⟩
              replace hw2 := hw2.symm
              subst hw2
              go_wp2_with (first
                | (at_builtin; refine wpList_append_own _ rfl _ _ 23 rfl w1.heap.size 3 i0 (.int .i64 0) 1 8 Tryd.underlying23 hi hz0 hz1 hz2 rfl (by decide) _ 3 xs rfl (ho.alloc _) ⟨wr.heap.size, 0, none⟩ 1 1 [.int .i64 x] rfl rfl (one_new _ _) (by intro u hu; simp at hu; subst hu; rfl) (by decide) (by decide) (by rw [alloc_size']; omega) ?_)
                | fail)
              intro v' w3 ho' hg _
              have HR : itRel w1 w3 v' (.int .i64 0) := by
                refine ⟨Below.grown (Below.alloc HB.out hsz _) hg (by rw [alloc_size']; omega) (fun k hk => (ho.lt k hk).1), ?_⟩
                first | exact Or.inr (Or.inl ⟨rfl, _, ho'⟩) | exact Or.inr (Or.inr (Or.inl ⟨rfl, _, ho'⟩)) | exact Or.inr (Or.inr (Or.inr ⟨rfl, _, ho'⟩))
              have HR' : Hid _ := HR
              clear HR ho' hg HB ho hsz N hi hz0 hz1 hz2
              go_wp2
              go_roundw
              case rel => exact HR'.out
              case measure => decide
            · go_wp2_with (first
                | (at_builtin; refine wpList_append_own _ rfl _ _ 23 rfl w1.heap.size 3 i0 (.int .i64 0) 1 8 Tryd.underlying23 hi hz0 hz1 hz2 rfl (by decide) _ 3 xs rfl (ho.alloc _) ⟨wr.heap.size, 0, none⟩ 1 1 [.int .i64 c] rfl rfl (one_new _ _) (by intro u hu; simp at hu; subst hu; rfl) (by decide) (by decide) (by rw [alloc_size']; omega) ?_)
                | fail)
              intro v' w3 ho' hg _
              have HR : itRel w1 w3 v' (.int .i64 0) := by
                refine ⟨Below.grown (Below.alloc HB.out hsz _) hg (by rw [alloc_size']; omega) (fun k hk => (ho.lt k hk).1), ?_⟩
                first | exact Or.inr (Or.inl ⟨rfl, _, ho'⟩) | exact Or.inr (Or.inr (Or.inl ⟨rfl, _, ho'⟩)) | exact Or.inr (Or.inr (Or.inr ⟨rfl, _, ho'⟩))
              have HR' : Hid _ := HR
              clear HR ho' hg HB ho hsz N hi hz0 hz1 hz2
              go_wp2
              go_roundw
              case rel => exact HR'.out
              case measure => decide
          · have HB : Hid _ := hb
            clear hb
            go_wp2
            go_ret2
            exact ⟨⟨_, rfl⟩, HB.out⟩
    · have tb : (bits .and .i64 ((m : Int) / 2) 1 == 0) = decide (1 < T) := by
        have := BB.out 1 hkT
        simpa using this
      by_cases hlt : 1 < T
      · rw [decide_eq_true hlt] at tb
        have HL : Hid (1 < T) := hlt
        clear hlt hkT
        go_wp2
        go_roundw
        case rel => exact ⟨rfl, 2, HL.out, by first | exact .inr (.inl ⟨rfl, rfl⟩) | exact .inr (.inr (.inl ⟨rfl, rfl⟩)) | exact .inr (.inr (.inr ⟨rfl, rfl⟩))⟩
        case measure => decide
      · rw [decide_eq_false hlt] at tb
        clear hlt hkT BB hT3
        obtain ⟨w1, hw1⟩ : ∃ x, x = wr := ⟨wr, rfl⟩
        subst hw1
        have hst : itRel w1 (w1.alloc (Obj.cells #[Value.int IntKind.i64 c] 3)) (.slice (some ⟨w1.heap.size, 0, none⟩) 1 1) (.int .i64 3) :=
          ⟨Below.alloc (Below.refl _ _) (Nat.le_refl _) _, Or.inl ⟨rfl, _, World.ownsRow_lit w1 #[Value.int IntKind.i64 c] 1 (Nat.le_refl _) (by decide) rfl⟩⟩
        go_wp2_with fail
        go_loopw [7, 8] (fun v i wr => itRel w1 wr v i) (fun _ i _ => (intOf i).toNat)
        case atStart => exact hst
        case round =>
          clear hst
          obtain ⟨hb, ⟨rfl, xs, ho⟩ | ⟨rfl, xs, ho⟩ | ⟨rfl, xs, ho⟩ | ⟨rfl, xs, ho⟩⟩ := hrel
          · have hsz := hb.size
            have HB : Hid _ := hb
            clear hb
            obtain ⟨q, hq⟩ : ∃ q, (bits .and .i64 ((m : Int) / 8) 1 == bits .and .i64 (c : Int) 1) = q := ⟨_, rfl⟩
            cases q
            · go_wp2_with fail
              refine (N.out _).mono ?_
              rintro e w2 ⟨⟨x, rfl⟩, hw2⟩
              replace hw2 := hw2.symm
              subst hw2
              go_wp2_with (first
                | (at_builtin; refine wpList_append_own _ rfl _ _ 23 rfl w1.heap.size 3 i0 (.int .i64 0) 1 8 Tryd.underlying23 hi hz0 hz1 hz2 rfl (by decide) _ 1 xs rfl (ho.alloc _) ⟨wr.heap.size, 0, none⟩ 1 1 [.int .i64 x] rfl rfl (one_new _ _) (by intro u hu; simp at hu; subst hu; rfl) (by decide) (by decide) (by rw [alloc_size']; omega) ?_)
                | fail)
              intro v' w3 ho' hg _
              have HR : itRel w1 w3 v' (.int .i64 2) := by
                refine ⟨Below.grown (Below.alloc HB.out hsz _) hg (by rw [alloc_size']; omega) (fun k hk => (ho.lt k hk).1), ?_⟩
                first | exact Or.inr (Or.inl ⟨rfl, _, ho'⟩) | exact Or.inr (Or.inr (Or.inl ⟨rfl, _, ho'⟩)) | exact Or.inr (Or.inr (Or.inr ⟨rfl, _, ho'⟩))
              have HR' : Hid _ := HR
              clear HR ho' hg HB ho hsz N hi hz0 hz1 hz2
              go_wp2
              go_roundw
              case rel => exact HR'.out
              case measure => decide
            · go_wp2_with (first
                | (at_builtin; refine wpList_append_own _ rfl _ _ 23 rfl w1.heap.size 3 i0 (.int .i64 0) 1 8 Tryd.underlying23 hi hz0 hz1 hz2 rfl (by decide) _ 1 xs rfl (ho.alloc _) ⟨wr.heap.size, 0, none⟩ 1 1 [.int .i64 c] rfl rfl (one_new _ _) (by intro u hu; simp at hu; subst hu; rfl) (by decide) (by decide) (by rw [alloc_size']; omega) ?_)
                | fail)
              intro v' w3 ho' hg _
              have HR : itRel w1 w3 v' (.int .i64 2) := by
                refine ⟨Below.grown (Below.alloc HB.out hsz _) hg (by rw [alloc_size']; omega) (fun k hk => (ho.lt k hk).1), ?_⟩
                first | exact Or.inr (Or.inl ⟨rfl, _, ho'⟩) | exact Or.inr (Or.inr (Or.inl ⟨rfl, _, ho'⟩)) | exact Or.inr (Or.inr (Or.inr ⟨rfl, _, ho'⟩))
              have HR' : Hid _ := HR
              clear HR ho' hg HB ho hsz N hi hz0 hz1 hz2
              go_wp2
              go_roundw
              case rel => exact HR'.out
              case measure => decide
          · have hsz := hb.size
            have HB : Hid _ := hb
            clear hb
            obtain ⟨q, hq⟩ : ∃ q, (bits .and .i64 ((m : Int) / 4) 1 == bits .and .i64 (c : Int) 1) = q := ⟨_, rfl⟩
            cases q
            · go_wp2_with fail
              refine (N.out _).mono ?_
              rintro e w2 ⟨⟨x, rfl⟩, hw2⟩
              replace hw2 := hw2.symm
              subst hw2
              go_wp2_with (first
                | (at_builtin; refine wpList_append_own _ rfl _ _ 23 rfl w1.heap.size 3 i0 (.int .i64 0) 1 8 Tryd.underlying23 hi hz0 hz1 hz2 rfl (by decide) _ 2 xs rfl (ho.alloc _) ⟨wr.heap.size, 0, none⟩ 1 1 [.int .i64 x] rfl rfl (one_new _ _) (by intro u hu; simp at hu; subst hu; rfl) (by decide) (by decide) (by rw [alloc_size']; omega) ?_)
                | fail)
              intro v' w3 ho' hg _
              have HR : itRel w1 w3 v' (.int .i64 1) := by
                refine ⟨Below.grown (Below.alloc HB.out hsz _) hg (by rw [alloc_size']; omega) (fun k hk => (ho.lt k hk).1), ?_⟩
                first | exact Or.inr (Or.inl ⟨rfl, _, ho'⟩) | exact Or.inr (Or.inr (Or.inl ⟨rfl, _, ho'⟩)) | exact Or.inr (Or.inr (Or.inr ⟨rfl, _, ho'⟩))
              have HR' : Hid _ := HR
              clear HR ho' hg HB ho hsz N hi hz0 hz1 hz2
              go_wp2
              go_roundw
              case rel => exact HR'.out
              case measure => decide
            · go_wp2_with (first
                | (at_builtin; refine wpList_append_own _ rfl _ _ 23 rfl w1.heap.size 3 i0 (.int .i64 0) 1 8 Tryd.underlying23 hi hz0 hz1 hz2 rfl (by decide) _ 2 xs rfl (ho.alloc _) ⟨wr.heap.size, 0, none⟩ 1 1 [.int .i64 c] rfl rfl (one_new _ _) (by intro u hu; simp at hu; subst hu; rfl) (by decide) (by decide) (by rw [alloc_size']; omega) ?_)
                | fail)
              intro v' w3 ho' hg _
              have HR : itRel w1 w3 v' (.int .i64 1) := by
                refine ⟨Below.grown (Below.alloc HB.out hsz _) hg (by rw [alloc_size']; omega) (fun k hk => (ho.lt k hk).1), ?_⟩
                first | exact Or.inr (Or.inl ⟨rfl, _, ho'⟩) | exact Or.inr (Or.inr (Or.inl ⟨rfl, _, ho'⟩)) | exact Or.inr (Or.inr (Or.inr ⟨rfl, _, ho'⟩))
              have HR' : Hid _ := HR
              clear HR ho' hg HB ho hsz N hi hz0 hz1 hz2
              go_wp2
              go_roundw
              case rel => exact HR'.out
              case measure => decide
          · have HB : Hid _ := hb
            clear hb
            go_wp2
            go_ret2
            exact ⟨⟨_, rfl⟩, HB.out⟩
          · have HB : Hid _ := hb
            clear hb
            go_wp2
            go_ret2
            exact ⟨⟨_, rfl⟩, HB.out⟩
    · have tb : (bits .and .i64 ((m : Int) / 4) 1 == 0) = decide (2 < T) := by
        have := BB.out 2 hkT
        simpa using this
      by_cases hlt : 2 < T
      · rw [decide_eq_true hlt] at tb
        have HL : Hid (2 < T) := hlt
        clear hlt hkT
        go_wp2
        go_roundw
        case rel => exact ⟨rfl, 3, HL.out, by first | exact .inr (.inl ⟨rfl, rfl⟩) | exact .inr (.inr (.inl ⟨rfl, rfl⟩)) | exact .inr (.inr (.inr ⟨rfl, rfl⟩))⟩
        case measure => decide
      · rw [decide_eq_false hlt] at tb
        clear hlt hkT BB hT3
        obtain ⟨w1, hw1⟩ : ∃ x, x = wr := ⟨wr, rfl⟩
        subst hw1
        have hst : itRel w1 (w1.alloc (Obj.cells #[Value.int IntKind.i64 c] 3)) (.slice (some ⟨w1.heap.size, 0, none⟩) 1 1) (.int .i64 3) :=
          ⟨Below.alloc (Below.refl _ _) (Nat.le_refl _) _, Or.inl ⟨rfl, _, World.ownsRow_lit w1 #[Value.int IntKind.i64 c] 1 (Nat.le_refl _) (by decide) rfl⟩⟩
        go_wp2_with fail
        go_loopw [7, 8] (fun v i wr => itRel w1 wr v i) (fun _ i _ => (intOf i).toNat)
        case atStart => exact hst
        case round =>
          clear hst
          obtain ⟨hb, ⟨rfl, xs, ho⟩ | ⟨rfl, xs, ho⟩ | ⟨rfl, xs, ho⟩ | ⟨rfl, xs, ho⟩⟩ := hrel
          · have hsz := hb.size
            have HB : Hid _ := hb
            clear hb
            obtain ⟨q, hq⟩ : ∃ q, (bits .and .i64 ((m : Int) / 8) 1 == bits .and .i64 (c : Int) 1) = q := ⟨_, rfl⟩
            cases q
            · go_wp2_with fail
              refine (N.out _).mono ?_
              rintro e w2 ⟨⟨x, rfl⟩, hw2⟩
              replace hw2 := hw2.symm
              subst hw2
              go_wp2_with (first
                | (at_builtin; refine wpList_append_own _ rfl _ _ 23 rfl w1.heap.size 3 i0 (.int .i64 0) 1 8 Tryd.underlying23 hi hz0 hz1 hz2 rfl (by decide) _ 1 xs rfl (ho.alloc _) ⟨wr.heap.size, 0, none⟩ 1 1 [.int .i64 x] rfl rfl (one_new _ _) (by intro u hu; simp at hu; subst hu; rfl) (by decide) (by decide) (by rw [alloc_size']; omega) ?_)
                | fail)
              intro v' w3 ho' hg _
              have HR : itRel w1 w3 v' (.int .i64 2) := by
                refine ⟨Below.grown (Below.alloc HB.out hsz _) hg (by rw [alloc_size']; omega) (fun k hk => (ho.lt k hk).1), ?_⟩
                first | exact Or.inr (Or.inl ⟨rfl, _, ho'⟩) | exact Or.inr (Or.inr (Or.inl ⟨rfl, _, ho'⟩)) | exact Or.inr (Or.inr (Or.inr ⟨rfl, _, ho'⟩))
              have HR' : Hid _ := HR
              clear HR ho' hg HB ho hsz N hi hz0 hz1 hz2
              go_wp2
              go_roundw
              case rel => exact HR'.out
              case measure => decide
            · go_wp2_with (first
                | (at_builtin; refine wpList_append_own _ rfl _ _ 23 rfl w1.heap.size 3 i0 (.int .i64 0) 1 8 Tryd.underlying23 hi hz0 hz1 hz2 rfl (by decide) _ 1 xs rfl (ho.alloc _) ⟨wr.heap.size, 0, none⟩ 1 1 [.int .i64 c] rfl rfl (one_new _ _) (by intro u hu; simp at hu; subst hu; rfl) (by decide) (by decide) (by rw [alloc_size']; omega) ?_)
                | fail)
              intro v' w3 ho' hg _
              have HR : itRel w1 w3 v' (.int .i64 2) := by
                refine ⟨Below.grown (Below.alloc HB.out hsz _) hg (by rw [alloc_size']; omega) (fun k hk => (ho.lt k hk).1), ?_⟩
                first | exact Or.inr (Or.inl ⟨rfl, _, ho'⟩) | exact Or.inr (Or.inr (Or.inl ⟨rfl, _, ho'⟩)) | exact Or.inr (Or.inr (Or.inr ⟨rfl, _, ho'⟩))
              have HR' : Hid _ := HR
              clear HR ho' hg HB ho hsz N hi hz0 hz1 hz2
              go_wp2
              go_roundw
              case rel => exact HR'.out
              case measure => decide
          · have HB : Hid _ := hb
            clear hb
            go_wp2
            go_ret2
            exact ⟨⟨_, rfl⟩, HB.out⟩
          · have HB : Hid _ := hb
            clear hb
            go_wp2
            go_ret2
            exact ⟨⟨_, rfl⟩, HB.out⟩
          · have HB : Hid _ := hb
            clear hb
            go_wp2
            go_ret2
            exact ⟨⟨_, rfl⟩, HB.out⟩
    · have tb : (bits .and .i64 ((m : Int) / 8) 1 == 0) = decide (3 < T) := by
        have := BB.out 3 hkT
        simpa using this
      by_cases hlt : 3 < T
      · rw [decide_eq_true hlt] at tb
        exfalso
        omega
      · rw [decide_eq_false hlt] at tb
        clear hlt hkT BB hT3
        obtain ⟨w1, hw1⟩ : ∃ x, x = wr := ⟨wr, rfl⟩
        subst hw1
        have hst : itRel w1 (w1.alloc (Obj.cells #[Value.int IntKind.i64 c] 3)) (.slice (some ⟨w1.heap.size, 0, none⟩) 1 1) (.int .i64 3) :=
          ⟨Below.alloc (Below.refl _ _) (Nat.le_refl _) _, Or.inl ⟨rfl, _, World.ownsRow_lit w1 #[Value.int IntKind.i64 c] 1 (Nat.le_refl _) (by decide) rfl⟩⟩
        go_wp2_with fail
        go_loopw [7, 8] (fun v i wr => itRel w1 wr v i) (fun _ i _ => (intOf i).toNat)
        case atStart => exact hst
        case round =>
          clear hst
          obtain ⟨hb, ⟨rfl, xs, ho⟩ | ⟨rfl, xs, ho⟩ | ⟨rfl, xs, ho⟩ | ⟨rfl, xs, ho⟩⟩ := hrel
          · have HB : Hid _ := hb
            clear hb
            go_wp2
            go_ret2
            exact ⟨⟨_, rfl⟩, HB.out⟩
          · have HB : Hid _ := hb
            clear hb
            go_wp2
            go_ret2
            exact ⟨⟨_, rfl⟩, HB.out⟩
          · have HB : Hid _ := hb
            clear hb
            go_wp2
            go_ret2
            exact ⟨⟨_, rfl⟩, HB.out⟩
          · have HB : Hid _ := hb
            clear hb
            go_wp2
            go_ret2
            exact ⟨⟨_, rfl⟩, HB.out⟩
end Go.Proofs.YtbbkiiabjhgpkaaDoor
namespace Go.Proofs.YtbbkiiabjhgpkaaDoor
open Go.ChangeShapes Go.WideShapes Go.ChangeAt Go.RowKit
set_option linter.unusedVariables false
set_option linter.unusedSimpArgs false

set_option maxHeartbeats 8000000 in
set_option maxRecDepth 100000 in
theorem rit_14_8 (c m : Nat) (hc : c < 16) (h1 : 1 ≤ m) (h2 : m ≤ 15) (q : c = 14 ∧ m = 8) (w : World) : Calls Tryd.prog 41 #[.int .i64 c, .int .i64 m] w fun e w' => (∃ v, e = .returned (.tuple #[v, .bool true])) ∧ Below w.heap.size w w' := by
  obtain ⟨i0, hi, hz0, hz1, hz2⟩ := info_parts info3
  have N : Hid (∀ w, Calls Tryd.prog 56 #[.int .i64 c] w fun e w' => (∃ x : Int, e = .returned (.int .i64 x)) ∧ w' = w) := fun w => rnot_c c w
  have hT3 := tzN_le m h1 h2
  have BB : Hid (∀ k : Nat, k ≤ tzN m → (bits .and .i64 ((m / 2 ^ k : Nat) : Int) 1 == 0) = decide (k < tzN m)) := fun k hk => tzbit m h1 h2 k hk
  have HTE : Hid (tzN m = 3) := by rw [q.2]; rfl
  generalize tzN m = T at *
  have hm0 : (0 : Int) ≤ m := by omega
  have t1 : decide ((c : Int) < 0) = false := by simp
  have t2 : decide ((c : Int) > 14) = false := by simp; omega
  have t3 : decide ((m : Int) < 1) = false := by simp; omega
  have t4 : decide ((m : Int) > 15) = false := by simp; omega
  have t5 : ((c : Int) == 14) = true := by simp; omega
  have n8 : ((m : Int) != 8) = false := by simp; omega
  have qc : Hid (c = 14) := q.1
  clear q
  go_enter Tryd.func41, Tryd.ntmps41
  go_wp2_with fail
  go_loopw [6] (fun i wr => lowRel w wr T i) (fun i _ => 4 - (intOf i).toNat)
  case atStart => exact ⟨rfl, 0, Nat.zero_le _, .inl ⟨rfl, rfl⟩⟩
  case round =>
    obtain ⟨hw, k, hkT, hk⟩ := hrel
    subst hw
    rcases hk with ⟨rfl, rfl⟩ | ⟨rfl, rfl⟩ | ⟨rfl, rfl⟩ | ⟨rfl, rfl⟩
    · have tb : (bits .and .i64 ((m : Int)) 1 == 0) = decide (0 < T) := by
        have := BB.out 0 hkT
        simpa using this
      by_cases hlt : 0 < T
      · rw [decide_eq_true hlt] at tb
        have HL : Hid (0 < T) := hlt
        clear hlt hkT
        go_wp2
        go_roundw
        case rel => exact ⟨rfl, 1, HL.out, by first | exact .inr (.inl ⟨rfl, rfl⟩) | exact .inr (.inr (.inl ⟨rfl, rfl⟩)) | exact .inr (.inr (.inr ⟨rfl, rfl⟩))⟩
        case measure => decide
      · exfalso
        have := HTE.out
        omega
    · have tb : (bits .and .i64 ((m : Int) / 2) 1 == 0) = decide (1 < T) := by
        have := BB.out 1 hkT
        simpa using this
      by_cases hlt : 1 < T
      · rw [decide_eq_true hlt] at tb
        have HL : Hid (1 < T) := hlt
        clear hlt hkT
        go_wp2
        go_roundw
        case rel => exact ⟨rfl, 2, HL.out, by first | exact .inr (.inl ⟨rfl, rfl⟩) | exact .inr (.inr (.inl ⟨rfl, rfl⟩)) | exact .inr (.inr (.inr ⟨rfl, rfl⟩))⟩
        case measure => decide
      · exfalso
        have := HTE.out
        omega
    · have tb : (bits .and .i64 ((m : Int) / 4) 1 == 0) = decide (2 < T) := by
        have := BB.out 2 hkT
        simpa using this
      by_cases hlt : 2 < T
      · rw [decide_eq_true hlt] at tb
        have HL : Hid (2 < T) := hlt
        clear hlt hkT
        go_wp2
        go_roundw
        case rel => exact ⟨rfl, 3, HL.out, by first | exact .inr (.inl ⟨rfl, rfl⟩) | exact .inr (.inr (.inl ⟨rfl, rfl⟩)) | exact .inr (.inr (.inr ⟨rfl, rfl⟩))⟩
        case measure => decide
      · exfalso
        have := HTE.out
        omega
    · have tb : (bits .and .i64 ((m : Int) / 8) 1 == 0) = decide (3 < T) := by
        have := BB.out 3 hkT
        simpa using this
      by_cases hlt : 3 < T
      · rw [decide_eq_true hlt] at tb
        exfalso
        omega
      · rw [decide_eq_false hlt] at tb
        clear hlt hkT BB hT3
        obtain ⟨w1, hw1⟩ : ∃ x, x = wr := ⟨wr, rfl⟩
        subst hw1
        have hst : itRel w1 (w1.alloc (Obj.cells #[Value.int IntKind.i64 c] 3)) (.slice (some ⟨w1.heap.size, 0, none⟩) 1 1) (.int .i64 3) :=
          ⟨Below.alloc (Below.refl _ _) (Nat.le_refl _) _, Or.inl ⟨rfl, _, World.ownsRow_lit w1 #[Value.int IntKind.i64 c] 1 (Nat.le_refl _) (by decide) rfl⟩⟩
        go_wp2_with fail
        go_loopw [7, 8] (fun v i wr => itRel w1 wr v i) (fun _ i _ => (intOf i).toNat)
        case atStart => exact hst
        case round =>
          clear hst
          obtain ⟨hb, ⟨rfl, xs, ho⟩ | ⟨rfl, xs, ho⟩ | ⟨rfl, xs, ho⟩ | ⟨rfl, xs, ho⟩⟩ := hrel
          · have HB : Hid _ := hb
            clear hb
            go_wp2
            go_ret2
            exact ⟨⟨_, rfl⟩, HB.out⟩
          · have HB : Hid _ := hb
            clear hb
            go_wp2
            go_ret2
            exact ⟨⟨_, rfl⟩, HB.out⟩
          · have HB : Hid _ := hb
            clear hb
            go_wp2
            go_ret2
            exact ⟨⟨_, rfl⟩, HB.out⟩
          · have HB : Hid _ := hb
            clear hb
            go_wp2
            go_ret2
            exact ⟨⟨_, rfl⟩, HB.out⟩
set_option maxHeartbeats 8000000 in
set_option maxRecDepth 100000 in
theorem rit_14_4 (c m : Nat) (hc : c < 16) (h1 : 1 ≤ m) (h2 : m ≤ 15) (q : c = 14 ∧ m = 4) (w : World) : Calls Tryd.prog 41 #[.int .i64 c, .int .i64 m] w fun e w' => (∃ v, e = .returned (.tuple #[v, .bool true])) ∧ Below w.heap.size w w' := by
  obtain ⟨i0, hi, hz0, hz1, hz2⟩ := info_parts info3
  have N : Hid (∀ w, Calls Tryd.prog 56 #[.int .i64 c] w fun e w' => (∃ x : Int, e = .returned (.int .i64 x)) ∧ w' = w) := fun w => rnot_c c w
  have hT3 := tzN_le m h1 h2
  have BB : Hid (∀ k : Nat, k ≤ tzN m → (bits .and .i64 ((m / 2 ^ k : Nat) : Int) 1 == 0) = decide (k < tzN m)) := fun k hk => tzbit m h1 h2 k hk
  have HTE : Hid (tzN m = 2) := by rw [q.2]; rfl
  generalize tzN m = T at *
  have hm0 : (0 : Int) ≤ m := by omega
  have t1 : decide ((c : Int) < 0) = false := by simp
  have t2 : decide ((c : Int) > 14) = false := by simp; omega
  have t3 : decide ((m : Int) < 1) = false := by simp; omega
  have t4 : decide ((m : Int) > 15) = false := by simp; omega
  have t5 : ((c : Int) == 14) = true := by simp; omega
  have n8 : ((m : Int) != 8) = true := by simp; omega
  have n4 : ((m : Int) != 4) = false := by simp; omega
  have qc : Hid (c = 14) := q.1
  clear q
  go_enter Tryd.func41, Tryd.ntmps41
  go_wp2_with fail
  go_loopw [6] (fun i wr => lowRel w wr T i) (fun i _ => 4 - (intOf i).toNat)
  case atStart => exact ⟨rfl, 0, Nat.zero_le _, .inl ⟨rfl, rfl⟩⟩
  case round =>
    obtain ⟨hw, k, hkT, hk⟩ := hrel
    subst hw
    rcases hk with ⟨rfl, rfl⟩ | ⟨rfl, rfl⟩ | ⟨rfl, rfl⟩ | ⟨rfl, rfl⟩
    · have tb : (bits .and .i64 ((m : Int)) 1 == 0) = decide (0 < T) := by
        have := BB.out 0 hkT
        simpa using this
      by_cases hlt : 0 < T
      · rw [decide_eq_true hlt] at tb
        have HL : Hid (0 < T) := hlt
        clear hlt hkT
        go_wp2
        go_roundw
        case rel => exact ⟨rfl, 1, HL.out, by first | exact .inr (.inl ⟨rfl, rfl⟩) | exact .inr (.inr (.inl ⟨rfl, rfl⟩)) | exact .inr (.inr (.inr ⟨rfl, rfl⟩))⟩
        case measure => decide
      · exfalso
        have := HTE.out
        omega
    · have tb : (bits .and .i64 ((m : Int) / 2) 1 == 0) = decide (1 < T) := by
        have := BB.out 1 hkT
        simpa using this
      by_cases hlt : 1 < T
      · rw [decide_eq_true hlt] at tb
        have HL : Hid (1 < T) := hlt
        clear hlt hkT
        go_wp2
        go_roundw
        case rel => exact ⟨rfl, 2, HL.out, by first | exact .inr (.inl ⟨rfl, rfl⟩) | exact .inr (.inr (.inl ⟨rfl, rfl⟩)) | exact .inr (.inr (.inr ⟨rfl, rfl⟩))⟩
        case measure => decide
      · exfalso
        have := HTE.out
        omega
    · have tb : (bits .and .i64 ((m : Int) / 4) 1 == 0) = decide (2 < T) := by
        have := BB.out 2 hkT
        simpa using this
      by_cases hlt : 2 < T
      · rw [decide_eq_true hlt] at tb
        have HL : Hid (2 < T) := hlt
        clear hlt hkT
        go_wp2
        go_roundw
        case rel => exact ⟨rfl, 3, HL.out, by first | exact .inr (.inl ⟨rfl, rfl⟩) | exact .inr (.inr (.inl ⟨rfl, rfl⟩)) | exact .inr (.inr (.inr ⟨rfl, rfl⟩))⟩
        case measure => decide
      · rw [decide_eq_false hlt] at tb
        clear hlt hkT BB hT3
        obtain ⟨w1, hw1⟩ : ∃ x, x = wr := ⟨wr, rfl⟩
        subst hw1
        have hst : itRel w1 (w1.alloc (Obj.cells #[Value.int IntKind.i64 c] 3)) (.slice (some ⟨w1.heap.size, 0, none⟩) 1 1) (.int .i64 3) :=
          ⟨Below.alloc (Below.refl _ _) (Nat.le_refl _) _, Or.inl ⟨rfl, _, World.ownsRow_lit w1 #[Value.int IntKind.i64 c] 1 (Nat.le_refl _) (by decide) rfl⟩⟩
        go_wp2_with fail
        go_loopw [7, 8] (fun v i wr => itRel w1 wr v i) (fun _ i _ => (intOf i).toNat)
        case atStart => exact hst
        case round =>
          clear hst
          obtain ⟨hb, ⟨rfl, xs, ho⟩ | ⟨rfl, xs, ho⟩ | ⟨rfl, xs, ho⟩ | ⟨rfl, xs, ho⟩⟩ := hrel
          · have hsz := hb.size
            have HB : Hid _ := hb
            clear hb
            obtain ⟨q, hq⟩ : ∃ q, (bits .and .i64 ((m : Int) / 8) 1 == bits .and .i64 (c : Int) 1) = q := ⟨_, rfl⟩
            cases q
            · go_wp2_with fail
              refine (N.out _).mono ?_
              rintro e w2 ⟨⟨x, rfl⟩, hw2⟩
              replace hw2 := hw2.symm
              subst hw2
              go_wp2_with (first
                | (at_builtin; refine wpList_append_own _ rfl _ _ 23 rfl w1.heap.size 3 i0 (.int .i64 0) 1 8 Tryd.underlying23 hi hz0 hz1 hz2 rfl (by decide) _ 1 xs rfl (ho.alloc _) ⟨wr.heap.size, 0, none⟩ 1 1 [.int .i64 x] rfl rfl (one_new _ _) (by intro u hu; simp at hu; subst hu; rfl) (by decide) (by decide) (by rw [alloc_size']; omega) ?_)
                | fail)
              intro v' w3 ho' hg _
              have HR : itRel w1 w3 v' (.int .i64 2) := by
                refine ⟨Below.grown (Below.alloc HB.out hsz _) hg (by rw [alloc_size']; omega) (fun k hk => (ho.lt k hk).1), ?_⟩
                first | exact Or.inr (Or.inl ⟨rfl, _, ho'⟩) | exact Or.inr (Or.inr (Or.inl ⟨rfl, _, ho'⟩)) | exact Or.inr (Or.inr (Or.inr ⟨rfl, _, ho'⟩))
              have HR' : Hid _ := HR
              clear HR ho' hg HB ho hsz N hi hz0 hz1 hz2
              go_wp2
              go_roundw
              case rel => exact HR'.out
              case measure => decide
            · go_wp2_with (first
                | (at_builtin; refine wpList_append_own _ rfl _ _ 23 rfl w1.heap.size 3 i0 (.int .i64 0) 1 8 Tryd.underlying23 hi hz0 hz1 hz2 rfl (by decide) _ 1 xs rfl (ho.alloc _) ⟨wr.heap.size, 0, none⟩ 1 1 [.int .i64 c] rfl rfl (one_new _ _) (by intro u hu; simp at hu; subst hu; rfl) (by decide) (by decide) (by rw [alloc_size']; omega) ?_)
                | fail)
              intro v' w3 ho' hg _
              have HR : itRel w1 w3 v' (.int .i64 2) := by
                refine ⟨Below.grown (Below.alloc HB.out hsz _) hg (by rw [alloc_size']; omega) (fun k hk => (ho.lt k hk).1), ?_⟩
                first | exact Or.inr (Or.inl ⟨rfl, _, ho'⟩) | exact Or.inr (Or.inr (Or.inl ⟨rfl, _, ho'⟩)) | exact Or.inr (Or.inr (Or.inr ⟨rfl, _, ho'⟩))
              have HR' : Hid _ := HR
              clear HR ho' hg HB ho hsz N hi hz0 hz1 hz2
              go_wp2
              go_roundw
              case rel => exact HR'.out
              case measure => decide
          · have HB : Hid _ := hb
            clear hb
            go_wp2
            go_ret2
            exact ⟨⟨_, rfl⟩, HB.out⟩
          · have HB : Hid _ := hb
            clear hb
            go_wp2
            go_ret2
            exact ⟨⟨_, rfl⟩, HB.out⟩
          · have HB : Hid _ := hb
            clear hb
            go_wp2
            go_ret2
            exact ⟨⟨_, rfl⟩, HB.out⟩
    · have tb : (bits .and .i64 ((m : Int) / 8) 1 == 0) = decide (3 < T) := by
        have := BB.out 3 hkT
        simpa using this
      by_cases hlt : 3 < T
      · rw [decide_eq_true hlt] at tb
        exfalso
        omega
      · exfalso
        have := HTE.out
        omega
set_option maxHeartbeats 8000000 in
set_option maxRecDepth 100000 in
theorem rit_14_2 (c m : Nat) (hc : c < 16) (h1 : 1 ≤ m) (h2 : m ≤ 15) (q : c = 14 ∧ m = 2) (w : World) : Calls Tryd.prog 41 #[.int .i64 c, .int .i64 m] w fun e w' => (∃ v, e = .returned (.tuple #[v, .bool true])) ∧ Below w.heap.size w w' := by
  obtain ⟨i0, hi, hz0, hz1, hz2⟩ := info_parts info3
  have N : Hid (∀ w, Calls Tryd.prog 56 #[.int .i64 c] w fun e w' => (∃ x : Int, e = .returned (.int .i64 x)) ∧ w' = w) := fun w => rnot_c c w
  have hT3 := tzN_le m h1 h2
  have BB : Hid (∀ k : Nat, k ≤ tzN m → (bits .and .i64 ((m / 2 ^ k : Nat) : Int) 1 == 0) = decide (k < tzN m)) := fun k hk => tzbit m h1 h2 k hk
  have HTE : Hid (tzN m = 1) := by rw [q.2]; rfl
  generalize tzN m = T at *
  have hm0 : (0 : Int) ≤ m := by omega
  have t1 : decide ((c : Int) < 0) = false := by simp
  have t2 : decide ((c : Int) > 14) = false := by simp; omega
  have t3 : decide ((m : Int) < 1) = false := by simp; omega
  have t4 : decide ((m : Int) > 15) = false := by simp; omega
  have t5 : ((c : Int) == 14) = true := by simp; omega
  have n8 : ((m : Int) != 8) = true := by simp; omega
  have n4 : ((m : Int) != 4) = true := by simp; omega
  have n2 : ((m : Int) != 2) = false := by simp; omega
  have qc : Hid (c = 14) := q.1
  clear q
  go_enter Tryd.func41, Tryd.ntmps41
  go_wp2_with fail
  go_loopw [6] (fun i wr => lowRel w wr T i) (fun i _ => 4 - (intOf i).toNat)
  case atStart => exact ⟨rfl, 0, Nat.zero_le _, .inl ⟨rfl, rfl⟩⟩
  case round =>
    obtain ⟨hw, k, hkT, hk⟩ := hrel
    subst hw
    rcases hk with ⟨rfl, rfl⟩ | ⟨rfl, rfl⟩ | ⟨rfl, rfl⟩ | ⟨rfl, rfl⟩
    · have tb : (bits .and .i64 ((m : Int)) 1 == 0) = decide (0 < T) := by
        have := BB.out 0 hkT
        simpa using this
      by_cases hlt : 0 < T
      · rw [decide_eq_true hlt] at tb
        have HL : Hid (0 < T) := hlt
        clear hlt hkT
        go_wp2
        go_roundw
        case rel => exact ⟨rfl, 1, HL.out, by first | exact .inr (.inl ⟨rfl, rfl⟩) | exact .inr (.inr (.inl ⟨rfl, rfl⟩)) | exact .inr (.inr (.inr ⟨rfl, rfl⟩))⟩
        case measure => decide
      · exfalso
        have := HTE.out
        omega
    · have tb : (bits .and .i64 ((m : Int) / 2) 1 == 0) = decide (1 < T) := by
        have := BB.out 1 hkT
        simpa using this
      by_cases hlt : 1 < T
      · rw [decide_eq_true hlt] at tb
        have HL : Hid (1 < T) := hlt
        clear hlt hkT
        go_wp2
        go_roundw
        case rel => exact ⟨rfl, 2, HL.out, by first | exact .inr (.inl ⟨rfl, rfl⟩) | exact .inr (.inr (.inl ⟨rfl, rfl⟩)) | exact .inr (.inr (.inr ⟨rfl, rfl⟩))⟩
        case measure => decide
      · rw [decide_eq_false hlt] at tb
        clear hlt hkT BB hT3
        obtain ⟨w1, hw1⟩ : ∃ x, x = wr := ⟨wr, rfl⟩
        subst hw1
        have hst : itRel w1 (w1.alloc (Obj.cells #[Value.int IntKind.i64 c] 3)) (.slice (some ⟨w1.heap.size, 0, none⟩) 1 1) (.int .i64 3) :=
          ⟨Below.alloc (Below.refl _ _) (Nat.le_refl _) _, Or.inl ⟨rfl, _, World.ownsRow_lit w1 #[Value.int IntKind.i64 c] 1 (Nat.le_refl _) (by decide) rfl⟩⟩
        go_wp2_with fail
        go_loopw [7, 8] (fun v i wr => itRel w1 wr v i) (fun _ i _ => (intOf i).toNat)
        case atStart => exact hst
        case round =>
          clear hst
          obtain ⟨hb, ⟨rfl, xs, ho⟩ | ⟨rfl, xs, ho⟩ | ⟨rfl, xs, ho⟩ | ⟨rfl, xs, ho⟩⟩ := hrel
          · have hsz := hb.size
            have HB : Hid _ := hb
            clear hb
            obtain ⟨q, hq⟩ : ∃ q, (bits .and .i64 ((m : Int) / 8) 1 == bits .and .i64 (c : Int) 1) = q := ⟨_, rfl⟩
            cases q
            · go_wp2_with fail
              refine (N.out _).mono ?_
              rintro e w2 ⟨⟨x, rfl⟩, hw2⟩
              replace hw2 := hw2.symm
              subst hw2
              go_wp2_with (first
                | (at_builtin; refine wpList_append_own _ rfl _ _ 23 rfl w1.heap.size 3 i0 (.int .i64 0) 1 8 Tryd.underlying23 hi hz0 hz1 hz2 rfl (by decide) _ 1 xs rfl (ho.alloc _) ⟨wr.heap.size, 0, none⟩ 1 1 [.int .i64 x] rfl rfl (one_new _ _) (by intro u hu; simp at hu; subst hu; rfl) (by decide) (by decide) (by rw [alloc_size']; omega) ?_)
                | fail)
              intro v' w3 ho' hg _
              have HR : itRel w1 w3 v' (.int .i64 2) := by
                refine ⟨Below.grown (Below.alloc HB.out hsz _) hg (by rw [alloc_size']; omega) (fun k hk => (ho.lt k hk).1), ?_⟩
                first | exact Or.inr (Or.inl ⟨rfl, _, ho'⟩) | exact Or.inr (Or.inr (Or.inl ⟨rfl, _, ho'⟩)) | exact Or.inr (Or.inr (Or.inr ⟨rfl, _, ho'⟩))
              have HR' : Hid _ := HR
              clear HR ho' hg HB ho hsz N hi hz0 hz1 hz2
              go_wp2
              go_roundw
              case rel => exact HR'.out
              case measure => decide
            · go_wp2_with (first
                | (at_builtin; refine wpList_append_own _ rfl _ _ 23 rfl w1.heap.size 3 i0 (.int .i64 0) 1 8 Tryd.underlying23 hi hz0 hz1 hz2 rfl (by decide) _ 1 xs rfl (ho.alloc _) ⟨wr.heap.size, 0, none⟩ 1 1 [.int .i64 c] rfl rfl (one_new _ _) (by intro u hu; simp at hu; subst hu; rfl) (by decide) (by decide) (by rw [alloc_size']; omega) ?_)
                | fail)
              intro v' w3 ho' hg _
              have HR : itRel w1 w3 v' (.int .i64 2) := by
                refine ⟨Below.grown (Below.alloc HB.out hsz _) hg (by rw [alloc_size']; omega) (fun k hk => (ho.lt k hk).1), ?_⟩
                first | exact Or.inr (Or.inl ⟨rfl, _, ho'⟩) | exact Or.inr (Or.inr (Or.inl ⟨rfl, _, ho'⟩)) | exact Or.inr (Or.inr (Or.inr ⟨rfl, _, ho'⟩))
              have HR' : Hid _ := HR
              clear HR ho' hg HB ho hsz N hi hz0 hz1 hz2
              go_wp2
              go_roundw
              case rel => exact HR'.out
              case measure => decide
          · have hsz := hb.size
            have HB : Hid _ := hb
            clear hb
            obtain ⟨q, hq⟩ : ∃ q, (bits .and .i64 ((m : Int) / 4) 1 == bits .and .i64 (c : Int) 1) = q := ⟨_, rfl⟩
            cases q
            · go_wp2_with fail
              refine (N.out _).mono ?_
              rintro e w2 ⟨⟨x, rfl⟩, hw2⟩
              replace hw2 := hw2.symm
              subst hw2
              go_wp2_with (first
                | (at_builtin; refine wpList_append_own _ rfl _ _ 23 rfl w1.heap.size 3 i0 (.int .i64 0) 1 8 Tryd.underlying23 hi hz0 hz1 hz2 rfl (by decide) _ 2 xs rfl (ho.alloc _) ⟨wr.heap.size, 0, none⟩ 1 1 [.int .i64 x] rfl rfl (one_new _ _) (by intro u hu; simp at hu; subst hu; rfl) (by decide) (by decide) (by rw [alloc_size']; omega) ?_)
                | fail)
              intro v' w3 ho' hg _
              have HR : itRel w1 w3 v' (.int .i64 1) := by
                refine ⟨Below.grown (Below.alloc HB.out hsz _) hg (by rw [alloc_size']; omega) (fun k hk => (ho.lt k hk).1), ?_⟩
                first | exact Or.inr (Or.inl ⟨rfl, _, ho'⟩) | exact Or.inr (Or.inr (Or.inl ⟨rfl, _, ho'⟩)) | exact Or.inr (Or.inr (Or.inr ⟨rfl, _, ho'⟩))
              have HR' : Hid _ := HR
              clear HR ho' hg HB ho hsz N hi hz0 hz1 hz2
              go_wp2
              go_roundw
              case rel => exact HR'.out
              case measure => decide
            · go_wp2_with (first
                | (at_builtin; refine wpList_append_own _ rfl _ _ 23 rfl w1.heap.size 3 i0 (.int .i64 0) 1 8 Tryd.underlying23 hi hz0 hz1 hz2 rfl (by decide) _ 2 xs rfl (ho.alloc _) ⟨wr.heap.size, 0, none⟩ 1 1 [.int .i64 c] rfl rfl (one_new _ _) (by intro u hu; simp at hu; subst hu; rfl) (by decide) (by decide) (by rw [alloc_size']; omega) ?_)
                | fail)
              intro v' w3 ho' hg _
              have HR : itRel w1 w3 v' (.int .i64 1) := by
                refine ⟨Below.grown (Below.alloc HB.out hsz _) hg (by rw [alloc_size']; omega) (fun k hk => (ho.lt k hk).1), ?_⟩
                first | exact Or.inr (Or.inl ⟨rfl, _, ho'⟩) | exact Or.inr (Or.inr (Or.inl ⟨rfl, _, ho'⟩)) | exact Or.inr (Or.inr (Or.inr ⟨rfl, _, ho'⟩))
              have HR' : Hid _ := HR
              clear HR ho' hg HB ho hsz N hi hz0 hz1 hz2
              go_wp2
              go_roundw
              case rel => exact HR'.out
              case measure => decide
          · have HB : Hid _ := hb
            clear hb
            go_wp2
            go_ret2
            exact ⟨⟨_, rfl⟩, HB.out⟩
          · have HB : Hid _ := hb
            clear hb
            go_wp2
            go_ret2
            exact ⟨⟨_, rfl⟩, HB.out⟩
    · have tb : (bits .and .i64 ((m : Int) / 4) 1 == 0) = decide (2 < T) := by
        have := BB.out 2 hkT
        simpa using this
      by_cases hlt : 2 < T
      · rw [decide_eq_true hlt] at tb
        have HL : Hid (2 < T) := hlt
        clear hlt hkT
        go_wp2
        go_roundw
        case rel => exact ⟨rfl, 3, HL.out, by first | exact .inr (.inl ⟨rfl, rfl⟩) | exact .inr (.inr (.inl ⟨rfl, rfl⟩)) | exact .inr (.inr (.inr ⟨rfl, rfl⟩))⟩
        case measure => decide
      · exfalso
        have := HTE.out
        omega
    · have tb : (bits .and .i64 ((m : Int) / 8) 1 == 0) = decide (3 < T) := by
        have := BB.out 3 hkT
        simpa using this
      by_cases hlt : 3 < T
      · rw [decide_eq_true hlt] at tb
        exfalso
        omega
      · exfalso
        have := HTE.out
        omega
set_option maxHeartbeats 8000000 in
set_option maxRecDepth 100000 in
theorem rit_14_1 (c m : Nat) (hc : c < 16) (h1 : 1 ≤ m) (h2 : m ≤ 15) (q : c = 14 ∧ m = 1) (w : World) : Calls Tryd.prog 41 #[.int .i64 c, .int .i64 m] w fun e w' => (∃ v, e = .returned (.tuple #[v, .bool true])) ∧ Below w.heap.size w w' := by
  obtain ⟨i0, hi, hz0, hz1, hz2⟩ := info_parts info3
  have N : Hid (∀ w, Calls Tryd.prog 56 #[.int .i64 c] w fun e w' => (∃ x : Int, e = .returned (.int .i64 x)) ∧ w' = w) := fun w => rnot_c c w
  have hT3 := tzN_le m h1 h2
  have BB : Hid (∀ k : Nat, k ≤ tzN m → (bits .and .i64 ((m / 2 ^ k : Nat) : Int) 1 == 0) = decide (k < tzN m)) := fun k hk => tzbit m h1 h2 k hk
  have HTE : Hid (tzN m = 0) := by rw [q.2]; rfl
  generalize tzN m = T at *
  have hm0 : (0 : Int) ≤ m := by omega
  have t1 : decide ((c : Int) < 0) = false := by simp
  have t2 : decide ((c : Int) > 14) = false := by simp; omega
  have t3 : decide ((m : Int) < 1) = false := by simp; omega
  have t4 : decide ((m : Int) > 15) = false := by simp; omega
  have t5 : ((c : Int) == 14) = true := by simp; omega
  have n8 : ((m : Int) != 8) = true := by simp; omega
  have n4 : ((m : Int) != 4) = true := by simp; omega
  have n2 : ((m : Int) != 2) = true := by simp; omega
  have n1 : ((m : Int) != 1) = false := by simp; omega
  have qc : Hid (c = 14) := q.1
  clear q
  go_enter Tryd.func41, Tryd.ntmps41
  go_wp2_with fail
  go_loopw [6] (fun i wr => lowRel w wr T i) (fun i _ => 4 - (intOf i).toNat)
  case atStart => exact ⟨rfl, 0, Nat.zero_le _, .inl ⟨rfl, rfl⟩⟩
  case round =>
    obtain ⟨hw, k, hkT, hk⟩ := hrel
    subst hw
    rcases hk with ⟨rfl, rfl⟩ | ⟨rfl, rfl⟩ | ⟨rfl, rfl⟩ | ⟨rfl, rfl⟩
    · have tb : (bits .and .i64 ((m : Int)) 1 == 0) = decide (0 < T) := by
        have := BB.out 0 hkT
        simpa using this
      by_cases hlt : 0 < T
      · rw [decide_eq_true hlt] at tb
        have HL : Hid (0 < T) := hlt
        clear hlt hkT
        go_wp2
        go_roundw
        case rel => exact ⟨rfl, 1, HL.out, by first | exact .inr (.inl ⟨rfl, rfl⟩) | exact .inr (.inr (.inl ⟨rfl, rfl⟩)) | exact .inr (.inr (.inr ⟨rfl, rfl⟩))⟩
        case measure => decide
      · rw [decide_eq_false hlt] at tb
        clear hlt hkT BB hT3
        obtain ⟨w1, hw1⟩ : ∃ x, x = wr := ⟨wr, rfl⟩
        subst hw1
        have hst : itRel w1 (w1.alloc (Obj.cells #[Value.int IntKind.i64 c] 3)) (.slice (some ⟨w1.heap.size, 0, none⟩) 1 1) (.int .i64 3) :=
          ⟨Below.alloc (Below.refl _ _) (Nat.le_refl _) _, Or.inl ⟨rfl, _, World.ownsRow_lit w1 #[Value.int IntKind.i64 c] 1 (Nat.le_refl _) (by decide) rfl⟩⟩
        go_wp2_with fail
        go_loopw [7, 8] (fun v i wr => itRel w1 wr v i) (fun _ i _ => (intOf i).toNat)
        case atStart => exact hst
        case round =>
          clear hst
          obtain ⟨hb, ⟨rfl, xs, ho⟩ | ⟨rfl, xs, ho⟩ | ⟨rfl, xs, ho⟩ | ⟨rfl, xs, ho⟩⟩ := hrel
          · have hsz := hb.size
            have HB : Hid _ := hb
            clear hb
            obtain ⟨q, hq⟩ : ∃ q, (bits .and .i64 ((m : Int) / 8) 1 == bits .and .i64 (c : Int) 1) = q := ⟨_, rfl⟩
            cases q
            · go_wp2_with fail
              refine (N.out _).mono ?_
              rintro e w2 ⟨⟨x, rfl⟩, hw2⟩
              replace hw2 := hw2.symm
              subst hw2
              go_wp2_with (first
                | (at_builtin; refine wpList_append_own _ rfl _ _ 23 rfl w1.heap.size 3 i0 (.int .i64 0) 1 8 Tryd.underlying23 hi hz0 hz1 hz2 rfl (by decide) _ 1 xs rfl (ho.alloc _) ⟨wr.heap.size, 0, none⟩ 1 1 [.int .i64 x] rfl rfl (one_new _ _) (by intro u hu; simp at hu; subst hu; rfl) (by decide) (by decide) (by rw [alloc_size']; omega) ?_)
                | fail)
              intro v' w3 ho' hg _
              have HR : itRel w1 w3 v' (.int .i64 2) := by
                refine ⟨Below.grown (Below.alloc HB.out hsz _) hg (by rw [alloc_size']; omega) (fun k hk => (ho.lt k hk).1), ?_⟩
                first | exact Or.inr (Or.inl ⟨rfl, _, ho'⟩) | exact Or.inr (Or.inr (Or.inl ⟨rfl, _, ho'⟩)) | exact Or.inr (Or.inr (Or.inr ⟨rfl, _, ho'⟩))
              have HR' : Hid _ := HR
              clear HR ho' hg HB ho hsz N hi hz0 hz1 hz2
              go_wp2
              go_roundw
              case rel => exact HR'.out
              case measure => decide
            · go_wp2_with (first
                | (at_builtin; refine wpList_append_own _ rfl _ _ 23 rfl w1.heap.size 3 i0 (.int .i64 0) 1 8 Tryd.underlying23 hi hz0 hz1 hz2 rfl (by decide) _ 1 xs rfl (ho.alloc _) ⟨wr.heap.size, 0, none⟩ 1 1 [.int .i64 c] rfl rfl (one_new _ _) (by intro u hu; simp at hu; subst hu; rfl) (by decide) (by decide) (by rw [alloc_size']; omega) ?_)
                | fail)
              intro v' w3 ho' hg _
              have HR : itRel w1 w3 v' (.int .i64 2) := by
                refine ⟨Below.grown (Below.alloc HB.out hsz _) hg (by rw [alloc_size']; omega) (fun k hk => (ho.lt k hk).1), ?_⟩
                first | exact Or.inr (Or.inl ⟨rfl, _, ho'⟩) | exact Or.inr (Or.inr (Or.inl ⟨rfl, _, ho'⟩)) | exact Or.inr (Or.inr (Or.inr ⟨rfl, _, ho'⟩))
              have HR' : Hid _ := HR
              clear HR ho' hg HB ho hsz N hi hz0 hz1 hz2
              go_wp2
              go_roundw
              case rel => exact HR'.out
              case measure => decide
          · have hsz := hb.size
            have HB : Hid _ := hb
            clear hb
            obtain ⟨q, hq⟩ : ∃ q, (bits .and .i64 ((m : Int) / 4) 1 == bits .and .i64 (c : Int) 1) = q := ⟨_, rfl⟩
            cases q
            · go_wp2_with fail
              refine (N.out _).mono ?_
              rintro e w2 ⟨⟨x, rfl⟩, hw2⟩
              replace hw2 := hw2.symm
              subst hw2
              go_wp2_with (first
                | (at_builtin; refine wpList_append_own _ rfl _ _ 23 rfl w1.heap.size 3 i0 (.int .i64 0) 1 8 Tryd.underlying23 hi hz0 hz1 hz2 rfl (by decide) _ 2 xs rfl (ho.alloc _) ⟨wr.heap.size, 0, none⟩ 1 1 [.int .i64 x] rfl rfl (one_new _ _) (by intro u hu; simp at hu; subst hu; rfl) (by decide) (by decide) (by rw [alloc_size']; omega) ?_)
                | fail)
              intro v' w3 ho' hg _
              have HR : itRel w1 w3 v' (.int .i64 1) := by
                refine ⟨Below.grown (Below.alloc HB.out hsz _) hg (by rw [alloc_size']; omega) (fun k hk => (ho.lt k hk).1), ?_⟩
                first | exact Or.inr (Or.inl ⟨rfl, _, ho'⟩) | exact Or.inr (Or.inr (Or.inl ⟨rfl, _, ho'⟩)) | exact Or.inr (Or.inr (Or.inr ⟨rfl, _, ho'⟩))
              have HR' : Hid _ := HR
              clear HR ho' hg HB ho hsz N hi hz0 hz1 hz2
              go_wp2
              go_roundw
              case rel => exact HR'.out
              case measure => decide
            · go_wp2_with (first
                | (at_builtin; refine wpList_append_own _ rfl _ _ 23 rfl w1.heap.size 3 i0 (.int .i64 0) 1 8 Tryd.underlying23 hi hz0 hz1 hz2 rfl (by decide) _ 2 xs rfl (ho.alloc _) ⟨wr.heap.size, 0, none⟩ 1 1 [.int .i64 c] rfl rfl (one_new _ _) (by intro u hu; simp at hu; subst hu; rfl) (by decide) (by decide) (by rw [alloc_size']; omega) ?_)
                | fail)
              intro v' w3 ho' hg _
              have HR : itRel w1 w3 v' (.int .i64 1) := by
                refine ⟨Below.grown (Below.alloc HB.out hsz _) hg (by rw [alloc_size']; omega) (fun k hk => (ho.lt k hk).1), ?_⟩
                first | exact Or.inr (Or.inl ⟨rfl, _, ho'⟩) | exact Or.inr (Or.inr (Or.inl ⟨rfl, _, ho'⟩)) | exact Or.inr (Or.inr (Or.inr ⟨rfl, _, ho'⟩))
              have HR' : Hid _ := HR
              clear HR ho' hg HB ho hsz N hi hz0 hz1 hz2
              go_wp2
              go_roundw
              case rel => exact HR'.out
              case measure => decide
          · have hsz := hb.size
            have HB : Hid _ := hb
            clear hb
            obtain ⟨q, hq⟩ : ∃ q, (bits .and .i64 ((m : Int) / 2) 1 == bits .and .i64 (c : Int) 1) = q := ⟨_, rfl⟩
            cases q
            · go_wp2_with fail
              refine (N.out _).mono ?_
              rintro e w2 ⟨⟨x, rfl⟩, hw2⟩
              replace hw2 := hw2.symm
              subst hw2
              go_wp2_with (first
                | (at_builtin; refine wpList_append_own _ rfl _ _ 23 rfl w1.heap.size 3 i0 (.int .i64 0) 1 8 Tryd.underlying23 hi hz0 hz1 hz2 rfl (by decide) _ 3 xs rfl (ho.alloc _) ⟨wr.heap.size, 0, none⟩ 1 1 [.int .i64 x] rfl rfl (one_new _ _) (by intro u hu; simp at hu; subst hu; rfl) (by decide) (by decide) (by rw [alloc_size']; omega) ?_)
                | fail)
              intro v' w3 ho' hg _
              have HR : itRel w1 w3 v' (.int .i64 0) := by
                refine ⟨Below.grown (Below.alloc HB.out hsz _) hg (by rw [alloc_size']; omega) (fun k hk => (ho.lt k hk).1), ?_⟩
                first | exact Or.inr (Or.inl ⟨rfl, _, ho'⟩) | exact Or.inr (Or.inr (Or.inl ⟨rfl, _, ho'⟩)) | exact Or.inr (Or.inr (Or.inr ⟨rfl, _, ho'⟩))
              have HR' : Hid _ := HR
              clear HR ho' hg HB ho hsz N hi hz0 hz1 hz2
              go_wp2
              go_roundw
              case rel => exact HR'.out
              case measure => decide
            · go_wp2_with (first
                | (at_builtin; refine wpList_append_own _ rfl _ _ 23 rfl w1.heap.size 3 i0 (.int .i64 0) 1 8 Tryd.underlying23 hi hz0 hz1 hz2 rfl (by decide) _ 3 xs rfl (ho.alloc _) ⟨wr.heap.size, 0, none⟩ 1 1 [.int .i64 c] rfl rfl (one_new _ _) (by intro u hu; simp at hu; subst hu; rfl) (by decide) (by decide) (by rw [alloc_size']; omega) ?_)
                | fail)
              intro v' w3 ho' hg _
              have HR : itRel w1 w3 v' (.int .i64 0) := by
                refine ⟨Below.grown (Below.alloc HB.out hsz _) hg (by rw [alloc_size']; omega) (fun k hk => (ho.lt k hk).1), ?_⟩
                first | exact Or.inr (Or.inl ⟨rfl, _, ho'⟩) | exact Or.inr (Or.inr (Or.inl ⟨rfl, _, ho'⟩)) | exact Or.inr (Or.inr (Or.inr ⟨rfl, _, ho'⟩))
              have HR' : Hid _ := HR
              clear HR ho' hg HB ho hsz N hi hz0 hz1 hz2
              go_wp2
              go_roundw
              case rel => exact HR'.out
              case measure => decide
          · have HB : Hid _ := hb
            clear hb
            go_wp2
            go_ret2
            exact ⟨⟨_, rfl⟩, HB.out⟩
    · have tb : (bits .and .i64 ((m : Int) / 2) 1 == 0) = decide (1 < T) := by
        have := BB.out 1 hkT
        simpa using this
      by_cases hlt : 1 < T
      · rw [decide_eq_true hlt] at tb
        have HL : Hid (1 < T) := hlt
        clear hlt hkT
        go_wp2
        go_roundw
        case rel => exact ⟨rfl, 2, HL.out, by first | exact .inr (.inl ⟨rfl, rfl⟩) | exact .inr (.inr (.inl ⟨rfl, rfl⟩)) | exact .inr (.inr (.inr ⟨rfl, rfl⟩))⟩
        case measure => decide
      · exfalso
        have := HTE.out
        omega
    · have tb : (bits .and .i64 ((m : Int) / 4) 1 == 0) = decide (2 < T) := by
        have := BB.out 2 hkT
        simpa using this
      by_cases hlt : 2 < T
      · rw [decide_eq_true hlt] at tb
        have HL : Hid (2 < T) := hlt
        clear hlt hkT
        go_wp2
        go_roundw
        case rel => exact ⟨rfl, 3, HL.out, by first | exact .inr (.inl ⟨rfl, rfl⟩) | exact .inr (.inr (.inl ⟨rfl, rfl⟩)) | exact .inr (.inr (.inr ⟨rfl, rfl⟩))⟩
        case measure => decide
      · exfalso
        have := HTE.out
        omega
    · have tb : (bits .and .i64 ((m : Int) / 8) 1 == 0) = decide (3 < T) := by
        have := BB.out 3 hkT
        simpa using this
      by_cases hlt : 3 < T
      · rw [decide_eq_true hlt] at tb
        exfalso
        omega
      · exfalso
        have := HTE.out
        omega
end Go.Proofs.YtbbkiiabjhgpkaaDoor
namespace Go.Proofs.YtbbkiiabjhgpkaaDoor
open Go.ChangeShapes Go.WideShapes Go.ChangeAt Go.RowKit
set_option linter.unusedVariables false
set_option linter.unusedSimpArgs false

set_option maxHeartbeats 8000000 in
set_option maxRecDepth 100000 in
theorem rit_15 (c m : Nat) (hc : c < 16) (h1 : 1 ≤ m) (h2 : m ≤ 15) (q : c = 15) (w : World) : Calls Tryd.prog 41 #[.int .i64 c, .int .i64 m] w fun e w' => (∃ v, e = .returned (.tuple #[v, .bool false])) ∧ Below w.heap.size w w' := by
  obtain ⟨i0, hi, hz0, hz1, hz2⟩ := info_parts info3
  have N : Hid (∀ w, Calls Tryd.prog 56 #[.int .i64 c] w fun e w' => (∃ x : Int, e = .returned (.int .i64 x)) ∧ w' = w) := fun w => rnot_c c w
  have hT3 := tzN_le m h1 h2
  have BB : Hid (∀ k : Nat, k ≤ tzN m → (bits .and .i64 ((m / 2 ^ k : Nat) : Int) 1 == 0) = decide (k < tzN m)) := fun k hk => tzbit m h1 h2 k hk
  generalize tzN m = T at *
  have hm0 : (0 : Int) ≤ m := by omega
  have t1 : decide ((c : Int) < 0) = false := by simp
  have t2 : decide ((c : Int) > 14) = true := by simp; omega
  clear hi hz0 hz1 hz2 N BB
  go_enter Tryd.func41, Tryd.ntmps41
  go_wp2
  go_ret2
  exact ⟨⟨_, rfl⟩, Below.refl _ _⟩
set_option maxHeartbeats 8000000 in
set_option maxRecDepth 100000 in
theorem rit_14n (c m : Nat) (hc : c < 16) (h1 : 1 ≤ m) (h2 : m ≤ 15) (q : c = 14) (q8 : m ≠ 8) (q4 : m ≠ 4) (q2 : m ≠ 2) (q1 : m ≠ 1) (w : World) : Calls Tryd.prog 41 #[.int .i64 c, .int .i64 m] w fun e w' => (∃ v, e = .returned (.tuple #[v, .bool false])) ∧ Below w.heap.size w w' := by
  obtain ⟨i0, hi, hz0, hz1, hz2⟩ := info_parts info3
  have N : Hid (∀ w, Calls Tryd.prog 56 #[.int .i64 c] w fun e w' => (∃ x : Int, e = .returned (.int .i64 x)) ∧ w' = w) := fun w => rnot_c c w
  have hT3 := tzN_le m h1 h2
  have BB : Hid (∀ k : Nat, k ≤ tzN m → (bits .and .i64 ((m / 2 ^ k : Nat) : Int) 1 == 0) = decide (k < tzN m)) := fun k hk => tzbit m h1 h2 k hk
  generalize tzN m = T at *
  have hm0 : (0 : Int) ≤ m := by omega
  have t1 : decide ((c : Int) < 0) = false := by simp
  have t2 : decide ((c : Int) > 14) = false := by simp; omega
  have t3 : decide ((m : Int) < 1) = false := by simp; omega
  have t4 : decide ((m : Int) > 15) = false := by simp; omega
  have t5 : ((c : Int) == 14) = true := by simp; omega
  have n8 : ((m : Int) != 8) = true := by simp; omega
  have n4 : ((m : Int) != 4) = true := by simp; omega
  have n2 : ((m : Int) != 2) = true := by simp; omega
  have n1 : ((m : Int) != 1) = true := by simp; omega
  clear hi hz0 hz1 hz2 N BB
  go_enter Tryd.func41, Tryd.ntmps41
  go_wp2
  go_ret2
  exact ⟨⟨_, rfl⟩, Below.refl _ _⟩
theorem rit_c (c m : Nat) (hc : c < 16) (h1 : 1 ≤ m) (h2 : m ≤ 15) (w : World) : Calls Tryd.prog 41 #[.int .i64 c, .int .i64 m] w fun e w' => (∃ v, e = .returned (.tuple #[v, .bool (itOk c m)])) ∧ Below w.heap.size w w' := by
  rcases (show c ≤ 13 ∨ c = 15 ∨ (c = 14 ∧ m = 8) ∨ (c = 14 ∧ m = 4) ∨ (c = 14 ∧ m = 2) ∨ (c = 14 ∧ m = 1) ∨ (c = 14 ∧ m ≠ 8 ∧ m ≠ 4 ∧ m ≠ 2 ∧ m ≠ 1) by omega) with q | q | q | q | q | q | q
  · rw [show itOk c m = true by unfold itOk; simp [nbeq, nble, h1, q]; omega]
    exact rit_lo c m hc h1 h2 q w
  · rw [show itOk c m = false by unfold itOk; simp [nbeq, nble, q]]
    exact rit_15 c m hc h1 h2 q w
  · rw [show itOk c m = true by rw [q.1, q.2]; decide]
    exact rit_14_8 c m hc h1 h2 q w
  · rw [show itOk c m = true by rw [q.1, q.2]; decide]
    exact rit_14_4 c m hc h1 h2 q w
  · rw [show itOk c m = true by rw [q.1, q.2]; decide]
    exact rit_14_2 c m hc h1 h2 q w
  · rw [show itOk c m = true by rw [q.1, q.2]; decide]
    exact rit_14_1 c m hc h1 h2 q w
  · rw [show itOk c m = false by unfold itOk; simp [nbeq, nble, q]]
    exact rit_14n c m hc h1 h2 q.1 q.2.1 q.2.2.1 q.2.2.2.1 q.2.2.2.2 w
end Go.Proofs.YtbbkiiabjhgpkaaDoor
