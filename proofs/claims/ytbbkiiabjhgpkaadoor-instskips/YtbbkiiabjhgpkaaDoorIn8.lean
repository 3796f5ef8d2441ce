/- Stage 7: inst.rising, by the shelf's contracts: of a row of the call's own those from 0 to a last one, in order, each once. -/
import Derived.Test.YtbbkiiabjhgpkaaDoorIn7
import Derived.Test.YtbbkiiabjhgpkaaDoorRisP
import Derived.Test.YtbbkiiabjhgpkaaDoorShelf
import Derived.Maps.AppendAt
namespace Go.Proofs.YtbbkiiabjhgpkaaDoor
open Go.ChangeShapes Go.WideShapes Go.ChangeAt Go.RowKit Go.Lib Go.Sort
set_option linter.unusedVariables false
set_option linter.unusedSimpArgs false

theorem grown_sort (w : World) (n blk off : Nat) (d : Array Int) (os : Array Obj) : w.grownBy (grow (putRow (Value.int .i64) (Sort.ahead w n) blk off d) os) (some blk) := by
  refine ⟨rfl, rfl, rfl, ?_, fun k hk hne => ?_⟩
  · rw [size_grow, size_putRow]
    show w.heap.size ≤ w.heap.size + os.size
    omega
  · rw [heap_grow_old _ _ (by rw [size_putRow]; exact hk)]
    unfold putRow mapBlock
    have hb : blk ≠ k := fun e => hne (by rw [e])
    simp [Sort.ahead, Array.getElem?_modify, hb]
theorem grown_put (w : World) (n blk off : Nat) (d : Array Int) : w.grownBy (putRow (Value.int .i64) (Sort.ahead w n) blk off d) (some blk) := by
  have := grown_sort w n blk off d #[]
  rwa [grow_empty] at this
/-- The first so many. -/
theorem holds_prefix {w : World} {blk off : Nat} {a b : List Int} (h : Holds (Value.int .i64) w blk off (a ++ b).toArray) : Holds (Value.int .i64) w blk off a.toArray := fun j hj => by
  have hj' : j < a.length := by simpa using hj
  have h2 := h j (by simp; omega)
  rw [getElem!_pos (a ++ b).toArray j (by simp; omega)] at h2
  rw [getElem!_pos a.toArray j hj]
  simpa [List.getElem_append_left hj'] using h2
theorem holds_put {w : World} {n blk off : Nat} {d0 : Array Int} {a b : List Int} (h : Holds (Value.int .i64) w blk off d0) (hs : (a ++ b).length = d0.size) : Holds (Value.int .i64) (putRow (Value.int .i64) (Sort.ahead w n) blk off (a ++ b).toArray) blk off a.toArray :=
  holds_prefix (holds_putRow (Value.int .i64) (Sort.ahead w n) blk off d0 (a ++ b).toArray (holds_ahead _ w n blk off d0 h) (by simpa using hs))
def IL (w : World) (v : Value) (ys : List Int) : Prop := ∃ A c, v = .slice A ys.length c ∧ ∀ j x, ys[j]? = some x → ∃ b o, A = some ⟨b, o, none⟩ ∧ w.cell? ⟨b, o + j, none⟩ = some (.int .i64 x)
theorem il_holds {w : World} {blk c : Nat} {ys : List Int} (h : Holds (Value.int .i64) w blk 0 ys.toArray) : IL w (.slice (some ⟨blk, 0, none⟩) ys.length c) ys :=
  ⟨_, c, rfl, fun j x hx => by
    obtain ⟨hj, rfl⟩ := List.getElem?_eq_some_iff.1 hx
    have h1 := (h j (by simpa using hj)).1
    rw [getElem!_pos ys.toArray j (by simpa using hj)] at h1
    exact ⟨blk, 0, rfl, by simpa using h1⟩⟩
theorem il_nil (w : World) (A : Option Addr) (c : Nat) : IL w (.slice A 0 c) [] := ⟨A, c, rfl, fun j x hx => by simp at hx⟩
theorem IL.below {w w' : World} {v : Value} {ys : List Int} (h : IL w v ys) (hb : Below w.heap.size w w') : IL w' v ys := by
  obtain ⟨A, c, h1, h2⟩ := h
  refine ⟨A, c, h1, fun j x hx => ?_⟩
  obtain ⟨b, o, e1, e2⟩ := h2 j x hx
  exact ⟨b, o, e1, (hb.cell (by exact World.block_lt_of_cell? w _ e2)).trans e2⟩
theorem own_holds {w : World} {base g c : Nat} {xs : List Int} (h : w.ownsRow base 3 1 (.slice (some ⟨g, 0, none⟩) xs.length c) xs.length (ic xs)) : Holds (Value.int .i64) w g 0 xs.toArray ∧ g < w.heap.size ∧ xs.length ≤ c ∧ base ≤ g := by
  obtain ⟨_, h2⟩ := h
  rcases h2 with ⟨h2, _⟩ | ⟨g', cap, cur, h2, h3, h4, h5, h6, h7, h8⟩
  · cases h2
  · simp only [Value.slice.injEq, Option.some.injEq, Addr.mk.injEq, and_true, true_and] at h2
    obtain ⟨rfl, rfl⟩ := h2
    refine ⟨fun j hj => ?_, (Array.getElem?_eq_some_iff.1 h4).1, h5, h3⟩
    have hj' : j < xs.length := by simpa using hj
    constructor
    · rw [Nat.zero_add, cell_of_row w g j _ _ _ h4, getElem!_pos xs.toArray j hj]
      have e : cur.toList[j]? = (ic xs)[j]? := by
        rw [← h8, List.getElem?_take_of_lt (by omega)]
      rw [← Array.getElem?_toList, e]
      simp [ic, hj']
    · rw [Nat.zero_add]
      exact frozen_of_row w g j _ _ h4
def delB (last : Nat) (x : Int) : Bool := decide (x < 0) || decide ((last : Int) < x)
set_option maxHeartbeats 2000000 in
theorem clos_c (last : Nat) (x : Int) (B : Nat) (W : World) (hc : W.cell? ⟨B, 0, none⟩ = some (.int .i64 (last : Int))) : FnGives Tryd.prog 52 #[.pointer (some ⟨B, 0, none⟩)] #[.int .i64 x] (.bool (delB last x)) W := by
  show Calls Tryd.prog 52 #[.int .i64 x, .pointer (some ⟨B, 0, none⟩)] W _
  unfold delB
  by_cases h : x < 0
  · go_enter Tryd.func52, Tryd.ntmps52
    go_wp2
    go_ret
    exact ⟨by simp [h], 0, rfl⟩
  · by_cases h2 : (last : Int) < x
    · go_enter Tryd.func52, Tryd.ntmps52
      go_wp2
      go_ret
      exact ⟨by simp [h, h2], 0, rfl⟩
    · go_enter Tryd.func52, Tryd.ntmps52
      go_wp2
      go_ret
      exact ⟨by simp [h, h2], 0, rfl⟩
theorem ltC (x y : Int) : ltOf Lib.compareInt x y = decide (x < y) := by
  unfold ltOf Lib.compareInt
  by_cases h1 : x < y
  · simp [h1]
  · by_cases h2 : y < x <;> simp [h1, h2]
theorem swoC : SWO (ltOf Lib.compareInt) where
  irrefl x := by rw [ltC]; simp
  trans x y z h1 h2 := by rw [ltC] at *; simp at *; omega
  ntrans x y z h1 h2 := by rw [ltC] at *; simp at *; omega
theorem totC (x y : Int) (h1 : ltOf Lib.compareInt x y = false) (h2 : ltOf Lib.compareInt y x = false) : x = y := by rw [ltC] at *; simp at *; omega
theorem leC : (fun x y : Int => !ltOf Lib.compareInt y x) = fun x y => decide (x ≤ y) := by
  funext x y
  rw [ltC]
  by_cases h : x ≤ y
  · have h' : ¬ y < x := by omega
    simp [h, h']
  · have h' : y < x := by omega
    simp [h, h']
theorem zeroI : ∀ w, (zeroValue 3).run Tryd.prog w = .ok (.int .i64 0) w := Tryd.zeroValue3
/-- DeleteFunc, at a row of the call's own. -/
theorem del_c (last : Nat) (xs : List Int) (g c B : Nat) (w : World) (hH : Holds (Value.int .i64) w g 0 xs.toArray) (hc : xs.length ≤ c) (hn : xs.length < 1000) (hB : B < w.heap.size) (hne : B ≠ g) (hcell : w.cell? ⟨B, 0, none⟩ = some (.int .i64 (last : Int))) :
    Calls Tryd.prog 51 #[.slice (some ⟨g, 0, none⟩) xs.length c, .func (.func 52) #[] #[.pointer (some ⟨B, 0, none⟩)]] w fun e w' => e = .returned (.slice (some ⟨g, 0, none⟩) (xs.filter fun x => !delB last x).length c) ∧ Holds (Value.int .i64) w' g 0 (xs.filter fun x => !delB last x).toArray ∧ w.grownBy w' (some g) := by
  have eg : ∀ args w, (callFunc 52 args).run Tryd.prog w = .ok (.enter 52 args) w := enters_of Tryd.func52 (by kernel_rfl) rfl
  have hp : PredAt Tryd.prog 52 #[.pointer (some ⟨B, 0, none⟩)] (Value.int .i64) (delB last) w := fun W x hb => clos_c last x B W ((hb.cell (p := ⟨B, 0, none⟩) hB).trans hcell)
  have ho : PredOver Tryd.prog 52 #[.pointer (some ⟨B, 0, none⟩)] (Value.int .i64) (delB last) g 0 xs.toArray.size w := fun n os dk x _ => clos_c last x B _ (by
    unfold sortWorld
    rw [cell?_grow _ _ _ (by show B < (putRow _ _ _ _ _).heap.size; rw [size_putRow]; exact hB), cell?_putRow_other _ _ g 0 _ _ (Or.inl hne)]
    exact hcell)
  have h := Tryd.slices_DeleteFunc (Value.int .i64) (fun _ => rfl) (delB last) 52 #[.pointer (some ⟨B, 0, none⟩)] eg 0 zeroI g 0 c xs.toArray w hp ho hH (by simp; omega) (by simpa using hc)
  simp only [List.size_toArray] at h
  refine h.mono fun e w' ⟨he, q, hw⟩ => ⟨he, ?_, ?_⟩
  · rw [hw]
    refine holds_put hH ?_
    have := List.length_filter_le (fun x => !delB last x) xs
    simp
    omega
  · rw [hw]
    exact grown_put w q g 0 _
theorem sort_c (xs : List Int) (g c : Nat) (w : World) (hH : Holds (Value.int .i64) w g 0 xs.toArray) (hn : xs.length < 1000) (hg : g < w.heap.size) :
    Calls Tryd.prog 53 #[.slice (some ⟨g, 0, none⟩) xs.length c, .func (.func 54) #[] #[]] w fun e w' => e = .returned (.tuple #[]) ∧ Holds (Value.int .i64) w' g 0 (xs.mergeSort fun x y => decide (x ≤ y)).toArray ∧ w.grownBy w' (some g) := by
  have eg : ∀ args w, (callFunc 54 args).run Tryd.prog w = .ok (.enter 54 args) w := enters_of Tryd.func54 (by kernel_rfl) rfl
  have hc : CmpReads Tryd.prog 54 #[] (Value.int .i64) Lib.compareInt g 0 xs.toArray.size w := fun _ _ _ _ x y => (Tryd.cmp_Compare_int x y _).mono fun _ _ ⟨he, hw⟩ => ⟨he, 0, hw⟩
  have h := Tryd.slices_SortFunc_total (Value.int .i64) (fun _ => rfl) Lib.compareInt swoC 54 #[] g 0 c xs.toArray w eg hc.lays hH hg (by simp; omega) totC
  rw [leC] at h
  simp only [List.size_toArray] at h
  refine h.mono fun e w' ⟨he, n, os, hw⟩ => ⟨he, ?_, ?_⟩
  · rw [hw]
    have hs : (xs.mergeSort fun x y => decide (x ≤ y)).toArray.size = xs.toArray.size := by simp
    exact holds_grow _ _ os g 0 _ (by rw [size_putRow]; exact hg) (holds_putRow (Value.int .i64) (Sort.ahead w n) g 0 xs.toArray _ (holds_ahead _ w n g 0 _ hH) hs)
  · rw [hw]
    exact grown_sort w n g 0 _ os
theorem compact_c (xs : List Int) (g c : Nat) (w : World) (hH : Holds (Value.int .i64) w g 0 xs.toArray) (hn : xs.length < 1000) (hc : xs.length ≤ c) :
    Calls Tryd.prog 55 #[.slice (some ⟨g, 0, none⟩) xs.length c] w fun e w' => e = .returned (.slice (some ⟨g, 0, none⟩) (compactUpTo xs.toArray xs.length).length c) ∧ Holds (Value.int .i64) w' g 0 (compactUpTo xs.toArray xs.length).toArray ∧ w.grownBy w' (some g) := by
  refine (Tryd.slices_Compact_int g 0 c xs w hH (by omega) hc).mono fun e w' ⟨he, q, hw⟩ => ⟨he, ?_, ?_⟩
  · rw [hw]
    refine holds_put hH ?_
    have h2 : (Lib.compact xs).length ≤ xs.length := by
      unfold Lib.compact compactUpTo
      rw [List.length_map]
      exact Nat.le_trans (List.length_filter_le _ _) (by simp)
    simp
    omega
  · rw [hw]
    exact grown_put w q g 0 _
set_option maxHeartbeats 4000000 in
set_option maxRecDepth 100000 in
theorem rising_c (last : Nat) (xs : List Int) (base : Nat) (v : Value) (w : World) (hv : w.ownsRow base 3 1 v xs.length (ic xs)) (hn : xs.length < 1000) : Calls Tryd.prog 35 #[v, .int .i64 (last : Int)] w fun e w' => ∃ u, e = .returned u ∧ IL w' u (riseL last xs) ∧ w.grownBy w' v.ownBlock := by
  have hv' := hv
  rcases hv.2 with ⟨h2, h3⟩ | ⟨g, cap, cur, h2, _⟩
  · subst h2
    have hx : xs = [] := List.eq_nil_of_length_eq_zero h3
    subst hx
    have hr : riseL last [] = [] := by
      have := rise_eq last []
      rw [← this]
      simp [compactUpTo]
    rw [hr]
    have CD : Hid (∀ (B : Nat) (w : World), Calls Tryd.prog 51 #[.slice none 0 0, .func (.func 52) #[] #[.pointer (some ⟨B, 0, none⟩)]] w fun e w' => e = .returned (.slice none 0 0) ∧ w' = w) := fun B w => by
      have CI : Hid (∀ w, Calls Tryd.prog 57 #[.slice none 0 0, .func (.func 52) #[] #[.pointer (some ⟨B, 0, none⟩)]] w fun e w' => e = .returned (.int .i64 (-1)) ∧ w' = w) := fun w => Tryd.slices_IndexFunc_empty (α := Int) none 0 _ w
      go_enter Tryd.func51, Tryd.ntmps51
      go_wp2_with (go_at_call 57; refine (CI.out _).mono ?_; rintro e wf ⟨rfl, rfl⟩)
      go_ret
      exact ⟨rfl, rfl⟩
    have CS : Hid (∀ w, Calls Tryd.prog 53 #[.slice none 0 0, .func (.func 54) #[] #[]] w fun e w' => e = .returned (.tuple #[]) ∧ w' = w) := fun w => Tryd.slices_SortFunc_none (α := Int) none 0 _ w
    have CC : Hid (∀ w, Calls Tryd.prog 55 #[.slice none 0 0] w fun e w' => e = .returned (.slice none 0 0) ∧ w' = w) := fun w => Tryd.slices_Compact_int_empty none 0 w
    clear hv hv' h3 hr
    go_enter Tryd.func35, Tryd.ntmps35
    go_wp2_with (first
      | (go_at_call 51; refine (CD.out _ _).mono ?_; rintro e wf ⟨rfl, rfl⟩)
      | (go_at_call 53; refine (CS.out _).mono ?_; rintro e wf ⟨rfl, rfl⟩)
      | (go_at_call 55; refine (CC.out _).mono ?_; rintro e wf ⟨rfl, rfl⟩))
    go_ret
    exact ⟨_, rfl, il_nil _ none 0, World.grownBy_alloc w _ none⟩
  · subst h2
    obtain ⟨hH, hg, hc, _⟩ := own_holds hv
    have hA : Holds (Value.int .i64) (w.alloc (.cells #[.int .i64 (last : Int)] 3)) g 0 xs.toArray := by
      have e : w.alloc (.cells #[.int .i64 (last : Int)] 3) = grow w #[.cells #[.int .i64 (last : Int)] 3] := alloc_eq_grow w _
      rw [e]
      exact holds_grow _ _ _ g 0 _ hg hH
    have hcell : (w.alloc (.cells #[.int .i64 (last : Int)] 3)).cell? ⟨w.heap.size, 0, none⟩ = some (.int .i64 (last : Int)) := by simp
    have hsz : (w.alloc (.cells #[.int .i64 (last : Int)] 3)).heap.size = w.heap.size + 1 := by simp
    have HG : Hid (w.grownBy (w.alloc (.cells #[.int .i64 (last : Int)] 3)) (some g)) := World.grownBy_alloc w _ _
    have CD : Hid (Calls Tryd.prog 51 #[.slice (some ⟨g, 0, none⟩) xs.length cap, .func (.func 52) #[] #[.pointer (some ⟨w.heap.size, 0, none⟩)]] (w.alloc (.cells #[.int .i64 (last : Int)] 3)) fun e w' => e = .returned (.slice (some ⟨g, 0, none⟩) (xs.filter fun x => !delB last x).length cap) ∧ Holds (Value.int .i64) w' g 0 (xs.filter fun x => !delB last x).toArray ∧ (w.alloc (.cells #[.int .i64 (last : Int)] 3)).grownBy w' (some g)) :=
      del_c last xs g cap w.heap.size _ hA hc hn (by rw [hsz]; omega) (by omega) hcell
    have hl2 := List.length_filter_le (fun x => !delB last x) xs
    have HRE : Hid (compactUpTo ((xs.filter fun x => !delB last x).mergeSort fun x y => decide (x ≤ y)).toArray (xs.filter fun x => !delB last x).length = riseL last xs) := rise_eq last xs
    have hml : ((xs.filter fun x => !delB last x).mergeSort fun x y => decide (x ≤ y)).length = (xs.filter fun x => !delB last x).length := by simp
    generalize hys : (xs.filter fun x => !delB last x) = ys at *
    clear hys
    have CS : Hid (∀ w1, w.grownBy w1 (some g) → Holds (Value.int .i64) w1 g 0 ys.toArray → Calls Tryd.prog 53 #[.slice (some ⟨g, 0, none⟩) ys.length cap, .func (.func 54) #[] #[]] w1 fun e w' => e = .returned (.tuple #[]) ∧ Holds (Value.int .i64) w' g 0 (ys.mergeSort fun x y => decide (x ≤ y)).toArray ∧ w1.grownBy w' (some g)) := fun w1 hgw hh => sort_c ys g cap w1 hh (by omega) (Nat.lt_of_lt_of_le hg hgw.size)
    have CC : Hid (∀ w1, Holds (Value.int .i64) w1 g 0 (ys.mergeSort fun x y => decide (x ≤ y)).toArray → Calls Tryd.prog 55 #[.slice (some ⟨g, 0, none⟩) ys.length cap] w1 fun e w' => e = .returned (.slice (some ⟨g, 0, none⟩) (riseL last xs).length cap) ∧ Holds (Value.int .i64) w' g 0 (riseL last xs).toArray ∧ w1.grownBy w' (some g)) := fun w1 hh => by
      have h := compact_c (ys.mergeSort fun x y => decide (x ≤ y)) g cap w1 hh (by omega) (by omega)
      rw [hml, HRE.out] at h
      exact h
    clear hv hv' hH hA hcell hsz hl2 hml hc hn HRE
    generalize riseL last xs = zs at *
    go_enter Tryd.func35, Tryd.ntmps35
    go_wp2_with (first
      | (go_at_call 51; refine CD.out.mono ?_; rintro e w2 ⟨rfl, hh2, hg2⟩; have H2 : Hid (Holds (Value.int .i64) w2 g 0 ys.toArray) := hh2; have G2 : Hid (w.grownBy w2 (some g)) := HG.out.trans hg2; clear hh2 hg2)
      | (go_at_call 53; refine (CS.out _ G2.out H2.out).mono ?_; rintro e w3 ⟨rfl, hh3, hg3⟩; have H3 : Hid (Holds (Value.int .i64) w3 g 0 (ys.mergeSort fun x y => decide (x ≤ y)).toArray) := hh3; have G3 : Hid (w.grownBy w3 (some g)) := G2.out.trans hg3; clear hh3 hg3)
      | (go_at_call 55; refine (CC.out _ H3.out).mono ?_; rintro e w4 ⟨rfl, hh4, hg4⟩; have H4 : Hid (Holds (Value.int .i64) w4 g 0 zs.toArray) := hh4; have G4 : Hid (w.grownBy w4 (some g)) := G3.out.trans hg4; clear hh4 hg4))
    go_ret
    exact ⟨_, rfl, il_holds H4.out, G4.out⟩
end Go.Proofs.YtbbkiiabjhgpkaaDoor
