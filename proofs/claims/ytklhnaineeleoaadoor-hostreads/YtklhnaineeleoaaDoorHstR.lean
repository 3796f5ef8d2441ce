/- HostReads, its beginning: append of bytes that lie onto a row of the call's own; the six rows. -/
import Derived.Test.YtklhnaineeleoaaDoorHst8
import Derived.Test.YtklhnaineeleoaaDoorHst6
import Derived.Deep.RegionHeld
import Derived.Deep.AppendLies
import Derived.Deep.RegionHeld3
import Derived.Lib.AppendZeros
namespace Go.Proofs.YtklhnaineeleoaaDoor
open Go.ChangeShapes Go.WideShapes Go.ChangeAt Go.RowKit
set_option linter.unusedVariables false
set_option linter.unusedSimpArgs false

theorem run_append_bl {w : World} {base : Nat} {v : Value} {n : Nat} {xs : List Value} (ty : TypeId) (hown : w.ownsRow base 5 1 v n xs) {S : Nat → Prop} {y : Value} {bs : List Int} (hbl : BL w S y bs) (hl : n + bs.length ≤ 140737488355328) (hbase : base ≤ w.heap.size) :
    ∃ v' w', (Builtin.append_ #[29, 29] ty #[v, y]).run Tryd.prog w = .ok v' w' ∧ w'.ownsRow base 5 1 v' (n + bs.length) (xs ++ cb bs) ∧ w.grownBy w' v.ownBlock := by
  obtain ⟨i0, hi, hz0, hz1, hz2⟩ := info_parts infoByte
  have hbl' := hbl
  obtain ⟨_, A, c, rfl, hA, _⟩ := hbl
  cases A with
  | none =>
    obtain ⟨rfl, rfl⟩ := hA rfl
    refine ⟨v, w, run_append_owned_none (w := w) base _ ty _ i0 1 Tryd.underlying29 hi v n xs hown, ?_, ⟨rfl, rfl, rfl, Nat.le_refl _, fun _ _ _ => rfl⟩⟩
    simpa [cb] using hown
  | some A =>
    obtain ⟨v', w', h1, h2, h3, _⟩ := run_append_own (P := Tryd.prog) w base 29 ty 5 i0 (.int .u8 0) 1 1 Tryd.underlying29 hi hz0 hz1 hz2 rfl (by decide) v n xs hown A bs.length c (cb bs) (by rw [cb_length]; omega) hbl'.news (cb_one _) (by simp only [maxLen]; omega) (by omega) hbase
    exact ⟨v', w', h1, h2, h3⟩
/-- The cells of the row that is appended to stay. -/
theorem run_append_kept {w : World} {base g n cap : Nat} {xs : List Value} (ty : TypeId) (hown : w.ownsRow base 5 1 (.slice (some ⟨g, 0, none⟩) n cap) n xs) {S : Nat → Prop} {y : Value} {bs : List Int} (hbl : BL w S y bs) (hl : n + bs.length ≤ 140737488355328) (hbase : base ≤ w.heap.size) :
    ∃ v' w', (Builtin.append_ #[29, 29] ty #[.slice (some ⟨g, 0, none⟩) n cap, y]).run Tryd.prog w = .ok v' w' ∧ w'.ownsRow base 5 1 v' (n + bs.length) (xs ++ cb bs) ∧ w.grownBy w' (some g) ∧ ∀ j, j < n → w'.cell? ⟨g, j, none⟩ = w.cell? ⟨g, j, none⟩ := by
  obtain ⟨v', w', hr, h2, h3⟩ := run_append_bl ty hown hbl hl hbase
  refine ⟨v', w', hr, h2, h3, fun j hj => ?_⟩
  obtain ⟨i0, hi, hz0, hz1, hz2⟩ := info_parts infoByte
  have hbl' := hbl
  obtain ⟨_, A, c, rfl, hA, _⟩ := hbl
  cases A with
  | none =>
    obtain ⟨rfl, rfl⟩ := hA rfl
    have hr2 := run_append_owned_none (P := Tryd.prog) (w := w) base 29 ty 5 i0 1 Tryd.underlying29 hi _ n xs hown
    have e := hr.symm.trans hr2
    simp only [Result.ok.injEq] at e
    rw [e.2]
  | some A =>
    have hlt : g < w.heap.size := (hown.lt g rfl).2
    have hcur := hown.2
    rcases hcur with ⟨h0, _⟩ | ⟨g', cap', cur, h0, hbg, hg, hnc, hcm, hcs, htake⟩
    · simp at h0
    · simp only [Value.slice.injEq, Option.some.injEq, Addr.mk.injEq, and_true, true_and] at h0
      obtain ⟨rfl, rfl⟩ := h0
      by_cases hroom : n + bs.length ≤ cap
      · have hr2 := run_append_room (P := Tryd.prog) w 29 ty 5 i0 Tryd.underlying29 hi g n cap cur hg A bs.length c (cb bs) (by rw [cb_length, hz1]; omega) hbl'.news (cb_one _) hroom (by rw [hz1, cb_length]; omega)
        have e := hr.symm.trans hr2
        simp only [Result.ok.injEq] at e
        rw [e.2, cell_of_row _ g j _ _ _ (setRow_heap w g cur _ 5 _ hg), cell_of_row w g j cur _ _ hg, hz1]
        have h1 : n ≤ cur.toList.length := by simp; omega
        rw [List.getElem?_toArray, List.append_assoc, List.getElem?_append_left (by simp; omega), List.getElem?_take_of_lt (by omega)]
        simp
      · have holds : ∀ j u, xs[j]? = some u → w.cell? ((⟨g, 0, none⟩ : Addr).add j) = some u := hown.cells (g := g) rfl
        have hr2 := run_append_grow (P := Tryd.prog) w 29 ty 5 i0 (.int .u8 0) Tryd.underlying29 hi hz0 ⟨g, 0, none⟩ n cap xs (by rw [hz1]; exact hown.1) holds A bs.length c (cb bs) (by rw [cb_length, hz1]; omega) hbl'.news (by omega) (by omega) (growslice_fits (by omega) (by rw [hz2]; omega))
        have e := hr.symm.trans hr2
        simp only [Result.ok.injEq] at e
        rw [e.2]
        exact World.cell?_alloc_old w.drew _ _ (Nat.ne_of_lt hlt)
theorem step_append_bl {w : World} {ops : Array Oper} {o : Oper} {a : Act} {K : Act → World → Prop} {Q : Exit → Act → World → Prop} {E : Prop} (hgd : o.guard = none) (s x : Operand)
    (ho : o.op = .call { callee := .builtin .append, args := #[s, x], argTypes := #[29, 29] })
    (base g n cap : Nat) (xs : List Value) (hs : a.eval s = .slice (some ⟨g, 0, none⟩) n cap) (hown : w.ownsRow base 5 1 (.slice (some ⟨g, 0, none⟩) n cap) n xs) (S : Nat → Prop) (y : Value) (bs : List Int) (hx : a.eval x = y) (hbl : BL w S y bs) (m : Nat) (hm : bs.length = m) (hn0 : 0 < n) (hl : n + m ≤ 140737488355328) (hbase : base ≤ w.heap.size)
    (h : ∀ g' cap' w', w'.ownsRow base 5 1 (.slice (some ⟨g', 0, none⟩) (n + m) cap') (n + m) (xs ++ cb bs) → w.grownBy w' (some g) → (∀ j, j < n → w'.cell? ⟨g, j, none⟩ = w.cell? ⟨g, j, none⟩) → K (a.put o.dst (.slice (some ⟨g', 0, none⟩) (n + m) cap')) w') :
    if Region.wanted o (yielded ops a.tmps) = true then Oper.wp Tryd.prog o a w K Q else E := by
  have hw : Region.wanted o (yielded ops a.tmps) = true := by simp [Region.wanted, hgd]
  rw [if_pos hw]
  subst hm
  obtain ⟨v', w', hr, h2, h3, h4⟩ := run_append_kept o.type hown hbl hl hbase
  obtain ⟨g', cap', rfl, _, _⟩ := h2.form (by omega)
  exact Lib.wp_append_run w s x _ _ ho _ y hs hx _ w' hr (h g' cap' w' h2 h3 h4)

def lS (op D E B C v : Int) : List Int := [op, D, E, B, C, v % 256, v / 256 % 256, v / 65536 % 256, v / 16777216]
theorem l_news (w : World) (op D E B C v : Int) : ∀ j u, (cb (lS op D E B C v))[j]? = some u → (w.alloc (Obj.cells (cb (lS op D E B C v)).toArray 5)).cell? ((⟨w.heap.size, 0, none⟩ : Addr).add j) = some u :=
  World.news_of_block (heap_alloc_new w _)

theorem l_ok {op D E B C v : Int} (h1 : 0 ≤ op ∧ op ≤ 255) (h2 : 0 ≤ D ∧ D ≤ 255) (h3 : 0 ≤ E ∧ E ≤ 255) (h4 : 0 ≤ B ∧ B ≤ 255) (h5 : 0 ≤ C ∧ C ≤ 255) (h6 : 0 ≤ v ∧ v ≤ 4294967295) : okB (lS op D E B C v) := by
  intro x hx
  simp only [lS, List.mem_cons, List.not_mem_nil, or_false] at hx
  rcases hx with rfl | rfl | rfl | rfl | rfl | rfl | rfl | rfl | rfl <;> omega
theorem okB_set {l : List Int} {p : Nat} {x : Int} (h : okB l) (hx : 0 ≤ x ∧ x ≤ 255) : okB (l.set p x) := fun y hy => by
  rcases List.mem_or_eq_of_mem_set hy with h1 | rfl
  · exact h _ h1
  · exact hx
theorem okB_append {a b : List Int} (h : okB a) (k : okB b) : okB (a ++ b) := fun y hy => (List.mem_append.1 hy).elim (h y) (k y)
theorem BL.lit (w : World) (bs : List Int) (h : okB bs) (hn : bs.length ≤ maxLen) : BL (w.alloc (Obj.cells (cb bs).toArray 5)) (fun b => b = w.heap.size) (.slice (some ⟨w.heap.size, 0, none⟩) bs.length bs.length) bs := by
  refine ⟨h, some ⟨w.heap.size, 0, none⟩, bs.length, rfl, fun h => (by cases h), fun j x hx => ⟨w.heap.size, 0, rfl, rfl, ?_⟩⟩
  rw [World.cell?_alloc_new, List.getElem?_toArray, Nat.zero_add, cb_at, hx]
  rfl
theorem BL.pre {w : World} {S : Nat → Prop} {A : Option Addr} {n c : Nat} {bs : List Int} (h : BL w S (.slice A n c) bs) (m : Nat) (hm : m ≤ n) : BL w S (.slice A m c) (bs.take m) := by
  obtain ⟨h0, A', c', h1, h2, h3⟩ := h
  simp only [Value.slice.injEq] at h1
  obtain ⟨rfl, rfl, rfl⟩ := h1
  have hl : (bs.take m).length = m := by simp; omega
  refine ⟨fun x hx => h0 x (List.mem_of_mem_take hx), A, c, by rw [hl], fun h => ⟨(h2 h).1, by rw [(h2 h).2]; simp⟩, fun j x hx => ?_⟩
  have hj : j < m := by
    have := (List.getElem?_eq_some_iff.1 hx).1
    omega
  rw [List.getElem?_take_of_lt hj] at hx
  exact h3 j x hx
/-- Cells that stay make bytes that stay. -/
theorem BL.cells {w w' : World} {g n c : Nat} {bs : List Int} {S S' : Nat → Prop} (h : BL w S (.slice (some ⟨g, 0, none⟩) n c) bs) (hk : ∀ j, j < n → w'.cell? ⟨g, j, none⟩ = w.cell? ⟨g, j, none⟩) (hS : S' g) : BL w' S' (.slice (some ⟨g, 0, none⟩) n c) bs := by
  obtain ⟨h0, A', c', h1, h2, h3⟩ := h
  simp only [Value.slice.injEq] at h1
  obtain ⟨rfl, rfl, rfl⟩ := h1
  refine ⟨h0, _, _, rfl, fun h => (by cases h), fun j x hx => ?_⟩
  have hj := (List.getElem?_eq_some_iff.1 hx).1
  obtain ⟨b, o, e1, _, e3⟩ := h3 j x hx
  simp only [Option.some.injEq, Addr.mk.injEq, and_true] at e1
  obtain ⟨rfl, rfl⟩ := e1
  exact ⟨g, 0, rfl, hS, by rw [Nat.zero_add] at e3 ⊢; rw [hk j hj]; exact e3⟩

/-- The six rows as they lie. -/
def SixAt (W : World) (go : Nat) (V : Nat → Value) (Y : Nat → List Int) : Prop := ∀ k, k < 6 → W.cell? ⟨go, k, none⟩ = some (V k) ∧ BL W (fun _ => True) (V k) (Y k) ∧ (Y k).length ≤ 39
def sixV (v0 v1 v2 v3 v4 v5 : Value) (k : Nat) : Value := match k with
  | 0 => v0 | 1 => v1 | 2 => v2 | 3 => v3 | 4 => v4 | _ => v5
def sixY (v0 v1 v2 v3 v4 v5 : List Int) (k : Nat) : List Int := match k with
  | 0 => v0 | 1 => v1 | 2 => v2 | 3 => v3 | 4 => v4 | _ => v5
theorem six_at {w : World} {v0 v1 v2 v3 v4 v5 : Value} {y0 y1 y2 y3 y4 y5 : List Int} (h0 : BL w (fun _ => True) v0 y0) (h1 : BL w (fun _ => True) v1 y1) (h2 : BL w (fun _ => True) v2 y2) (h3 : BL w (fun _ => True) v3 y3) (h4 : BL w (fun _ => True) v4 y4) (h5 : BL w (fun _ => True) v5 y5)
    (l0 : y0.length ≤ 39) (l1 : y1.length ≤ 39) (l2 : y2.length ≤ 39) (l3 : y3.length ≤ 39) (l4 : y4.length ≤ 39) (l5 : y5.length ≤ 39) : SixAt (w.alloc (Obj.cells #[v0, v1, v2, v3, v4, v5] 29)) w.heap.size (sixV v0 v1 v2 v3 v4 v5) (sixY y0 y1 y2 y3 y4 y5) := by
  have hb : Below w.heap.size w (w.alloc (Obj.cells #[v0, v1, v2, v3, v4, v5] 29)) := (Below.refl _ _).alloc (Nat.le_refl _) _
  intro k hk
  rw [World.cell?_alloc_new]
  rcases (show k = 0 ∨ k = 1 ∨ k = 2 ∨ k = 3 ∨ k = 4 ∨ k = 5 by omega) with rfl | rfl | rfl | rfl | rfl | rfl
  · exact ⟨rfl, h0.below hb, l0⟩
  · exact ⟨rfl, h1.below hb, l1⟩
  · exact ⟨rfl, h2.below hb, l2⟩
  · exact ⟨rfl, h3.below hb, l3⟩
  · exact ⟨rfl, h4.below hb, l4⟩
  · exact ⟨rfl, h5.below hb, l5⟩

theorem list9 {l : List Int} (h : l.length = 9) : ∃ b0 b1 b2 b3 b4 b5 b6 b7 b8, l = [b0, b1, b2, b3, b4, b5, b6, b7, b8] := by
  match l, h with
  | [b0, b1, b2, b3, b4, b5, b6, b7, b8], _ => exact ⟨b0, b1, b2, b3, b4, b5, b6, b7, b8, rfl⟩
/-- What Read tells of bytes. -/
theorem read_cases {bs : List Int} (h : okB bs) : (∃ hh, readS bs = (hh, 0) ∧ rightS hh = true ∧ hh.wf ∧ nineS hh = bs) ∨ readS bs = (zHV, 20) ∨ readS bs = (zHV, 21) := by
  by_cases h9 : bs.length < 9
  · exact .inr (.inl (by unfold readS; rw [if_pos h9]))
  · by_cases h10 : 9 < bs.length
    · exact .inr (.inr (by unfold readS; rw [if_neg h9, if_pos h10]))
    · have hs : readS bs = if rightS (ofNine bs) then (ofNine bs, 0) else (zHV, 21) := by unfold readS; rw [if_neg h9, if_neg h10]
      cases hr : rightS (ofNine bs)
      · exact .inr (.inr (by rw [hs, hr]; rfl))
      · refine .inl ⟨ofNine bs, by rw [hs, hr]; rfl, hr, ?_⟩
        obtain ⟨b0, b1, b2, b3, b4, b5, b6, b7, b8, rfl⟩ := list9 (show bs.length = 9 by omega)
        have k5 := h b5 (by simp)
        have k6 := h b6 (by simp)
        have k7 := h b7 (by simp)
        have k8 := h b8 (by simp)
        have hi : (ofNine [b0, b1, b2, b3, b4, b5, b6, b7, b8]).im = b5 + b6 * 256 + b7 * 65536 + b8 * 16777216 := rfl
        refine ⟨⟨by rw [hi]; omega, by rw [hi]; omega⟩, ?_⟩
        show [b0, b1, b2, b3, b4, (ofNine [b0, b1, b2, b3, b4, b5, b6, b7, b8]).im % 256, (ofNine [b0, b1, b2, b3, b4, b5, b6, b7, b8]).im / 256 % 256, (ofNine [b0, b1, b2, b3, b4, b5, b6, b7, b8]).im / 65536 % 256, (ofNine [b0, b1, b2, b3, b4, b5, b6, b7, b8]).im / 16777216] = _
        rw [hi, show (b5 + b6 * 256 + b7 * 65536 + b8 * 16777216) % 256 = b5 by omega, show (b5 + b6 * 256 + b7 * 65536 + b8 * 16777216) / 256 % 256 = b6 by omega, show (b5 + b6 * 256 + b7 * 65536 + b8 * 16777216) / 65536 % 256 = b7 by omega, show (b5 + b6 * 256 + b7 * 65536 + b8 * 16777216) / 16777216 = b8 by omega]
def sixRel (W : World) (i : Value) (wr : World) : Prop := ∃ k : Nat, k ≤ 6 ∧ i = .int .i64 k ∧ Below W.heap.size W wr
end Go.Proofs.YtklhnaineeleoaaDoor
