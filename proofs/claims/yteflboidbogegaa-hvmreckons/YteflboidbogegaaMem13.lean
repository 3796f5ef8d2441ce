/- sourdineref1.NewMem, walked. -/
import Derived.Test.YteflboidbogegaaMem8
import Derived.Test.YteflboidbogegaaReg6
import Derived.Laws.CopyOwn
namespace Go.Proofs.Yteflboidbogegaa
open Go.ChangeShapes Go.WideShapes Go.ChangeAt Go.RowKit
set_option linter.unusedVariables false
set_option linter.unusedSimpArgs false

theorem ref_done {wr : World} {p l0 lo : Nat} {gv nv : Value} {vs : List Value} {q : Nat → Nat} {Bs : List Reg} {G D : List (List Int)}
    (hlen : D.length = Bs.length) (hlo : lo ≤ p) (hl0 : l0 ≤ lo) (hp0 : wr.cell? ⟨p, 0, none⟩ = some gv) (hp1 : wr.cell? ⟨p, 1, none⟩ = some nv) (hown : wr.ownsRow (p + 1) 84 1 nv D.length vs) (hplt : p < wr.heap.size)
    (hrows : ∀ (i : Nat) (d : List Int), i < D.length → D[i]? = some d → ∃ cap, vs[i]? = some (.slice (some ⟨q i, 0, none⟩) d.length cap) ∧
      wr.ownsRow (p + 1) 5 1 (.slice (some ⟨q i, 0, none⟩) d.length cap) d.length (cb d))
    (hq : ∀ i, i < D.length → nv.ownBlock ≠ some (q i) ∧ q i < wr.heap.size ∧ p < q i) (hqi : ∀ i j, i < D.length → j < D.length → q i = q j → i = j)
    (hg : RL wr (fun b => b < l0) gv Bs G) (hd : ∀ (i : Nat) (d : List Int) (r : Reg), D[i]? = some d → Bs[i]? = some r → okB d ∧ (d.length : Int) = r.ln) :
    MemAt wr p l0 lo wr.heap.size Bs G D q := by
  refine ⟨hlen, Nat.le_refl _, ⟨hlo, hplt, fun i hi => by have := (hq i (by omega)).2.2; omega⟩, fun i j hi hj e => hqi i j (by omega) (by omega) e, ⟨_, hp0, hg.mono fun b hb => ⟨.inl hb, fun i hi => by have := (hq i (by omega)).2.2; omega⟩⟩, ?_⟩
  have hown' := hown
  obtain ⟨_, ⟨rfl, h0⟩ | ⟨g, cap, cur, rfl, hgb, hgg, _⟩⟩ := hown'
  · have hBe : Bs = [] := List.eq_nil_of_length_eq_zero (by omega)
    refine ⟨none, 0, 0, ?_, fun _ => ⟨rfl, hBe⟩, fun h => absurd hBe h, fun i d r hd hr => ?_⟩
    · rw [hp1, ← hlen, h0]
    · rw [hBe] at hr; simp at hr
  · refine ⟨some ⟨g, 0, none⟩, g, cap, ?_, fun h => (by cases h), fun _ => ⟨rfl, by omega, (Array.getElem?_eq_some_iff.1 hgg).1, fun i hi => ?_⟩, fun i d r hd' hr => ?_⟩
    · rw [hp1, ← hlen]
    · intro e
      exact (hq i (by omega)).1 (by simp [Value.ownBlock, e])
    · have hi : i < D.length := (List.getElem?_eq_some_iff.1 hd').1
      obtain ⟨cp, e1, e2⟩ := hrows i d hi hd'
      obtain ⟨m1, m2⟩ := hd i d r hd' hr
      refine ⟨m1, m2, (hq i hi).2.1, cp, ?_, own_mono e2 (by omega)⟩
      rw [hown.cellAt i (by omega)]
      exact e1

/-- The document's memory is there. -/
def RefPost (w : World) (l0 : Nat) (Bs : List Reg) (G D : List (List Int)) (e : Ending) (w' : World) : Prop :=
  ∃ p q, e = .returned (.tuple #[.pointer (some ⟨p, 0, none⟩), .int .i64 0]) ∧ MemAt w' p l0 w.heap.size w'.heap.size Bs G D q ∧ Below w.heap.size w w'

theorem made_bytes {w : World} {base n cap : Nat} {g : Nat} {xs : List Value} (h : w.ownsRow base 5 1 (.slice (some ⟨g, 0, none⟩) n n) n xs) : w.heap[g]? = some (.cells xs.toArray 5 (0, 0)) := by
  obtain ⟨hl, ⟨h', _⟩ | ⟨g', cap', cur, h', _, hg, _, _, hs, ht⟩⟩ := h
  · cases h'
  · simp only [Value.slice.injEq, Option.some.injEq, Addr.mk.injEq, and_true, true_and] at h'
    obtain ⟨rfl, rfl⟩ := h'
    rw [hg, ← ht, List.take_of_length_le (by rw [Array.length_toList]; omega)]
theorem own_of_heap {w : World} {base g n : Nat} {bs : List Int} (h : w.heap[g]? = some (.cells (cb bs).toArray 5 (0, 0))) (hb : base ≤ g) (hn : bs.length = n) (hm : n ≤ maxLen) : w.ownsRow base 5 1 (.slice (some ⟨g, 0, none⟩) n n) n (cb bs) := by
  subst hn
  refine ⟨by rw [cb_length]; omega, .inr ⟨g, bs.length, _, rfl, hb, h, Nat.le_refl _, hm, ?_, ?_⟩⟩
  · simp [cb_length]
  · rw [Nat.mul_one]
    exact List.take_of_length_le (by rw [cb_length]; exact Nat.le_refl _)
theorem splice_fill (ln : Int) (bs : List Int) (n : Nat) (hn : ln = n) (hle : bs.length ≤ n) : splice (List.replicate n (Value.int .u8 0)) 0 (cb bs) = cb (fillS ln bs) := by
  simp only [splice, fillS, cb_append, cb_zeros, List.take_zero, List.nil_append, Nat.zero_add, cb_length, List.drop_replicate]
  rw [hn]
  simp

end Go.Proofs.Yteflboidbogegaa
