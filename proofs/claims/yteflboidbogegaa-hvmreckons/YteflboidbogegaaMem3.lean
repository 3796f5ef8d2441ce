/- A memory as it lies: its regions, and a row of bytes of its own for each. mem.New, walked. -/
import Derived.Test.YteflboidbogegaaMem2
import Derived.Deep.RegionLaw
namespace Go.Proofs.Yteflboidbogegaa
open Go.ChangeShapes Go.WideShapes Go.ChangeAt Go.RowKit
set_option linter.unusedVariables false
set_option linter.unusedSimpArgs false
attribute [local go_sem ↓] Go.wp_at_zero Go.wp_at_succ

def Off (q : Nat → Nat) (n b : Nat) : Prop := ∀ i, i < n → b ≠ q i
def Zone (l0 lo hi b : Nat) : Prop := b < l0 ∨ (lo ≤ b ∧ b < hi)

structure MemAt (w : World) (p l0 lo hi : Nat) (Bs : List Reg) (G D : List (List Int)) (q : Nat → Nat) : Prop where
  len : D.length = Bs.length
  top : hi ≤ w.heap.size
  pin : lo ≤ p ∧ p < hi ∧ Off q Bs.length p
  inj : ∀ i j, i < Bs.length → j < Bs.length → q i = q j → i = j
  given : ∃ v, w.cell? ⟨p, 0, none⟩ = some v ∧ RL w (fun b => Zone l0 lo hi b ∧ Off q Bs.length b) v Bs G
  now : ∃ A nb c, w.cell? ⟨p, 1, none⟩ = some (.slice A Bs.length c) ∧ (A = none → c = 0 ∧ Bs = []) ∧ (Bs ≠ [] → A = some ⟨nb, 0, none⟩ ∧ lo ≤ nb ∧ nb < hi ∧ Off q Bs.length nb) ∧
    ∀ (i : Nat) (d : List Int) (r : Reg), D[i]? = some d → Bs[i]? = some r → okB d ∧ (d.length : Int) = r.ln ∧ q i < hi ∧
      ∃ cap, w.cell? ⟨nb, i, none⟩ = some (.slice (some ⟨q i, 0, none⟩) d.length cap) ∧ w.ownsRow lo 5 1 (.slice (some ⟨q i, 0, none⟩) d.length cap) d.length (cb d)

theorem own_kept {w w' : World} {base : Nat} {e : TypeId} {size : Nat} {g n cap : Nat} {xs : List Value} (h : w.ownsRow base e size (.slice (some ⟨g, 0, none⟩) n cap) n xs) (hb : w'.heap[g]? = w.heap[g]?) :
    w'.ownsRow base e size (.slice (some ⟨g, 0, none⟩) n cap) n xs := by
  refine ⟨h.1, ?_⟩
  rcases h.2 with ⟨h', _⟩ | ⟨g', cap', cur, h', hbase, hg, hr⟩
  · cases h'
  · simp only [Value.slice.injEq, Option.some.injEq, Addr.mk.injEq, and_true, true_and] at h'
    obtain ⟨rfl, rfl⟩ := h'
    exact .inr ⟨g, cap, cur, rfl, hbase, hb.trans hg, hr⟩
theorem cell_kept {w w' : World} {b o : Nat} {v : Value} (h : w.cell? ⟨b, o, none⟩ = some v) (hb : w'.heap[b]? = w.heap[b]?) : w'.cell? ⟨b, o, none⟩ = some v :=
  (World.cell?_of_block (w := w) (a := ⟨b, o, none⟩) hb).trans h

theorem MemAt.kept {w w' : World} {p l0 lo hi : Nat} {Bs : List Reg} {G D : List (List Int)} {q : Nat → Nat} (h : MemAt w p l0 lo hi Bs G D q)
    (hk : ∀ b, Zone l0 lo hi b → b < w.heap.size → w'.heap[b]? = w.heap[b]?) (hs : w.heap.size ≤ w'.heap.size) : MemAt w' p l0 lo hi Bs G D q := by
  obtain ⟨h1, h2, h3, h4, ⟨v, hv1, hv2⟩, A, nb, c, n1, n2, n3, n4⟩ := h
  have hz : ∀ b, lo ≤ b → b < hi → w'.heap[b]? = w.heap[b]? := fun b q1 q2 => hk b (.inr ⟨q1, q2⟩) (Nat.lt_of_lt_of_le q2 h2)
  refine ⟨h1, Nat.le_trans h2 hs, h3, h4, ⟨v, cell_kept hv1 (hz p h3.1 h3.2.1), hv2.kept fun b hb hb2 => hk b hb.1 hb2⟩, A, nb, c, cell_kept n1 (hz p h3.1 h3.2.1), n2, n3, fun i d r hd hr => ?_⟩
  obtain ⟨m1, m2, m3, cap, m4, m5⟩ := n4 i d r hd hr
  have hne : Bs ≠ [] := by
    intro e
    rw [e] at hr
    simp at hr
  have hq := (m5.lt (q i) rfl).1
  exact ⟨m1, m2, m3, cap, cell_kept m4 (hz nb (n3 hne).2.1 (n3 hne).2.2.1), own_kept m5 (hz _ hq m3)⟩
theorem MemAt.below {w w' : World} {p l0 lo hi : Nat} {Bs : List Reg} {G D : List (List Int)} {q : Nat → Nat} (h : MemAt w p l0 lo hi Bs G D q) (hb : Below w.heap.size w w') : MemAt w' p l0 lo hi Bs G D q :=
  h.kept (fun b _ hlt => hb.block b hlt) hb.size
/-- Another memory's stores. -/
theorem MemAt.mid {w w' : World} {p l0 lo hi lo' hi' : Nat} {Bs : List Reg} {G D : List (List Int)} {q : Nat → Nat} (h : MemAt w p l0 lo hi Bs G D q) (hm : Mid lo' hi' w w') (h0 : l0 ≤ lo') (h1 : hi ≤ lo' ∨ hi' ≤ lo) : MemAt w' p l0 lo hi Bs G D q :=
  h.kept (fun b hz hlt => hm.block b hlt (by rcases hz with h2 | h2 <;> omega)) hm.size

/-! ### What a right list has -/
theorem sumS_bare (R : Nat → Reg) (n : Nat) : sumS (fun i => (R i).bare) n = sumS R n := by
  induction n with
  | zero => rfl
  | succ n ih => simp only [sumS, ih]; rfl
theorem freeS_bare (R : Nat → Reg) (n : Nat) : freeS (fun i => (R i).bare) n = freeS R n := by cases n <;> rfl
theorem goodS_bare (R : Nat → Reg) (n : Nat) : goodS (fun i => (R i).bare) n = goodS R n := by
  induction n with
  | zero => rfl
  | succ n ih => simp only [goodS, ih, freeS_bare]; rfl
theorem checkS_bare (R : Nat → Reg) (n : Nat) : checkS (fun i => (R i).bare) n = checkS R n := by
  unfold checkS tooS
  rw [sumS_bare, goodS_bare]
theorem firstS_bare (R : Nat → Reg) (a s : Int) (n : Nat) : firstS (fun i => (R i).bare) a s n = firstS R a s n := by
  induction n with
  | zero => rfl
  | succ n ih => simp only [firstS, ih]; rfl
theorem findS_bare (R : Nat → Reg) (n : Nat) (a s : Int) : findS (fun i => (R i).bare) n a s = findS R n a s := by simp only [findS, checkS_bare, firstS_bare]
theorem mayS_bare (R : Nat → Reg) (n : Nat) (a s : Int) (wr : Bool) : mayS (fun i => (R i).bare) n a s wr = mayS R n a s wr := by
  simp only [mayS, checkS_bare, findS_bare]
  cases findS R n a s <;> rfl
theorem execS_bare (R : Nat → Reg) (n : Nat) (a : Int) : execS (fun i => (R i).bare) n a = execS R n a := by
  simp only [execS, findS_bare]
  cases findS R n a 2 <;> rfl
theorem regAt_bare (rs : List Reg) : regAt (rs.map Reg.bare) = fun i => (regAt rs i).bare := by
  funext i
  simp only [regAt, List.getD, List.getElem?_map]
  cases rs[i]? <;> rfl

theorem goodS_at {R : Nat → Reg} {n : Nat} (h : goodS R n = true) : ∀ i, i < n → mayBeS (R i) = true := by
  intro i hi
  have := goodS_le R (k := i + 1) hi h
  simp only [goodS, Bool.and_eq_true] at this
  exact this.2.2
theorem sumS_at {R : Nat → Reg} {n : Nat} (h : ∀ i, i < n → 0 ≤ (R i).ln) : ∀ i, i < n → (R i).ln ≤ sumS R n := by
  induction n with
  | zero => intro i hi; omega
  | succ n ih =>
    intro i hi
    have h0 : 0 ≤ sumS R n := by
      clear ih hi
      induction n with
      | zero => simp [sumS]
      | succ m ihm =>
        have := ihm (fun i hi => h i (by omega))
        have := h m (by omega)
        simp only [sumS]
        omega
    have hn := h n (by omega)
    simp only [sumS]
    rcases Nat.lt_or_ge i n with h1 | h1
    · have := ih (fun i hi => h i (by omega)) i h1
      omega
    · have : i = n := by omega
      subst this
      omega
theorem check_ok {R : Nat → Reg} {n : Nat} (h : checkS R n = 0) (hw : ∀ i, i < n → (R i).wf) : n ≤ 8 ∧ ∀ i, i < n → mayBeS (R i) = true ∧ ((R i).bl : Int) ≤ (R i).ln ∧ 4 ≤ (R i).ln ∧ (R i).ln ≤ 65536 := by
  unfold checkS at h
  split at h
  · cases h
  · rename_i ht
    split at h
    · rename_i hg
      have ht' : tooS R n = false := by simpa using ht
      simp only [tooS, Bool.or_eq_false_iff, decide_eq_false_iff_not] at ht'
      refine ⟨by omega, fun i hi => ?_⟩
      have hm := goodS_at hg i hi
      have hs := sumS_at (fun j hj => (hw j hj).2.2.1) i hi
      have h0 := (hw i hi).2.2.1
      refine ⟨hm, ?_⟩
      simp only [mayBeS, Bool.and_eq_true, decide_eq_true_eq] at hm
      omega
    · cases h

def initD (Bs : List Reg) (G : List (List Int)) : List (List Int) := List.zipWith (fun r g => fillS r.ln g) Bs G

theorem infoRow : (Try.prog.info? 84).map (fun i => (i.zero, i.size, i.bytes)) = some (some (.slice none 0 0), 1, 24) := by kernel_rfl

theorem new_bad (v : Value) (Bs : List Reg) (G : List (List Int)) (S : Nat → Prop) (w : World) (h : RL w S v Bs G) (hc : checkS (regAt Bs) Bs.length ≠ 0) :
    Calls Try.prog 16 #[v] w fun e w' => e = .returned (.tuple #[.pointer none, .int .i64 (checkS (regAt Bs) Bs.length)]) ∧ Below w.heap.size w w' := by
  obtain ⟨rs, rfl, _, A, c, rfl, _, _, hL, _⟩ := h
  have C := check_c A rs.length c (regAt rs) w hL
  rw [regAt_bare, List.length_map, checkS_bare] at hc ⊢
  have HC : Hid _ := C
  clear C
  have hc' : (checkS (regAt rs) rs.length == 0) = false := by simpa using hc
  go_enter Try.func16, Try.ntmps16
  go_wp2_with fail
  refine Calls.mono HC.out ?_
  rintro e w1 ⟨rfl, hw1⟩
  go_wp2
  go_ret2
  exact ⟨rfl, hw1⟩

/-- The making loop: the first k have their rows. -/
def newRel (w4 : World) (p : Nat) (gv : Value) (D : List (List Int)) (i : Value) (wr : World) : Prop :=
  ∃ (k : Nat) (nv : Value) (vs : List Value) (q : Nat → Nat), k ≤ D.length ∧ i = .int .i64 k ∧ wr.cell? ⟨p, 0, none⟩ = some gv ∧ wr.cell? ⟨p, 1, none⟩ = some nv ∧ wr.frozen? ⟨p, 1, none⟩ = false ∧
    wr.ownsRow (p + 1) 84 1 nv k vs ∧ p < wr.heap.size ∧
    (∀ (i : Nat) (d : List Int), i < k → D[i]? = some d → ∃ cap, vs[i]? = some (.slice (some ⟨q i, 0, none⟩) d.length cap) ∧
      wr.ownsRow (p + 1) 5 1 (.slice (some ⟨q i, 0, none⟩) d.length cap) d.length (cb d)) ∧
    (∀ i, i < k → nv.ownBlock ≠ some (q i) ∧ q i < wr.heap.size ∧ p < q i) ∧ (∀ i j, i < k → j < k → q i = q j → i = j) ∧ Below p w4 wr
theorem newRel_start (w2 : World) (gv : Value) (D : List (List Int)) (t : TypeId) : newRel (w2.alloc (Obj.cells #[gv, .slice none 0 0] t)) w2.heap.size gv D (.int .i64 0) (w2.alloc (Obj.cells #[gv, .slice none 0 0] t)) := by
  refine ⟨0, .slice none 0 0, [], fun _ => 0, Nat.zero_le _, rfl, ?_, ?_, ?_, World.ownsRow_nil _ _ _ _, ?_, fun i d h => absurd h (Nat.not_lt_zero _), fun i h => absurd h (Nat.not_lt_zero _), fun i j h => absurd h (Nat.not_lt_zero _), Below.refl _ _⟩
  · rw [World.cell?_alloc_new]; rfl
  · rw [World.cell?_alloc_new]; rfl
  · exact frozen_of_row _ _ _ _ _ (heap_alloc_new _ _)
  · rw [alloc_size']; omega

/-- The round's end. -/
theorem new_next {W4 wr wA w7 : World} {P k g6 g7 c6 cap7 : Nat} {gv nv : Value} {vs : List Value} {q : Nat → Nat} {D : List (List Int)} {d0 : List Int}
    (hk : k < D.length) (hd0 : D[k]? = some d0) (hp0 : wr.cell? ⟨P, 0, none⟩ = some gv) (hp1 : w7.cell? ⟨P, 1, none⟩ = some nv) (hpf : w7.frozen? ⟨P, 1, none⟩ = false)
    (hown : wr.ownsRow (P + 1) 84 1 nv k vs) (hplt : P < wr.heap.size)
    (hrows : ∀ (i : Nat) (d : List Int), i < k → D[i]? = some d → ∃ cap, vs[i]? = some (.slice (some ⟨q i, 0, none⟩) d.length cap) ∧
      wr.ownsRow (P + 1) 5 1 (.slice (some ⟨q i, 0, none⟩) d.length cap) d.length (cb d))
    (hq : ∀ i, i < k → nv.ownBlock ≠ some (q i) ∧ q i < wr.heap.size ∧ P < q i) (hqi : ∀ i j, i < k → j < k → q i = q j → i = j) (hbe : Below P W4 wr)
    (hbA : Below wr.heap.size wr wA) (h6 : wA.ownsRow wr.heap.size 5 1 (.slice (some ⟨g6, 0, none⟩) d0.length c6) d0.length (cb d0)) (h6A : g6 + 1 < wA.heap.size)
    (h7 : w7.ownsRow (P + 1) 84 1 (.slice (some ⟨g7, 0, none⟩) (k + 1) cap7) (k + 1) (vs ++ [.slice (some ⟨g6, 0, none⟩) d0.length c6])) (hg : wA.grownBy w7 nv.ownBlock)
    (hat : nv.ownBlock = some g7 ∨ g7 = wA.heap.size) :
    newRel W4 P gv D (.int .i64 ((k : Int) + 1)) (w7.setCell ⟨P, 1, none⟩ (.slice (some ⟨g7, 0, none⟩) (k + 1) cap7)) := by
  have hnv : ∀ g, nv.ownBlock = some g → P < g ∧ g < wr.heap.size := fun g e => hown.lt g e
  have hg6 := (h6.lt g6 rfl).1
  have hvl : vs.length = k := by have := hown.1; omega
  have hlow : ∀ j, j < wr.heap.size → some j ≠ nv.ownBlock → j ≠ P → (w7.setCell ⟨P, 1, none⟩ (.slice (some ⟨g7, 0, none⟩) (k + 1) cap7)).heap[j]? = wr.heap[j]? := fun j q1 q2 q3 =>
    (Below.heap_setCell w7 _ _ j q3).trans ((hg.block j (Nat.lt_of_lt_of_le q1 hbA.size) q2).trans (hbA.block j q1))
  have hPn : some P ≠ nv.ownBlock := fun e => by have := hnv P e.symm; omega
  have hsz : (w7.setCell ⟨P, 1, none⟩ (.slice (some ⟨g7, 0, none⟩) (k + 1) cap7)).heap.size = w7.heap.size := by simp
  have hg7 := (h7.lt g7 rfl).1
  have hgs := hg.size
  have hbs := hbA.size
  refine ⟨k + 1, .slice (some ⟨g7, 0, none⟩) (k + 1) cap7, vs ++ [.slice (some ⟨g6, 0, none⟩) d0.length c6], fun i => if i = k then g6 else q i, hk, by push_cast; rfl, ?_, ?_, ?_, ?_, ?_, ?_, ?_, ?_, ?_⟩
  · refine (World.cell?_setCell_other _ _ _ _ (by simp)).trans ?_
    exact (World.cell?_of_block (w := wA) (a := ⟨P, 0, none⟩) (hg.block P (by omega) hPn)).trans ((hbA.cell (p := ⟨P, 0, none⟩) hplt).trans hp0)
  · exact World.cell?_setCell_same _ _ _ hp1
  · rw [World.frozen?_setCell]; exact hpf
  · exact own_kept h7 (Below.heap_setCell w7 _ _ g7 (by show g7 ≠ P; omega))
  · rw [hsz]; omega
  · intro i d hi hd
    by_cases hik : i = k
    · subst hik
      rw [hd0] at hd
      simp only [Option.some.injEq] at hd
      subst hd
      refine ⟨c6, ?_, ?_⟩
      · rw [List.getElem?_append_right (by omega), hvl]; simp
      · simp only [if_true]
        refine own_kept (own_mono (own_kept h6 (w' := w7) (hg.block g6 (by omega) (fun e => by have := hnv g6 e.symm; omega))) (by omega)) (Below.heap_setCell w7 _ _ g6 (by show g6 ≠ P; omega))
    · obtain ⟨cap, e1, e2⟩ := hrows i d (by omega) hd
      obtain ⟨m1, m2, m3⟩ := hq i (by omega)
      refine ⟨cap, ?_, ?_⟩
      · simp only [if_neg hik]
        rw [List.getElem?_append_left (by omega)]
        exact e1
      · simp only [if_neg hik]
        exact own_kept e2 (hlow _ m2 (fun e => m1 e.symm) (by omega))
  · intro i hi
    rw [hsz]
    by_cases hik : i = k
    · simp only [if_pos hik]
      refine ⟨?_, by omega, by omega⟩
      show some g7 ≠ some g6
      intro e
      simp only [Option.some.injEq] at e
      rcases hat with h | h
      · have := hnv g7 h; omega
      · omega
    · simp only [if_neg hik]
      obtain ⟨m1, m2, m3⟩ := hq i (by omega)
      refine ⟨?_, by omega, by omega⟩
      show some g7 ≠ some (q i)
      intro e
      rcases hat with h | h
      · exact m1 (h.trans e)
      · simp only [Option.some.injEq] at e; omega
  · intro i j hi hj e
    by_cases hik : i = k
    · by_cases hjk : j = k
      · omega
      · simp only [if_pos hik, if_neg hjk] at e
        have := (hq j (by omega)).2.1
        omega
    · by_cases hjk : j = k
      · simp only [if_neg hik, if_pos hjk] at e
        have := (hq i (by omega)).2.1
        omega
      · simp only [if_neg hik, if_neg hjk] at e
        exact hqi i j (by omega) (by omega) e
  · refine Below.setCell ?_ (Nat.le_refl P) _
    exact (hbe.trans (hbA.mono (Nat.le_of_lt hplt))).grown hg (by omega) (fun j e => Nat.le_of_lt (hnv j e).1)

/-- All rows are there. -/
theorem new_done {wr : World} {p lo : Nat} {gv nv : Value} {vs : List Value} {q : Nat → Nat} {Bs : List Reg} {G D : List (List Int)}
    (hlen : D.length = Bs.length) (hlo : lo ≤ p) (hp0 : wr.cell? ⟨p, 0, none⟩ = some gv) (hp1 : wr.cell? ⟨p, 1, none⟩ = some nv) (hown : wr.ownsRow (p + 1) 84 1 nv D.length vs) (hplt : p < wr.heap.size)
    (hrows : ∀ (i : Nat) (d : List Int), i < D.length → D[i]? = some d → ∃ cap, vs[i]? = some (.slice (some ⟨q i, 0, none⟩) d.length cap) ∧
      wr.ownsRow (p + 1) 5 1 (.slice (some ⟨q i, 0, none⟩) d.length cap) d.length (cb d))
    (hq : ∀ i, i < D.length → nv.ownBlock ≠ some (q i) ∧ q i < wr.heap.size ∧ p < q i) (hqi : ∀ i j, i < D.length → j < D.length → q i = q j → i = j)
    (hg : RL wr (fun b => lo ≤ b ∧ b < p) gv Bs G) (hd : ∀ (i : Nat) (d : List Int) (r : Reg), D[i]? = some d → Bs[i]? = some r → okB d ∧ (d.length : Int) = r.ln) :
    MemAt wr p 0 lo wr.heap.size Bs G D q := by
  refine ⟨hlen, Nat.le_refl _, ⟨hlo, hplt, fun i hi => by have := (hq i (by omega)).2.2; omega⟩, fun i j hi hj e => hqi i j (by omega) (by omega) e, ⟨_, hp0, hg.mono fun b hb => ⟨.inr ⟨hb.1, by omega⟩, fun i hi => by have := (hq i (by omega)).2.2; omega⟩⟩, ?_⟩
  have hown' := hown
  obtain ⟨_, ⟨rfl, h0⟩ | ⟨g, cap, cur, rfl, hgb, hgg, _⟩⟩ := hown'
  · have hBe : Bs = [] := List.eq_nil_of_length_eq_zero (by omega)
    refine ⟨none, 0, 0, ?_, fun _ => ⟨rfl, hBe⟩, fun h => absurd hBe h, fun i d r hd hr => ?_⟩
    · rw [hp1, ← hlen, h0]
    · rw [hBe] at hr; simp at hr
  · refine ⟨some ⟨g, 0, none⟩, g, cap, ?_, fun h => (by cases h), fun _ => ⟨rfl, by omega, (Array.getElem?_eq_some_iff.1 hgg).1, fun i hi => ?_⟩, fun i d r hd' hr => ?_⟩
    · rw [hp1, ← hlen]
    · intro e
      exact (hq i (by omega)).1 (by simp [Value.ownBlock, e])
    · have hi : i < D.length := (List.getElem?_eq_some_iff.1 hd').1
      obtain ⟨cp, e1, e2⟩ := hrows i d hi hd'
      obtain ⟨m1, m2⟩ := hd i d r hd' hr
      refine ⟨m1, m2, (hq i hi).2.1, cp, ?_, own_mono e2 (by omega)⟩
      rw [hown.cellAt i (by omega)]
      exact e1

theorem initD_at {Bs : List Reg} {G : List (List Int)} {i : Nat} {d : List Int} (h : (initD Bs G)[i]? = some d) : ∃ r g, Bs[i]? = some r ∧ G[i]? = some g ∧ d = fillS r.ln g := by
  simp only [initD, List.getElem?_zipWith] at h
  cases hr : Bs[i]? with
  | none => rw [hr] at h; simp at h
  | some r =>
    cases hg : G[i]? with
    | none => rw [hr, hg] at h; simp at h
    | some g =>
      rw [hr, hg] at h
      simp only [Option.some.injEq] at h
      exact ⟨r, g, rfl, rfl, h.symm⟩

/-- A memory is there. -/
def NewPost (w : World) (Bs : List Reg) (G D : List (List Int)) (e : Ending) (w' : World) : Prop :=
  ∃ p q, e = .returned (.tuple #[.pointer (some ⟨p, 0, none⟩), .int .i64 0]) ∧ MemAt w' p 0 w.heap.size w'.heap.size Bs G D q ∧ Below w.heap.size w w'

set_option maxHeartbeats 8000000 in
set_option maxRecDepth 100000 in
theorem new_ok (v : Value) (Bs : List Reg) (G : List (List Int)) (S : Nat → Prop) (w : World) (h : RL w S v Bs G) (hS : ∀ b, S b → b < w.heap.size) (hc : checkS (regAt Bs) Bs.length = 0) (hG : ∀ g ∈ G, g.length ≤ 65536) :
    Calls Try.prog 16 #[v] w fun e w' => NewPost w Bs G (initD Bs G) e w' := by
  obtain ⟨i0, hi, hz0, hz1, hz2⟩ := info_parts infoRow
  have HRL : Hid (RL w S v Bs G) := h
  have HS : Hid (∀ b, S b → b < w.heap.size) := hS
  have HG : Hid (∀ g ∈ G, g.length ≤ 65536) := hG
  obtain ⟨rs, hbs, hGl, A, c, rfl, hA, hA2, hL, hB⟩ := h
  have hbl : Bs.length = rs.length := by rw [← hbs, List.length_map]
  have hc2 : checkS (regAt rs) rs.length = 0 := by
    rw [← hbs, regAt_bare, List.length_map, checkS_bare] at hc
    exact hc
  have hok := check_ok hc2 (fun i hi => (hL.2 i hi).1)
  have C1 : Hid (Calls Try.prog 30 #[.slice A rs.length c] w fun e w' => e = .returned (.int .i64 0) ∧ Below w.heap.size w w') := by
    have := check_c A rs.length c (regAt rs) w hL
    rw [hc2] at this
    exact this
  have C2 : Hid (∀ w1, Below w.heap.size w w1 → Calls Try.prog 31 #[.slice A rs.length c] w1 fun e w' => CopPost w1 Bs G e w') :=
    fun w1 hb1 => copyRegions_c _ Bs G S w1 (HRL.out.below hb1) (fun b hb => Nat.lt_of_lt_of_le (hS b hb) hb1.size) (by omega) (fun g hg => by have := hG g hg; omega)
  have hn8 : rs.length ≤ 8 := hok.1
  have HOK : Hid _ := hok.2
  have HL : Hid _ := hL
  have HB : Hid _ := hB
  have HGl : Hid _ := hGl
  have Hbl : Hid _ := hbl
  have Hbs : Hid _ := hbs
  clear hok hL hB hGl hbl hbs hc hc2 hG hS hA hA2
  go_enter Try.func16, Try.ntmps16
  go_wp2_with fail
  refine Calls.mono C1.out ?_
  rintro e w1 ⟨rfl, hw1⟩
  have HB1 : Hid (Below w.heap.size w w1) := hw1
  clear hw1
  go_wp2_with fail
  refine (C2.out _ HB1.out).mono ?_
  rintro e w2 ⟨A2, c2, rfl, hrl2, hb2⟩
  have HRL2 : Hid _ := hrl2
  have HB2 : Hid _ := hb2
  clear hrl2 hb2
  go_wp2_with fail
  obtain ⟨P, hP⟩ : ∃ P, P = w2.heap.size := ⟨_, rfl⟩
  obtain ⟨W4, hW4⟩ : ∃ W, W = w2.alloc (Obj.cells #[.slice A2 Bs.length c2, .slice none 0 0] 83) := ⟨_, rfl⟩
  have HF : Hid (P = w2.heap.size ∧ W4 = w2.alloc (Obj.cells #[.slice A2 Bs.length c2, .slice none 0 0] 83)) := ⟨hP, hW4⟩
  rw [← hP, ← hW4]
  have ST : Hid (newRel W4 P (.slice A2 Bs.length c2) (initD Bs G) (.int .i64 0) W4) := by
    rw [hP, hW4]
    exact newRel_start _ _ _ _
  have hDl : (initD Bs G).length = rs.length := by
    have h1 := HGl.out
    have h2 := Hbl.out
    simp only [initD, List.length_zipWith]
    omega
  have HDl : Hid _ := hDl
  clear hDl
  have HW : Hid (Below w.heap.size w W4 ∧ w.heap.size ≤ P) := by
    rw [hP, hW4]
    have h12 : Below w.heap.size w w2 := HB1.out.trans (HB2.out.mono HB1.out.size)
    exact ⟨h12.alloc h12.size _, h12.size⟩
  clear hP hW4 C1 C2
  go_loopw [19] (fun i wr => newRel W4 P (.slice A2 Bs.length c2) (initD Bs G) i wr) (fun i _ => rs.length - (intOf i).toNat)
  case atStart => exact ST.out
  case round =>
    obtain ⟨k, nv, vs, q, hk, rfl, hp0, hp1, hpf, hown, hplt, hrows, hq, hqi, hbe⟩ := hrel
    rw [HDl.out] at hk
    by_cases hkn : k < rs.length
    · have hkn' : (k : Int) < rs.length := by omega
      obtain ⟨gk, hgk⟩ : ∃ g, G[k]? = some g := ⟨G[k]'(by rw [HGl.out]; exact hkn), by simp⟩
      have hrk : rs[k]? = some (regAt rs k) := by simp [regAt, List.getD, hkn]
      obtain ⟨hbl, hBLk⟩ := HB.out k _ gk hrk hgk
      obtain ⟨hmb, hle, h4, h6⟩ := HOK.out k hkn
      obtain ⟨hwf, b, o, rfl, h7⟩ := HL.out.2 k hkn
      have hbw : Below w.heap.size w wr := HW.out.1.trans (hbe.mono HW.out.2)
      obtain ⟨d0, d1, d2, d3, d4, d5, d6⟩ := h7.below hbw h7.lt
      -- the call of filled
      have CF : Hid (∀ (wx : World), Below w.heap.size w wx → Calls Try.prog 32 #[.agg #[.int .u32 (regAt rs k).fr, .int .u32 (regAt rs k).ln, .bool (regAt rs k).rd, .bool (regAt rs k).wr, .bool (regAt rs k).ex, .bool (regAt rs k).se, .slice (regAt rs k).ba (regAt rs k).bl (regAt rs k).bc]] wx fun e w' => OwnPost wx (fillS (regAt rs k).ln gk) e w') :=
        fun wx hx => filled_c (regAt rs k) gk S wx hwf hbl (hBLk.kept fun b hb hb' => hx.block b hb') hle (fun b hb => Nat.lt_of_lt_of_le (HS.out b hb) hx.size)
      obtain ⟨r0, hr0⟩ : ∃ r0, r0 = regAt rs k := ⟨_, rfl⟩
      rw [← hr0] at d0 d1 d2 d3 d4 d5 d6 CF hle h4 h6
      have HX : Hid _ := And.intro hr0 (And.intro hbl (And.intro hmb (And.intro hBLk (And.intro hrk hgk))))
      have HY : Hid _ := And.intro hrows (And.intro hq (And.intro hqi hbe))
      have HO : Hid _ := hown
      have HBW : Hid _ := hbw
      have hfl : ((fillS r0.ln gk).length : Int) = r0.ln := fillS_length (by omega) (by rw [hr0] at hle ⊢; rw [← hbl]; exact hle)
      have HFL : Hid _ := hfl
      clear hr0 hbl hmb hBLk hwf h7 hrk hgk hrows hq hqi hbe hown hbw hfl
      go_wp2_with fail
      obtain ⟨W5, hW5⟩ : ∃ W, W = wr.alloc (Obj.cells #[.int .u32 r0.fr, .int .u32 r0.ln, .bool r0.rd, .bool r0.wr, .bool r0.ex, .bool r0.se, .slice r0.ba r0.bl r0.bc] 86) := ⟨_, rfl⟩
      obtain ⟨e0, e1, e2, e3, e4, e5, e6⟩ := At7.new wr r0 86
      rw [← hW5] at e0 e1 e2 e3 e4 e5 e6
      simp only [Nat.zero_add] at e1 e2 e3 e4 e5 e6
      have hb5 : Below wr.heap.size wr W5 := by rw [hW5]; exact (Below.refl _ _).alloc (Nat.le_refl _) _
      have hs5 : W5.heap.size = wr.heap.size + 1 := by rw [hW5, alloc_size']
      have f1 : W5.cell? ⟨P, 1, none⟩ = some nv := (hb5.cell hplt).trans hp1
      have HB5 : Hid _ := hb5
      have HCF : Hid (Below w.heap.size w W5.drew) := (HBW.out.trans (hb5.mono HBW.out.size)).drew
      rw [← hW5]
      clear hW5 hb5 hp1
      have HR6 : Hid (∀ w6 o6, Below W5.drew.heap.size W5.drew w6 → (w6.alloc o6).ownsRow (P + 1) 84 1 nv k vs) := fun w6 o6 h6 =>
        (World.ownsRow.kept (row := none) HO.out ⟨h6.os.trans HB5.out.os, h6.tape.trans HB5.out.tape, h6.output.trans HB5.out.output, Nat.le_trans HB5.out.size h6.size, fun j hj _ => (h6.block j (by show j < W5.heap.size; omega)).trans (HB5.out.block j hj)⟩ (by cases hnv : nv.ownBlock <;> simp)).alloc _
      have hPne : P ≠ wr.heap.size := by omega
      have HFZ : Hid (∀ w6 o6, Below W5.drew.heap.size W5.drew w6 → (w6.alloc o6).frozen? ⟨P, 1, none⟩ = false) := fun w6 o6 h6 =>
        (World.frozen?_of_block (w := w6) (a := ⟨P, 1, none⟩) (Below.heap_alloc w6 o6 P (by have : W5.heap.size ≤ w6.heap.size := h6.size; show P < _; omega))).trans ((h6.frozen (p := ⟨P, 1, none⟩) (by show P < W5.heap.size; omega)).trans ((HB5.out.frozen (p := ⟨P, 1, none⟩) hplt).trans hpf))
      have hnP : ∀ g, nv.ownBlock = some g → P < g ∧ g < wr.heap.size := fun g hg => World.ownsRow.lt HO.out g hg
      have HNP : Hid _ := hnP
      clear hnP
      go_region_law
        (first
          | (go_simp; go_at_call 32; refine (CF.out _ HCF.out).mono ?_; rintro e w6 ⟨A6, c6, rfl, hown6, hb6⟩
             have f6 : w6.cell? ⟨P, 1, none⟩ = some nv := (hb6.cell (by show P < W5.heap.size; omega)).trans f1
             have hPn6 : P < w6.heap.size := by have : W5.heap.size ≤ w6.heap.size := hb6.size; omega
             have f6a : ∀ o, (w6.alloc o).cell? ⟨P, 1, none⟩ = some nv := fun o => (World.cell?_of_block (w := w6) (a := ⟨P, 1, none⟩) (Below.heap_alloc w6 o P hPn6)).trans f6)
          | ((refine step_append_lies _ (by rfl) _ _ _ (by rfl) (P + 1) 84 i0 _ 1 24 Try.underlying40 hi hz0 hz1 hz2 rfl (by decide) nv k vs (by rfl) (HR6.out _ _ hb6)
                ⟨w6.heap.size, 0, none⟩ 1 1 [.slice A6 (fillS r0.ln gk).length c6] (by rfl) (by rfl) (cell_one_new _ _ _) (by simp [Value.oneCell'])
                (by decide) (by simp only [maxLen]; omega) (by omega) (by have h66 : W5.heap.size ≤ w6.heap.size := hb6.size; rw [alloc_size']; omega) (w6.heap.size + 1) (by rw [alloc_size']) ?_; intro g7 cap7 w7 hown7 hgrow7 hat7 hlt7
              have h66 : W5.heap.size ≤ w6.heap.size := hb6.size
              have hP6 : Hid (P < (w6.alloc (Obj.cells #[.slice A6 (fillS r0.ln gk).length c6] 84)).heap.size) := by show P < _; rw [alloc_size']; omega
              have hw6 : Hid (wr.heap.size < (w6.alloc (Obj.cells #[.slice A6 (fillS r0.ln gk).length c6] 84)).heap.size) := by show wr.heap.size < _; rw [alloc_size']; omega
              have hP7 : Hid (some P ≠ nv.ownBlock) := by intro e; have := HNP.out P e.symm; omega
              have hw7 : Hid (some wr.heap.size ≠ nv.ownBlock) := by intro e; have := HNP.out _ e.symm; omega
              have hf71 : w7.cell? ⟨P, 1, none⟩ = some nv := (hgrow7.cell_far _ hP6.out hP7.out).trans ((World.cell?_of_block (w := w6) (a := ⟨P, 1, none⟩) (Below.heap_alloc w6 _ P (by show P < _; omega))).trans f6)
              have hf7 : w7.frozen? ⟨P, 1, none⟩ = false := (hgrow7.frozen_far _ hP6.out hP7.out).trans (HFZ.out _ _ hb6))))
      all_goals
        have HZ : Hid (newRel W4 P (.slice A2 Bs.length c2) (initD Bs G) (.int .i64 ((k : Int) + 1)) (w7.setCell ⟨P, 1, none⟩ (.slice (some ⟨g7, 0, none⟩) (k + 1) cap7))) := by
          obtain ⟨hr0, _, _, _, hrk, hgk⟩ := HX.out
          obtain ⟨hrows, hq, hqi, hbe⟩ := HY.out
          have hlen0 : 0 < (fillS r0.ln gk).length := by have := HFL.out; omega
          obtain ⟨g6, cap6, hA6, hg6, hg6b⟩ := hown6.form hlen0
          simp only [Value.slice.injEq, true_and] at hA6
          obtain ⟨rfl, rfl⟩ := hA6
          have h56 : Below wr.heap.size wr w6 := (HB5.out.drew).trans (hb6.mono (by show wr.heap.size ≤ W5.heap.size; omega))
          have hBk : Bs[k]? = some r0.bare := by rw [← Hbs.out, List.getElem?_map, hrk, hr0]; rfl
          have hDk : (initD Bs G)[k]? = some (fillS r0.ln gk) := by
            simp only [initD, List.getElem?_zipWith, hBk, hgk]
            rfl
          refine new_next (wr := wr) (wA := w6.alloc (Obj.cells #[.slice (some ⟨g6, 0, none⟩) (fillS r0.ln gk).length c6] 84)) (d0 := fillS r0.ln gk) (q := q) (by rw [HDl.out]; exact hkn) hDk hp0 hf71 hf7 HO.out hplt hrows hq hqi hbe (h56.alloc h56.size _) ?_ (by rw [alloc_size']; omega) hown7 hgrow7 ?_
          · refine World.ownsRow.alloc ?_ _
            exact own_mono hown6 (by show wr.heap.size ≤ W5.heap.size; omega)
          · rw [alloc_size']; exact hat7
        clear hown7 hgrow7 hat7 hlt7 hown6 hb6 hf71 hf7 HX HY HO HB5 HCF HR6 HFZ HNP CF
        go_wp2
        go_roundw
        case rel => exact HZ.out
        case measure =>
          simp only [intOf]
          omega
    · have kn : k = rs.length := by omega
      have kn' : ¬ (k : Int) < rs.length := by omega
      have HE : Hid (NewPost w Bs G (initD Bs G) (.returned (.tuple #[.pointer (some ⟨P, 0, none⟩), .int .i64 0])) wr) := by
        obtain ⟨hP, hW4⟩ := HF.out
        have hbl := Hbl.out
        have hkD : k = (initD Bs G).length := by rw [HDl.out]; exact kn
        rw [hkD] at hown hrows hq hqi
        refine ⟨P, q, rfl, new_done (by rw [HDl.out, hbl]) HW.out.2 hp0 hp1 hown hplt hrows hq hqi ?_ ?_, HW.out.1.trans (hbe.mono HW.out.2)⟩
        · refine (RL.kept (w' := wr) HRL2.out fun b hb hb2 => ?_).mono fun b hb => ⟨Nat.le_trans HB1.out.size hb.1, by omega⟩
          rw [hbe.block b (by omega), hW4]
          exact Below.heap_alloc w2 _ b hb2
        · intro i d r hd hr
          obtain ⟨r', g, hr', hg, rfl⟩ := initD_at hd
          rw [hr] at hr'
          simp only [Option.some.injEq] at hr'
          subst hr'
          have hi : i < rs.length := by
            have := (List.getElem?_eq_some_iff.1 hr).1
            omega
          have hri : rs[i]? = some (regAt rs i) := by simp [regAt, List.getD, hi]
          have hrb : r = (regAt rs i).bare := by
            rw [← Hbs.out, List.getElem?_map, hri] at hr
            simpa using hr.symm
          obtain ⟨p1, p2⟩ := HB.out i _ g hri hg
          obtain ⟨_, m1, m2, _⟩ := HOK.out i hi
          have hln : r.ln = (regAt rs i).ln := by rw [hrb]; rfl
          exact ⟨fillS_ok p2.1, fillS_length (by omega) (by rw [hln, ← p1]; exact m1)⟩
      clear hrows hq hqi hbe hown hpf kn hkn hk
      go_wp2
      go_ret2
      exact HE.out
end Go.Proofs.Yteflboidbogegaa
