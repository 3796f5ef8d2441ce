/- Store, Bytes, Regions, Copy: walked. -/
import Derived.Test.YteflboidbogegaaMem4
namespace Go.Proofs.Yteflboidbogegaa
open Go.ChangeShapes Go.WideShapes Go.ChangeAt Go.RowKit
set_option linter.unusedVariables false
set_option linter.unusedSimpArgs false
attribute [local go_sem ↓] Go.wp_at_zero Go.wp_at_succ

def putS (d : List Int) (f : Nat) (v : Int) : Nat → List Int
  | 0 => d
  | k + 1 => (putS d f v k).set (f + k) (v / 256 ^ k % 256)
theorem putS_length (d : List Int) (f : Nat) (v : Int) (k : Nat) : (putS d f v k).length = d.length := by
  induction k with
  | zero => rfl
  | succ k ih => simp [putS, ih]

/-- One byte is stored in row i. -/
theorem MemAt.store {w : World} {p l0 lo hi : Nat} {Bs : List Reg} {G D : List (List Int)} {q : Nat → Nat} (h : MemAt w p l0 lo hi Bs G D q) {i j : Nat} {d : List Int} {x : Int} (hd : D[i]? = some d) (hx0 : 0 ≤ x) (hx1 : x ≤ 255) :
    MemAt (w.setCell ⟨q i, j, none⟩ (.int .u8 x)) p l0 lo hi Bs G (D.set i (d.set j x)) q := by
  obtain ⟨h1, h2, h3, h4, ⟨v, hv1, hv2⟩, A, nb, c, n1, n2, n3, n4⟩ := h
  have hi : i < Bs.length := by
    have := (List.getElem?_eq_some_iff.1 hd).1
    omega
  have hiD : i < D.length := by omega
  have hoff : ∀ b, b ≠ q i → (w.setCell ⟨q i, j, none⟩ (.int .u8 x)).heap[b]? = w.heap[b]? := fun b hb => Below.heap_setCell w _ _ b hb
  have hne : Bs ≠ [] := by intro e; rw [e] at hi; exact absurd hi (Nat.not_lt_zero _)
  refine ⟨by simpa using h1, by simpa using h2, h3, h4, ⟨v, cell_kept hv1 (hoff p (h3.2.2 i hi)), hv2.kept fun b hb _ => hoff b (hb.2 i hi)⟩, A, nb, c, cell_kept n1 (hoff p (h3.2.2 i hi)), n2, n3, fun i' d' r hd' hr => ?_⟩
  have hnb := hoff nb ((n3 hne).2.2.2 i hi)
  rw [List.getElem?_set] at hd'
  split at hd'
  · rename_i e
    subst e
    try rw [if_pos hiD] at hd'
    simp only [Option.some.injEq] at hd'
    subst hd'
    obtain ⟨m1, m2, m3, cap, m4, m5⟩ := n4 i d r hd hr
    refine ⟨fun y hy => ?_, by simpa using m2, m3, cap, ?_, ?_⟩
    · rcases List.mem_or_eq_of_mem_set hy with h | h
      · exact m1 y h
      · rw [h]; exact ⟨hx0, hx1⟩
    · rw [List.length_set]
      exact cell_kept m4 hnb
    · rw [List.length_set, ← cb_set]
      exact (m5.stored j (.int .u8 x)).1
  · rename_i hii
    obtain ⟨m1, m2, m3, cap, m4, m5⟩ := n4 i' d' r hd' hr
    have hi' : i' < Bs.length := (List.getElem?_eq_some_iff.1 hr).1
    exact ⟨m1, m2, m3, cap, cell_kept m4 hnb, own_kept m5 (hoff _ (fun e => hii (h4 i' i hi' hi e).symm))⟩

def storeS (Bs : List Reg) (D : List (List Int)) (a s v : Int) : List (List Int) :=
  if mayS (regAt Bs) Bs.length a s true = 0 then
    match findS (regAt Bs) Bs.length a s with
    | some i => D.set i (putS (D.getD i []) (a - (regAt Bs i).fr).toNat v (widthS s).toNat)
    | none => D
  else D

/-- Some bytes have been stored. -/
def stRel (w1 : World) (p l0 lo hi : Nat) (Bs : List Reg) (G D : List (List Int)) (q : Nat → Nat) (i f S : Nat) (d : List Int) (v : Int) (iv : Value) (wr : World) : Prop :=
  ∃ k : Nat, k ≤ S ∧ iv = .int .i64 k ∧ MemAt wr p l0 lo hi Bs G (D.set i (putS d f v k)) q ∧ Mid lo hi w1 wr

def StPost (w : World) (p l0 lo hi : Nat) (Bs : List Reg) (G D : List (List Int)) (q : Nat → Nat) (m : Int) (e : Ending) (w' : World) : Prop :=
  e = .returned (.int .i64 m) ∧ MemAt w' p l0 lo hi Bs G D q ∧ Mid lo hi w w'

set_option maxHeartbeats 4000000 in
theorem store_c {w : World} {p l0 lo hi : Nat} {Bs : List Reg} {G D : List (List Int)} {q : Nat → Nat} (h : MemAt w p l0 lo hi Bs G D q) (a s v : Int) (ha : 0 ≤ a) (ha' : a ≤ 4294967295) (hv0 : 0 ≤ v) (hv1 : v ≤ 4294967295) :
    Calls Try.prog 90 #[.pointer (some ⟨p, 0, none⟩), .int .u32 a, .int .u32 s, .int .u32 v] w fun e w' => StPost w p l0 lo hi Bs G (storeS Bs D a s v) q (mayS (regAt Bs) Bs.length a s true) e w' := by
  obtain ⟨A, c, hc, C⟩ := h.may s ha ha' true
  by_cases hm : mayS (regAt Bs) Bs.length a s true = 0
  · obtain ⟨i, hf⟩ := may_find hm
    have hf2 : findS (regAt Bs) Bs.length a (widthS s) = some i := by rw [findS_width]; exact hf
    obtain ⟨f, d, nb, cn, cap, hh⟩ := h.hit hf
    have hg : storeS Bs D a s v = D.set i (putS d f v (widthS s).toNat) := by
      have h4 := hh.aeq
      have e1 : D.getD i [] = d := by simp [List.getD, hh.row]
      simp only [storeS, hm, hf, if_true, e1]
      rw [show (a - (regAt Bs i).fr).toNat = f by omega]
    rw [hg, hm]
    rw [hm] at C
    have HH : Hid (∀ w1, Below w.heap.size w w1 → Calls Try.prog 99 #[.pointer (some ⟨p, 0, none⟩), .int .u32 a, .int .u32 (widthS s)] w1 fun e w' => e = .returned (.slice (some ⟨q i, f, none⟩) (widthS s).toNat (cap - f)) ∧ Below w1.heap.size w1 w') := fun w1 hb => by
      refine room_c (h.below hb) ha ha' (widthS_twice s) hf2 ⟨hh.ilt, hh.row, hh.okd, hh.aeq, hh.fit, hh.small, (hb.cell (World.block_lt_of_cell? w _ hh.nowc)).trans hh.nowc, (hb.cell (World.block_lt_of_cell? w _ hh.rowc)).trans hh.rowc, own_kept hh.own (hb.block _ (hh.own.lt _ rfl).2), hh.qhi⟩
    have HN : Hid _ := hh
    have HM : Hid _ := h
    have W : Hid _ := fun (w : World) => mwidth_c s w
    obtain ⟨S, hS⟩ : ∃ S : Nat, S = (widthS s).toNat := ⟨_, rfl⟩
    have hS4 : S ≤ 4 := by have := widthS_cases s; omega
    have HS : Hid _ := hS
    clear h hf hf2 hg hh hm
    rw [← hS] at HH ⊢
    clear hS
    go_enter Try.func90, Try.ntmps90
    go_wp2_with fail
    refine Calls.mono C.out ?_
    rintro e w1 ⟨rfl, hw1⟩
    have HB1 : Hid _ := hw1
    clear hw1
    go_wp2_with fail
    refine (W.out _).mono ?_
    rintro e w2 ⟨rfl, hw2⟩
    replace hw2 := hw2.symm
    subst hw2
    go_wp2_with fail
    refine (HH.out _ HB1.out).mono ?_
    rintro e w3 ⟨rfl, hw3⟩
    have HB3 : Hid (Below w.heap.size w w3) := HB1.out.trans (hw3.mono HB1.out.size)
    have ST : Hid (stRel w3 p l0 lo hi Bs G D q i f S d v (.int .i64 0) w3) := ⟨0, Nat.zero_le _, rfl, by
      have := HM.out.below HB3.out
      simp only [putS]
      rw [set_same HN.out.row]
      exact this, Mid.refl _ _ _⟩
    clear hw3 C W HH
    go_wp2_with fail
    go_loopw [29] (fun iv wr => stRel w3 p l0 lo hi Bs G D q i f S d v iv wr) (fun i _ => S - (intOf i).toNat)
    case atStart => exact ST.out
    case round =>
      obtain ⟨k, hk, rfl, hM, hmid⟩ := hrel
      by_cases hkS : k < S
      · have hkS' : (k : Int) < S := by omega
        have hrow : (D.set i (putS d f v k))[i]? = some (putS d f v k) := by
          rw [List.getElem?_set, if_pos rfl]
          rw [if_pos (List.getElem?_eq_some_iff.1 HN.out.row).1]
        have hfit : f + k < d.length := by
          have h5 := HN.out.fit
          have h6 := HS.out
          omega
        obtain ⟨cu, hcu, hfz⟩ : ∃ cu, wr.cell? ⟨q i, f + k, none⟩ = some cu ∧ wr.frozen? ⟨q i, f + k, none⟩ = false := by
          obtain ⟨A9, nb9, c9, _, _, _, n4⟩ := hM.now
          have hri : Bs[i]? = some (regAt Bs i) := by simp [regAt, List.getD, HN.out.ilt]
          obtain ⟨_, _, _, cap9, _, m5⟩ := n4 i _ _ hrow hri
          refine ⟨.int .u8 ((putS d f v k)[f + k]'(by rw [putS_length]; exact hfit)), ?_, m5.frozenAt _⟩
          rw [m5.cellAt (f + k) (by rw [putS_length]; omega), cb_at, List.getElem?_eq_getElem (by rw [putS_length]; exact hfit)]
          rfl
        have HX : Hid (stRel w3 p l0 lo hi Bs G D q i f S d v (.int .i64 ((k : Int) + 1)) (wr.setCell ⟨q i, f + k, none⟩ (.int .u8 (v / 256 ^ k % 256)))) := by
          refine ⟨k + 1, hkS, by push_cast; rfl, ?_, hmid.setCell HN.out.qhi.1 HN.out.qhi.2 _⟩
          have := hM.store (j := f + k) (x := v / 256 ^ k % 256) hrow (by omega) (by omega)
          rw [List.set_set] at this
          exact this
        clear hM hmid hrow hfit
        have h4 : k = 0 ∨ k = 1 ∨ k = 2 ∨ k = 3 := by omega
        rcases h4 with rfl | rfl | rfl | rfl
        all_goals
          try simp only [Nat.add_zero] at hcu hfz
          go_wp2
          refine ⟨?_, by simp [intOf]; omega⟩
          have h9 := HX.out
          first
            | (rw [show (256 : Int) ^ 0 = 1 from rfl, Int.ediv_one] at h9; exact h9)
            | (rw [show (256 : Int) ^ 1 = 256 from rfl] at h9; exact h9)
            | (rw [show (256 : Int) ^ 2 = 65536 from rfl] at h9; exact h9)
            | (rw [show (256 : Int) ^ 3 = 16777216 from rfl, show v / 16777216 % 256 = v / 16777216 by omega] at h9; exact h9)
      · have kn : k = S := by omega
        have HE : Hid (StPost w p l0 lo hi Bs G (D.set i (putS d f v S)) q 0 (.returned (.int .i64 0)) wr) := ⟨rfl, by rw [← kn]; exact hM, (Below.mid HB3.out _ _).trans hmid⟩
        have kn' : ¬ (k : Int) < S := by omega
        clear hM hmid kn
        go_wp2
        go_ret
        exact HE.out
  · have hg : storeS Bs D a s v = D := by simp [storeS, hm]
    rw [hg]
    have hm' : (mayS (regAt Bs) Bs.length a s true == 0) = false := by simpa using hm
    have HM : Hid _ := h
    clear h hg
    go_enter Try.func90, Try.ntmps90
    go_wp2_with fail
    refine Calls.mono C.out ?_
    rintro e w1 ⟨rfl, hw1⟩
    have HE : Hid (StPost w p l0 lo hi Bs G D q (mayS (regAt Bs) Bs.length a s true) (.returned (.int .i64 (mayS (regAt Bs) Bs.length a s true))) w1) := ⟨rfl, HM.out.below hw1, Below.mid hw1 _ _⟩
    clear hw1
    go_wp2
    go_ret
    exact HE.out
end Go.Proofs.Yteflboidbogegaa
