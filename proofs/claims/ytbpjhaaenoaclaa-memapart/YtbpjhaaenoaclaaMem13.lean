/- sourdineref1.NewMem, walked. -/
import Derived.Test.YtbpjhaaenoaclaaMem8
import Derived.Test.YtbpjhaaenoaclaaReg6
import Derived.Laws.CopyOwn
namespace Go.Proofs.Ytbpjhaaenoaclaa
open Go.ChangeShapes Go.WideShapes Go.ChangeAt Go.RowKit
set_option linter.unusedVariables false
set_option linter.unusedSimpArgs false

theorem rnew_bad (v : Value) (Bs : List Reg) (G : List (List Int)) (S : Nat → Prop) (w : World) (hn : Bs.length ≤ 10) (h : RL w S v Bs G) (hc : checkS (regAt Bs) Bs.length ≠ 0) :
    Calls Try.prog 11 #[v] w fun e w' => e = .returned (.tuple #[.pointer none, .int .i64 (checkS (regAt Bs) Bs.length)]) ∧ Below w.heap.size w w' := by
  obtain ⟨rs, rfl, _, A, c, rfl, _, _, hL, _⟩ := h
  have C := rcheck_c A rs.length c (regAt rs) w (by rw [List.length_map] at hn; exact hn) hL
  rw [regAt_bare, List.length_map, checkS_bare] at hc ⊢
  have HC : Hid _ := C
  clear C
  have hc' : (checkS (regAt rs) rs.length == 0) = false := by simpa using hc
  go_enter Try.func11, Try.ntmps11
  go_wp2_with fail
  refine Calls.mono HC.out ?_
  rintro e w1 ⟨rfl, hw1⟩
  go_wp2
  go_ret2
  exact ⟨rfl, hw1⟩

theorem ref_done {wr : World} {p l0 lo : Nat} {gv nv : Value} {vs : List Value} {q : Nat → Nat} {Bs : List Reg} {G D : List (List Int)}
    (hlen : D.length = Bs.length) (hlo : lo ≤ p) (hl0 : l0 ≤ lo) (hp0 : wr.cell? ⟨p, 0, none⟩ = some gv) (hp1 : wr.cell? ⟨p, 1, none⟩ = some nv) (hown : wr.ownsRow (p + 1) 22 1 nv D.length vs) (hplt : p < wr.heap.size)
    (hrows : ∀ (i : Nat) (d : List Int), i < D.length → D[i]? = some d → ∃ cap, vs[i]? = some (.slice (some ⟨q i, 0, none⟩) d.length cap) ∧
      wr.ownsRow (p + 1) 5 1 (.slice (some ⟨q i, 0, none⟩) d.length cap) d.length (cb d))
    (hq : ∀ i, i < D.length → nv.ownBlock ≠ some (q i) ∧ q i < wr.heap.size ∧ p < q i) (hqi : ∀ i j, i < D.length → j < D.length → q i = q j → i = j)
    (hg : RL wr (fun b => b < l0) gv Bs G) (hd : ∀ (i : Nat) (d : List Int) (r : Reg), D[i]? = some d → Bs[i]? = some r → okB d ∧ (d.length : Int) = r.ln) :
    MemAt wr p l0 lo wr.heap.size Bs G D q := by
  refine ⟨hlen, Nat.le_refl _, ⟨hlo, hplt, fun i hi => by have := (hq i (by omega)).2.2; omega⟩, fun i j hi hj e => hqi i j (by omega) (by omega) e, ⟨_, hp0, hg.mono fun b hb => ⟨.inl hb, fun i hi => by have := (hq i (by omega)).2.2; omega⟩⟩, ?_⟩
  have hown' := hown
  obtain ⟨_, ⟨rfl, h0⟩ | ⟨g, cap, cur, rfl, hgb, hgg, _⟩⟩ := hown'
  · have hBe : Bs = [] := List.eq_nil_of_length_eq_zero (by omega)
    refine ⟨none, 0, 0, ?_, fun _ => ⟨rfl, hBe⟩, fun h => absurd hBe h, fun i d r hd hr => ?_⟩
    · rw [hp1, ← hlen, h0]
    · rw [hBe] at hr; simp at hr
  · refine ⟨some ⟨g, 0, none⟩, g, cap, ?_, fun h => (by cases h), fun _ => ⟨rfl, by omega, (Array.getElem?_eq_some_iff.1 hgg).1, fun i hi => ?_⟩, fun i d r hd' hr => ?_⟩
    · rw [hp1, ← hlen]
    · intro e
      exact (hq i (by omega)).1 (by simp [Value.ownBlock, e])
    · have hi : i < D.length := (List.getElem?_eq_some_iff.1 hd').1
      obtain ⟨cp, e1, e2⟩ := hrows i d hi hd'
      obtain ⟨m1, m2⟩ := hd i d r hd' hr
      refine ⟨m1, m2, (hq i hi).2.1, cp, ?_, own_mono e2 (by omega)⟩
      rw [hown.cellAt i (by omega)]
      exact e1

/-- The document's memory is there. -/
def RefPost (w : World) (l0 : Nat) (Bs : List Reg) (G D : List (List Int)) (e : Ending) (w' : World) : Prop :=
  ∃ p q, e = .returned (.tuple #[.pointer (some ⟨p, 0, none⟩), .int .i64 0]) ∧ MemAt w' p l0 w.heap.size w'.heap.size Bs G D q ∧ Below w.heap.size w w'

theorem made_bytes {w : World} {base n cap : Nat} {g : Nat} {xs : List Value} (h : w.ownsRow base 5 1 (.slice (some ⟨g, 0, none⟩) n n) n xs) : w.heap[g]? = some (.cells xs.toArray 5 (0, 0)) := by
  obtain ⟨hl, ⟨h', _⟩ | ⟨g', cap', cur, h', _, hg, _, _, hs, ht⟩⟩ := h
  · cases h'
  · simp only [Value.slice.injEq, Option.some.injEq, Addr.mk.injEq, and_true, true_and] at h'
    obtain ⟨rfl, rfl⟩ := h'
    rw [hg, ← ht, List.take_of_length_le (by rw [Array.length_toList]; omega)]
theorem own_of_heap {w : World} {base g n : Nat} {bs : List Int} (h : w.heap[g]? = some (.cells (cb bs).toArray 5 (0, 0))) (hb : base ≤ g) (hn : bs.length = n) (hm : n ≤ maxLen) : w.ownsRow base 5 1 (.slice (some ⟨g, 0, none⟩) n n) n (cb bs) := by
  subst hn
  refine ⟨by rw [cb_length]; omega, .inr ⟨g, bs.length, _, rfl, hb, h, Nat.le_refl _, hm, ?_, ?_⟩⟩
  · simp [cb_length]
  · rw [Nat.mul_one]
    exact List.take_of_length_le (by rw [cb_length]; exact Nat.le_refl _)
theorem splice_fill (ln : Int) (bs : List Int) (n : Nat) (hn : ln = n) (hle : bs.length ≤ n) : splice (List.replicate n (Value.int .u8 0)) 0 (cb bs) = cb (fillS ln bs) := by
  simp only [splice, fillS, cb_append, cb_zeros, List.take_zero, List.nil_append, Nat.zero_add, cb_length, List.drop_replicate]
  rw [hn]
  simp

set_option maxHeartbeats 8000000 in
set_option maxRecDepth 100000 in
theorem rnew_ok (v : Value) (Bs : List Reg) (G : List (List Int)) (l0 : Nat) (w : World) (h : RL w (fun b => b < l0) v Bs G) (hl0 : l0 ≤ w.heap.size) (hc : checkS (regAt Bs) Bs.length = 0) :
    Calls Try.prog 11 #[v] w fun e w' => RefPost w l0 Bs G (initD Bs G) e w' := by
  obtain ⟨i0, hi, hz0, hz1, hz2⟩ := info_parts infoRow
  obtain ⟨i5, ji, jz0, jz1, jz2⟩ := info_parts infoByte
  have HRL : Hid (RL w (fun b => b < l0) v Bs G) := h
  obtain ⟨rs, hbs, hGl, A, c, rfl, hA, hA2, hL, hB⟩ := h
  have hbl : Bs.length = rs.length := by rw [← hbs, List.length_map]
  have hc2 : checkS (regAt rs) rs.length = 0 := by
    rw [← hbs, regAt_bare, List.length_map, checkS_bare] at hc
    exact hc
  have hok := check_ok hc2 (fun i hi => (hL.2 i hi).1)
  have C1 : Hid (Calls Try.prog 28 #[.slice A rs.length c] w fun e w' => e = .returned (.int .i64 0) ∧ Below w.heap.size w w') := by
    have := rcheck_c A rs.length c (regAt rs) w (by have := hok.1; omega) hL
    rw [hc2] at this
    exact this
  have hn8 : rs.length ≤ 8 := hok.1
  have HOK : Hid _ := hok.2
  have HL : Hid _ := hL
  have HB : Hid _ := hB
  have HGl : Hid _ := hGl
  have Hbl : Hid _ := hbl
  have Hbs : Hid _ := hbs
  clear hok hL hB hGl hbl hbs hc hc2 hA hA2
  go_enter Try.func11, Try.ntmps11
  go_wp2_with fail
  refine Calls.mono C1.out ?_
  rintro e w1 ⟨rfl, hw1⟩
  have HB1 : Hid (Below w.heap.size w w1) := hw1
  clear hw1
  go_wp2_with fail
  obtain ⟨P, hP⟩ : ∃ P, P = w1.heap.size := ⟨_, rfl⟩
  obtain ⟨W4, hW4⟩ : ∃ W, W = w1.alloc (Obj.cells #[.slice A rs.length c, .slice none 0 0] 57) := ⟨_, rfl⟩
  rw [← hP, ← hW4]
  have ST : Hid (newRel W4 P (.slice A rs.length c) (initD Bs G) (.int .i64 0) W4) := by
    rw [hP, hW4]
    exact newRel_start _ _ _ _
  have HDl : Hid ((initD Bs G).length = rs.length) := by
    have h1 := HGl.out
    have h2 := Hbl.out
    show _ = _
    simp only [initD, List.length_zipWith]
    omega
  have HW : Hid (Below w.heap.size w W4 ∧ w.heap.size ≤ P) := by
    rw [hP, hW4]
    exact ⟨HB1.out.alloc HB1.out.size _, HB1.out.size⟩
  clear hP hW4 C1
  go_loopw [6] (fun i wr => newRel W4 P (.slice A rs.length c) (initD Bs G) i wr) (fun i _ => rs.length - (intOf i).toNat)
  case atStart => exact ST.out
  case round =>
    obtain ⟨k, nv, vs, q, hk, rfl, hp0, hp1, hpf, hown, hplt, hrows, hq, hqi, hbe⟩ := hrel
    rw [HDl.out] at hk
    by_cases hkn : k < rs.length
    · have hkn' : (k : Int) < rs.length := by omega
      obtain ⟨gk, hgk⟩ : ∃ g, G[k]? = some g := ⟨G[k]'(by rw [HGl.out]; exact hkn), by simp⟩
      have hrk : rs[k]? = some (regAt rs k) := by simp [regAt, List.getD, hkn]
      obtain ⟨hbl, hBLk⟩ := HB.out k _ gk hrk hgk
      obtain ⟨hmb, hle, h4, h6⟩ := HOK.out k hkn
      obtain ⟨hwf, b, o, rfl, h7⟩ := HL.out.2 k hkn
      have hbw : Below w.heap.size w wr := HW.out.1.trans (hbe.mono HW.out.2)
      obtain ⟨_, d1, _, _, _, _, d6⟩ := h7.below hbw h7.lt
      obtain ⟨n, hn⟩ : ∃ n : Nat, (regAt rs k).ln = n := ⟨(regAt rs k).ln.toNat, by omega⟩
      have hbn : b < wr.heap.size := Nat.lt_of_lt_of_le h7.lt hbw.size
      rw [hn] at d1
      have hn0 : (0 : Int) ≤ n := by omega
      have hn1 : (n : Int) ≤ 65536 := by omega
      have HX : Hid _ := And.intro hbl (And.intro hBLk (And.intro hrk (And.intro hgk (And.intro hn hle))))
      have HY : Hid _ := And.intro hrows (And.intro hq (And.intro hqi hbe))
      have HO : Hid _ := hown
      have HBW : Hid _ := hbw
      clear hbl hmb hBLk hwf h7 hrk hrows hq hqi hbe hown hbw hle h4 h6
      go_wp2_with (first
        | (at_make; refine wpList_make_full _ rfl _ _ 22 rfl wr.heap.size 5 i5 _ 1 Try.underlying22 ji jz0 jz1 .u32 .u32 _ _ n rfl rfl rfl rfl (by rw [jz2]; omega) (by simp only [maxLen]; omega) (Nat.le_refl _) ?_)
        | fail)
      intro w5 hown5 hg5
      have hb5 : Below wr.heap.size wr w5 := ⟨hg5.os, hg5.tape, hg5.output, hg5.size, fun j hj => hg5.block j hj (by simp)⟩
      have hs5 : wr.heap.size < w5.heap.size := (hown5.lt _ rfl).2
      have e6 : w5.cell? ⟨b, o + k * 7 + 6, none⟩ = _ := (hb5.cell hbn).trans d6
      have hh5 : w5.heap[wr.heap.size]? = some (.cells (List.replicate n (Value.int .u8 0)).toArray 5 (0, 0)) := by
        have h := made_bytes (cap := n) hown5
        try rw [Nat.mul_one] at h
        rw [h, toList_madeCells_one]
      have HH5 : Hid _ := hh5
      have HB5 : Hid _ := hb5
      have hBL5 : BL w5 (fun b => b < l0) (.slice (regAt rs k).ba (regAt rs k).bl (regAt rs k).bc) gk := (HX.out.2.1.kept (w' := wr) fun j _ hj => HBW.out.block j hj).kept fun j _ hj => hb5.block j hj
      have HBL5 : Hid _ := hBL5
      obtain ⟨r6, hr6⟩ : ∃ r6, r6 = regAt rs k := ⟨_, rfl⟩
      have HR6' : Hid (gk.length ≤ n ∧ r6.bl = gk.length ∧ r6 = regAt rs k) := by
        refine ⟨?_, ?_, hr6⟩
        · have h1 := HX.out.2.2.2.2.2
          have h2 := HX.out.2.2.2.2.1
          have h3 := HX.out.1
          omega
        · rw [hr6]; exact HX.out.1
      rw [← hr6] at e6 HBL5
      have HPOS : Hid (0 < (cb gk).length → ∃ ad, r6.ba = some ad ∧ ∀ j v, (cb gk)[j]? = some v → w5.cell? (ad.add j) = some v) := by
        intro hpos
        obtain ⟨_, A', c', hv, hA', _⟩ := HBL5.out
        simp only [Value.slice.injEq] at hv
        cases hA : r6.ba with
        | none =>
          rw [hA] at hv
          rw [cb_length, (hA' hv.1.symm).2] at hpos
          exact absurd hpos (Nat.not_lt_zero _)
        | some ad =>
          refine ⟨ad, rfl, ?_⟩
          have := HBL5.out
          rw [hA] at this
          exact BL.news this
      clear hown5 hg5 hb5 hh5 hBL5 hr6 d6 d1
      go_wp2_with (first
        | (refine wpList_copy_splice rfl (.tmp 28) (.tmp 33) 22 22 rfl 5 Try.underlying22 (by rw [ji]; exact congrArg some jz1) (some ⟨wr.heap.size, 0, none⟩) r6.ba n n r6.bl r6.bc rfl rfl
            wr.heap.size 0 (List.replicate n (Value.int .u8 0)) 5 HH5.out (cb gk) (by rw [cb_length, HR6'.out.2.1]; exact (Nat.min_eq_left HR6'.out.1).symm) (fun h => ⟨rfl, HPOS.out h⟩) (by rw [cb_length, List.length_replicate, Nat.zero_add]; exact HR6'.out.1) (cb_one _) wr.heap.size wr HB5.out (Nat.le_refl _) ?_)
        | fail)
      intro w6 hh6 hb6
      have hs6 : wr.heap.size < w6.heap.size := by
        have := (Array.getElem?_eq_some_iff.1 hh6.out).1
        exact this
      have hsp := splice_fill (n : Int) gk n rfl HR6'.out.1
      have hlenf : (fillS (n : Int) gk).length = n := by
        have h1 := HR6'.out.1
        have := fillS_length (ln := (n : Int)) (bs := gk) (by omega) (by omega)
        omega
      have HOW6 : Hid (w6.ownsRow wr.heap.size 5 1 (.slice (some ⟨wr.heap.size, 0, none⟩) n n) n (cb (fillS (n : Int) gk))) := by
        have h := hh6.out
        rw [hsp] at h
        exact own_of_heap h (Nat.le_refl _) hlenf (by simp only [maxLen]; omega)
      have HLF : Hid _ := hlenf
      have HB6 : Hid _ := hb6
      have f1 : w6.cell? ⟨P, 1, none⟩ = some nv := (hb6.cell hplt).trans hp1
      have f2 : ∀ o, (w6.alloc o).cell? ⟨P, 1, none⟩ = some nv := fun o => (World.cell?_of_block (w := w6) (a := ⟨P, 1, none⟩) (Below.heap_alloc w6 o P (by show P < _; omega))).trans f1
      have HR6 : Hid (∀ o6, (w6.alloc o6).ownsRow (P + 1) 22 1 nv k vs) := fun o6 =>
        (World.ownsRow.kept (row := none) HO.out ⟨hb6.os, hb6.tape, hb6.output, hb6.size, fun j hj _ => hb6.block j hj⟩ (by cases hnv : nv.ownBlock <;> simp)).alloc _
      have HNP : Hid (∀ g, nv.ownBlock = some g → P < g ∧ g < wr.heap.size) := fun g hg => World.ownsRow.lt HO.out g hg
      clear hh6 hb6 hsp hlenf HBL5 HH5 HB5 e6
      go_wp2_with (first
        | (at_builtin; refine wpList_append_lies _ rfl _ _ 55 rfl (P + 1) 22 i0 _ 1 24 Try.underlying55 hi hz0 hz1 hz2 rfl (by decide) nv k vs rfl (HR6.out _)
                ⟨w6.heap.size, 0, none⟩ 1 1 [.slice (some ⟨wr.heap.size, 0, none⟩) n n] rfl rfl (cell_one_new _ _ _) (by simp [Value.oneCell'])
                (by decide) (by simp only [maxLen]; omega) (by omega) (by rw [alloc_size']; omega) (w6.heap.size + 1) (by rw [alloc_size']) ?_)
        | fail)
      intro g7 cap7 w7 hown7 hgrow7 hat7 hlt7
      have hP6 : Hid (P < (w6.alloc (Obj.cells #[.slice (some ⟨wr.heap.size, 0, none⟩) n n] 22)).heap.size) := by show P < _; rw [alloc_size']; omega
      have hP7 : Hid (some P ≠ nv.ownBlock) := by intro e; have := HNP.out P e.symm; omega
      have hf71 : w7.cell? ⟨P, 1, none⟩ = some nv := (hgrow7.cell_far _ hP6.out hP7.out).trans (f2 _)
      have hf7 : w7.frozen? ⟨P, 1, none⟩ = false := (hgrow7.frozen_far _ hP6.out hP7.out).trans ((World.frozen?_of_block (w := w6) (a := ⟨P, 1, none⟩) (Below.heap_alloc w6 _ P (by show P < _; omega))).trans ((HB6.out.frozen (p := ⟨P, 1, none⟩) hplt).trans hpf))
      have HZ : Hid (newRel W4 P (.slice (some ⟨b, o, none⟩) rs.length c) (initD Bs G) (.int .i64 ((k : Int) + 1)) (w7.setCell ⟨P, 1, none⟩ (.slice (some ⟨g7, 0, none⟩) (k + 1) cap7))) := by
        obtain ⟨_, _, hrk, hgk, hn, _⟩ := HX.out
        obtain ⟨hrows, hq, hqi, hbe⟩ := HY.out
        have hBk : Bs[k]? = some (regAt rs k).bare := by rw [← Hbs.out, List.getElem?_map, hrk]; rfl
        have hDk : (initD Bs G)[k]? = some (fillS (n : Int) gk) := by
          simp only [initD, List.getElem?_zipWith, hBk, hgk]
          rw [← hn]
          rfl
        have hlf := HLF.out
        have how := HOW6.out
        obtain ⟨dd, hdd⟩ : ∃ dd, dd = fillS (n : Int) gk := ⟨_, rfl⟩
        rw [← hdd] at how hlf hDk
        rw [← hlf] at how hown7
        refine new_next (wr := wr) (wA := w6.alloc (Obj.cells #[.slice (some ⟨wr.heap.size, 0, none⟩) n n] 22)) (d0 := dd) (q := q) (by rw [HDl.out]; exact hkn) hDk hp0 hf71 hf7 HO.out hplt hrows hq hqi hbe (HB6.out.alloc HB6.out.size _) (g6 := wr.heap.size) (c6 := dd.length) ?_ (by rw [alloc_size']; omega) hown7 hgrow7 ?_
        · exact World.ownsRow.alloc how _
        · rw [alloc_size']; exact hat7
      clear hown7 hgrow7 hat7 hlt7 HX HY HO HR6 HNP HOW6 HB6 f1 f2 hP6 hP7
      go_wp2
      go_roundw
      case rel => exact HZ.out
      case measure =>
        simp only [intOf]
        omega
    · have kn : k = rs.length := by omega
      have kn' : ¬ (k : Int) < rs.length := by omega
      have HE : Hid (RefPost w l0 Bs G (initD Bs G) (.returned (.tuple #[.pointer (some ⟨P, 0, none⟩), .int .i64 0])) wr) := by
        have hbl := Hbl.out
        have hkD : k = (initD Bs G).length := by rw [HDl.out]; exact kn
        rw [hkD] at hown hrows hq hqi
        have hbw : Below w.heap.size w wr := HW.out.1.trans (hbe.mono HW.out.2)
        refine ⟨P, q, rfl, ref_done (by rw [HDl.out, hbl]) HW.out.2 hl0 hp0 hp1 hown hplt hrows hq hqi (HRL.out.below hbw) ?_, hbw⟩
        intro i d r hd hr
        obtain ⟨r', g, hr', hg, rfl⟩ := initD_at hd
        rw [hr] at hr'
        simp only [Option.some.injEq] at hr'
        subst hr'
        have hi : i < rs.length := by
          have := (List.getElem?_eq_some_iff.1 hr).1
          omega
        have hri : rs[i]? = some (regAt rs i) := by simp [regAt, List.getD, hi]
        have hrb : r = (regAt rs i).bare := by
          rw [← Hbs.out, List.getElem?_map, hri] at hr
          simpa using hr.symm
        obtain ⟨p1, p2⟩ := HB.out i _ g hri hg
        obtain ⟨_, m1, m2, _⟩ := HOK.out i hi
        have hln : r.ln = (regAt rs i).ln := by rw [hrb]; rfl
        exact ⟨fillS_ok p2.1, fillS_length (by omega) (by rw [hln, ← p1]; exact m1)⟩
      clear hrows hq hqi hbe hown hpf kn hkn hk
      go_wp2
      go_ret2
      exact HE.out
end Go.Proofs.Ytbpjhaaenoaclaa
