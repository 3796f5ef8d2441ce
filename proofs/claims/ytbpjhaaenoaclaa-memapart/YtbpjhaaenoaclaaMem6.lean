/- Bytes, Regions, Copy: walked. -/
import Derived.Test.YtbpjhaaenoaclaaMem5
import Derived.Deep.RegionLaw
namespace Go.Proofs.Ytbpjhaaenoaclaa
open Go.ChangeShapes Go.WideShapes Go.ChangeAt Go.RowKit
set_option linter.unusedVariables false
set_option linter.unusedSimpArgs false
attribute [local go_sem ↓] Go.wp_at_zero Go.wp_at_succ

theorem MemAt.long {w : World} {p l0 lo hi : Nat} {Bs : List Reg} {G D : List (List Int)} {q : Nat → Nat} (h : MemAt w p l0 lo hi Bs G D q) (hc : checkS (regAt Bs) Bs.length = 0) :
    Bs.length ≤ 8 ∧ ∀ (i : Nat) (d : List Int), D[i]? = some d → 0 < d.length ∧ d.length ≤ 65536 := by
  obtain ⟨v, hv, rs, hbs, hgl, A0, c0, _, _, _, hL, _⟩ := h.given
  obtain ⟨A, nb, c, n1, n2, n3, n4⟩ := h.now
  have hlen : rs.length = Bs.length := by rw [← hbs, List.length_map]
  have hok := check_ok (R := regAt rs) (n := rs.length) (by rw [← hbs, regAt_bare, List.length_map, checkS_bare] at hc; exact hc) (fun j hj => (hL.2 j hj).1)
  refine ⟨by omega, fun i d hd => ?_⟩
  have hi : i < Bs.length := by
    have := (List.getElem?_eq_some_iff.1 hd).1
    have := h.len
    omega
  have hri : Bs[i]? = some (regAt Bs i) := by simp [regAt, List.getD, hi]
  obtain ⟨_, m2, _⟩ := n4 i d _ hd hri
  have hln : (regAt Bs i).ln = (regAt rs i).ln := by rw [← hbs, regAt_bare]; rfl
  have := hok.2 i (by omega)
  omega

theorem MemAt.rowc {w : World} {p l0 lo hi : Nat} {Bs : List Reg} {G D : List (List Int)} {q : Nat → Nat} (h : MemAt w p l0 lo hi Bs G D q) :
    ∃ A nb c, w.cell? ⟨p, 1, none⟩ = some (.slice A D.length c) ∧ ∀ (i : Nat) (d : List Int), D[i]? = some d → A = some ⟨nb, 0, none⟩ ∧ okB d ∧ ∃ cap, w.cell? ⟨nb, i, none⟩ = some (.slice (some ⟨q i, 0, none⟩) d.length cap) ∧ w.ownsRow lo 5 1 (.slice (some ⟨q i, 0, none⟩) d.length cap) d.length (cb d) := by
  obtain ⟨A, nb, c, n1, n2, n3, n4⟩ := h.now
  refine ⟨A, nb, c, by rw [h.len]; exact n1, fun i d hd => ?_⟩
  have hi : i < Bs.length := by
    have := (List.getElem?_eq_some_iff.1 hd).1
    have := h.len
    omega
  have hri : Bs[i]? = some (regAt Bs i) := by simp [regAt, List.getD, hi]
  obtain ⟨m1, _, _, cap, m4, m5⟩ := n4 i d _ hd hri
  exact ⟨(n3 (by intro e; rw [e] at hi; exact absurd hi (Nat.not_lt_zero _))).1, m1, cap, m4, m5⟩

theorem bytes_c {w : World} {p l0 lo hi : Nat} {Bs : List Reg} {G D : List (List Int)} {q : Nat → Nat} (h : MemAt w p l0 lo hi Bs G D q) {i : Nat} {d : List Int} (hd : D[i]? = some d) (hdl : d.length ≤ 65536) :
    Calls Try.prog 22 #[.pointer (some ⟨p, 0, none⟩), .int .i64 i] w fun e w' => OwnPost w d e w' := by
  obtain ⟨A, nb, c, n1, n4⟩ := h.rowc
  obtain ⟨rfl, m1, cap, m4, m5⟩ := n4 i d hd
  have C : Hid _ := copyBytes_c _ d _ w (BL.own m1 m5) (by omega)
  have hi : i < D.length := (List.getElem?_eq_some_iff.1 hd).1
  have hi0 : ¬ ((i : Int) < 0) := by omega
  have hi1 : (i : Int) < D.length := by omega
  have hi2 : ¬ ((D.length : Int) ≤ i) := by omega
  clear n4 m5 h hd hi
  go_enter Try.func22, Try.ntmps22
  go_wp2_with fail
  refine Calls.mono C.out ?_
  rintro e w2 ⟨A3, c3, rfl, hown3, hb3⟩
  have HE : Hid (OwnPost w d (.returned (.slice A3 d.length c3)) w2) := ⟨A3, c3, rfl, hown3, hb3⟩
  clear hown3 hb3
  go_wp2
  go_ret
  exact HE.out

theorem bytes_out {w : World} {p l0 lo hi : Nat} {Bs : List Reg} {G D : List (List Int)} {q : Nat → Nat} (h : MemAt w p l0 lo hi Bs G D q) {i : Nat} (hi : D.length ≤ i) :
    Calls Try.prog 22 #[.pointer (some ⟨p, 0, none⟩), .int .i64 i] w fun e w' => e = .returned (.slice none 0 0) ∧ w' = w := by
  obtain ⟨A, nb, c, n1, n4⟩ := h.rowc
  have hi0 : ¬ ((i : Int) < 0) := by omega
  have hi2 : ((D.length : Int) ≤ i) := by omega
  clear n4 h hi
  go_enter Try.func22, Try.ntmps22
  go_wp2
  go_ret
  exact ⟨rfl, rfl⟩

theorem MemAt.copied {w : World} {p lo hi : Nat} {Bs : List Reg} {G D : List (List Int)} {q : Nat → Nat} (h : MemAt w p 0 lo hi Bs G D q) (hn : Bs.length ≤ 10) (hG : ∀ g ∈ G, g.length ≤ 65536) :
    ∃ A c, w.cell? ⟨p, 0, none⟩ = some (.slice A Bs.length c) ∧ Hid (Calls Try.prog 26 #[.slice A Bs.length c] w fun e w' => CopPost w Bs G e w') := by
  obtain ⟨v, hv, hR⟩ := h.given
  have hR2 := hR
  obtain ⟨rs, hbs, hgl, A0, c0, rfl, hA0, _, hL, _⟩ := hR2
  have hlen : rs.length = Bs.length := by rw [← hbs, List.length_map]
  rw [hlen] at hv hR
  exact ⟨A0, c0, hv, copyRegions_c _ Bs G _ w hR (fun b hb => by
    have := h.top
    rcases hb.1 with h1 | h1 <;> omega) hn (fun g hg => by have := hG g hg; omega)⟩

theorem regions_c {w : World} {p lo hi : Nat} {Bs : List Reg} {G D : List (List Int)} {q : Nat → Nat} (h : MemAt w p 0 lo hi Bs G D q) (hn : Bs.length ≤ 10) (hG : ∀ g ∈ G, g.length ≤ 65536) :
    Calls Try.prog 24 #[.pointer (some ⟨p, 0, none⟩)] w fun e w' => CopPost w Bs G e w' := by
  obtain ⟨A, c, hc, C⟩ := h.copied hn hG
  clear h hn
  have HG : Hid _ := hG
  clear hG
  go_enter Try.func24, Try.ntmps24
  go_wp2_with fail
  refine Calls.mono C.out ?_
  rintro e w2 ⟨A3, c3, rfl, hr3, hb3⟩
  have HE : Hid (CopPost w Bs G (.returned (.slice A3 Bs.length c3)) w2) := ⟨A3, c3, rfl, hr3, hb3⟩
  clear hr3 hb3
  go_wp2
  go_ret
  exact HE.out

/-- A copy is there. -/
def CopyPost (w : World) (Bs : List Reg) (G D : List (List Int)) (e : Ending) (w' : World) : Prop :=
  ∃ p q, e = .returned (.pointer (some ⟨p, 0, none⟩)) ∧ MemAt w' p 0 w.heap.size w'.heap.size Bs G D q ∧ Below w.heap.size w w'

set_option maxHeartbeats 8000000 in
set_option maxRecDepth 100000 in
theorem copy_c {w : World} {p lo hi : Nat} {Bs : List Reg} {G D : List (List Int)} {q : Nat → Nat} (h : MemAt w p 0 lo hi Bs G D q) (hc : checkS (regAt Bs) Bs.length = 0) (hG : ∀ g ∈ G, g.length ≤ 65536) :
    Calls Try.prog 19 #[.pointer (some ⟨p, 0, none⟩)] w fun e w' => CopyPost w Bs G D e w' := by
  obtain ⟨i0, hi, hz0, hz1, hz2⟩ := info_parts infoRow
  obtain ⟨h8, hlong⟩ := h.long hc
  obtain ⟨A, c, hc0, C⟩ := h.copied (by omega) hG
  obtain ⟨An, nb, cn, n1, n4⟩ := h.rowc
  have HM : Hid _ := h
  have HL : Hid _ := hlong
  have H4 : Hid _ := n4
  have hlen : D.length ≤ 8 := by rw [h.len]; exact h8
  have hplt : p < w.heap.size := World.block_lt_of_cell? w _ n1
  have HH : Hid (∀ (i : Nat) (d : List Int) (r : Reg), D[i]? = some d → Bs[i]? = some r → okB d ∧ (d.length : Int) = r.ln) := fun i d r hd hr => by
    obtain ⟨_, _, _, _, _, _, n9⟩ := h.now
    obtain ⟨m1, m2, _⟩ := n9 i d r hd hr
    exact ⟨m1, m2⟩
  clear h hlong n4 hc hG h8
  go_enter Try.func19, Try.ntmps19
  go_wp2_with fail
  refine Calls.mono C.out ?_
  rintro e w2 ⟨A2, c2, rfl, hrl2, hb2⟩
  have HRL2 : Hid _ := hrl2
  have HB2 : Hid _ := hb2
  have n12 : w2.cell? ⟨p, 1, none⟩ = _ := (hb2.cell hplt).trans n1
  have hp2 : p < w2.heap.size := Nat.lt_of_lt_of_le hplt hb2.size
  have hpn2 : p ≠ w2.heap.size := by omega
  clear hrl2 hb2 n1 hc0
  go_wp2_with fail
  obtain ⟨P, hP⟩ : ∃ P, P = w2.heap.size := ⟨_, rfl⟩
  obtain ⟨W4, hW4⟩ : ∃ W, W = w2.alloc (Obj.cells #[.slice A2 Bs.length c2, .slice none 0 0] 65) := ⟨_, rfl⟩
  have HF : Hid (P = w2.heap.size ∧ W4 = w2.alloc (Obj.cells #[.slice A2 Bs.length c2, .slice none 0 0] 65)) := ⟨hP, hW4⟩
  rw [← hP, ← hW4]
  have ST : Hid (newRel W4 P (.slice A2 Bs.length c2) D (.int .i64 0) W4) := by
    rw [hP, hW4]
    exact newRel_start _ _ _ _
  have HW : Hid (Below w.heap.size w W4 ∧ w.heap.size ≤ P) := by
    rw [hP, hW4]
    exact ⟨HB2.out.alloc HB2.out.size _, HB2.out.size⟩
  clear hP hW4 C n12 hp2 hpn2
  go_loopw [18] (fun i wr => newRel W4 P (.slice A2 Bs.length c2) D i wr) (fun i _ => D.length - (intOf i).toNat)
  case atStart => exact ST.out
  case round =>
    obtain ⟨k, nv, vs, q', hk, rfl, hp0, hp1, hpf, hown, hplt', hrows, hq, hqi, hbe⟩ := hrel
    by_cases hkn : k < D.length
    · have hkn' : (k : Int) < D.length := by omega
      obtain ⟨dk, hdk⟩ : ∃ d, D[k]? = some d := ⟨D[k], by simp [hkn]⟩
      obtain ⟨rfl, hokd, cap, m4, m5⟩ := H4.out k dk hdk
      obtain ⟨l1, l2⟩ := HL.out k dk hdk
      have hbw : Below w.heap.size w wr := HW.out.1.trans (hbe.mono HW.out.2)
      have d0 : wr.cell? ⟨nb, k, none⟩ = _ := (hbw.cell (World.block_lt_of_cell? w _ m4)).trans m4
      have hm5 : BL wr _ _ dk := (BL.own hokd m5).kept (w' := wr) fun b hb hb' => hbw.block b hb'
      have CF : Hid (Calls Try.prog 38 #[.slice (some ⟨q k, 0, none⟩) dk.length cap] wr.drew fun e w' => OwnPost wr.drew dk e w') :=
        copyBytes_c _ dk _ wr.drew hm5 (by omega)
      have HX : Hid _ := And.intro hdk l1
      have HY : Hid _ := And.intro hrows (And.intro hq (And.intro hqi hbe))
      have HO : Hid _ := hown
      clear hm5 m4 m5 hokd hdk l1 l2 hrows hq hqi hbe hown hbw
      go_wp2_with fail
      have HR6 : Hid (∀ w6 o6, Below wr.drew.heap.size wr.drew w6 → (w6.alloc o6).ownsRow (P + 1) 22 1 nv k vs) := fun w6 o6 h6 =>
        (World.ownsRow.kept (row := none) HO.out ⟨h6.os, h6.tape, h6.output, h6.size, fun j hj _ => h6.block j hj⟩ (by cases hnv : nv.ownBlock <;> simp)).alloc _
      have HFZ : Hid (∀ w6 o6, Below wr.drew.heap.size wr.drew w6 → (w6.alloc o6).frozen? ⟨P, 1, none⟩ = false) := fun w6 o6 h6 =>
        (World.frozen?_of_block (w := w6) (a := ⟨P, 1, none⟩) (Below.heap_alloc w6 o6 P (by have : wr.heap.size ≤ w6.heap.size := h6.size; show P < _; omega))).trans ((h6.frozen (p := ⟨P, 1, none⟩) (by show P < wr.heap.size; omega)).trans hpf)
      have hnP : ∀ g, nv.ownBlock = some g → P < g ∧ g < wr.heap.size := fun g hg => World.ownsRow.lt HO.out g hg
      have HNP : Hid _ := hnP
      clear hnP
      go_region_law
        (first
          | (go_simp; go_at_call 38; refine Calls.mono CF.out ?_; rintro e w6 ⟨A6, c6, rfl, hown6, hb6⟩
             have f6 : w6.cell? ⟨P, 1, none⟩ = some nv := (hb6.cell (by show P < wr.heap.size; omega)).trans hp1
             have hPn6 : P < w6.heap.size := by have : wr.heap.size ≤ w6.heap.size := hb6.size; omega
             have f6a : ∀ o, (w6.alloc o).cell? ⟨P, 1, none⟩ = some nv := fun o => (World.cell?_of_block (w := w6) (a := ⟨P, 1, none⟩) (Below.heap_alloc w6 o P hPn6)).trans f6)
          | ((refine step_append_lies _ (by rfl) _ _ _ (by rfl) (P + 1) 22 i0 _ 1 24 Try.underlying55 hi hz0 hz1 hz2 rfl (by decide) nv k vs (by rfl) (HR6.out _ _ hb6)
                ⟨w6.heap.size, 0, none⟩ 1 1 [.slice A6 dk.length c6] (by rfl) (by rfl) (cell_one_new _ _ _) (by simp [Value.oneCell'])
                (by decide) (by simp only [maxLen]; omega) (by omega) (by have h66 : wr.heap.size ≤ w6.heap.size := hb6.size; rw [alloc_size']; omega) (w6.heap.size + 1) (by rw [alloc_size']) ?_; intro g7 cap7 w7 hown7 hgrow7 hat7 hlt7
              have h66 : wr.heap.size ≤ w6.heap.size := hb6.size
              have hP6 : Hid (P < (w6.alloc (Obj.cells #[.slice A6 dk.length c6] 22)).heap.size) := by show P < _; rw [alloc_size']; omega
              have hP7 : Hid (some P ≠ nv.ownBlock) := by intro e; have := HNP.out P e.symm; omega
              have hf71 : w7.cell? ⟨P, 1, none⟩ = some nv := (hgrow7.cell_far _ hP6.out hP7.out).trans ((World.cell?_of_block (w := w6) (a := ⟨P, 1, none⟩) (Below.heap_alloc w6 _ P (by show P < _; omega))).trans f6)
              have hf7 : w7.frozen? ⟨P, 1, none⟩ = false := (hgrow7.frozen_far _ hP6.out hP7.out).trans (HFZ.out _ _ hb6))))
      all_goals
        have HZ : Hid (newRel W4 P (.slice A2 Bs.length c2) D (.int .i64 ((k : Int) + 1)) (w7.setCell ⟨P, 1, none⟩ (.slice (some ⟨g7, 0, none⟩) (k + 1) cap7))) := by
          obtain ⟨hrows, hq, hqi, hbe⟩ := HY.out
          obtain ⟨g6, cap6, hA6, hg6, hg6b⟩ := hown6.form HX.out.2
          simp only [Value.slice.injEq, true_and] at hA6
          obtain ⟨rfl, rfl⟩ := hA6
          have h56 : Below wr.heap.size wr w6 := (Below.refl wr.heap.size wr).drew.trans hb6
          refine new_next (wr := wr) (wA := w6.alloc (Obj.cells #[.slice (some ⟨g6, 0, none⟩) dk.length c6] 22)) (d0 := dk) (q := q') hkn HX.out.1 hp0 hf71 hf7 HO.out hplt' hrows hq hqi hbe (h56.alloc h56.size _) ?_ (by rw [alloc_size']; omega) hown7 hgrow7 ?_
          · exact World.ownsRow.alloc hown6 _
          · rw [alloc_size']; exact hat7
        clear hown7 hgrow7 hat7 hlt7 hown6 hb6 hf71 hf7 HX HY HO HR6 HFZ HNP CF
        go_wp2
        go_roundw
        case rel => exact HZ.out
        case measure =>
          simp only [intOf]
          omega
    · have kn : k = D.length := by omega
      have kn' : ¬ (k : Int) < D.length := by omega
      have HE : Hid (CopyPost w Bs G D (.returned (.pointer (some ⟨P, 0, none⟩))) wr) := by
        obtain ⟨hP, hW4⟩ := HF.out
        rw [kn] at hown hrows hq hqi
        refine ⟨P, q', rfl, new_done HM.out.len HW.out.2 hp0 hp1 hown hplt' hrows hq hqi ?_ HH.out, HW.out.1.trans (hbe.mono HW.out.2)⟩
        refine (RL.kept (w' := wr) HRL2.out fun b hb hb2 => ?_).mono fun b hb => ⟨hb.1, by omega⟩
        rw [hbe.block b (by omega), hW4]
        exact Below.heap_alloc w2 _ b hb2
      clear hrows hq hqi hbe hown hpf kn hkn hk
      go_wp2
      go_ret
      exact HE.out
end Go.Proofs.Ytbpjhaaenoaclaa
