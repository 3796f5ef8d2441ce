/- Bytes, Regions, Copy: walked. -/
import Derived.Test.YteflboidbogegaaMem5
import Derived.Deep.RegionLaw
namespace Go.Proofs.Yteflboidbogegaa
open Go.ChangeShapes Go.WideShapes Go.ChangeAt Go.RowKit
set_option linter.unusedVariables false
set_option linter.unusedSimpArgs false
attribute [local go_sem ↓] Go.wp_at_zero Go.wp_at_succ

theorem MemAt.long {w : World} {p l0 lo hi : Nat} {Bs : List Reg} {G D : List (List Int)} {q : Nat → Nat} (h : MemAt w p l0 lo hi Bs G D q) (hc : checkS (regAt Bs) Bs.length = 0) :
    Bs.length ≤ 8 ∧ ∀ (i : Nat) (d : List Int), D[i]? = some d → 0 < d.length ∧ d.length ≤ 65536 := by
  obtain ⟨v, hv, rs, hbs, hgl, A0, c0, _, _, _, hL, _⟩ := h.given
  obtain ⟨A, nb, c, n1, n2, n3, n4⟩ := h.now
  have hlen : rs.length = Bs.length := by rw [← hbs, List.length_map]
  have hok := check_ok (R := regAt rs) (n := rs.length) (by rw [← hbs, regAt_bare, List.length_map, checkS_bare] at hc; exact hc) (fun j hj => (hL.2 j hj).1)
  refine ⟨by omega, fun i d hd => ?_⟩
  have hi : i < Bs.length := by
    have := (List.getElem?_eq_some_iff.1 hd).1
    have := h.len
    omega
  have hri : Bs[i]? = some (regAt Bs i) := by simp [regAt, List.getD, hi]
  obtain ⟨_, m2, _⟩ := n4 i d _ hd hri
  have hln : (regAt Bs i).ln = (regAt rs i).ln := by rw [← hbs, regAt_bare]; rfl
  have := hok.2 i (by omega)
  omega

theorem MemAt.rowc {w : World} {p l0 lo hi : Nat} {Bs : List Reg} {G D : List (List Int)} {q : Nat → Nat} (h : MemAt w p l0 lo hi Bs G D q) :
    ∃ A nb c, w.cell? ⟨p, 1, none⟩ = some (.slice A D.length c) ∧ ∀ (i : Nat) (d : List Int), D[i]? = some d → A = some ⟨nb, 0, none⟩ ∧ okB d ∧ ∃ cap, w.cell? ⟨nb, i, none⟩ = some (.slice (some ⟨q i, 0, none⟩) d.length cap) ∧ w.ownsRow lo 5 1 (.slice (some ⟨q i, 0, none⟩) d.length cap) d.length (cb d) := by
  obtain ⟨A, nb, c, n1, n2, n3, n4⟩ := h.now
  refine ⟨A, nb, c, by rw [h.len]; exact n1, fun i d hd => ?_⟩
  have hi : i < Bs.length := by
    have := (List.getElem?_eq_some_iff.1 hd).1
    have := h.len
    omega
  have hri : Bs[i]? = some (regAt Bs i) := by simp [regAt, List.getD, hi]
  obtain ⟨m1, _, _, cap, m4, m5⟩ := n4 i d _ hd hri
  exact ⟨(n3 (by intro e; rw [e] at hi; exact absurd hi (Nat.not_lt_zero _))).1, m1, cap, m4, m5⟩

theorem MemAt.copied {w : World} {p lo hi : Nat} {Bs : List Reg} {G D : List (List Int)} {q : Nat → Nat} (h : MemAt w p 0 lo hi Bs G D q) (hn : Bs.length ≤ 10) (hG : ∀ g ∈ G, g.length ≤ 65536) :
    ∃ A c, w.cell? ⟨p, 0, none⟩ = some (.slice A Bs.length c) ∧ Hid (Calls Try.prog 31 #[.slice A Bs.length c] w fun e w' => CopPost w Bs G e w') := by
  obtain ⟨v, hv, hR⟩ := h.given
  have hR2 := hR
  obtain ⟨rs, hbs, hgl, A0, c0, rfl, hA0, _, hL, _⟩ := hR2
  have hlen : rs.length = Bs.length := by rw [← hbs, List.length_map]
  rw [hlen] at hv hR
  exact ⟨A0, c0, hv, copyRegions_c _ Bs G _ w hR (fun b hb => by
    have := h.top
    rcases hb.1 with h1 | h1 <;> omega) hn (fun g hg => by have := hG g hg; omega)⟩

/-- A copy is there. -/
def CopyPost (w : World) (Bs : List Reg) (G D : List (List Int)) (e : Ending) (w' : World) : Prop :=
  ∃ p q, e = .returned (.pointer (some ⟨p, 0, none⟩)) ∧ MemAt w' p 0 w.heap.size w'.heap.size Bs G D q ∧ Below w.heap.size w w'

end Go.Proofs.Yteflboidbogegaa
