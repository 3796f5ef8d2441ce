/- Lists of regions with their bytes; copyRegions, walked. -/
import Derived.Test.YteflboidbogegaaMem1
namespace Go.Proofs.Yteflboidbogegaa
open Go.ChangeShapes Go.WideShapes Go.ChangeAt Go.RowKit
set_option linter.unusedVariables false
set_option linter.unusedSimpArgs false

def Reg.cells (r : Reg) : List Value := [.int .u32 r.fr, .int .u32 r.ln, .bool r.rd, .bool r.wr, .bool r.ex, .bool r.se, .slice r.ba r.bl r.bc]
def cellsOf (rs : List Reg) : List Value := rs.flatMap Reg.cells
def regAt (rs : List Reg) (i : Nat) : Reg := rs.getD i noReg
theorem regAt_some {rs : List Reg} {i : Nat} {r : Reg} (h : rs[i]? = some r) : regAt rs i = r := by simp [regAt, List.getD, h]

theorem cellsOf_length (rs : List Reg) : (cellsOf rs).length = rs.length * 7 := by
  induction rs with
  | nil => rfl
  | cons r rs ih =>
    simp only [cellsOf, List.flatMap_cons, List.length_append, List.length_cons] at ih ⊢
    rw [ih]
    simp [Reg.cells]
    omega
theorem cellsOf_at (rs : List Reg) (i j : Nat) (hi : i < rs.length) (hj : j < 7) : (cellsOf rs)[i * 7 + j]? = (regAt rs i).cells[j]? := by
  induction rs generalizing i with
  | nil => simp at hi
  | cons r rs ih =>
    have hc : cellsOf (r :: rs) = r.cells ++ cellsOf rs := by simp [cellsOf]
    rw [hc]
    match i with
    | 0 =>
      rw [List.getElem?_append_left (by simp [Reg.cells]; omega)]
      simp [regAt]
    | i + 1 =>
      rw [List.getElem?_append_right (by simp [Reg.cells]; omega)]
      have h := ih i (by simpa using hi)
      have e1 : (i + 1) * 7 + j - r.cells.length = i * 7 + j := by simp [Reg.cells]; omega
      rw [e1, h]
      simp [regAt]
theorem cellsOf_one (rs : List Reg) : ∀ u ∈ cellsOf rs, u.oneCell' = true := by
  intro u hu
  obtain ⟨r, _, hu⟩ := List.mem_flatMap.1 hu
  simp only [Reg.cells, List.mem_cons, List.not_mem_nil, or_false] at hu
  rcases hu with rfl | rfl | rfl | rfl | rfl | rfl | rfl <;> rfl

/-- A region with other bytes. -/
def Reg.put (r : Reg) (A : Option Addr) (m c : Nat) : Reg := { r with ba := A, bl := m, bc := c }
def Reg.bare (r : Reg) : Reg := { r with ba := none, bc := 0 }
theorem cellsOf_set (rs : List Reg) (k : Nat) (hk : k < rs.length) (A : Option Addr) (m c : Nat) : (cellsOf rs).set (k * 7 + 6) (.slice A m c) = cellsOf (rs.set k ((regAt rs k).put A m c)) := by
  induction rs generalizing k with
  | nil => simp at hk
  | cons r rs ih =>
    have hc : ∀ (r : Reg) rs, cellsOf (r :: rs) = r.cells ++ cellsOf rs := fun r rs => by simp [cellsOf]
    match k with
    | 0 => simp [hc, Reg.cells, Reg.put, regAt]
    | k + 1 =>
      have e1 : (k + 1) * 7 + 6 = r.cells.length + (k * 7 + 6) := by simp [Reg.cells]; omega
      have e2 : regAt (r :: rs) (k + 1) = regAt rs k := by simp [regAt]
      rw [hc, e1, List.set_append_right _ _ (by omega), Nat.add_sub_cancel_left, ih k (by simpa using hk), List.set_cons_succ, hc, e2]

theorem lies_own {w : World} {base : Nat} {v : Value} {n : Nat} {rs : List Reg} (h : w.ownsRow base 86 7 v n (cellsOf rs)) (hl : rs.length = n) (hw : ∀ r ∈ rs, r.wf) :
    ∃ A c, v = .slice A n c ∧ Lies w A n (regAt rs) ∧ (A = none → c = 0 ∧ rs = []) ∧ ∀ b o, A = some ⟨b, o, none⟩ → base ≤ b ∧ b < w.heap.size := by
  have h' := h
  obtain ⟨_, ⟨rfl, rfl⟩ | ⟨g, cap, cur, rfl, hb, hg, hc, hm, _⟩⟩ := h
  · exact ⟨none, 0, rfl, ⟨by decide, fun i hi => absurd hi (Nat.not_lt_zero _)⟩, fun _ => ⟨rfl, List.eq_nil_of_length_eq_zero hl⟩, fun b o h => (by cases h)⟩
  · refine ⟨some ⟨g, 0, none⟩, cap, rfl, ⟨?_, fun i hi => ⟨?_, g, 0, rfl, ?_⟩⟩, fun h => (by cases h), fun b o h => ?_⟩
    · simp only [maxLen] at hm
      omega
    · have hi' : i < rs.length := by omega
      have : regAt rs i = rs[i] := by simp [regAt, List.getD, hi']
      rw [this]
      exact hw _ (List.getElem_mem hi')
    · have key : ∀ j, j < 7 → w.cell? ⟨g, 0 + i * 7 + j, none⟩ = (regAt rs i).cells[j]? := fun j hj => by
        rw [Nat.zero_add, h'.cellAt (i * 7 + j) (by omega)]
        exact cellsOf_at rs i j (by omega) hj
      exact ⟨key 0 (by decide), key 1 (by decide), key 2 (by decide), key 3 (by decide), key 4 (by decide), key 5 (by decide), key 6 (by decide)⟩
    · simp only [Option.some.injEq, Addr.mk.injEq, and_true] at h
      obtain ⟨rfl, rfl⟩ := h
      exact ⟨hb, (Array.getElem?_eq_some_iff.1 hg).1⟩

/-- The regions Bs, told without their addresses, lie behind v with their bytes G, in blocks of which S holds. -/
def RL (w : World) (S : Nat → Prop) (v : Value) (Bs : List Reg) (G : List (List Int)) : Prop :=
  ∃ rs : List Reg, rs.map Reg.bare = Bs ∧ G.length = rs.length ∧ ∃ A c, v = .slice A rs.length c ∧ (A = none → c = 0 ∧ rs = []) ∧ (∀ b o, A = some ⟨b, o, none⟩ → rs ≠ [] → S b) ∧ Lies w A rs.length (regAt rs) ∧
    ∀ (i : Nat) (r : Reg) (g : List Int), rs[i]? = some r → G[i]? = some g → r.bl = g.length ∧ BL w S (.slice r.ba r.bl r.bc) g

theorem At7.kept {w w' : World} {b o : Nat} {r : Reg} (h : At7 w b o r) (hb : w'.heap[b]? = w.heap[b]?) : At7 w' b o r := by
  obtain ⟨h0, h1, h2, h3, h4, h5, h6⟩ := h
  have key : ∀ k, w'.cell? ⟨b, k, none⟩ = w.cell? ⟨b, k, none⟩ := fun k => World.cell?_of_block (w := w) (a := ⟨b, k, none⟩) hb
  exact ⟨(key _).trans h0, (key _).trans h1, (key _).trans h2, (key _).trans h3, (key _).trans h4, (key _).trans h5, (key _).trans h6⟩
theorem Lies.kept {w w' : World} {A : Option Addr} {n : Nat} {R : Nat → Reg} (h : Lies w A n R) (hb : ∀ b o, A = some ⟨b, o, none⟩ → 0 < n → b < w.heap.size → w'.heap[b]? = w.heap[b]?) : Lies w' A n R :=
  ⟨h.1, fun i hi => by
    obtain ⟨h1, b, o, ha, h7⟩ := h.2 i hi
    exact ⟨h1, b, o, ha, h7.kept (hb b o ha (by omega) h7.lt)⟩⟩
theorem RL.kept {w w' : World} {S : Nat → Prop} {v : Value} {Bs : List Reg} {G : List (List Int)} (h : RL w S v Bs G) (hS : ∀ b, S b → b < w.heap.size → w'.heap[b]? = w.heap[b]?) : RL w' S v Bs G := by
  obtain ⟨rs, h1, h2, A, c, h3, h4, h5, h6, h7⟩ := h
  refine ⟨rs, h1, h2, A, c, h3, h4, h5, h6.kept (fun b o ha hn hlt => hS b (h5 b o ha ?_) hlt), fun i r g hr hg => ⟨(h7 i r g hr hg).1, (h7 i r g hr hg).2.kept hS⟩⟩
  intro e
  rw [e] at hn
  exact absurd hn (Nat.not_lt_zero _)
theorem RL.below {w w' : World} {S : Nat → Prop} {v : Value} {Bs : List Reg} {G : List (List Int)} (h : RL w S v Bs G) (hb : Below w.heap.size w w') : RL w' S v Bs G := h.kept fun b _ hb' => hb.block b hb'
theorem RL.mono {w : World} {S S' : Nat → Prop} {v : Value} {Bs : List Reg} {G : List (List Int)} (h : RL w S v Bs G) (hS : ∀ b, S b → S' b) : RL w S' v Bs G := by
  obtain ⟨rs, h1, h2, A, c, h3, h4, h5, h6, h7⟩ := h
  exact ⟨rs, h1, h2, A, c, h3, h4, fun b o ha hn => hS _ (h5 b o ha hn), h6, fun i r g hr hg => ⟨(h7 i r g hr hg).1, (h7 i r g hr hg).2.mono hS⟩⟩

theorem infoReg : (Try.prog.info? 86).map (fun i => (i.zero, i.size, i.bytes)) = some (some (.agg #[.int .u32 0, .int .u32 0, .bool false, .bool false, .bool false, .bool false, .slice none 0 0]), 7, 40) := by kernel_rfl

/-- A copied list comes back. -/
def CopPost (w : World) (Bs : List Reg) (G : List (List Int)) (e : Ending) (w' : World) : Prop :=
  ∃ A c, e = .returned (.slice A Bs.length c) ∧ RL w' (fun b => w.heap.size ≤ b ∧ b < w'.heap.size) (.slice A Bs.length c) Bs G ∧ Below w.heap.size w w'

theorem lies_news {w : World} {A : Addr} {rs : List Reg} (h : Lies w (some A) rs.length (regAt rs)) : ∀ j u, (cellsOf rs)[j]? = some u → w.cell? (A.add j) = some u := by
  intro j u hu
  have hj : j < rs.length * 7 := by rw [← cellsOf_length]; exact (List.getElem?_eq_some_iff.1 hu).1
  obtain ⟨i, m, hm, rfl⟩ : ∃ i m, m < 7 ∧ j = i * 7 + m := ⟨j / 7, j % 7, Nat.mod_lt _ (by decide), by omega⟩
  have hi : i < rs.length := by omega
  obtain ⟨_, b, o, ha, h7⟩ := h.2 i hi
  cases ha
  have hadd : (⟨b, o, none⟩ : Addr).add (i * 7 + m) = ⟨b, o + i * 7 + m, none⟩ := by unfold Addr.add; split <;> simp_all [Nat.add_assoc]
  rw [hadd, ← hu, cellsOf_at rs i m hi hm]
  obtain ⟨c0, c1, c2, c3, c4, c5, c6⟩ := h7
  have h8 : m = 0 ∨ m = 1 ∨ m = 2 ∨ m = 3 ∨ m = 4 ∨ m = 5 ∨ m = 6 := by omega
  rcases h8 with rfl | rfl | rfl | rfl | rfl | rfl | rfl
  · exact c0
  · exact c1
  · exact c2
  · exact c3
  · exact c4
  · exact c5
  · exact c6

/-- The copying loop: the first k have bytes of their own. -/
def copRel (w w1 : World) (S : Nat → Prop) (v1 : Value) (rs : List Reg) (G : List (List Int)) (i : Value) (wr : World) : Prop :=
  ∃ (k : Nat) (rs' : List Reg), k ≤ rs.length ∧ i = .int .i64 k ∧ rs'.length = rs.length ∧ rs'.map Reg.bare = rs.map Reg.bare ∧ wr.ownsRow w.heap.size 86 7 v1 rs.length (cellsOf rs') ∧
    (∀ (j : Nat) (r : Reg) (g : List Int), rs'[j]? = some r → G[j]? = some g → r.bl = g.length ∧ (j < k → BL wr (fun b => w1.heap.size ≤ b ∧ b < wr.heap.size) (.slice r.ba r.bl r.bc) g) ∧ (k ≤ j → BL wr S (.slice r.ba r.bl r.bc) g)) ∧
    Below w.heap.size w wr ∧ w1.heap.size ≤ wr.heap.size

theorem bare_wf {r r' : Reg} (h : r.bare = r'.bare) (hr : r.wf) : r'.wf := by
  obtain ⟨fr, ln, rd, wr, ex, se, ba, bl, bc⟩ := r
  obtain ⟨fr', ln', rd', wr', ex', se', ba', bl', bc'⟩ := r'
  simp only [Reg.bare, Reg.mk.injEq] at h
  obtain ⟨rfl, rfl, rfl, rfl, rfl, rfl, _, rfl, _⟩ := h
  exact hr
theorem bare_at {rs rs' : List Reg} (h : rs'.map Reg.bare = rs.map Reg.bare) (i : Nat) : (regAt rs' i).bare = (regAt rs i).bare := by
  have h1 : (rs'.map Reg.bare)[i]? = (rs.map Reg.bare)[i]? := by rw [h]
  simp only [List.getElem?_map] at h1
  simp only [regAt, List.getD]
  cases ha : rs'[i]? <;> cases hb : rs[i]? <;> simp_all

theorem wf_all {w : World} {A : Option Addr} {rs rs' : List Reg} (hl : Lies w A rs.length (regAt rs)) (hlen : rs'.length = rs.length) (hm : rs'.map Reg.bare = rs.map Reg.bare) : ∀ r ∈ rs', r.wf := by
  intro r hr
  obtain ⟨i, hi, rfl⟩ := List.getElem_of_mem hr
  have h2 := (hl.2 i (by omega)).1
  have e1 : regAt rs' i = rs'[i] := by simp [regAt, List.getD, hi]
  rw [← e1]
  exact bare_wf (bare_at hm i).symm h2

theorem set_same {α : Type} {l : List α} {k : Nat} {x : α} (h : l[k]? = some x) : l.set k x = l := by
  apply List.ext_getElem?
  intro j
  rw [List.getElem?_set]
  split
  · rename_i e
    subst e
    split
    · exact h.symm
    · rename_i h2
      rw [List.getElem?_eq_none (by omega)] at h
      cases h
  · rfl

/-- The round's end. -/
theorem cop_next {w w1 wr w2 : World} {S : Nat → Prop} {b c1 k : Nat} {rs rs' : List Reg} {G : List (List Int)} {gk : List Int} {A3 : Option Addr} {c3 : Nat}
    (HS : ∀ b, S b → b < w.heap.size) (hl' : rs'.length = rs.length) (hm' : rs'.map Reg.bare = rs.map Reg.bare) (hkn : k < rs.length) (hgk : G[k]? = some gk) (q1 : (regAt rs' k).bl = gk.length) (HK : okB gk)
    (HR : ∀ (j : Nat) (r : Reg) (g : List Int), rs'[j]? = some r → G[j]? = some g → r.bl = g.length ∧ (j < k → BL wr (fun b => w1.heap.size ≤ b ∧ b < wr.heap.size) (.slice r.ba r.bl r.bc) g) ∧ (k ≤ j → BL wr S (.slice r.ba r.bl r.bc) g))
    (hb : Below w.heap.size w wr) (hsz : w1.heap.size ≤ wr.heap.size) (HA2 : w.heap.size ≤ b ∧ b < w1.heap.size)
    (hst : (w2.setCell ⟨b, k * 7 + 6, none⟩ (.slice A3 gk.length c3)).ownsRow w.heap.size 86 7 (.slice (some ⟨b, 0, none⟩) rs.length c1) rs.length ((cellsOf rs').set (k * 7 + 6) (.slice A3 gk.length c3)))
    (hown3 : w2.ownsRow wr.heap.size 5 1 (.slice A3 gk.length c3) gk.length (cb gk)) (hb3 : Below wr.heap.size wr w2) :
    copRel w w1 S (.slice (some ⟨b, 0, none⟩) rs.length c1) rs G (.int .i64 ((k : Int) + 1)) (w2.setCell ⟨b, k * 7 + 6, none⟩ (.slice A3 gk.length c3)) := by
  have hk' : k < rs'.length := by omega
  have hsame : ∀ j, j ≠ b → (w2.setCell ⟨b, k * 7 + 6, none⟩ (.slice A3 gk.length c3)).heap[j]? = w2.heap[j]? := fun j hj => Below.heap_setCell w2 _ _ j hj
  have hsz2 : (w2.setCell ⟨b, k * 7 + 6, none⟩ (.slice A3 gk.length c3)).heap.size = w2.heap.size := by simp
  refine ⟨k + 1, rs'.set k ((regAt rs' k).put A3 gk.length c3), hkn, by push_cast; rfl, by simp [hl'], ?_, ?_, ?_, ?_, ?_⟩
  · rw [List.map_set, ← hm']
    apply set_same
    rw [List.getElem?_map, show rs'[k]? = some (regAt rs' k) by simp [regAt, List.getD, hk']]
    simp [Reg.bare, Reg.put, q1]
  · rw [← cellsOf_set rs' k hk']
    exact hst
  · intro j r g hr hg
    rw [List.getElem?_set] at hr
    split at hr
    · rename_i e
      subst e
      try rw [if_pos hk'] at hr
      simp only [Option.some.injEq] at hr
      subst hr
      rw [hgk] at hg
      simp only [Option.some.injEq] at hg
      subst hg
      refine ⟨rfl, fun _ => ?_, fun h => absurd h (by omega)⟩
      refine ((BL.own HK hown3).kept fun j hj1 hj2 => hsame j (by omega)).mono fun j hj => ?_
      rw [hsz2]
      omega
    · rename_i hne
      obtain ⟨p1, p2, p3⟩ := HR j r g hr hg
      refine ⟨p1, fun h => ?_, fun h => ?_⟩
      · refine ((p2 (by omega)).kept fun j hj1 hj2 => (hsame j (by omega)).trans (hb3.block j hj2)).mono fun j hj => ?_
        have := hb3.size
        rw [hsz2]
        omega
      · exact (p3 (by omega)).kept fun j hj1 hj2 => (hsame j (by have := HS j hj1; omega)).trans (hb3.block j hj2)
  · exact (hb.trans (hb3.mono hb.size)).setCell HA2.1 _
  · have := hb3.size
    rw [hsz2]
    omega

set_option maxHeartbeats 4000000 in
theorem copyRegions_c (v : Value) (Bs : List Reg) (G : List (List Int)) (S : Nat → Prop) (w : World) (h : RL w S v Bs G) (hS : ∀ b, S b → b < w.heap.size) (hn : Bs.length ≤ 10) (hG : ∀ g ∈ G, g.length ≤ 140737488355328) :
    Calls Try.prog 31 #[v] w fun e w' => CopPost w Bs G e w' := by
  obtain ⟨i0, hi, hz0, hz1, hz2⟩ := info_parts infoReg
  obtain ⟨rs, hBs, hGl, A, c, rfl, hA, hA2, hL, hB⟩ := h
  have hlen : Bs.length = rs.length := by rw [← hBs, List.length_map]
  -- the way behind the append
  have HL : Hid (Lies w A rs.length (regAt rs)) := hL
  have HGl : Hid (G.length = rs.length) := hGl
  have HBs : Hid (rs.map Reg.bare = Bs) := hBs
  have HB : Hid (∀ (i : Nat) (r : Reg) (g : List Int), rs[i]? = some r → G[i]? = some g → r.bl = g.length ∧ BL w S (.slice r.ba r.bl r.bc) g) := hB
  have HS : Hid (∀ b, S b → b < w.heap.size) := hS
  have HG : Hid (∀ g ∈ G, g.length ≤ 140737488355328) := hG
  rw [hlen] at hn
  have hnI : (rs.length : Int) ≤ 10 := by omega
  have HP : Hid (∀ e w', (∃ A c, e = .returned (.slice A rs.length c) ∧ RL w' (fun b => w.heap.size ≤ b ∧ b < w'.heap.size) (.slice A rs.length c) Bs G ∧ Below w.heap.size w w') → CopPost w Bs G e w') := by
    intro e w' h
    unfold CopPost
    rw [hlen]
    exact h
  clear hL hGl hBs hB hS hG hlen hA2
  have START : Hid (∀ (v1 : Value) (w1 : World), w1.ownsRow w.heap.size 86 7 v1 rs.length (cellsOf rs) → Below w.heap.size w w1 → copRel w w1 S v1 rs G (.int .i64 0) w1) := by
    intro v1 w1 ho hb
    refine ⟨0, rs, Nat.zero_le _, rfl, rfl, rfl, ho, fun j r g hr hg => ?_, hb, Nat.le_refl _⟩
    obtain ⟨q1, q2⟩ := HB.out j r g hr hg
    exact ⟨q1, fun h => absurd h (Nat.not_lt_zero _), fun _ => q2.kept (fun b hb1 hb2 => hb.block b hb2)⟩
  cases A with
  | none =>
    obtain ⟨rfl, rfl⟩ := hA rfl
    have HE : Hid (CopPost w Bs G (.returned (.slice none 0 0)) w) := HP.out _ _ ⟨none, 0, rfl, ⟨[], HBs.out, HGl.out, none, 0, rfl, fun _ => ⟨rfl, rfl⟩, fun b o h => (by cases h), HL.out, fun i r g h => (by simp at h)⟩, Below.refl _ _⟩
    simp only [List.length_nil]
    clear hA hn hnI
    go_enter Try.func31, Try.ntmps31
    go_wp2_with (at_builtin; refine wpList_append_own_none rfl _ _ 39 rfl w.heap.size 86 i0 7 Try.underlying39 hi _ 0 [] rfl (World.ownsRow_nil _ _ _ _) rfl ?_)
    go_wp2_with fail
    go_loopw [9] (fun i wr => i = .int .i64 0 ∧ wr = w) (fun i _ => 0)
    case atStart => exact ⟨rfl, rfl⟩
    case round =>
      obtain ⟨rfl, hwr⟩ := hrel
      replace hwr := hwr.symm
      subst hwr
      go_wp2
      go_ret
      exact HE.out
  | some A =>
    clear hA
    go_enter Try.func31, Try.ntmps31
    go_wp2_with (at_builtin; refine wpList_append_own _ rfl _ _ 39 rfl w.heap.size 86 i0 _ 7 40 Try.underlying39 hi hz0 hz1 hz2 rfl (by decide) _ 0 [] rfl (World.ownsRow_nil _ _ _ _) A rs.length c (cellsOf rs) rfl (cellsOf_length rs) (lies_news HL.out) (cellsOf_one _) (by simp only [maxLen]; omega) (by omega) (Nat.le_refl _) ?_)
    intro v1 w1 hown hg _
    try simp only [Nat.zero_add, List.nil_append] at hown
    have hb1 : Below w.heap.size w w1 := Below.grown (Below.refl _ _) hg (Nat.le_refl _) (fun k hk => by simp [Value.ownBlock] at hk)
    have ST : Hid (copRel w w1 S v1 rs G (.int .i64 0) w1) := START.out v1 w1 hown hb1
    obtain ⟨A1, c1, rfl, _, _, hA1⟩ := lies_own hown rfl (wf_all HL.out rfl rfl)
    have HA1 : Hid (∀ b o, A1 = some ⟨b, o, none⟩ → w.heap.size ≤ b ∧ b < w1.heap.size) := hA1
    have HB1 : Hid (Below w.heap.size w w1) := hb1
    clear hown hg hb1 hA1 START
    go_wp2_with fail
    go_loopw [9] (fun i wr => copRel w w1 S (.slice A1 rs.length c1) rs G i wr) (fun i _ => rs.length - (intOf i).toNat)
    case atStart => exact ST.out
    case round =>
      obtain ⟨k, rs', hk, rfl, hl', hm', ho, hrow, hb, hsz⟩ := hrel
      by_cases hkn : k < rs.length
      · have hkn' : (k : Int) < rs.length := by omega
        have hk' : k < rs'.length := by omega
        have hrk : rs'[k]? = some (regAt rs' k) := by simp [regAt, List.getD, hk']
        obtain ⟨gk, hgk⟩ : ∃ g, G[k]? = some g := ⟨G[k]'(by rw [HGl.out]; exact hkn), by simp⟩
        obtain ⟨q1, _, q3⟩ := hrow k _ gk hrk hgk
        have hC := copyBytes_c _ gk S wr (q3 (Nat.le_refl _)) (HG.out _ (List.mem_of_getElem? hgk))
        obtain ⟨A2, c2, hv, hLr, _, hA2⟩ := lies_own ho hl' (wf_all HL.out hl' hm')
        simp only [Value.slice.injEq, true_and] at hv
        obtain ⟨rfl, rfl⟩ := hv
        obtain ⟨hwf, b, o, rfl, h7⟩ := hLr.2 k hkn
        have c6 := h7.2.2.2.2.2.2
        have HK : Hid (okB gk) := (q3 (Nat.le_refl _)).1
        rw [q1] at hC c6
        have ho2 := ho
        have hob : o = 0 := by
          obtain ⟨_, ⟨h, _⟩ | ⟨g, cap, cur, h, _⟩⟩ := ho
          · cases h
          · simp only [Value.slice.injEq, Option.some.injEq, Addr.mk.injEq] at h
            exact h.1.2.1
        subst hob
        simp only [Nat.zero_add] at c6
        have HC : Hid _ := hC
        have HR : Hid _ := hrow
        have HO : Hid _ := ho
        have HBr : Hid _ := And.intro hb hsz
        have HA2 : Hid (w.heap.size ≤ b ∧ b < w1.heap.size) := HA1.out b 0 rfl
        clear hC hrow ho ho2 hb hsz hLr h7 q3 hA2
        go_wp2_with fail
        refine Calls.mono HC.out ?_
        rintro e w2 ⟨A3, c3, rfl, hown3, hb3⟩
        have hbs : b < wr.heap.size := Nat.lt_of_lt_of_le HA2.out.2 HBr.out.2
        have d6 : w2.cell? ⟨b, k * 7 + 6, none⟩ = _ := (hb3.cell hbs).trans c6
        have ho3 : w2.ownsRow w.heap.size 86 7 (.slice (some ⟨b, 0, none⟩) rs.length c1) rs.length (cellsOf rs') :=
          World.ownsRow.kept (row := none) HO.out ⟨hb3.os, hb3.tape, hb3.output, hb3.size, fun j hj _ => hb3.block j hj⟩ (.inr (by simp [Value.ownBlock]))
        have hfz := ho3.frozenAt (k * 7 + 6)
        have hst := ho3.stored (k * 7 + 6) (.slice A3 gk.length c3)
        have HX : Hid _ := And.intro hst (And.intro hown3 hb3)
        clear hst hown3 hb3 ho3 c6
        go_wp2
        go_roundw
        case rel =>
          exact cop_next HS.out hl' hm' hkn hgk q1 HK.out HR.out HBr.out.1 HBr.out.2 HA2.out HX.out.1.1 HX.out.2.1 HX.out.2.2
        case measure =>
          simp only [intOf]
          omega
      · have kn : k = rs.length := by omega
        have HE : Hid (CopPost w Bs G (.returned (.slice A1 rs.length c1)) wr) := by
          obtain ⟨A2, c2, hv, hLr, hn2, hA2⟩ := lies_own ho hl' (wf_all HL.out hl' hm')
          simp only [Value.slice.injEq, true_and] at hv
          obtain ⟨rfl, rfl⟩ := hv
          refine HP.out _ _ ⟨A1, c1, rfl, ⟨rs', hm'.trans HBs.out, by rw [HGl.out, hl'], A1, c1, by rw [hl'], hn2, fun b o ha _ => hA2 b o ha, by rw [hl']; exact hLr, fun i r g hr hg => ?_⟩, hb⟩
          obtain ⟨p1, p2, _⟩ := hrow i r g hr hg
          refine ⟨p1, (p2 ?_).mono fun j hj => ⟨Nat.le_trans HB1.out.size hj.1, hj.2⟩⟩
          have := (List.getElem?_eq_some_iff.1 hr).1
          omega
        clear hrow ho hb hsz hkn hk
        have kn' : ¬ (k : Int) < rs.length := by omega
        clear kn
        go_wp2
        go_ret
        exact HE.out
end Go.Proofs.Yteflboidbogegaa
