/- Two memories beside each other, one of which was given lists that lie behind the other; blocks that lie from before. -/
import Derived.Test.YtjhmmfpmmgebjaaGreatHvB
import Derived.Test.YtjhmmfpmmgebjaaGreatVh
import Derived.Test.YtjhmmfpmmgebjaaGreatVj
import Derived.Test.YtjhmmfpmmgebjaaGreatVk
import Derived.ArgAppend
namespace Go.Proofs.YtjhmmfpmmgebjaaGreat
open Go.ChangeShapes Go.WideShapes Go.ChangeAt Go.RowKit
set_option linter.unusedVariables false
set_option linter.unusedSimpArgs false

theorem MemAt.refit {w w' : World} {p l0 lo hi : Nat} {Bs : List Reg} {G D : List (List Int)} {q : Nat → Nat} (h : MemAt w p l0 lo hi Bs G D q) {v : Value} (hv : w.cell? ⟨p, 0, none⟩ = some v) {S : Nat → Prop} (hR : RL w S v Bs G)
    (hS : ∀ b, S b → b < lo ∧ b < l0) (hk : ∀ b, (S b ∨ (lo ≤ b ∧ b < hi)) → b < w.heap.size → w'.heap[b]? = w.heap[b]?) (hs : w.heap.size ≤ w'.heap.size) : MemAt w' p l0 lo hi Bs G D q := by
  have hR' := hR.kept (w' := w') fun b hb hlt => hk b (.inl hb) hlt
  obtain ⟨h1, h2, h3, h4, _, A, nb, c, n1, n2, n3, n4⟩ := h
  have hz : ∀ b, lo ≤ b → b < hi → w'.heap[b]? = w.heap[b]? := fun b q1 q2 => hk b (.inr ⟨q1, q2⟩) (Nat.lt_of_lt_of_le q2 h2)
  refine ⟨h1, Nat.le_trans h2 hs, h3, h4, ⟨v, cell_kept hv (hz p h3.1 h3.2.1), hR'.mono fun b hb => ⟨.inl (hS b hb).2, fun i hi e => ?_⟩⟩, A, nb, c, cell_kept n1 (hz p h3.1 h3.2.1), n2, n3, fun i d r hd hr => ?_⟩
  · have hd : D[i]? = some (D[i]'(by omega)) := List.getElem?_eq_getElem (by omega)
    have hr : Bs[i]? = some (Bs[i]'hi) := List.getElem?_eq_getElem hi
    obtain ⟨m1, m2, m3, cap, m4, m5⟩ := n4 i _ _ hd hr
    have := (m5.lt (q i) rfl).1
    have := (hS b hb).1
    omega
  obtain ⟨m1, m2, m3, cap, m4, m5⟩ := n4 i d r hd hr
  have hne : Bs ≠ [] := by
    intro e
    rw [e] at hr
    simp at hr
  have hq := (m5.lt (q i) rfl).1
  exact ⟨m1, m2, m3, cap, cell_kept m4 (hz nb (n3 hne).2.1 (n3 hne).2.2.1), own_kept m5 (hz _ hq m3)⟩
def SeatS (S : Nat → Prop) (w : World) (b1 b2 b3 b4 : List Int) (e : Ending) (w' : World) : Prop := e = .returned (.slice (some ⟨w.heap.size, 0, none⟩) 4 4) ∧ RL w' (fun b => S b ∨ b = w.heap.size) (.slice (some ⟨w.heap.size, 0, none⟩) 4 4) (seatBs b1.length b2.length b3.length b4.length) [b1, b2, b3, b4] ∧ Below w.heap.size w w' ∧ w'.heap.size = w.heap.size + 1
set_option maxHeartbeats 2000000 in
theorem seat_s (S : Nat → Prop) (v1 v2 v3 v4 : Value) (b1 b2 b3 b4 : List Int) (w : World) (hS : ∀ b, S b → b < w.heap.size) (h1 : BL w S v1 b1) (h2 : BL w S v2 b2) (h3 : BL w S v3 b3) (h4 : BL w S v4 b4)
    (l1 : b1.length ≤ 1024) (l2 : b2.length ≤ 1024) (l3 : b3.length ≤ 1024) (l4 : b4.length ≤ 1024) :
    Calls Tryz.prog 7 #[v1, v2, v3, v4] w fun e w' => SeatS S w b1 b2 b3 b4 e w' := by
  obtain ⟨A1, c1, rfl⟩ := bl_len h1
  obtain ⟨A2, c2, rfl⟩ := bl_len h2
  obtain ⟨A3, c3, rfl⟩ := bl_len h3
  obtain ⟨A4, c4, rfl⟩ := bl_len h4
  have HE : Hid (∀ w', w' = w.alloc (Obj.cells #[.int .u32 32768, .int .u32 1024, .bool true, .bool false, .bool true, .bool false, .slice A1 b1.length c1,
      .int .u32 536870912, .int .u32 256, .bool true, .bool true, .bool false, .bool false, .slice A2 b2.length c2, .int .u32 805306368, .int .u32 128, .bool true, .bool true, .bool false, .bool true, .slice A3 b3.length c3,
      .int .u32 1073741824, .int .u32 128, .bool true, .bool true, .bool true, .bool false, .slice A4 b4.length c4] 67) → SeatS S w b1 b2 b3 b4 (.returned (.slice (some ⟨w.heap.size, 0, none⟩) 4 4)) w') := by
    intro w' hw
    have hb : Below w.heap.size w w' := by rw [hw]; exact (Below.refl _ _).alloc (Nat.le_refl _) _
    have hs : w'.heap.size = w.heap.size + 1 := by rw [hw, alloc_size']
    refine ⟨rfl, ⟨[⟨32768, 1024, true, false, true, false, A1, b1.length, c1⟩, ⟨536870912, 256, true, true, false, false, A2, b2.length, c2⟩, ⟨805306368, 128, true, true, false, true, A3, b3.length, c3⟩, ⟨1073741824, 128, true, true, true, false, A4, b4.length, c4⟩], rfl, rfl, some ⟨w.heap.size, 0, none⟩, 4, rfl, fun h => (by cases h), fun b o h _ => ?_, ⟨by simp, fun i hi => ?_⟩, fun i r g hr hg => ?_⟩, hb, hs⟩
    · simp only [Option.some.injEq, Addr.mk.injEq, and_true] at h
      exact .inr h.1.symm
    · have hi4 : i = 0 ∨ i = 1 ∨ i = 2 ∨ i = 3 := by simp at hi; omega
      rw [hw]
      rcases hi4 with rfl | rfl | rfl | rfl
      all_goals
        refine ⟨⟨by simp [regAt], by simp [regAt], by simp [regAt], by simp [regAt], by simp [regAt]; omega⟩, w.heap.size, 0, rfl, ?_⟩
        refine ⟨?_, ?_, ?_, ?_, ?_, ?_, ?_⟩ <;> (rw [World.cell?_alloc_new]; rfl)
    · have up : ∀ {v : Value} {bs : List Int}, BL w S v bs → BL w' (fun b => S b ∨ b = w.heap.size) v bs := fun h => (h.below hb).mono fun b h => .inl h
      match i, hr, hg with
      | 0, hr, hg => simp at hr hg; subst hr; subst hg; exact ⟨rfl, up h1⟩
      | 1, hr, hg => simp at hr hg; subst hr; subst hg; exact ⟨rfl, up h2⟩
      | 2, hr, hg => simp at hr hg; subst hr; subst hg; exact ⟨rfl, up h3⟩
      | 3, hr, hg => simp at hr hg; subst hr; subst hg; exact ⟨rfl, up h4⟩
      | n + 4, hr, hg => simp at hr
  clear h1 h2 h3 h4 l1 l2 l3 l4
  go_enter Tryz.func7, Tryz.ntmps7
  go_wp2
  go_ret
  exact HE.out _ rfl
/-- What must stay lies below 'hi' or in Z; what may turn lies from 'lo' up to 'hi'. -/
def tZ (lo hi : Nat) (Z : Nat → Prop) (J : World → Prop) : Zn := ⟨fun k => k < hi ∨ Z k, J, lo, hi⟩
theorem tZ_ok {lo hi : Nat} {Z : Nat → Prop} {J : World → Prop} (hs : Stb (fun k => k < hi ∨ Z k) J) : (tZ lo hi Z J).ok := ⟨hs, fun k _ h => .inl h⟩
theorem SH.startT {lo hi : Nat} {J : World → Prop} (w : World) (hs : Stb (fun k => k < hi ∨ False) J) (hJ : J w) (hh : hi ≤ w.heap.size) : SH (tZ lo hi (fun _ => False) J) w w [] :=
  ⟨tZ_ok hs, hJ, fun k h => h.elim (fun h => Nat.lt_of_lt_of_le h hh) (fun h => h.elim), Mid.refl _ _ _, fun p hp => (by cases hp), fun p hp => (by cases hp), fun i j p q h => (by simp at h)⟩
theorem SH.ranT {lo hi lo' hi' : Nat} {Z Z' : Nat → Prop} {J J' : World → Prop} {w0 w w1 : World} {L : List (Nat × Cel)} (S : SH (tZ lo hi Z J) w0 w L) (h1 : lo ≤ lo') (h2 : hi' ≤ hi) (hm : Mid lo' hi' w w1) (hs : Stb (fun k => k < hi ∨ Z' k) J') (hJ : J' w1)
    (hz : ∀ k, Z' k → Z k ∨ (w.heap.size ≤ k ∧ k < w1.heap.size)) : SH (tZ lo hi Z' J') w0 w1 L :=
  S.ranG h1 h2 hm (tZ_ok hs) hJ rfl rfl fun k hk => hk.elim (fun h => .inl (.inl h)) fun h => (hz k h).elim (fun h => .inl (.inr h)) .inr
theorem SH.bl {w0 w : World} {L : List (Nat × Cel)} (S : SH noZ w0 w L) {i b : Nat} (bs : List Int) (hL : L[i]? = some (b, Cel.any (cb bs))) (hb : okB bs) (c : Nat) : BL w (fun k => w0.heap.size ≤ k ∧ k < w.heap.size) (.slice (some ⟨b, 0, none⟩) bs.length c) bs := by
  obtain ⟨hB, h2, _⟩ := S.at hL
  refine ⟨hb, some ⟨b, 0, none⟩, c, rfl, fun h => (by cases h), fun j x hx => ⟨b, 0, rfl, ⟨h2, hB.lt⟩, ?_⟩⟩
  rw [Nat.zero_add, hB.cell]
  show (cb bs)[j]? = _
  simp [cb, hx]
/-- A block that lies from before, loaded whole. -/
theorem wpl_blk {P : Program} {w : World} {ops : Array Oper} {rest : List Oper} {o : Oper} {a : Act} {Q : Exit → Act → World → Prop} (ty : TypeId) (x : Operand) (ho : o.op = .load ty x) (b : Nat) (hx : a.eval x = .pointer (some ⟨b, 0, none⟩)) (c : Cel) (hB : Blk w b c.cells)
    (d : TypeDesc) (hu : P.underlying ty = some d) (hd : d.isRow = true) (hi : (P.info? ty).map (·.size) = some c.cells.length) (hw : Region.wanted o (yielded ops a.tmps) = true) (h : wpList P ops Q rest (a.put o.dst c.val) w) : wpList P ops Q (o :: rest) a w :=
  wpList_step fun K hK => by
    rw [if_pos hw]
    exact wp_load_mid ty x ho b 0 hx c.cells d hB.range hu hd hi (hK _ _ h)
theorem stb_and {Z : Nat → Prop} {J K : World → Prop} (h : Stb Z J) (k : Stb Z K) : Stb Z (fun w => J w ∧ K w) := fun w w' hj hs hz => ⟨h w w' hj.1 hs hz, k w w' hj.2 hs hz⟩
theorem stb_mem {Z : Nat → Prop} {p l0 lo hi : Nat} {Bs : List Reg} {G D : List (List Int)} {q : Nat → Nat} (h : ∀ k, Zone l0 lo hi k → Z k) : Stb Z (fun w => MemAt w p l0 lo hi Bs G D q) := fun w w' hj hs hz => hj.kept (fun b hb hlt => hz b (h b hb) hlt) hs
theorem stb_evs {Z : Nat → Prop} {base : Nat} {v : Value} {E : List HEv} (h : ∀ k, v.ownBlock = some k → Z k) : Stb Z (fun w => EvRow w base v E) := fun w w' hj hs hz => hj.kept fun g hg => hz g (h g hg) (World.ownsRow.lt hj g hg).2
theorem run_append_keeps {P : Program} (w : World) (base : Nat) (t ty e : TypeId) (i : TypeInfo) (z : Value) (size bytes : Nat) (ht : P.underlying t = some (.slice e)) (hi : P.info? e = some i) (hz : i.zero = some z)
    (hsize : i.size = size) (hby : i.bytes = bytes) (hzs : z.cells.size = size) (hsz : 0 < size) (v : Value) (n : Nat) (xs : List Value) (hown : w.ownsRow base e size v n xs)
    (a : Addr) (m c : Nat) (news : List Value) (hl : news.length = m * size) (hnews : ∀ j u, news[j]? = some u → w.cell? (a.add j) = some u) (h1 : ∀ u ∈ news, u.oneCell' = true)
    (h63 : n + m ≤ maxLen) (hbytes : (n + m) * bytes ≤ 140737488355328) (hbase : base ≤ w.heap.size) :
    ∃ v' w', (Builtin.append_ #[t, t] ty #[v, .slice (some a) m c]).run P w = .ok v' w' ∧ w'.ownsRow base e size v' (n + m) (xs ++ news) ∧ w.grownBy w' v.ownBlock ∧ (∀ g, v.ownBlock = some g → ∀ j u, xs[j]? = some u → w'.cell? ⟨g, j, none⟩ = some u) := by
  obtain ⟨v', w', hr, h2, h3, _⟩ := run_append_own (P := P) w base t ty e i z size bytes ht hi hz hsize hby hzs hsz v n xs hown a m c news hl hnews h1 h63 hbytes hbase
  refine ⟨v', w', hr, h2, h3, fun g hg j u hj => ?_⟩
  subst hsize
  rcases hown.2 with ⟨rfl, rfl⟩ | ⟨g', cap, cur, rfl, hbg, hgh, hnc, hcm, hcs, htake⟩
  · cases hg
  · obtain rfl : g' = g := by simpa [Value.ownBlock] using hg
    have hsmall : n + m ≤ 9223372036854775807 := by simp only [maxLen] at h63; omega
    have z0 : ∀ (W : World), W.cell? ((⟨g', 0, none⟩ : Addr).add j) = W.cell? ⟨g', j, none⟩ := fun W => by rw [Addr.add_lit, Nat.zero_add]
    by_cases hroom : n + m ≤ cap
    · have hfit : n * i.size + news.length ≤ cur.size := by rw [hl, hcs, ← Nat.add_mul]; exact Nat.mul_le_mul_right _ hroom
      have hr' := run_append_room (P := P) w t ty e i ht hi g' n cap cur hgh a m c news hl hnews h1 hroom hfit
      rw [hr'] at hr
      simp only [Result.ok.injEq] at hr
      obtain ⟨rfl, rfl⟩ := hr
      have := h2.cells (g := g') rfl j u (by rw [List.getElem?_append_left (List.getElem?_eq_some_iff.1 hj).1]; exact hj)
      rwa [z0] at this
    · have holds : ∀ j u, xs[j]? = some u → w.cell? ((⟨g', 0, none⟩ : Addr).add j) = some u := hown.cells (g := g') rfl
      have hr' := run_append_grow (P := P) w t ty e i z ht hi hz ⟨g', 0, none⟩ n cap xs hown.1 holds a m c news hl hnews (by omega) (by omega) (growslice_fits (by omega) (hby ▸ hbytes))
      rw [hr'] at hr
      simp only [Result.ok.injEq] at hr
      obtain ⟨rfl, rfl⟩ := hr
      have hc := holds j u hj
      rw [z0] at hc
      exact (World.cell?_of_block (w := w) (a := ⟨g', j, none⟩) (heap_alloc_old w.drew _ (Array.getElem?_eq_some_iff.1 hgh).1)).trans hc
theorem wpList_append_keeps {P : Program} {w : World} {ops : Array Oper} {rest : List Oper} {o : Oper} {a : Act} {Q : Exit → Act → World → Prop} (hgd : o.guard = none) (s x : Operand) (t : TypeId)
    (ho : o.op = .call { callee := .builtin .append, args := #[s, x], argTypes := #[t, t] })
    (base : Nat) (e : TypeId) (i : TypeInfo) (z : Value) (size bytes : Nat) (ht : P.underlying t = some (.slice e)) (hi : P.info? e = some i) (hz : i.zero = some z)
    (hsize : i.size = size) (hby : i.bytes = bytes) (hzs : z.cells.size = size) (hsz : 0 < size)
    (v : Value) (n : Nat) (xs : List Value) (hs : a.eval s = v) (hown : w.ownsRow base e size v n xs)
    (ad : Addr) (m c : Nat) (news : List Value) (hx : a.eval x = .slice (some ad) m c) (hl : news.length = m * size) (hnews : ∀ j u, news[j]? = some u → w.cell? (ad.add j) = some u) (h1 : ∀ u ∈ news, u.oneCell' = true)
    (h63 : n + m ≤ maxLen) (hbytes : (n + m) * bytes ≤ 140737488355328) (hbase : base ≤ w.heap.size)
    (h : ∀ v' w', w'.ownsRow base e size v' (n + m) (xs ++ news) → w.grownBy w' v.ownBlock → (∀ g, v.ownBlock = some g → ∀ j u, xs[j]? = some u → w'.cell? ⟨g, j, none⟩ = some u) → wpList P ops Q rest (a.put o.dst v') w') : wpList P ops Q (o :: rest) a w :=
  wpList_plain hgd fun K hK => by
    obtain ⟨v', w', hr, h2, h3, h4⟩ := run_append_keeps (P := P) w base t o.type e i z size bytes ht hi hz hsize hby hzs hsz v n xs hown ad m c news hl hnews h1 h63 hbytes hbase
    unfold Oper.wp execOp
    simp only [ho, resolve, invoke, builtin, Sem.run_bind, Sem.run_pure, Result.andThen_ok, List.map_toArray, List.map_cons, List.map_nil, hs, hx, hr]
    exact hK _ _ (h v' w' h2 h3 h4)
end Go.Proofs.YtjhmmfpmmgebjaaGreat
