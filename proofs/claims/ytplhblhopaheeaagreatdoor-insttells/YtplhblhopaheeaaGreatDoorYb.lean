/- Rows of one-cell elements of the call's own, put together by append, beside its local blocks; copy between blocks; what a drawn region may use. -/
import Derived.Test.YtplhblhopaheeaaGreatDoorYa
import Derived.Laws.StructEq
import Derived.Laws.BytesString
import Derived.Laws.CopyOwn
import Derived.Deep.Cut
import Derived.Deep.QuietTactic
import Derived.BigQuiet
import Derived.Test.YtplhblhopaheeaaGreatDoorProg
import Derived.Lib.SlicesCompact
import Derived.WalkKit
import Derived.Deep.MidRow
import Derived.Laws.Rows
import Derived.Test.YtplhblhopaheeaaGreatDoorShelf
import Derived.Maps.AppendAt
namespace Go.Proofs.YtplhblhopaheeaaGreatDoor
open Go.ChangeShapes Go.WideShapes Go.ChangeAt Go.RowKit
set_option linter.unusedVariables false
set_option linter.unusedSimpArgs false

section
variable {P : Program} {M : Zn} {w0 w : World} {L : List (Nat × Cel)} {ops : Array Oper} {rest : List Oper} {o : Oper} {a : Act} {Q : Exit → Act → World → Prop}
theorem SH.boxA (S : SH M w0 w L) (hgd : o.guard = none) (ty : TypeId) (x : Operand) (ho : o.op = .box ty x) (cs : List Value) (hx : a.eval x = .agg cs.toArray)
    (h : ∀ b w1, SH M w0 w1 ((b, Cel.any cs) :: L) → wpList P ops Q rest (a.put o.dst (.pointer (some ⟨b, 0, none⟩))) w1) : wpList P ops Q (o :: rest) a w :=
  S.box hgd ty x ho (Cel.any cs) hx h
theorem SH.storeA (S : SH M w0 w L) (hgd : o.guard = none) (ty : TypeId) (x y : Operand) (ho : o.op = .store ty x y) (b : Nat) (cs : List Value) (hx : a.eval x = .pointer (some ⟨b, 0, none⟩)) (hy : a.eval y = .agg cs.toArray) (i : Nat) (c : Cel) (hL : L[i]? = some (b, c))
    (hl : c.cells.length = cs.length) (h1 : cs.all (fun v => v.oneCell') = true) (hi : (P.info? ty).map (·.size) = some (Cel.any cs).cells.length)
    (h : ∀ w1, SH M w0 w1 (L.set i (b, Cel.any cs)) → wpList P ops Q rest (a.put o.dst undef) w1) : wpList P ops Q (o :: rest) a w :=
  S.storeAll hgd ty x y ho b (Cel.any cs) hx hy i c hL hl (fun v hv => List.all_eq_true.1 h1 v hv) hi h
theorem wpl_isStoreAt (k : Nat) {d : Option Nat} {ty : TypeId} {y : Operand} {t : TypeId} {p : String} {af : Array Edge} {g : Option (Nat × Bool)} (h : wpList P ops Q ({ dst := d, op := Op.store ty (Operand.tmp k) y, type := t, pos := p, after := af, guard := g } :: rest) a w) : wpList P ops Q ({ dst := d, op := Op.store ty (Operand.tmp k) y, type := t, pos := p, after := af, guard := g } :: rest) a w := h
theorem SH.results2 (S : SH M w0 w L) {fn : Func} {p q : Tmp} {ty : TypeId} (hfn : fn.results = #[.cell p ty, .tmp q]) (tmps : Array Value) (b : Nat) (hp : tmps.getD p undef = .pointer (some ⟨b, 0, none⟩)) (i : Nat) (c : Cel) (hL : L[i]? = some (b, c))
    (d : TypeDesc) (hu : P.underlying ty = some d) (hd : d.isRow = true) (hi : (P.info? ty).map (·.size) = some c.cells.length) : (Go.results fn tmps).run P w = .ok (.tuple #[c.val, tmps.getD q undef]) w := by
  obtain ⟨⟨t, hb⟩, _⟩ := S.at hL
  have hp' : tmps[p]?.getD undef = .pointer (some ⟨b, 0, none⟩) := by simpa using hp
  simp [Go.results, hfn, hp', asAddr, Cel.val, run_loadVar_row w b t ty _ _ d hb hu (by cases d <;> simp_all) (by simpa using hi)]
theorem SH.sliceQ (S : SH M w0 w L) (hgd : o.guard = none) (ty n : Nat) (xs : Array (Nat × Operand)) (ho : o.op = .buildSlice ty n xs) (cs : List Value) (e : TypeId)
    (hr : (execOp a.eval o).run P w = .ok (.value (.slice (some ⟨w.heap.size, 0, none⟩) n n)) (w.alloc (.cells cs.toArray e)))
    (h : ∀ g w1, SH M w0 w1 ((g, Cel.any cs) :: L) → wpList P ops Q rest (a.put o.dst (.slice (some ⟨g, 0, none⟩) n n)) w1) : wpList P ops Q (o :: rest) a w :=
  wpList_plain hgd fun K hK => by
    unfold Oper.wp
    rw [hr]
    exact hK _ _ (h _ _ (S.new (Cel.any cs) e))
theorem SH.ldMid (S : SH M w0 w L) (ty : TypeId) (x : Operand) (ho : o.op = .load ty x) (b j : Nat) (hx : a.eval x = .pointer (some ⟨b, j, none⟩)) (i : Nat) (c : Cel) (hL : L[i]? = some (b, c))
    (cs : List Value) (hcs : ∀ t u, cs[t]? = some u → c.cells[j + t]? = some u) (d : TypeDesc) (hu : P.underlying ty = some d) (hd : d.isRow = true) (hi : (P.info? ty).map (·.size) = some cs.length) (hw : Region.wanted o (yielded ops a.tmps) = true)
    (h : wpList P ops Q rest (a.put o.dst (.agg cs.toArray)) w) : wpList P ops Q (o :: rest) a w :=
  wpList_step fun K hK => by
    rw [if_pos hw]
    exact wp_load_mid ty x ho b j hx cs d (fun t u hu' => ((S.at hL).1.cell (j + t)).trans (hcs t u hu')) hu hd hi (hK _ _ h)
end
/-! ### What a drawn region may use -/
section
variable {P : Program} {M : Zn} {w0 : World} {L : List (Nat × Cel)} {ops : Array Oper} {o : Oper} {a : Act}
theorem y_load1 (hw : Region.wanted o (yielded ops a.tmps) = true) (ty : TypeId) (x : Operand) (ho : o.op = .load ty x) (b j : Nat) (hx : a.eval x = .pointer (some ⟨b, j, none⟩)) (i : Nat) (c : Cel) (hL : L[i]? = some (b, c))
    (v : Value) (hv : c.cells[j]? = some v) (d : TypeDesc) (hu : P.underlying ty = some d) (hd : d.isRow = false) : YieldsIf P ops (fun w' => SH M w0 w' L) o v a :=
  .inl ⟨hw, fun w S => by
    unfold execOp
    simp only [ho, hx, Sem.run_bind, run_load1 w b j ty v d (((S.at hL).1.cell j).trans hv) hu hd, Result.andThen_ok, Sem.run_pure]⟩
theorem y_loadAll (hw : Region.wanted o (yielded ops a.tmps) = true) (ty : TypeId) (x : Operand) (ho : o.op = .load ty x) (b : Nat) (hx : a.eval x = .pointer (some ⟨b, 0, none⟩)) (i : Nat) (c : Cel) (hL : L[i]? = some (b, c))
    (d : TypeDesc) (hu : P.underlying ty = some d) (hd : d.isRow = true) (hi : (P.info? ty).map (·.size) = some c.cells.length) : YieldsIf P ops (fun w' => SH M w0 w' L) o c.val a :=
  yieldsIf_load_mid hw ty x ho b 0 hx c.cells d (fun w S => (S.at hL).1.range) hu hd hi
theorem y_loadMid (hw : Region.wanted o (yielded ops a.tmps) = true) (ty : TypeId) (x : Operand) (ho : o.op = .load ty x) (b j : Nat) (hx : a.eval x = .pointer (some ⟨b, j, none⟩)) (i : Nat) (c : Cel) (hL : L[i]? = some (b, c))
    (cs : List Value) (hcs : ∀ t u, cs[t]? = some u → c.cells[j + t]? = some u) (d : TypeDesc) (hu : P.underlying ty = some d) (hd : d.isRow = true) (hi : (P.info? ty).map (·.size) = some cs.length) : YieldsIf P ops (fun w' => SH M w0 w' L) o (.agg cs.toArray) a :=
  yieldsIf_load_mid hw ty x ho b j hx cs d (fun w S t u hu' => ((S.at hL).1.cell (j + t)).trans (hcs t u hu')) hu hd hi
theorem y_val {S : World → Prop} (hw : Region.wanted o (yielded ops a.tmps) = true) (v : Value) (hr : ∀ w, (execOp a.eval o).run P w = .ok (.value v) w) : YieldsIf P ops S o v a := .inl ⟨hw, fun w _ => hr w⟩
theorem y_valS {S : World → Prop} (hw : Region.wanted o (yielded ops a.tmps) = true) (v : Value) (hr : ∀ w, S w → (execOp a.eval o).run P w = .ok (.value v) w) : YieldsIf P ops S o v a := .inl ⟨hw, fun w h => hr w h⟩
theorem y_build3 {S : World → Prop} (hw : Region.wanted o (yielded ops a.tmps) = true) (ty i j k : Nat) (x y z : Operand) (ho : o.op = .build ty #[(i, x), (j, y), (k, z)]) (vx vy vz v : Value) (hx : a.eval x = vx) (hy : a.eval y = vy) (hz : a.eval z = vz)
    (hr : ∀ w, (Instr.build ty #[(i, vx), (j, vy), (k, vz)]).run P w = .ok v w) : YieldsIf P ops S o v a :=
  .inl ⟨hw, fun w _ => by
    unfold execOp
    simp only [ho, List.map_toArray, List.map_cons, List.map_nil, hx, hy, hz, Sem.run_bind, hr, Result.andThen_ok, Sem.run_pure]⟩
theorem y_eqS {S : World → Prop} (hw : Region.wanted o (yielded ops a.tmps) = true) (op : BinOp) (ty : TypeId) (x y : Operand) (t : TypeId) (ho : o.op = .binOp op ty x y t) (xs ys : List Value) (hx : a.eval x = .agg xs.toArray) (hy : a.eval y = .agg ys.toArray) (hm : P.eqGuardType P.depth ty = false) (r : Bool)
    (hr : ∀ w, (binOp op ty (.agg xs.toArray) (.agg ys.toArray)).run P w = .ok (.bool r) w) : YieldsIf P ops S o (.bool r) a :=
  .inl ⟨hw, fun w _ => by
    unfold execOp
    simp only [ho, hx, hy, Sem.run_bind, run_eqGuard_agg w op _ x y _ _ hm, Result.andThen_ok, hr, Sem.run_pure]⟩
end

/-! ### Rows put together by append -/
def rowZ (base e : Nat) (v : Value) (xs : List Value) : Zn := ⟨fun k => v.ownBlock = some k, fun w => w.ownsRow base e 1 v xs.length xs ∧ base ≤ w.heap.size, 0, 0⟩
theorem ownsRow_same {w w' : World} {base e : Nat} {v : Value} {n : Nat} {xs : List Value} (h : w.ownsRow base e 1 v n xs) (hb : ∀ g, v.ownBlock = some g → w'.heap[g]? = w.heap[g]?) : w'.ownsRow base e 1 v n xs := by
  refine ⟨h.1, ?_⟩
  rcases h.2 with h2 | ⟨g, cap, cur, h2, h3⟩
  · exact .inl h2
  · refine .inr ⟨g, cap, cur, h2, ?_⟩
    rw [hb g (by rw [h2]; rfl)]
    exact h3
theorem rowZ_ok (base e : Nat) (v : Value) (xs : List Value) : (rowZ base e v xs).ok :=
  ⟨fun w w' h hs hk => ⟨ownsRow_same h.1 fun g hg => hk g hg (World.ownsRow.lt h.1 g hg).2, Nat.le_trans h.2 hs⟩, fun k h1 h2 => by simp only [rowZ] at h2; omega⟩
section
variable {P : Program} {w0 w w1 : World} {L : List (Nat × Cel)} {base e : Nat} {v : Value} {xs : List Value} {ops : Array Oper} {rest : List Oper} {o : Oper} {a : Act} {Q : Exit → Act → World → Prop} {K : Act → World → Prop}
theorem SH.dropR (S : SH (rowZ base e v xs) w0 w L) : SH noZ w0 w L :=
  S.turn noZ_ok trivial (fun k hk => hk.elim) S.mid (fun _ _ => rfl) (fun p hp h => h)
theorem SH.rowNil (S : SH noZ w0 w L) (e : Nat) : SH (rowZ w0.heap.size e (.slice none 0 0) []) w0 w L :=
  S.turn (rowZ_ok _ _ _ _) ⟨⟨rfl, .inl ⟨rfl, rfl⟩⟩, S.low.size⟩ (fun k hk => by simp [rowZ, Value.ownBlock] at hk) S.mid (fun _ _ => rfl) (fun p hp hz => by simp [rowZ, Value.ownBlock] at hz)
theorem SH.wpAppendG' (S : SH (rowZ w0.heap.size e v xs) w0 w L) (ty : TypeId) (s x : Operand) (ho : o.op = .call { callee := .builtin .append, args := #[s, x], argTypes := #[ty, ty] })
    (hu : P.underlying ty = some (.slice e)) (z : Value) (bytes : Nat) (hinf : (P.info? e).map (fun i => (i.zero, i.size, i.bytes)) = some (some z, 1, bytes)) (hzs : z.cells.size = 1)
    (hs : a.eval s = v) (g m c : Nat) (hx : a.eval x = .slice (some ⟨g, 0, none⟩) m c) (i : Nat) (news : List Value) (hL : L[i]? = some (g, Cel.any news)) (hm : news.length = m) (h1 : ∀ u ∈ news, u.oneCell' = true) (h0 : 0 < m) (hb : (xs.length + m) * bytes ≤ 1000000) (h9 : xs.length + m ≤ 100000)
    (h : ∀ g' cap w1, SH (rowZ w0.heap.size e (.slice (some ⟨g', 0, none⟩) (xs.length + m) cap) (xs ++ news)) w0 w1 L → K (a.put o.dst (.slice (some ⟨g', 0, none⟩) (xs.length + m) cap)) w1) : o.wp P a w K Q := by
  obtain ⟨i0, hi, hz, hsz, hby⟩ : ∃ i0, P.info? e = some i0 ∧ i0.zero = some z ∧ i0.size = 1 ∧ i0.bytes = bytes := by
    cases hq : P.info? e with
    | none => rw [hq] at hinf; cases hinf
    | some i0 =>
      rw [hq] at hinf
      simp only [Option.map_some, Option.some.injEq, Prod.mk.injEq] at hinf
      exact ⟨i0, rfl, hinf.1, hinf.2.1, hinf.2.2⟩
  subst hm
  have hbk := (S.at hL).1
  refine wp_append_lies w s x ty ho w0.heap.size e i0 z 1 bytes hu hi hz hsz hby hzs (by decide) v xs.length xs hs S.inv.1 ⟨g, 0, none⟩ news.length c news hx (by omega) (fun j u hu => ?_) h1 h0 (by simp only [maxLen]; omega) (by omega) S.inv.2 _ rfl (fun g' cap w1 hown hg hat hlt => ?_)
  · have hadd : (⟨g, 0, none⟩ : Addr).add j = ⟨g, j, none⟩ := by unfold Addr.add; split <;> simp_all
    rw [hadd, hbk.cell]
    exact hu
  · refine h g' cap w1 ?_
    have hv : ∀ k, v.ownBlock = some k → w0.heap.size ≤ k := fun k hk => (World.ownsRow.lt S.inv.1 k hk).1
    have hmid : Mid 0 0 w0 w1 := ⟨hg.os.trans S.mid.os, hg.tape.trans S.mid.tape, hg.output.trans S.mid.output, Nat.le_trans S.mid.size hg.size, fun k hk hk2 => (hg.block k (Nat.lt_of_lt_of_le hk S.mid.size) (fun e => by have := hv k e.symm; omega)).trans (S.mid.block k hk hk2)⟩
    have hk : ∀ p ∈ L, w1.heap[p.1]? = w.heap[p.1]? := fun p hp => hg.block _ (S.blk p hp).lt (fun e => (S.out p hp).2 e.symm)
    have hown' : w1.ownsRow w0.heap.size e 1 (.slice (some ⟨g', 0, none⟩) (xs.length + news.length) cap) (xs ++ news).length (xs ++ news) := by
      rw [List.length_append]
      exact hown
    refine S.turn (rowZ_ok _ _ _ _) ⟨hown', Nat.le_trans S.inv.2 hg.size⟩ (fun k hk => (World.ownsRow.lt hown' k hk).2) hmid hk (fun p hp hz => ?_)
    simp only [rowZ, Value.ownBlock, Option.some.injEq] at hz
    rcases hat with e | e
    · exact (S.out p hp).2 (by rw [← hz]; exact e)
    · have := (S.blk p hp).lt
      omega
theorem SH.wpAppendG (S : SH (rowZ w0.heap.size e v xs) w0 w L) (k0 : Nat) (hd0 : o.dst = some k0) (ty : TypeId) (s x : Operand) (ho : o.op = .call { callee := .builtin .append, args := #[s, x], argTypes := #[ty, ty] })
    (hu : P.underlying ty = some (.slice e)) (z : Value) (bytes : Nat) (hinf : (P.info? e).map (fun i => (i.zero, i.size, i.bytes)) = some (some z, 1, bytes)) (hzs : z.cells.size = 1)
    (hs : a.eval s = v) (g m c : Nat) (hx : a.eval x = .slice (some ⟨g, 0, none⟩) m c) (i : Nat) (news : List Value) (hL : L[i]? = some (g, Cel.any news)) (hm : news.length = m) (h1 : ∀ u ∈ news, u.oneCell' = true) (h0 : 0 < m) (hb : (xs.length + m) * bytes ≤ 1000000) (h9 : xs.length + m ≤ 100000)
    (h : ∀ g' cap w1, SH (rowZ w0.heap.size e (.slice (some ⟨g', 0, none⟩) (xs.length + m) cap) (xs ++ news)) w0 w1 L → K (a.put (some k0) (.slice (some ⟨g', 0, none⟩) (xs.length + m) cap)) w1) : o.wp P a w K Q :=
  S.wpAppendG' ty s x ho hu z bytes hinf hzs hs g m c hx i news hL hm h1 h0 hb h9 (by rw [hd0]; exact h)
theorem SH.appendG (S : SH (rowZ w0.heap.size e v xs) w0 w L) (hgd : o.guard = none) (ty : TypeId) (s x : Operand) (ho : o.op = .call { callee := .builtin .append, args := #[s, x], argTypes := #[ty, ty] })
    (hu : P.underlying ty = some (.slice e)) (z : Value) (bytes : Nat) (hinf : (P.info? e).map (fun i => (i.zero, i.size, i.bytes)) = some (some z, 1, bytes)) (hzs : z.cells.size = 1)
    (hs : a.eval s = v) (g m c : Nat) (hx : a.eval x = .slice (some ⟨g, 0, none⟩) m c) (i : Nat) (news : List Value) (hL : L[i]? = some (g, Cel.any news)) (hm : news.length = m) (h1 : ∀ u ∈ news, u.oneCell' = true) (h0 : 0 < m) (hb : (xs.length + m) * bytes ≤ 1000000) (h9 : xs.length + m ≤ 100000)
    (h : ∀ g' cap w1, SH (rowZ w0.heap.size e (.slice (some ⟨g', 0, none⟩) (xs.length + m) cap) (xs ++ news)) w0 w1 L → wpList P ops Q rest (a.put o.dst (.slice (some ⟨g', 0, none⟩) (xs.length + m) cap)) w1) : wpList P ops Q (o :: rest) a w :=
  wpList_plain hgd fun _ hK => S.wpAppendG' ty s x ho hu z bytes hinf hzs hs g m c hx i news hL hm h1 h0 hb h9 fun g' cap w1 h2 => hK _ _ (h g' cap w1 h2)
theorem SH.wpSliceG (S : SH (rowZ base e v xs) w0 w L) (k0 : Nat) (hd0 : o.dst = some k0) (ty n : Nat) (ys : Array (Nat × Operand)) (ho : o.op = .buildSlice ty n ys) (cs : List Value) (t : TypeId)
    (hr : (execOp a.eval o).run P w = .ok (.value (.slice (some ⟨w.heap.size, 0, none⟩) n n)) (w.alloc (.cells cs.toArray t)))
    (h : ∀ g w1, SH (rowZ base e v xs) w0 w1 ((g, Cel.any cs) :: L) → K (a.put (some k0) (.slice (some ⟨g, 0, none⟩) n n)) w1) : o.wp P a w K Q := by
  rw [← hd0] at h
  unfold Oper.wp
  rw [hr]
  exact h _ _ (S.new (Cel.any cs) t)
/-- The row as it lies behind the call. -/
theorem SH.rowOut (S : SH (rowZ w0.heap.size e v xs) w0 w L) : w.ownsRow w0.heap.size e 1 v xs.length xs ∧ Below w0.heap.size w0 w := ⟨S.inv.1, S.dropR.low⟩
end

/-! ### Copy -/
section
variable {P : Program} {w0 w w1 : World} {L : List (Nat × Cel)} {M : Zn} {ops : Array Oper} {rest : List Oper} {o : Oper} {a : Act} {Q : Exit → Act → World → Prop} {K : Act → World → Prop}
theorem SH.wpCopy (S : SH M w0 w L) (k0 : Nat) (hd0 : o.dst = some k0) (d s : Operand) (dT sT : TypeId) (ho : o.op = .call { callee := .builtin .copy, args := #[d, s], argTypes := #[dT, sT] }) (elem : TypeId) (hu : P.underlying dT = some (.slice elem)) (hsz : (P.info? elem).map (·.size) = some 1)
    (gd gs od os dLen dCap sLen sCap : Nat) (hd : a.eval d = .slice (some ⟨gd, od, none⟩) dLen dCap) (hs : a.eval s = .slice (some ⟨gs, os, none⟩) sLen sCap) (i j : Nat) (cd : Cel) (c2 : Cel) (hi : L[i]? = some (gd, cd)) (hj : L[j]? = some (gs, c2))
    (cs : List Value) (hn : cs.length = Nat.min sLen dLen) (hcs : ∀ t u, cs[t]? = some u → c2.cells[os + t]? = some u) (hfit : od + cs.length ≤ cd.cells.length) (h1 : ∀ v ∈ cs, v.oneCell' = true) (hne : 0 < cs.length) (c' : Cel) (hc' : splice cd.cells od cs = c'.cells)
    (h : ∀ w1, SH M w0 w1 (L.set i (gd, c')) → K (a.put (some k0) (goInt cs.length)) w1) : o.wp P a w K Q := by
  rw [← hd0] at h
  obtain ⟨⟨t, hb⟩, _⟩ := S.at hi
  have hsrc := (S.at hj).1
  have hrun := run_copy_row (P := P) w dT sT o.type elem gd od dLen dCap ⟨gs, os, none⟩ sLen sCap cd.cells.toArray t cs hu hsz hb hn (fun k u hk => by
    have hadd : (⟨gs, os, none⟩ : Addr).add k = ⟨gs, os + k, none⟩ := by unfold Addr.add; split <;> simp_all
    rw [hadd, hsrc.cell]
    exact hcs k u hk) (by simpa using hfit) h1
  unfold Oper.wp execOp
  simp only [ho, resolve, invoke, builtin, Sem.run_bind, Sem.run_pure, Result.andThen_ok, List.map_toArray, List.map_cons, List.map_nil, hd, hs, hrun]
  refine h _ (S.upd c' hi (Upd.setRow w gd _) ⟨t, ?_⟩)
  rw [← hc']
  simpa [splice] using setRow_heap w gd _ _ t _ hb
end
end Go.Proofs.YtplhblhopaheeaaGreatDoor
namespace Go.Proofs.YtplhblhopaheeaaGreatDoor
open Go.RowKit
set_option linter.unusedVariables false
set_option linter.unusedSimpArgs false

set_option maxHeartbeats 2000000 in
theorem storesI_c (i : IV) (w : World) : Calls Tryz.prog 29 #[i.val] w fun e w' => e = .returned (.bool (storesI i.op)) ∧ w' = w.alloc (Obj.cells i.cellsA 28) := by
  obtain ⟨o, wide, s, cond, d, n, m, a, imm, useImm, sh, amt, list, back, down⟩ := i
  unfold IV.val IV.cellsA
  simp only []
  rcases (show o < 49 ∨ (49 ≤ o ∧ o ≤ 51) ∨ (52 ≤ o ∧ o ≠ 53) ∨ o = 53 by omega) with h | h | h | h
  · have t0 : decide (49 ≤ o) = false := by simp; omega
    have t1 : (o == 53) = false := by simp; omega
    have hr : storesI o = false := by simp [storesI, t1]; omega
    rw [hr]
    go_enter Tryz.func29, Tryz.ntmps29
    go_wp2
    go_ret
    exact ⟨rfl, rfl⟩
  · have t0 : decide (49 ≤ o) = true := by simp; omega
    have t2 : decide (o ≤ 51) = true := by simp; omega
    have hr : storesI o = true := by simp [storesI]; omega
    rw [hr]
    go_enter Tryz.func29, Tryz.ntmps29
    go_wp2
    go_ret
    exact ⟨rfl, rfl⟩
  · have t0 : decide (49 ≤ o) = true := by simp; omega
    have t2 : decide (o ≤ 51) = false := by simp; omega
    have t1 : (o == 53) = false := by simp; omega
    have hr : storesI o = false := by simp [storesI, t1]; omega
    rw [hr]
    go_enter Tryz.func29, Tryz.ntmps29
    go_wp2
    go_ret
    exact ⟨rfl, rfl⟩
  · subst h
    have hr : storesI 53 = true := by rfl
    rw [hr]
    go_enter Tryz.func29, Tryz.ntmps29
    go_wp2
    go_ret
    exact ⟨rfl, rfl⟩
def usesI (i : IV) : Bool := i.cond != 14 || i.op == 6 || i.op == 7 || i.sh == 5 || (shiftsS i.op && !i.useImm && i.s)
set_option maxHeartbeats 4000000 in
theorem usesI_c (i : IV) (w : World) : Calls Tryz.prog 25 #[i.val] w fun e w' => e = .returned (.bool (usesI i)) ∧ w' = w.alloc (Obj.cells i.cellsA 28) := by
  obtain ⟨o, wide, s, cond, d, n, m, a, imm, useImm, sh, amt, list, back, down⟩ := i
  have CS : Hid (∀ w1, Calls Tryz.prog 65 #[.int .i64 o] w1 fun e w' => e = .returned (.bool (shiftsS o)) ∧ w' = w1) := fun w1 => shifts_c o w1
  unfold IV.val IV.cellsA usesI
  simp only []
  by_cases h1 : cond = 14
  · subst h1
    by_cases h2 : o = 6
    · subst h2
      go_enter Tryz.func25, Tryz.ntmps25
      go_wp2
      go_ret
      exact ⟨by simp, rfl⟩
    have t2 : (o == 6) = false := by simpa using h2
    by_cases h3 : o = 7
    · subst h3
      go_enter Tryz.func25, Tryz.ntmps25
      go_wp2
      go_ret
      exact ⟨by simp, rfl⟩
    have t3 : (o == 7) = false := by simpa using h3
    by_cases h4 : sh = 5
    · subst h4
      go_enter Tryz.func25, Tryz.ntmps25
      go_wp2
      go_ret
      exact ⟨by simp, rfl⟩
    have t4 : (sh == 5) = false := by simpa using h4
    generalize shiftsS o = q at *
    cases q <;> cases useImm <;> cases s <;>
    · go_enter Tryz.func25, Tryz.ntmps25
      go_wp2_with (go_at_call 65; refine (CS.out _).mono ?_; rintro e w2 ⟨rfl, rfl⟩)
      go_ret
      exact ⟨by simp [t2, t3, t4], rfl⟩
  · have t1 : (cond != 14) = true := by simpa using h1
    go_enter Tryz.func25, Tryz.ntmps25
    go_wp2
    go_ret
    exact ⟨by simp [t1], rfl⟩
end Go.Proofs.YtplhblhopaheeaaGreatDoor
namespace Go.Proofs.YtplhblhopaheeaaGreatDoor
open Go.RowKit
set_option linter.unusedVariables false
set_option linter.unusedSimpArgs false

/-- A world in which something was only added. -/
theorem low_one (w : World) (x : Obj) : Below w.heap.size w (w.alloc x) := (Below.refl _ _).alloc (Nat.le_refl _) _
theorem low_two (w : World) (x y : Obj) : Below w.heap.size w ((w.alloc x).alloc y) := ((Below.refl _ _).alloc (Nat.le_refl _) _).alloc (low_one w x).size _
def manyGivesS (i : IV) : Int := (if loadsI i.op then 16 else 0) + (if i.back then 2 else 0)
set_option maxHeartbeats 4000000 in
theorem manyGives_c (i : IV) (w : World) : Calls Tryz.prog 107 #[i.val] w fun e w' => e = .returned (.int .i64 (manyGivesS i)) ∧ Below w.heap.size w w' := by
  have CL : Hid (∀ w1, Calls Tryz.prog 28 #[i.val] w1 fun e w' => e = .returned (.bool (loadsI i.op)) ∧ w' = w1.alloc (Obj.cells i.cellsA 28)) := fun w1 => loadsI_c i w1
  obtain ⟨o, wide, s, cond, d, n, m, a, imm, useImm, sh, amt, list, back, down⟩ := i
  unfold IV.val IV.cellsA at *
  unfold manyGivesS
  simp only [] at *
  generalize loadsI o = q at *
  cases q <;> cases back <;>
  · go_enter Tryz.func107, Tryz.ntmps107
    go_wp2_with (go_at_call 28; refine (CL.out _).mono ?_; rintro e w2 ⟨rfl, rfl⟩)
    go_ret
    exact ⟨by first | rfl | decide, low_two _ _ _⟩
end Go.Proofs.YtplhblhopaheeaaGreatDoor
namespace Go.Proofs.YtplhblhopaheeaaGreatDoor
open Go.RowKit
set_option linter.unusedVariables false
set_option linter.unusedSimpArgs false

def givesS (i : IV) : Int := if classS i.op = 1 then (if comparesS i.op then 0 else 1) else if classS i.op = 2 then (if 24 ≤ i.op ∧ i.op ≤ 27 then 9 else 1) else if classS i.op = 3 then 1 else if classS i.op = 4 then (if loadsI i.op then 1 else 0) else if classS i.op = 5 then manyGivesS i else restGivesS i.op
theorem low_then {w w1 w2 : World} (h : Below w.heap.size w w1) (k : Below w1.heap.size w1 w2) : Below w.heap.size w w2 := h.trans (k.mono h.size)
set_option maxHeartbeats 8000000 in
theorem gives_c (i : IV) (w : World) : Calls Tryz.prog 62 #[i.val] w fun e w' => e = .returned (.int .i64 (givesS i)) ∧ Below w.heap.size w w' := by
  have CC : Hid (∀ w1, Calls Tryz.prog 23 #[.int .i64 i.op] w1 fun e w' => e = .returned (.int .i64 (classS i.op)) ∧ w' = w1) := fun w1 => class_c i.op w1
  have CP : Hid (∀ w1, Calls Tryz.prog 63 #[.int .i64 i.op] w1 fun e w' => e = .returned (.bool (comparesS i.op)) ∧ w' = w1) := fun w1 => compares_c i.op w1
  have CR : Hid (∀ w1, Calls Tryz.prog 108 #[.int .i64 i.op] w1 fun e w' => e = .returned (.int .i64 (restGivesS i.op)) ∧ w' = w1) := fun w1 => restGives_c i.op w1
  have CL : Hid (∀ w1, Calls Tryz.prog 28 #[i.val] w1 fun e w' => e = .returned (.bool (loadsI i.op)) ∧ w' = w1.alloc (Obj.cells i.cellsA 28)) := fun w1 => loadsI_c i w1
  have CM : Hid (∀ w1, Calls Tryz.prog 107 #[i.val] w1 fun e w' => e = .returned (.int .i64 (manyGivesS i)) ∧ Below w1.heap.size w1 w') := fun w1 => manyGives_c i w1
  unfold givesS
  generalize manyGivesS i = mg at *
  obtain ⟨o, wide, s, cond, d, n, m, a, imm, useImm, sh, amt, list, back, down⟩ := i
  unfold IV.val IV.cellsA at *
  simp only [] at *
  generalize hcl : classS o = cl at *
  generalize comparesS o = cp at *
  generalize loadsI o = ld at *
  generalize restGivesS o = rg at *
  clear hcl
  rcases (show cl = 1 ∨ cl = 2 ∨ cl = 3 ∨ cl = 4 ∨ cl = 5 ∨ (cl ≠ 1 ∧ cl ≠ 2 ∧ cl ≠ 3 ∧ cl ≠ 4 ∧ cl ≠ 5) by omega) with rfl | rfl | rfl | rfl | rfl | ⟨n1, n2, n3, n4, n5⟩
  · cases cp <;>
    · go_enter Tryz.func62, Tryz.ntmps62
      go_wp2_with (first
          | (go_at_call 23; refine (CC.out _).mono ?_; rintro e w2 ⟨rfl, rfl⟩)
          | (go_at_call 63; refine (CP.out _).mono ?_; rintro e w2 ⟨rfl, rfl⟩)
          | (go_at_call 28; refine (CL.out _).mono ?_; rintro e w2 ⟨rfl, rfl⟩)
          | (go_at_call 107; refine (CM.out _).mono ?_; rintro e w2 ⟨rfl, hb2⟩)
          | (go_at_call 108; refine (CR.out _).mono ?_; rintro e w2 ⟨rfl, rfl⟩))
      go_ret
      exact ⟨rfl, low_one _ _⟩
  · by_cases g1 : 24 ≤ o
    · by_cases g2 : o ≤ 27
      · rw [if_neg (by decide), if_pos rfl, if_pos ⟨g1, g2⟩]
        go_enter Tryz.func62, Tryz.ntmps62
        go_wp2_with (first
              | (go_at_call 23; refine (CC.out _).mono ?_; rintro e w2 ⟨rfl, rfl⟩)
              | (go_at_call 63; refine (CP.out _).mono ?_; rintro e w2 ⟨rfl, rfl⟩)
              | (go_at_call 28; refine (CL.out _).mono ?_; rintro e w2 ⟨rfl, rfl⟩)
              | (go_at_call 107; refine (CM.out _).mono ?_; rintro e w2 ⟨rfl, hb2⟩)
              | (go_at_call 108; refine (CR.out _).mono ?_; rintro e w2 ⟨rfl, rfl⟩))
        go_ret
        exact ⟨rfl, low_one _ _⟩
      · have f2 : decide (o ≤ 27) = false := by simpa using g2
        rw [if_neg (by decide), if_pos rfl, if_neg (by omega)]
        go_enter Tryz.func62, Tryz.ntmps62
        go_wp2_with (first
              | (go_at_call 23; refine (CC.out _).mono ?_; rintro e w2 ⟨rfl, rfl⟩)
              | (go_at_call 63; refine (CP.out _).mono ?_; rintro e w2 ⟨rfl, rfl⟩)
              | (go_at_call 28; refine (CL.out _).mono ?_; rintro e w2 ⟨rfl, rfl⟩)
              | (go_at_call 107; refine (CM.out _).mono ?_; rintro e w2 ⟨rfl, hb2⟩)
              | (go_at_call 108; refine (CR.out _).mono ?_; rintro e w2 ⟨rfl, rfl⟩))
        go_ret
        exact ⟨rfl, low_one _ _⟩
    · have f1 : decide (24 ≤ o) = false := by simpa using g1
      rw [if_neg (by decide), if_pos rfl, if_neg (by omega)]
      go_enter Tryz.func62, Tryz.ntmps62
      go_wp2_with (first
          | (go_at_call 23; refine (CC.out _).mono ?_; rintro e w2 ⟨rfl, rfl⟩)
          | (go_at_call 63; refine (CP.out _).mono ?_; rintro e w2 ⟨rfl, rfl⟩)
          | (go_at_call 28; refine (CL.out _).mono ?_; rintro e w2 ⟨rfl, rfl⟩)
          | (go_at_call 107; refine (CM.out _).mono ?_; rintro e w2 ⟨rfl, hb2⟩)
          | (go_at_call 108; refine (CR.out _).mono ?_; rintro e w2 ⟨rfl, rfl⟩))
      go_ret
      exact ⟨rfl, low_one _ _⟩
  · go_enter Tryz.func62, Tryz.ntmps62
    go_wp2_with (first
      | (go_at_call 23; refine (CC.out _).mono ?_; rintro e w2 ⟨rfl, rfl⟩)
      | (go_at_call 63; refine (CP.out _).mono ?_; rintro e w2 ⟨rfl, rfl⟩)
      | (go_at_call 28; refine (CL.out _).mono ?_; rintro e w2 ⟨rfl, rfl⟩)
      | (go_at_call 107; refine (CM.out _).mono ?_; rintro e w2 ⟨rfl, hb2⟩)
      | (go_at_call 108; refine (CR.out _).mono ?_; rintro e w2 ⟨rfl, rfl⟩))
    go_ret
    exact ⟨rfl, low_one _ _⟩
  · cases ld <;>
    · go_enter Tryz.func62, Tryz.ntmps62
      go_wp2_with (first
          | (go_at_call 23; refine (CC.out _).mono ?_; rintro e w2 ⟨rfl, rfl⟩)
          | (go_at_call 63; refine (CP.out _).mono ?_; rintro e w2 ⟨rfl, rfl⟩)
          | (go_at_call 28; refine (CL.out _).mono ?_; rintro e w2 ⟨rfl, rfl⟩)
          | (go_at_call 107; refine (CM.out _).mono ?_; rintro e w2 ⟨rfl, hb2⟩)
          | (go_at_call 108; refine (CR.out _).mono ?_; rintro e w2 ⟨rfl, rfl⟩))
      go_ret
      exact ⟨rfl, low_two _ _ _⟩
  · go_enter Tryz.func62, Tryz.ntmps62
    go_wp2_with (first
      | (go_at_call 23; refine (CC.out _).mono ?_; rintro e w2 ⟨rfl, rfl⟩)
      | (go_at_call 63; refine (CP.out _).mono ?_; rintro e w2 ⟨rfl, rfl⟩)
      | (go_at_call 28; refine (CL.out _).mono ?_; rintro e w2 ⟨rfl, rfl⟩)
      | (go_at_call 107; refine (CM.out _).mono ?_; rintro e w2 ⟨rfl, hb2⟩)
      | (go_at_call 108; refine (CR.out _).mono ?_; rintro e w2 ⟨rfl, rfl⟩))
    go_ret
    exact ⟨rfl, low_then (low_one _ _) hb2⟩
  · have f1 : (cl == 1) = false := by simpa using n1
    have f2 : (cl == 2) = false := by simpa using n2
    have f3 : (cl == 3) = false := by simpa using n3
    have f4 : (cl == 4) = false := by simpa using n4
    have f5 : (cl == 5) = false := by simpa using n5
    rw [if_neg n1, if_neg n2, if_neg n3, if_neg n4, if_neg n5]
    go_enter Tryz.func62, Tryz.ntmps62
    go_wp2_with (first
      | (go_at_call 23; refine (CC.out _).mono ?_; rintro e w2 ⟨rfl, rfl⟩)
      | (go_at_call 63; refine (CP.out _).mono ?_; rintro e w2 ⟨rfl, rfl⟩)
      | (go_at_call 28; refine (CL.out _).mono ?_; rintro e w2 ⟨rfl, rfl⟩)
      | (go_at_call 107; refine (CM.out _).mono ?_; rintro e w2 ⟨rfl, hb2⟩)
      | (go_at_call 108; refine (CR.out _).mono ?_; rintro e w2 ⟨rfl, rfl⟩))
    go_ret
    exact ⟨rfl, low_one _ _⟩
end Go.Proofs.YtplhblhopaheeaaGreatDoor
namespace Go.Proofs.YtplhblhopaheeaaGreatDoor
open Go.Lib
set_option linter.unusedVariables false
set_option linter.unusedSimpArgs false

theorem rising_unique : ∀ {a b : List Int}, a.Pairwise (· < ·) → b.Pairwise (· < ·) → (∀ x, x ∈ a ↔ x ∈ b) → a = b
  | [], [], _, _, _ => rfl
  | [], y :: b, _, _, h => absurd ((h y).2 List.mem_cons_self) (by simp)
  | x :: a, [], _, _, h => absurd ((h x).1 List.mem_cons_self) (by simp)
  | x :: a, y :: b, ha, hb, h => by
    rw [List.pairwise_cons] at ha hb
    have hxy : x = y := by
      rcases List.mem_cons.1 ((h x).1 List.mem_cons_self) with e | e
      · exact e
      · rcases List.mem_cons.1 ((h y).2 List.mem_cons_self) with e2 | e2
        · exact e2.symm
        · have h1 := hb.1 x e
          have h2 := ha.1 y e2
          omega
    subst hxy
    rw [rising_unique ha.2 hb.2 fun z => ?_]
    constructor
    · intro hz
      rcases List.mem_cons.1 ((h z).1 (List.mem_cons_of_mem _ hz)) with e | e
      · have := ha.1 z hz
        omega
      · exact e
    · intro hz
      rcases List.mem_cons.1 ((h z).2 (List.mem_cons_of_mem _ hz)) with e | e
      · have := hb.1 z hz
        omega
      · exact e
theorem compact_inv (d : Array Int) (hs : ∀ i j, i ≤ j → j < d.size → d[i]! ≤ d[j]!) : ∀ m, m ≤ d.size → (compactUpTo d m).Pairwise (· < ·) ∧ ∀ x, x ∈ compactUpTo d m ↔ ∃ j, j < m ∧ d[j]! = x
  | 0, _ => ⟨by simp [compactUpTo], fun x => by simp [compactUpTo]⟩
  | m + 1, hm => by
    obtain ⟨h1, h2⟩ := compact_inv d hs m (by omega)
    rw [compactUpTo_succ]
    cases hk : keeps d m
    · have hk' : m ≠ 0 ∧ d[m]! = d[m - 1]! := by
        simp only [keeps, decide_eq_false_iff_not, not_or, ne_eq, Decidable.not_not] at hk
        exact hk
      simp only [Bool.false_eq_true, if_false, List.append_nil]
      refine ⟨h1, fun x => ?_⟩
      rw [h2]
      constructor
      · rintro ⟨j, hj, e⟩
        exact ⟨j, by omega, e⟩
      · rintro ⟨j, hj, e⟩
        by_cases hjm : j = m
        · exact ⟨m - 1, by omega, by rw [← e, hjm, hk'.2]⟩
        · exact ⟨j, by omega, e⟩
    · have hk' : m = 0 ∨ d[m]! ≠ d[m - 1]! := by simpa [keeps] using hk
      simp only [if_true]
      refine ⟨List.pairwise_append.2 ⟨h1, by simp, fun x hx y hy => ?_⟩, fun x => ?_⟩
      · obtain ⟨j, hj, rfl⟩ := (h2 x).1 hx
        have hy' : y = d[m]! := by simpa using hy
        subst hy'
        rcases hk' with e | e
        · omega
        · have e1 := hs j (m - 1) (by omega) (by omega)
          have e2 := hs (m - 1) m (by omega) (by omega)
          omega
      · rw [List.mem_append, h2]
        constructor
        · rintro (⟨j, hj, e⟩ | e)
          · exact ⟨j, by omega, e⟩
          · exact ⟨m, by omega, (List.mem_singleton.1 e).symm⟩
        · rintro ⟨j, hj, e⟩
          by_cases hjm : j = m
          · exact .inr (by simp [← e, hjm])
          · exact .inl ⟨j, by omega, e⟩
/-- The numbers from 0 to last that are in xs. -/
def riseL (last : Nat) (xs : List Int) : List Int := ((List.range (last + 1)).map fun r : Nat => (r : Int)).filter fun r => xs.contains r
theorem riseL_mem (last : Nat) (xs : List Int) (x : Int) : x ∈ riseL last xs ↔ x ∈ xs ∧ 0 ≤ x ∧ x ≤ last := by
  simp only [riseL, List.mem_filter, List.mem_map, List.mem_range, List.contains_iff_mem]
  constructor
  · rintro ⟨⟨r, hr, rfl⟩, h⟩
    exact ⟨h, by omega, by omega⟩
  · rintro ⟨h, h0, h1⟩
    exact ⟨⟨x.toNat, by omega, by omega⟩, h⟩
theorem riseL_rising (last : Nat) (xs : List Int) : (riseL last xs).Pairwise (· < ·) := by
  refine List.Pairwise.filter _ ?_
  rw [List.pairwise_map]
  exact (List.pairwise_lt_range).imp fun h => by omega
theorem rise_eq (last : Nat) (xs : List Int) : compactUpTo (((xs.filter fun x => !(decide (x < 0) || decide ((last : Int) < x))).mergeSort fun x y => decide (x ≤ y)).toArray) (xs.filter fun x => !(decide (x < 0) || decide ((last : Int) < x))).length = riseL last xs := by
  generalize hl : (xs.filter fun x => !(decide (x < 0) || decide ((last : Int) < x))) = l
  have hp := List.mergeSort_perm l (fun x y : Int => decide (x ≤ y))
  have hlen : (l.mergeSort fun x y => decide (x ≤ y)).toArray.size = l.length := by simp
  have hsd : (l.mergeSort fun x y : Int => decide (x ≤ y)).Pairwise fun a b => decide (a ≤ b) = true := List.pairwise_mergeSort (fun a b c h1 h2 => by simp at *; omega) (fun a b => by simp; omega) l
  generalize (l.mergeSort fun x y => decide (x ≤ y)) = s at *
  have hs : ∀ i j, i ≤ j → j < s.toArray.size → s.toArray[i]! ≤ s.toArray[j]! := by
    intro i j hij hj
    have hj' : j < s.length := by simpa using hj
    rw [getElem!_pos s.toArray i (by simp; omega), getElem!_pos s.toArray j hj]
    by_cases e : i = j
    · subst e; exact Int.le_refl _
    · have := List.pairwise_iff_getElem.1 hsd i j (by omega) hj' (by omega)
      simpa using this
  obtain ⟨h1, h2⟩ := compact_inv s.toArray hs l.length (by omega)
  refine rising_unique h1 (riseL_rising last xs) fun x => ?_
  rw [h2, riseL_mem]
  have hm : (∃ j, j < l.length ∧ s.toArray[j]! = x) ↔ x ∈ s := by
    constructor
    · rintro ⟨j, hj, rfl⟩
      rw [getElem!_pos s.toArray j (by omega)]
      simp
    · intro hx
      obtain ⟨j, hj, e⟩ := List.getElem_of_mem hx
      refine ⟨j, by simp at hlen; omega, ?_⟩
      rw [getElem!_pos s.toArray j (by simpa using hj)]
      simpa using e
  rw [hm, hp.mem_iff, ← hl, List.mem_filter]
  simp only [Bool.not_eq_true', Bool.or_eq_false_iff, decide_eq_false_iff_not, Int.not_lt]
end Go.Proofs.YtplhblhopaheeaaGreatDoor
namespace Go.Proofs.YtplhblhopaheeaaGreatDoor
open Go.RowKit
set_option linter.unusedVariables false
set_option linter.unusedSimpArgs false

theorem dt_b (o : Int) : dataTakesS o = 0 ∨ dataTakesS o = 2 := by unfold dataTakesS; (repeat' split) <;> simp
theorem lt_b (o : Int) : longTakesS o = 0 ∨ longTakesS o = 8 ∨ longTakesS o = 9 := by unfold longTakesS; (repeat' split) <;> simp
def takesS (i : IV) : Int := if classS i.op = 1 then dataTakesS i.op + secondS i else if classS i.op = 2 then 6 + longTakesS i.op else if classS i.op = 3 then unaryTakesS i.op else if classS i.op = 4 then (2 + secondS i + if storesI i.op then 1 else 0) else if classS i.op = 5 then (if storesI i.op then 18 else 2) else restTakesS i.op
theorem low_three (w : World) (x y z : Obj) : Below w.heap.size w (((w.alloc x).alloc y).alloc z) := (low_two w x y).alloc (low_two w x y).size _
set_option maxHeartbeats 8000000 in
theorem takes_c (i : IV) (w : World) : Calls Tryz.prog 67 #[i.val] w fun e w' => e = .returned (.int .i64 (takesS i)) ∧ Below w.heap.size w w' := by
  have CC : Hid (∀ w1, Calls Tryz.prog 23 #[.int .i64 i.op] w1 fun e w' => e = .returned (.int .i64 (classS i.op)) ∧ w' = w1) := fun w1 => class_c i.op w1
  have CD : Hid (∀ w1, Calls Tryz.prog 109 #[.int .i64 i.op] w1 fun e w' => e = .returned (.int .i64 (dataTakesS i.op)) ∧ w' = w1) := fun w1 => dataTakes_c i.op w1
  have CO : Hid (∀ w1, Calls Tryz.prog 111 #[.int .i64 i.op] w1 fun e w' => e = .returned (.int .i64 (longTakesS i.op)) ∧ w' = w1) := fun w1 => longTakes_c i.op w1
  have CU : Hid (∀ w1, Calls Tryz.prog 112 #[.int .i64 i.op] w1 fun e w' => e = .returned (.int .i64 (unaryTakesS i.op)) ∧ w' = w1) := fun w1 => unaryTakes_c i.op w1
  have CR : Hid (∀ w1, Calls Tryz.prog 113 #[.int .i64 i.op] w1 fun e w' => e = .returned (.int .i64 (restTakesS i.op)) ∧ w' = w1) := fun w1 => restTakes_c i.op w1
  have CL : Hid (∀ w1, Calls Tryz.prog 29 #[i.val] w1 fun e w' => e = .returned (.bool (storesI i.op)) ∧ w' = w1.alloc (Obj.cells i.cellsA 28)) := fun w1 => storesI_c i w1
  have C2 : Hid (∀ w1, Calls Tryz.prog 110 #[i.val] w1 fun e w' => e = .returned (.int .i64 (secondS i)) ∧ w' = w1.alloc (Obj.cells i.cellsA 28)) := fun w1 => second_c i w1
  unfold takesS
  have hs2 : secondS i = 0 ∨ secondS i = 4 := by unfold secondS; split <;> simp
  generalize secondS i = sc at *
  obtain ⟨o, wide, s, cond, d, n, m, a, imm, useImm, sh, amt, list, back, down⟩ := i
  unfold IV.val IV.cellsA at *
  simp only [] at *
  have hd2 := dt_b o
  have hl2 := lt_b o
  generalize classS o = cl at *
  generalize dataTakesS o = dt at *
  generalize longTakesS o = lt at *
  generalize unaryTakesS o = ut at *
  generalize storesI o = st at *
  generalize restTakesS o = rt at *
  rcases (show cl = 1 ∨ cl = 2 ∨ cl = 3 ∨ cl = 4 ∨ cl = 5 ∨ (cl ≠ 1 ∧ cl ≠ 2 ∧ cl ≠ 3 ∧ cl ≠ 4 ∧ cl ≠ 5) by omega) with rfl | rfl | rfl | rfl | rfl | ⟨n1, n2, n3, n4, n5⟩
  · have hres : ∀ x y : Int, (x = 0 ∨ x = 2) → (y = 0 ∨ y = 4) → bits .or .i64 x y = x + y := by
      intro x y hx hy
      rcases hx with rfl | rfl <;> rcases hy with rfl | rfl <;> rfl
    have hor := hres dt sc hd2 hs2
    go_enter Tryz.func67, Tryz.ntmps67
    go_wp2_with (first
      | (go_at_call 23; refine (CC.out _).mono ?_; rintro e w2 ⟨rfl, rfl⟩)
      | (go_at_call 109; refine (CD.out _).mono ?_; rintro e w2 ⟨rfl, rfl⟩)
      | (go_at_call 111; refine (CO.out _).mono ?_; rintro e w2 ⟨rfl, rfl⟩)
      | (go_at_call 112; refine (CU.out _).mono ?_; rintro e w2 ⟨rfl, rfl⟩)
      | (go_at_call 110; refine (C2.out _).mono ?_; rintro e w2 ⟨rfl, rfl⟩)
      | (go_at_call 29; refine (CL.out _).mono ?_; rintro e w2 ⟨rfl, rfl⟩)
      | (go_at_call 113; refine (CR.out _).mono ?_; rintro e w2 ⟨rfl, rfl⟩))
    have HX : Hid (∀ j u, #[.int .i64 o, .bool wide, .bool s, .int .i64 cond, .int .i64 d, .int .i64 n, .int .i64 m, .int .i64 a, .int .u32 imm, .bool useImm, .int .i64 sh, .int .i64 amt, .int .i64 list, .bool back, .bool down][j]? = some u → (w.alloc (Obj.cells #[.int .i64 o, .bool wide, .bool s, .int .i64 cond, .int .i64 d, .int .i64 n, .int .i64 m, .int .i64 a, .int .u32 imm, .bool useImm, .int .i64 sh, .int .i64 amt, .int .i64 list, .bool back, .bool down] 28)).cell? ⟨w.heap.size, j, none⟩ = some u) := fun j u hu => by
      have hb : (w.alloc (Obj.cells #[.int .i64 o, .bool wide, .bool s, .int .i64 cond, .int .i64 d, .int .i64 n, .int .i64 m, .int .i64 a, .int .u32 imm, .bool useImm, .int .i64 sh, .int .i64 amt, .int .i64 list, .bool back, .bool down] 28)).heap[w.heap.size]? = some (Obj.cells #[.int .i64 o, .bool wide, .bool s, .int .i64 cond, .int .i64 d, .int .i64 n, .int .i64 m, .int .i64 a, .int .u32 imm, .bool useImm, .int .i64 sh, .int .i64 amt, .int .i64 list, .bool back, .bool down] 28) := heap_alloc_new w _
      rw [cell_of_row _ _ _ _ _ _ hb]
      exact hu
    have S : Below (w.alloc (Obj.cells #[.int .i64 o, .bool wide, .bool s, .int .i64 cond, .int .i64 d, .int .i64 n, .int .i64 m, .int .i64 a, .int .u32 imm, .bool useImm, .int .i64 sh, .int .i64 amt, .int .i64 list, .bool back, .bool down] 28)).heap.size (w.alloc (Obj.cells #[.int .i64 o, .bool wide, .bool s, .int .i64 cond, .int .i64 d, .int .i64 n, .int .i64 m, .int .i64 a, .int .u32 imm, .bool useImm, .int .i64 sh, .int .i64 amt, .int .i64 list, .bool back, .bool down] 28)) (w.alloc (Obj.cells #[.int .i64 o, .bool wide, .bool s, .int .i64 cond, .int .i64 d, .int .i64 n, .int .i64 m, .int .i64 a, .int .u32 imm, .bool useImm, .int .i64 sh, .int .i64 amt, .int .i64 list, .bool back, .bool down] 28)) := Below.refl _ _
    refine Upto.start (S := fun w' => Below (w.alloc (Obj.cells #[.int .i64 o, .bool wide, .bool s, .int .i64 cond, .int .i64 d, .int .i64 n, .int .i64 m, .int .i64 a, .int .u32 imm, .bool useImm, .int .i64 sh, .int .i64 amt, .int .i64 list, .bool back, .bool down] 28)).heap.size (w.alloc (Obj.cells #[.int .i64 o, .bool wide, .bool s, .int .i64 cond, .int .i64 d, .int .i64 n, .int .i64 m, .int .i64 a, .int .u32 imm, .bool useImm, .int .i64 sh, .int .i64 amt, .int .i64 list, .bool back, .bool down] 28)) w') 6 (by kernel_rfl) ?_
    replace S := S.drew
    refine Upto.take (i := 0) (oi := { dst := some 8, op := Op.fieldAddr 28 (Operand.tmp 1) 0, type := 0, pos := "inst.go:194", after := #[], guard := none }) (v := ?_) rfl (by kernel_rfl) (by kernel_rfl) (by kernel_rfl) (by kernel_rfl) (fun _ _ _ h => h) (Or.inl ⟨by rfl, ?_⟩) (by exact S) ?_
    rotate_left 1
    · intro w hSw
      clear hSw
      go_simp
      try with_reducible rfl
    simp only [Act.put, List.setIfInBounds_toArray, List.set_cons_zero, List.set_cons_succ]
    refine Upto.take (i := 1) (oi := { dst := some 9, op := Op.load 3 (Operand.tmp 8), type := 3, pos := "inst.go:194", after := #[{ on := 0, ground := Ground.data }], guard := none }) (v := _) rfl (by kernel_rfl) (by kernel_rfl) (by kernel_rfl) (by kernel_rfl) (fun _ _ _ h => h) (y_cell (by rfl) _ _ rfl _ 0 (by rfl) (.int .i64 o) (fun w' S' => Below.cellAt S' (HX.out 0 _ rfl)) _ Tryz.underlying3 rfl) (by exact S) ?_
    simp only [Act.put, List.setIfInBounds_toArray, List.set_cons_zero, List.set_cons_succ]
    refine Upto.take (i := 3) (oi := { dst := some 11, op := Op.load 28 (Operand.tmp 1), type := 28, pos := "inst.go:194", after := #[], guard := none }) (v := _) rfl (by kernel_rfl) (by kernel_rfl) (by kernel_rfl) (by kernel_rfl) (fun _ _ _ h => h) (yieldsIf_load_mid (by rfl) _ _ rfl _ 0 (by rfl) [.int .i64 o, .bool wide, .bool s, .int .i64 cond, .int .i64 d, .int .i64 n, .int .i64 m, .int .i64 a, .int .u32 imm, .bool useImm, .int .i64 sh, .int .i64 amt, .int .i64 list, .bool back, .bool down] _ (fun w' S' j u hu => by rw [Nat.zero_add]; exact Below.cellAt S' (HX.out j u (by simpa using hu))) Tryz.underlying28 rfl (by kernel_rfl)) (by exact S) ?_
    simp only [Act.put, List.setIfInBounds_toArray, List.set_cons_zero, List.set_cons_succ]
    refine Upto.ready (rs := [2]) (by kernel_rfl) (by simp) ?_
    refine Nexts.cons rfl (by decide) (fun K hK => ?_) Nexts.nil
    go_simp
    go_wp2_with (go_at_call 109; refine (CD.out _).mono ?_; rintro e w2 ⟨rfl, rfl⟩)
    refine hK.out _ _ (by exact S) ?_
    clear hK K
    refine Upto.ready (rs := [4]) (by kernel_rfl) (by simp) ?_
    refine Nexts.cons rfl (by decide) (fun K hK => ?_) Nexts.nil
    go_simp
    go_wp2_with (go_at_call 110; refine (C2.out _).mono ?_; rintro e w2 ⟨rfl, rfl⟩)
    replace S := S.alloc S.size (Obj.cells #[.int .i64 o, .bool wide, .bool s, .int .i64 cond, .int .i64 d, .int .i64 n, .int .i64 m, .int .i64 a, .int .u32 imm, .bool useImm, .int .i64 sh, .int .i64 amt, .int .i64 list, .bool back, .bool down] 28)
    refine hK.out _ _ (by exact S) ?_
    clear hK K
    refine Upto.take (i := 5) (oi := { dst := some 13, op := Op.binOp BinOp.or 3 (Operand.tmp 10) (Operand.tmp 12) 3, type := 3, pos := "inst.go:194", after := #[{ on := 2, ground := Ground.data }, { on := 4, ground := Ground.data }], guard := none }) (v := ?_) rfl (by kernel_rfl) (by kernel_rfl) (by kernel_rfl) (by kernel_rfl) (fun _ _ _ h => h) (Or.inl ⟨by rfl, ?_⟩) (by exact S) ?_
    rotate_left 1
    · intro w hSw
      clear hSw
      go_simp
      try simp only [hor]
      try with_reducible rfl
    simp only [Act.put, List.setIfInBounds_toArray, List.set_cons_zero, List.set_cons_succ]
    refine Upto.ready (rs := [6]) (by kernel_rfl) (by simp) ?_
    refine Nexts.last rfl (fun K hK => ?_)
    go_simp
    refine hK.out _ _ ?_
    clear hK K
    refine Upto.done (by kernel_rfl) ?_ _
    go_wp2_with fail
    go_ret
    exact ⟨rfl, low_then (low_one _ _) S⟩
  · rcases hl2 with rfl | rfl | rfl <;>
    · go_enter Tryz.func67, Tryz.ntmps67
      go_wp2_with (first
          | (go_at_call 23; refine (CC.out _).mono ?_; rintro e w2 ⟨rfl, rfl⟩)
          | (go_at_call 109; refine (CD.out _).mono ?_; rintro e w2 ⟨rfl, rfl⟩)
          | (go_at_call 111; refine (CO.out _).mono ?_; rintro e w2 ⟨rfl, rfl⟩)
          | (go_at_call 112; refine (CU.out _).mono ?_; rintro e w2 ⟨rfl, rfl⟩)
          | (go_at_call 110; refine (C2.out _).mono ?_; rintro e w2 ⟨rfl, rfl⟩)
          | (go_at_call 29; refine (CL.out _).mono ?_; rintro e w2 ⟨rfl, rfl⟩)
          | (go_at_call 113; refine (CR.out _).mono ?_; rintro e w2 ⟨rfl, rfl⟩))
      go_ret
      exact ⟨rfl, low_one _ _⟩
  · go_enter Tryz.func67, Tryz.ntmps67
    go_wp2_with (first
      | (go_at_call 23; refine (CC.out _).mono ?_; rintro e w2 ⟨rfl, rfl⟩)
      | (go_at_call 109; refine (CD.out _).mono ?_; rintro e w2 ⟨rfl, rfl⟩)
      | (go_at_call 111; refine (CO.out _).mono ?_; rintro e w2 ⟨rfl, rfl⟩)
      | (go_at_call 112; refine (CU.out _).mono ?_; rintro e w2 ⟨rfl, rfl⟩)
      | (go_at_call 110; refine (C2.out _).mono ?_; rintro e w2 ⟨rfl, rfl⟩)
      | (go_at_call 29; refine (CL.out _).mono ?_; rintro e w2 ⟨rfl, rfl⟩)
      | (go_at_call 113; refine (CR.out _).mono ?_; rintro e w2 ⟨rfl, rfl⟩))
    go_ret
    exact ⟨rfl, low_one _ _⟩
  · rcases hs2 with rfl | rfl <;> cases st <;>
    · go_enter Tryz.func67, Tryz.ntmps67
      go_wp2_with (first
          | (go_at_call 23; refine (CC.out _).mono ?_; rintro e w2 ⟨rfl, rfl⟩)
          | (go_at_call 109; refine (CD.out _).mono ?_; rintro e w2 ⟨rfl, rfl⟩)
          | (go_at_call 111; refine (CO.out _).mono ?_; rintro e w2 ⟨rfl, rfl⟩)
          | (go_at_call 112; refine (CU.out _).mono ?_; rintro e w2 ⟨rfl, rfl⟩)
          | (go_at_call 110; refine (C2.out _).mono ?_; rintro e w2 ⟨rfl, rfl⟩)
          | (go_at_call 29; refine (CL.out _).mono ?_; rintro e w2 ⟨rfl, rfl⟩)
          | (go_at_call 113; refine (CR.out _).mono ?_; rintro e w2 ⟨rfl, rfl⟩))
      go_ret
      exact ⟨rfl, low_three _ _ _ _⟩
  · cases st <;>
    · go_enter Tryz.func67, Tryz.ntmps67
      go_wp2_with (first
          | (go_at_call 23; refine (CC.out _).mono ?_; rintro e w2 ⟨rfl, rfl⟩)
          | (go_at_call 109; refine (CD.out _).mono ?_; rintro e w2 ⟨rfl, rfl⟩)
          | (go_at_call 111; refine (CO.out _).mono ?_; rintro e w2 ⟨rfl, rfl⟩)
          | (go_at_call 112; refine (CU.out _).mono ?_; rintro e w2 ⟨rfl, rfl⟩)
          | (go_at_call 110; refine (C2.out _).mono ?_; rintro e w2 ⟨rfl, rfl⟩)
          | (go_at_call 29; refine (CL.out _).mono ?_; rintro e w2 ⟨rfl, rfl⟩)
          | (go_at_call 113; refine (CR.out _).mono ?_; rintro e w2 ⟨rfl, rfl⟩))
      go_ret
      exact ⟨rfl, low_two _ _ _⟩
  · have f1 : (cl == 1) = false := by simpa using n1
    have f2 : (cl == 2) = false := by simpa using n2
    have f3 : (cl == 3) = false := by simpa using n3
    have f4 : (cl == 4) = false := by simpa using n4
    have f5 : (cl == 5) = false := by simpa using n5
    rw [if_neg n1, if_neg n2, if_neg n3, if_neg n4, if_neg n5]
    go_enter Tryz.func67, Tryz.ntmps67
    go_wp2_with (first
      | (go_at_call 23; refine (CC.out _).mono ?_; rintro e w2 ⟨rfl, rfl⟩)
      | (go_at_call 109; refine (CD.out _).mono ?_; rintro e w2 ⟨rfl, rfl⟩)
      | (go_at_call 111; refine (CO.out _).mono ?_; rintro e w2 ⟨rfl, rfl⟩)
      | (go_at_call 112; refine (CU.out _).mono ?_; rintro e w2 ⟨rfl, rfl⟩)
      | (go_at_call 110; refine (C2.out _).mono ?_; rintro e w2 ⟨rfl, rfl⟩)
      | (go_at_call 29; refine (CL.out _).mono ?_; rintro e w2 ⟨rfl, rfl⟩)
      | (go_at_call 113; refine (CR.out _).mono ?_; rintro e w2 ⟨rfl, rfl⟩))
    go_ret
    exact ⟨rfl, low_one _ _⟩
end Go.Proofs.YtplhblhopaheeaaGreatDoor
namespace Go.Proofs.YtplhblhopaheeaaGreatDoor
open Go.ChangeShapes Go.WideShapes Go.ChangeAt Go.RowKit
set_option linter.unusedVariables false
set_option linter.unusedSimpArgs false

def ic (xs : List Int) : List Value := xs.map fun x => Value.int .i64 x
theorem ic_length (xs : List Int) : (ic xs).length = xs.length := by simp [ic]
theorem ic_append (a b : List Int) : ic (a ++ b) = ic a ++ ic b := by simp [ic]
theorem ic_one (xs : List Int) : ∀ u ∈ ic xs, u.oneCell' = true := by
  intro u hu
  obtain ⟨x, _, rfl⟩ := List.mem_map.1 hu
  rfl
theorem infoInt : (Tryz.prog.info? 3).map (fun i => (i.zero, i.size, i.bytes)) = some (some (.int .i64 0), 1, 8) := by kernel_rfl
theorem bits64 (a b : Nat) (ha : a < 9223372036854775808) (hb : b < 9223372036854775808) : bits .and .i64 (a : Int) (b : Int) = ((a &&& b : Nat) : Int) ∧ bits .or .i64 (a : Int) (b : Int) = ((a ||| b : Nat) : Int) := by
  have e1 : bits .and .i64 (a : Int) (b : Int) = IntKind.i64.wrap (((BitVec.ofInt 64 a &&& BitVec.ofInt 64 b).toNat : Nat) : Int) := rfl
  have e2 : bits .or .i64 (a : Int) (b : Int) = IntKind.i64.wrap (((BitVec.ofInt 64 a ||| BitVec.ofInt 64 b).toNat : Nat) : Int) := rfl
  have h1 : (BitVec.ofInt 64 (a : Int)).toNat = a := by rw [BitVec.toNat_ofInt]; omega
  have h2 : (BitVec.ofInt 64 (b : Int)).toNat = b := by rw [BitVec.toNat_ofInt]; omega
  have l1 : a &&& b ≤ a := Nat.and_le_left
  have l2 : a ||| b < 2 ^ 63 := Nat.or_lt_two_pow (by omega) (by omega)
  rw [e1, e2, BitVec.toNat_and, BitVec.toNat_or, h1, h2, IntKind.wrap_i64, IntKind.wrap_i64]
  constructor <;> omega
theorem andPow (W k : Nat) (hW : W < 65536) (hk : k < 16) (p : Int) (hp : p = ((2 ^ k : Nat) : Int)) : bits .and .i64 (W : Int) p = bif W.testBit k then p else 0 := by
  have h2 : 2 ^ k ≤ 2 ^ 15 := Nat.pow_le_pow_right (by decide) (by omega)
  rw [hp, (bits64 W (2 ^ k) (by omega) (by omega)).1]
  have e : W &&& 2 ^ k = bif W.testBit k then 2 ^ k else 0 := by
    apply Nat.eq_of_testBit_eq
    intro j
    rw [Nat.testBit_and, Nat.testBit_two_pow]
    by_cases hj : k = j
    · subst hj
      cases h : W.testBit k <;> simp [Nat.testBit_two_pow]
    · cases h : W.testBit k <;> simp [Nat.testBit_two_pow, hj]
  rw [e]
  cases W.testBit k <;> rfl
theorem bit1 (l k : Nat) (hl : l < 65536) : bits .and .i64 ((l : Int) / 2 ^ k) 1 = bif l.testBit k then 1 else 0 := by
  have e : (l : Int) / 2 ^ k = ((l / 2 ^ k : Nat) : Int) := by push_cast; rfl
  have h : l / 2 ^ k ≤ l := Nat.div_le_self _ _
  rw [e, andPow (l / 2 ^ k) 0 (by omega) (by decide) 1 rfl, Nat.testBit_zero, Nat.testBit_eq_decide_div_mod_eq]
def fourL (d n m a : Int) (W : Nat) : List Int := (bif W.testBit 0 then [d] else []) ++ ((bif W.testBit 1 then [n] else []) ++ ((bif W.testBit 2 then [m] else []) ++ (bif W.testBit 3 then [a] else [])))
def listL (W l k : Nat) : List Int := bif W.testBit 4 then ((List.range k).filter fun r => l.testBit r).map fun r : Nat => (r : Int) else []
def restL (W : Nat) : List Int := (bif W.testBit 5 then [0] else []) ++ ((bif W.testBit 6 then [14] else []) ++ (bif W.testBit 7 then [15] else []))
def regsL (d n m a : Int) (l W : Nat) : List Int := fourL d n m a W ++ (listL W l 16 ++ restL W)
def fourP (d n m a : Int) (W : Nat) : Nat → List Int
  | 0 => []
  | 1 => (bif W.testBit 0 then [d] else [])
  | 2 => (bif W.testBit 0 then [d] else []) ++ (bif W.testBit 1 then [n] else [])
  | 3 => (bif W.testBit 0 then [d] else []) ++ ((bif W.testBit 1 then [n] else []) ++ (bif W.testBit 2 then [m] else []))
  | _ => fourL d n m a W
def restP (W : Nat) : Nat → List Int
  | 0 => []
  | 1 => (bif W.testBit 5 then [0] else [])
  | 2 => (bif W.testBit 5 then [0] else []) ++ (bif W.testBit 6 then [14] else [])
  | _ => restL W
theorem bif_len (b : Bool) (x : Int) : (bif b then [x] else []).length ≤ 1 := by cases b <;> simp
theorem fourP_len (d n m a : Int) (W k : Nat) : (fourP d n m a W k).length ≤ 4 := by
  have h0 := bif_len (W.testBit 0) d
  have h1 := bif_len (W.testBit 1) n
  have h2 := bif_len (W.testBit 2) m
  have h3 := bif_len (W.testBit 3) a
  rcases k with _ | _ | _ | _ | k <;> simp only [fourP, fourL, List.length_append, List.length_nil] <;> omega
theorem restP_len (W k : Nat) : (restP W k).length ≤ 3 := by
  have h0 := bif_len (W.testBit 5) 0
  have h1 := bif_len (W.testBit 6) 14
  have h2 := bif_len (W.testBit 7) 15
  rcases k with _ | _ | _ | k <;> simp only [restP, restL, List.length_append, List.length_nil] <;> omega
theorem listL_len (W l k : Nat) : (listL W l k).length ≤ k := by
  unfold listL
  cases W.testBit 4
  · simp
  · simp only [cond_true, List.length_map]
    exact Nat.le_trans (List.length_filter_le _ _) (by simp)
theorem listL_succ (W l k : Nat) : listL W l (k + 1) = listL W l k ++ (bif (W.testBit 4 && l.testBit k) then [(k : Int)] else []) := by
  unfold listL
  cases W.testBit 4
  · simp
  · simp only [cond_true, Bool.true_and, List.range_succ, List.filter_append, List.map_append]
    cases h : l.testBit k <;> simp [h]
def rgRel (w : World) (b : Nat) (i : IV) (f : Nat → List Int) (n : Nat) (v k : Value) (wr : World) : Prop := ∃ j : Nat, j ≤ n ∧ k = .int .i64 j ∧ SH (rowZ w.heap.size 3 v (ic (f j))) w wr [(b, Cel.iv i)]
def rg4Rel (w : World) (b g : Nat) (cs : List Value) (i : IV) (f : Nat → List Int) (n : Nat) (v k : Value) (wr : World) : Prop := ∃ j : Nat, j ≤ n ∧ k = .int .i64 j ∧ SH (rowZ w.heap.size 3 v (ic (f j))) w wr [(g, Cel.any cs), (b, Cel.iv i)]
def RowPost (w : World) (xs : List Int) (e : Ending) (w' : World) : Prop := ∃ v, e = .returned v ∧ w'.ownsRow w.heap.size 3 1 v xs.length (ic xs) ∧ Below w.heap.size w w'
theorem wpl_skip {P : Program} {ops : Array Oper} {rest : List Oper} {o : Oper} {a : Act} {Q : Exit → Act → World → Prop} {w : World} (hw : Region.wanted o (yielded ops a.tmps) = false) (h : wpList P ops Q rest (a.put o.dst undef) w) : wpList P ops Q (o :: rest) a w :=
  wpList_step fun K hK => by
    rw [if_neg (by simp [hw])]
    exact hK _ _ h
set_option maxHeartbeats 8000000 in
set_option maxRecDepth 100000 in
theorem registers_c (i : IV) (W l : Nat) (hW : W < 256) (hl : i.list = (l : Int)) (hl2 : l < 65536) (w : World) : Calls Tryz.prog 61 #[i.val, .int .i64 (W : Int)] w fun e w' => RowPost w (regsL i.d i.n i.m i.a l W) e w' := by
  obtain ⟨op, wide, s, cond, d, n, m, a, imm, useImm, sh, amt, list, back, down⟩ := i
  simp only at hl
  subst hl
  have HW0 : Hid (bits .and .i64 (W : Int) 1 = bif W.testBit 0 then 1 else 0) := andPow W 0 (by omega) (by decide) 1 rfl
  have HW1 : Hid (bits .and .i64 (W : Int) 2 = bif W.testBit 1 then 2 else 0) := andPow W 1 (by omega) (by decide) 2 rfl
  have HW2 : Hid (bits .and .i64 (W : Int) 4 = bif W.testBit 2 then 4 else 0) := andPow W 2 (by omega) (by decide) 4 rfl
  have HW3 : Hid (bits .and .i64 (W : Int) 8 = bif W.testBit 3 then 8 else 0) := andPow W 3 (by omega) (by decide) 8 rfl
  have HW4 : Hid (bits .and .i64 (W : Int) 16 = bif W.testBit 4 then 16 else 0) := andPow W 4 (by omega) (by decide) 16 rfl
  have HW5 : Hid (bits .and .i64 (W : Int) 32 = bif W.testBit 5 then 32 else 0) := andPow W 5 (by omega) (by decide) 32 rfl
  have HW6 : Hid (bits .and .i64 (W : Int) 64 = bif W.testBit 6 then 64 else 0) := andPow W 6 (by omega) (by decide) 64 rfl
  have HW7 : Hid (bits .and .i64 (W : Int) 128 = bif W.testBit 7 then 128 else 0) := andPow W 7 (by omega) (by decide) 128 rfl
  have HB : Hid (∀ k : Nat, bits .and .i64 ((l : Int) / 2 ^ k) 1 = bif l.testBit k then 1 else 0) := fun k => bit1 l k hl2
  have hl0 : 0 ≤ (l : Int) := by omega
  have hl3 : (l : Int) < 65536 := by omega
  have hW0 : 0 ≤ (W : Int) := by omega
  have hW3 : (W : Int) < 256 := by omega
  clear hW hl2
  obtain ⟨J, hJ⟩ : ∃ J : IV, J = ⟨op, wide, s, cond, d, n, m, a, imm, useImm, sh, amt, l, back, down⟩ := ⟨_, rfl⟩
  go_enter Tryz.func61, Tryz.ntmps61
  have S := SH.start w
  go_upto_region 3 with (first
    | ((with_reducible refine wpl_isDst 2 ?_); refine SH.box (L := []) S rfl 28 _ rfl (Cel.iv ⟨op, wide, s, cond, d, n, m, a, imm, useImm, sh, amt, l, back, down⟩) rfl ?_; clear S; intro b2 w2 S)
    | ((with_reducible refine wpl_isDst 12 ?_); refine S.ld 3 _ rfl b2 4 rfl 0 _ rfl _ rfl _ Tryz.underlying3 rfl rfl ?_)
    | ((with_reducible refine wpl_isDst 14 ?_); refine S.ld 3 _ rfl b2 5 rfl 0 _ rfl _ rfl _ Tryz.underlying3 rfl rfl ?_)
    | ((with_reducible refine wpl_isDst 16 ?_); refine S.ld 3 _ rfl b2 6 rfl 0 _ rfl _ rfl _ Tryz.underlying3 rfl rfl ?_)
    | ((with_reducible refine wpl_isDst 18 ?_); refine S.ld 3 _ rfl b2 7 rfl 0 _ rfl _ rfl _ Tryz.underlying3 rfl rfl ?_)
    | ((with_reducible refine wpl_isDst 19 ?_); refine S.sliceQ rfl 51 4 _ rfl (ic [d, n, m, a]) 3 (by kernel_rfl) ?_; clear S; intro g19 w19 S))
  rw [← hJ] at S
  have ST : Hid (rg4Rel w b2 g19 (ic [d, n, m, a]) J (fourP d n m a W) 4 (.slice none 0 0) (.int .i64 0) _) := ⟨0, Nat.zero_le _, rfl, S.rowNil _⟩
  clear S
  go_loopw [5, 21] (fun v k wr => rg4Rel w b2 g19 (ic [d, n, m, a]) J (fourP d n m a W) 4 v k wr) (fun _ k _ => 4 - (intOf k).toNat)
  case atStart => exact ST.out
  case round =>
    clear ST
    obtain ⟨j, hj, rfl, S⟩ := hrel
    by_cases hlt : j < 4
    · have hlen := fourP_len d n m a W j
      rcases (show j = 0 ∨ j = 1 ∨ j = 2 ∨ j = 3 by omega) with rfl | rfl | rfl | rfl
      · cases ht : W.testBit 0
        · have HF : Hid (fourP d n m a W 1 = fourP d n m a W 0) := by
            show _ = _
            simp only [fourP, fourL, ht, cond_false, List.append_nil, List.nil_append]
          have h0 : bits .and .i64 (W : Int) 1 = 0 := by
            have := HW0.out
            rw [ht] at this
            exact this
          go_wp2_with (first
            | ((with_reducible refine wpl_isDst 25 ?_); refine S.ld 3 _ rfl g19 0 rfl 0 (Cel.any (ic [d, n, m, a])) rfl (.int .i64 d) rfl _ Tryz.underlying3 rfl rfl ?_)
            | ((with_reducible refine wpl_isDst 29 ?_); refine wpl_dst 29 rfl (.int .i64 0) (by go_simp; exact h0) rfl ?_)
            )
          go_roundw
          case rel => exact ⟨1, by decide, rfl, by rw [HF.out]; exact S⟩
          case measure =>
            simp only [intOf]
            decide
        · have HF : Hid (fourP d n m a W 0 ++ [d] = fourP d n m a W 1) := by
            show _ = _
            simp only [fourP, fourL, ht, cond_true, List.append_assoc, List.nil_append]
          have h0 : bits .and .i64 (W : Int) 1 = 1 := by
            have := HW0.out
            rw [ht] at this
            exact this
          go_wp2_with (first
            | ((with_reducible refine wpl_isDst 25 ?_); refine S.ld 3 _ rfl g19 0 rfl 0 (Cel.any (ic [d, n, m, a])) rfl (.int .i64 d) rfl _ Tryz.underlying3 rfl rfl ?_)
            | ((with_reducible refine wpl_isDst 29 ?_); refine wpl_dst 29 rfl (.int .i64 1) (by go_simp; exact h0) rfl ?_)
            | ((with_reducible refine wpl_isDst 33 ?_); refine S.sliceQ rfl 51 1 _ rfl (ic [d]) 3 (by kernel_rfl) ?_; clear S; intro g33 w33 S)
            | ((with_reducible refine wpl_isDst 34 ?_); refine S.appendG rfl 51 _ _ rfl Tryz.underlying51 (.int .i64 0) 8 infoInt rfl rfl g33 1 1 rfl 0 (ic [d]) rfl rfl (ic_one _) (by decide) (by rw [ic_length]; omega) (by rw [ic_length]; omega) ?_; clear S; intro g34 c34 w34 S)
            )
          go_roundw
          case rel =>
            have S1 := S.fewer 1
            rw [← ic_append, HF.out] at S1
            exact ⟨1, by decide, rfl, S1⟩
          case measure =>
            simp only [intOf]
            decide
      · cases ht : W.testBit 1
        · have HF : Hid (fourP d n m a W 2 = fourP d n m a W 1) := by
            show _ = _
            simp only [fourP, fourL, ht, cond_false, List.append_nil, List.nil_append]
          have h0 : bits .and .i64 (W : Int) 2 = 0 := by
            have := HW1.out
            rw [ht] at this
            exact this
          go_wp2_with (first
            | ((with_reducible refine wpl_isDst 25 ?_); refine S.ld 3 _ rfl g19 1 rfl 0 (Cel.any (ic [d, n, m, a])) rfl (.int .i64 n) rfl _ Tryz.underlying3 rfl rfl ?_)
            | ((with_reducible refine wpl_isDst 29 ?_); refine wpl_dst 29 rfl (.int .i64 0) (by go_simp; exact h0) rfl ?_)
            )
          go_roundw
          case rel => exact ⟨2, by decide, rfl, by rw [HF.out]; exact S⟩
          case measure =>
            simp only [intOf]
            decide
        · have HF : Hid (fourP d n m a W 1 ++ [n] = fourP d n m a W 2) := by
            show _ = _
            simp only [fourP, fourL, ht, cond_true, List.append_assoc, List.nil_append]
          have h0 : bits .and .i64 (W : Int) 2 = 2 := by
            have := HW1.out
            rw [ht] at this
            exact this
          go_wp2_with (first
            | ((with_reducible refine wpl_isDst 25 ?_); refine S.ld 3 _ rfl g19 1 rfl 0 (Cel.any (ic [d, n, m, a])) rfl (.int .i64 n) rfl _ Tryz.underlying3 rfl rfl ?_)
            | ((with_reducible refine wpl_isDst 29 ?_); refine wpl_dst 29 rfl (.int .i64 2) (by go_simp; exact h0) rfl ?_)
            | ((with_reducible refine wpl_isDst 33 ?_); refine S.sliceQ rfl 51 1 _ rfl (ic [n]) 3 (by kernel_rfl) ?_; clear S; intro g33 w33 S)
            | ((with_reducible refine wpl_isDst 34 ?_); refine S.appendG rfl 51 _ _ rfl Tryz.underlying51 (.int .i64 0) 8 infoInt rfl rfl g33 1 1 rfl 0 (ic [n]) rfl rfl (ic_one _) (by decide) (by rw [ic_length]; omega) (by rw [ic_length]; omega) ?_; clear S; intro g34 c34 w34 S)
            )
          go_roundw
          case rel =>
            have S1 := S.fewer 1
            rw [← ic_append, HF.out] at S1
            exact ⟨2, by decide, rfl, S1⟩
          case measure =>
            simp only [intOf]
            decide
      · cases ht : W.testBit 2
        · have HF : Hid (fourP d n m a W 3 = fourP d n m a W 2) := by
            show _ = _
            simp only [fourP, fourL, ht, cond_false, List.append_nil, List.nil_append]
          have h0 : bits .and .i64 (W : Int) 4 = 0 := by
            have := HW2.out
            rw [ht] at this
            exact this
          go_wp2_with (first
            | ((with_reducible refine wpl_isDst 25 ?_); refine S.ld 3 _ rfl g19 2 rfl 0 (Cel.any (ic [d, n, m, a])) rfl (.int .i64 m) rfl _ Tryz.underlying3 rfl rfl ?_)
            | ((with_reducible refine wpl_isDst 29 ?_); refine wpl_dst 29 rfl (.int .i64 0) (by go_simp; exact h0) rfl ?_)
            )
          go_roundw
          case rel => exact ⟨3, by decide, rfl, by rw [HF.out]; exact S⟩
          case measure =>
            simp only [intOf]
            decide
        · have HF : Hid (fourP d n m a W 2 ++ [m] = fourP d n m a W 3) := by
            show _ = _
            simp only [fourP, fourL, ht, cond_true, List.append_assoc, List.nil_append]
          have h0 : bits .and .i64 (W : Int) 4 = 4 := by
            have := HW2.out
            rw [ht] at this
            exact this
          go_wp2_with (first
            | ((with_reducible refine wpl_isDst 25 ?_); refine S.ld 3 _ rfl g19 2 rfl 0 (Cel.any (ic [d, n, m, a])) rfl (.int .i64 m) rfl _ Tryz.underlying3 rfl rfl ?_)
            | ((with_reducible refine wpl_isDst 29 ?_); refine wpl_dst 29 rfl (.int .i64 4) (by go_simp; exact h0) rfl ?_)
            | ((with_reducible refine wpl_isDst 33 ?_); refine S.sliceQ rfl 51 1 _ rfl (ic [m]) 3 (by kernel_rfl) ?_; clear S; intro g33 w33 S)
            | ((with_reducible refine wpl_isDst 34 ?_); refine S.appendG rfl 51 _ _ rfl Tryz.underlying51 (.int .i64 0) 8 infoInt rfl rfl g33 1 1 rfl 0 (ic [m]) rfl rfl (ic_one _) (by decide) (by rw [ic_length]; omega) (by rw [ic_length]; omega) ?_; clear S; intro g34 c34 w34 S)
            )
          go_roundw
          case rel =>
            have S1 := S.fewer 1
            rw [← ic_append, HF.out] at S1
            exact ⟨3, by decide, rfl, S1⟩
          case measure =>
            simp only [intOf]
            decide
      · cases ht : W.testBit 3
        · have HF : Hid (fourP d n m a W 4 = fourP d n m a W 3) := by
            show _ = _
            simp only [fourP, fourL, ht, cond_false, List.append_nil, List.nil_append]
          have h0 : bits .and .i64 (W : Int) 8 = 0 := by
            have := HW3.out
            rw [ht] at this
            exact this
          go_wp2_with (first
            | ((with_reducible refine wpl_isDst 25 ?_); refine S.ld 3 _ rfl g19 3 rfl 0 (Cel.any (ic [d, n, m, a])) rfl (.int .i64 a) rfl _ Tryz.underlying3 rfl rfl ?_)
            | ((with_reducible refine wpl_isDst 29 ?_); refine wpl_dst 29 rfl (.int .i64 0) (by go_simp; exact h0) rfl ?_)
            )
          go_roundw
          case rel => exact ⟨4, by decide, rfl, by rw [HF.out]; exact S⟩
          case measure =>
            simp only [intOf]
            decide
        · have HF : Hid (fourP d n m a W 3 ++ [a] = fourP d n m a W 4) := by
            show _ = _
            simp only [fourP, fourL, ht, cond_true, List.append_assoc, List.nil_append]
          have h0 : bits .and .i64 (W : Int) 8 = 8 := by
            have := HW3.out
            rw [ht] at this
            exact this
          go_wp2_with (first
            | ((with_reducible refine wpl_isDst 25 ?_); refine S.ld 3 _ rfl g19 3 rfl 0 (Cel.any (ic [d, n, m, a])) rfl (.int .i64 a) rfl _ Tryz.underlying3 rfl rfl ?_)
            | ((with_reducible refine wpl_isDst 29 ?_); refine wpl_dst 29 rfl (.int .i64 8) (by go_simp; exact h0) rfl ?_)
            | ((with_reducible refine wpl_isDst 33 ?_); refine S.sliceQ rfl 51 1 _ rfl (ic [a]) 3 (by kernel_rfl) ?_; clear S; intro g33 w33 S)
            | ((with_reducible refine wpl_isDst 34 ?_); refine S.appendG rfl 51 _ _ rfl Tryz.underlying51 (.int .i64 0) 8 infoInt rfl rfl g33 1 1 rfl 0 (ic [a]) rfl rfl (ic_one _) (by decide) (by rw [ic_length]; omega) (by rw [ic_length]; omega) ?_; clear S; intro g34 c34 w34 S)
            )
          go_roundw
          case rel =>
            have S1 := S.fewer 1
            rw [← ic_append, HF.out] at S1
            exact ⟨4, by decide, rfl, S1⟩
          case measure =>
            simp only [intOf]
            decide
    · have hj4 : j = 4 := by omega
      subst hj4
      replace S := S.fewer 1
      rw [show List.drop 1 [(g19, Cel.any (ic [d, n, m, a])), (b2, Cel.iv J)] = [(b2, Cel.iv J)] from rfl] at S
      have HLEN : Hid ((fourP d n m a W 4).length ≤ 4) := fourP_len d n m a W 4
      obtain ⟨P, hP⟩ : ∃ P, P = fourP d n m a W 4 := ⟨_, rfl⟩
      rw [← hP] at S HLEN
      have HPP : Hid (P = fourP d n m a W 4) := hP
      clear hP
      obtain ⟨wO, hwO⟩ : ∃ y, y = wr := ⟨_, rfl⟩
      rw [← hwO]
      rw [← hwO] at S
      clear hwO wr
      simp only [show ((4 : Nat) : Int) = 4 from rfl]
      go_upto_region 9 with fail
      have ST : Hid (rgRel w b2 J (fun k => P ++ listL W l k) 16 u5 (.int .i64 0) wO) := ⟨0, Nat.zero_le _, rfl, by
        have e : P ++ listL W l 0 = P := by
          unfold listL
          cases W.testBit 4 <;> simp
        show SH (rowZ _ _ _ (ic (P ++ listL W l 0))) _ _ _
        rw [e]
        exact S⟩
      clear S
      go_loopw [5, 36] (fun v k wr => rgRel w b2 J (fun k => P ++ listL W l k) 16 v k wr) (fun _ k _ => 16 - (intOf k).toNat)
      case atStart => exact ST.out
      case round =>
        clear ST
        obtain ⟨r, hr, rfl, S⟩ := hrel
        have S' : SH (rowZ w.heap.size 3 u5 (ic (P ++ listL W l r))) w wr [(b2, Cel.iv J)] := S
        clear S
        have S := S'
        clear S'
        by_cases hlt2 : r < 16
        · have hr2 : (r : Int) < 16 := by omega
          have hr0 : 0 ≤ (r : Int) := by omega
          have hlen := listL_len W l r
          have HS := listL_succ W l r
          cases h4 : W.testBit 4
          · have h0 : bits .and .i64 (W : Int) 16 = 0 := by
              have := HW4.out
              rw [h4] at this
              exact this
            rw [h4] at HS
            simp only [Bool.false_and, cond_false, List.append_nil] at HS
            have HF : Hid (listL W l (r + 1) = listL W l r) := HS
            clear HS hlen
            go_wp2_with (first
              | ((with_reducible refine wpl_isDst 40 ?_); refine wpl_dst 40 rfl (.int .i64 0) (by go_simp; exact h0) rfl ?_)
              | ((with_reducible refine wpl_isDst 44 ?_); refine wpl_skip rfl ?_)
              )
            go_roundw
            case rel => exact ⟨r + 1, hlt2, by push_cast; rfl, by show SH (rowZ _ _ _ (ic (P ++ listL W l (r + 1)))) _ _ _; rw [HF.out]; exact S⟩
            case measure =>
              simp only [intOf]
              omega
          · have h0 : bits .and .i64 (W : Int) 16 = 16 := by
              have := HW4.out
              rw [h4] at this
              exact this
            have hb := HB.out r
            cases hrb : l.testBit r
            · rw [hrb] at hb
              rw [h4, hrb] at HS
              simp only [Bool.and_false, cond_false, List.append_nil] at HS
              have HF : Hid (listL W l (r + 1) = listL W l r) := HS
              clear HS hlen
              simp only [cond_false] at hb
              rw [hJ] at S
              go_wp2_with (first
                | ((with_reducible refine wpl_isDst 40 ?_); refine wpl_dst 40 rfl (.int .i64 16) (by go_simp; exact h0) rfl ?_)
                | ((with_reducible refine wpl_isDst 44 ?_); refine S.ld 3 _ rfl b2 12 rfl 0 _ rfl (.int .i64 l) rfl _ Tryz.underlying3 rfl rfl ?_)
                | ((with_reducible refine wpl_isDst 47 ?_); refine wpl_dst 47 rfl (.int .i64 0) (by go_simp; exact hb) rfl ?_)
                )
              rw [← hJ] at S
              go_roundw
              case rel => exact ⟨r + 1, hlt2, by push_cast; rfl, by show SH (rowZ _ _ _ (ic (P ++ listL W l (r + 1)))) _ _ _; rw [HF.out]; exact S⟩
              case measure =>
                simp only [intOf]
                omega
            · rw [hrb] at hb
              rw [h4, hrb] at HS
              simp only [Bool.and_true, cond_true] at HS
              have HF : Hid (listL W l (r + 1) = listL W l r ++ [(r : Int)]) := HS
              have HN : Hid ((P ++ listL W l r).length ≤ 20) := by
                have := HLEN.out
                show (P ++ listL W l r).length ≤ 20
                rw [List.length_append]
                omega
              clear HS hlen
              simp only [cond_true] at hb
              rw [hJ] at S
              go_wp2_with (first
                | ((with_reducible refine wpl_isDst 40 ?_); refine wpl_dst 40 rfl (.int .i64 16) (by go_simp; exact h0) rfl ?_)
                | ((with_reducible refine wpl_isDst 44 ?_); refine S.ld 3 _ rfl b2 12 rfl 0 _ rfl (.int .i64 l) rfl _ Tryz.underlying3 rfl rfl ?_)
                | ((with_reducible refine wpl_isDst 47 ?_); refine wpl_dst 47 rfl (.int .i64 1) (by go_simp; exact hb) rfl ?_)
                | ((with_reducible refine wpl_isDst 52 ?_); refine S.sliceQ rfl 51 1 _ rfl (ic [(r : Int)]) 3 (by kernel_rfl) ?_; clear S; intro g52 w52 S)
                | ((with_reducible refine wpl_isDst 53 ?_); refine S.appendG rfl 51 _ _ rfl Tryz.underlying51 (.int .i64 0) 8 infoInt rfl rfl g52 1 1 rfl 0 (ic [(r : Int)]) rfl rfl (ic_one _) (by decide) (by rw [ic_length]; have := HN.out; omega) (by rw [ic_length]; have := HN.out; omega) ?_; clear S; intro g53 c53 w53 S)
                )
              rw [← hJ] at S
              go_roundw
              case rel =>
                have S1 := S.fewer 1
                rw [← ic_append, List.append_assoc, ← HF.out] at S1
                exact ⟨r + 1, hlt2, by push_cast; rfl, S1⟩
              case measure =>
                simp only [intOf]
                omega
        · have hr16 : r = 16 := by omega
          subst hr16
          obtain ⟨Q, hQ⟩ : ∃ Q, Q = P ++ listL W l 16 := ⟨_, rfl⟩
          have HLQ : Hid (Q.length ≤ 20) := by
            show Q.length ≤ 20
            have h1 := HLEN.out
            have h2 := listL_len W l 16
            rw [hQ, List.length_append]
            omega
          rw [← hQ] at S
          have HQQ : Hid (Q = P ++ listL W l 16) := hQ
          clear hQ
          obtain ⟨wP, hwP⟩ : ∃ y, y = wr := ⟨_, rfl⟩
          rw [← hwP]
          rw [← hwP] at S
          clear hwP wr
          simp only [show ((16 : Nat) : Int) = 16 from rfl]
          go_upto_region 15 with (first
            | ((with_reducible refine wpl_isDst 55 ?_); refine S.sliceQ rfl 51 3 _ rfl (ic [0, 14, 15]) 3 (by kernel_rfl) ?_; clear S; intro g55 w55 S))
          have ST : Hid (rg4Rel w b2 g55 (ic [0, 14, 15]) J (fun k => Q ++ restP W k) 3 u5 (.int .i64 0) w55) := ⟨0, Nat.zero_le _, rfl, by
            show SH (rowZ _ _ _ (ic (Q ++ []))) _ _ _
            rw [List.append_nil]
            exact S⟩
          clear S
          go_loopw [5, 57] (fun v k wr => rg4Rel w b2 g55 (ic [0, 14, 15]) J (fun k => Q ++ restP W k) 3 v k wr) (fun _ k _ => 3 - (intOf k).toNat)
          case atStart => exact ST.out
          case round =>
            clear ST
            obtain ⟨j, hj, rfl, S⟩ := hrel
            have S' : SH (rowZ w.heap.size 3 u5 (ic (Q ++ restP W j))) w wr [(g55, Cel.any (ic [0, 14, 15])), (b2, Cel.iv J)] := S
            clear S
            have S := S'
            clear S'
            by_cases hlt3 : j < 3
            · have HN : Hid ((Q ++ restP W j).length ≤ 23) := by
                show (Q ++ restP W j).length ≤ 23
                have h1 := HLQ.out
                have h2 := restP_len W j
                rw [List.length_append]
                omega
              rcases (show j = 0 ∨ j = 1 ∨ j = 2 by omega) with rfl | rfl | rfl
              · cases ht : W.testBit 5
                · have HF : Hid (Q ++ restP W 1 = Q ++ restP W 0) := by
                    show _ = _
                    simp only [restP, restL, ht, cond_false, List.append_nil, List.nil_append]
                  have h0 : bits .and .i64 (W : Int) 32 = 0 := by
                    have := HW5.out
                    rw [ht] at this
                    exact this
                  go_wp2_with (first
                    | ((with_reducible refine wpl_isDst 61 ?_); refine S.ld 3 _ rfl g55 0 rfl 0 (Cel.any (ic [0, 14, 15])) rfl (.int .i64 0) rfl _ Tryz.underlying3 rfl rfl ?_)
                    | ((with_reducible refine wpl_isDst 65 ?_); refine wpl_dst 65 rfl (.int .i64 0) (by go_simp; exact h0) rfl ?_)
                    )
                  go_roundw
                  case rel => exact ⟨1, by decide, rfl, by show SH (rowZ _ _ _ (ic (Q ++ restP W 1))) _ _ _; rw [HF.out]; exact S⟩
                  case measure =>
                    simp only [intOf]
                    decide
                · have HF : Hid (Q ++ (restP W 0 ++ [0]) = Q ++ restP W 1) := by
                    show _ = _
                    simp only [restP, restL, ht, cond_true, List.append_assoc, List.nil_append]
                  have h0 : bits .and .i64 (W : Int) 32 = 32 := by
                    have := HW5.out
                    rw [ht] at this
                    exact this
                  go_wp2_with (first
                    | ((with_reducible refine wpl_isDst 61 ?_); refine S.ld 3 _ rfl g55 0 rfl 0 (Cel.any (ic [0, 14, 15])) rfl (.int .i64 0) rfl _ Tryz.underlying3 rfl rfl ?_)
                    | ((with_reducible refine wpl_isDst 65 ?_); refine wpl_dst 65 rfl (.int .i64 32) (by go_simp; exact h0) rfl ?_)
                    | ((with_reducible refine wpl_isDst 69 ?_); refine S.sliceQ rfl 51 1 _ rfl (ic [0]) 3 (by kernel_rfl) ?_; clear S; intro g69 w69 S)
                    | ((with_reducible refine wpl_isDst 70 ?_); refine S.appendG rfl 51 _ _ rfl Tryz.underlying51 (.int .i64 0) 8 infoInt rfl rfl g69 1 1 rfl 0 (ic [0]) rfl rfl (ic_one _) (by decide) (by rw [ic_length]; have := HN.out; omega) (by rw [ic_length]; have := HN.out; omega) ?_; clear S; intro g70 c70 w70 S)
                    )
                  go_roundw
                  case rel =>
                    have S1 := S.fewer 1
                    rw [← ic_append, List.append_assoc, HF.out] at S1
                    exact ⟨1, by decide, rfl, S1⟩
                  case measure =>
                    simp only [intOf]
                    decide
              · cases ht : W.testBit 6
                · have HF : Hid (Q ++ restP W 2 = Q ++ restP W 1) := by
                    show _ = _
                    simp only [restP, restL, ht, cond_false, List.append_nil, List.nil_append]
                  have h0 : bits .and .i64 (W : Int) 64 = 0 := by
                    have := HW6.out
                    rw [ht] at this
                    exact this
                  go_wp2_with (first
                    | ((with_reducible refine wpl_isDst 61 ?_); refine S.ld 3 _ rfl g55 1 rfl 0 (Cel.any (ic [0, 14, 15])) rfl (.int .i64 14) rfl _ Tryz.underlying3 rfl rfl ?_)
                    | ((with_reducible refine wpl_isDst 65 ?_); refine wpl_dst 65 rfl (.int .i64 0) (by go_simp; exact h0) rfl ?_)
                    )
                  go_roundw
                  case rel => exact ⟨2, by decide, rfl, by show SH (rowZ _ _ _ (ic (Q ++ restP W 2))) _ _ _; rw [HF.out]; exact S⟩
                  case measure =>
                    simp only [intOf]
                    decide
                · have HF : Hid (Q ++ (restP W 1 ++ [14]) = Q ++ restP W 2) := by
                    show _ = _
                    simp only [restP, restL, ht, cond_true, List.append_assoc, List.nil_append]
                  have h0 : bits .and .i64 (W : Int) 64 = 64 := by
                    have := HW6.out
                    rw [ht] at this
                    exact this
                  go_wp2_with (first
                    | ((with_reducible refine wpl_isDst 61 ?_); refine S.ld 3 _ rfl g55 1 rfl 0 (Cel.any (ic [0, 14, 15])) rfl (.int .i64 14) rfl _ Tryz.underlying3 rfl rfl ?_)
                    | ((with_reducible refine wpl_isDst 65 ?_); refine wpl_dst 65 rfl (.int .i64 64) (by go_simp; exact h0) rfl ?_)
                    | ((with_reducible refine wpl_isDst 69 ?_); refine S.sliceQ rfl 51 1 _ rfl (ic [14]) 3 (by kernel_rfl) ?_; clear S; intro g69 w69 S)
                    | ((with_reducible refine wpl_isDst 70 ?_); refine S.appendG rfl 51 _ _ rfl Tryz.underlying51 (.int .i64 0) 8 infoInt rfl rfl g69 1 1 rfl 0 (ic [14]) rfl rfl (ic_one _) (by decide) (by rw [ic_length]; have := HN.out; omega) (by rw [ic_length]; have := HN.out; omega) ?_; clear S; intro g70 c70 w70 S)
                    )
                  go_roundw
                  case rel =>
                    have S1 := S.fewer 1
                    rw [← ic_append, List.append_assoc, HF.out] at S1
                    exact ⟨2, by decide, rfl, S1⟩
                  case measure =>
                    simp only [intOf]
                    decide
              · cases ht : W.testBit 7
                · have HF : Hid (Q ++ restP W 3 = Q ++ restP W 2) := by
                    show _ = _
                    simp only [restP, restL, ht, cond_false, List.append_nil, List.nil_append]
                  have h0 : bits .and .i64 (W : Int) 128 = 0 := by
                    have := HW7.out
                    rw [ht] at this
                    exact this
                  go_wp2_with (first
                    | ((with_reducible refine wpl_isDst 61 ?_); refine S.ld 3 _ rfl g55 2 rfl 0 (Cel.any (ic [0, 14, 15])) rfl (.int .i64 15) rfl _ Tryz.underlying3 rfl rfl ?_)
                    | ((with_reducible refine wpl_isDst 65 ?_); refine wpl_dst 65 rfl (.int .i64 0) (by go_simp; exact h0) rfl ?_)
                    )
                  go_roundw
                  case rel => exact ⟨3, by decide, rfl, by show SH (rowZ _ _ _ (ic (Q ++ restP W 3))) _ _ _; rw [HF.out]; exact S⟩
                  case measure =>
                    simp only [intOf]
                    decide
                · have HF : Hid (Q ++ (restP W 2 ++ [15]) = Q ++ restP W 3) := by
                    show _ = _
                    simp only [restP, restL, ht, cond_true, List.append_assoc, List.nil_append]
                  have h0 : bits .and .i64 (W : Int) 128 = 128 := by
                    have := HW7.out
                    rw [ht] at this
                    exact this
                  go_wp2_with (first
                    | ((with_reducible refine wpl_isDst 61 ?_); refine S.ld 3 _ rfl g55 2 rfl 0 (Cel.any (ic [0, 14, 15])) rfl (.int .i64 15) rfl _ Tryz.underlying3 rfl rfl ?_)
                    | ((with_reducible refine wpl_isDst 65 ?_); refine wpl_dst 65 rfl (.int .i64 128) (by go_simp; exact h0) rfl ?_)
                    | ((with_reducible refine wpl_isDst 69 ?_); refine S.sliceQ rfl 51 1 _ rfl (ic [15]) 3 (by kernel_rfl) ?_; clear S; intro g69 w69 S)
                    | ((with_reducible refine wpl_isDst 70 ?_); refine S.appendG rfl 51 _ _ rfl Tryz.underlying51 (.int .i64 0) 8 infoInt rfl rfl g69 1 1 rfl 0 (ic [15]) rfl rfl (ic_one _) (by decide) (by rw [ic_length]; have := HN.out; omega) (by rw [ic_length]; have := HN.out; omega) ?_; clear S; intro g70 c70 w70 S)
                    )
                  go_roundw
                  case rel =>
                    have S1 := S.fewer 1
                    rw [← ic_append, List.append_assoc, HF.out] at S1
                    exact ⟨3, by decide, rfl, S1⟩
                  case measure =>
                    simp only [intOf]
                    decide
            · have hj3 : j = 3 := by omega
              subst hj3
              have HE : Hid (Q ++ restP W 3 = regsL d n m a l W) := by
                show _ = _
                rw [HQQ.out, HPP.out]
                simp only [regsL, restP, fourP, List.append_assoc]
              rw [HE.out] at S
              have OUT := S.rowOut
              rw [ic_length] at OUT
              have OUT' : Hid (RowPost w (regsL d n m a l W) (.returned u5) wr) := ⟨u5, rfl, OUT.1, OUT.2⟩
              clear OUT S
              go_wp2
              go_ret
              exact OUT'.out
end Go.Proofs.YtplhblhopaheeaaGreatDoor
namespace Go.Proofs.YtplhblhopaheeaaGreatDoor
open Go.ChangeShapes Go.WideShapes Go.ChangeAt Go.RowKit Go.Lib Go.Sort
set_option linter.unusedVariables false
set_option linter.unusedSimpArgs false

theorem grown_sort (w : World) (n blk off : Nat) (d : Array Int) (os : Array Obj) : w.grownBy (grow (putRow (Value.int .i64) (Sort.ahead w n) blk off d) os) (some blk) := by
  refine ⟨rfl, rfl, rfl, ?_, fun k hk hne => ?_⟩
  · rw [size_grow, size_putRow]
    show w.heap.size ≤ w.heap.size + os.size
    omega
  · rw [heap_grow_old _ _ (by rw [size_putRow]; exact hk)]
    unfold putRow mapBlock
    have hb : blk ≠ k := fun e => hne (by rw [e])
    simp [Sort.ahead, Array.getElem?_modify, hb]
theorem grown_put (w : World) (n blk off : Nat) (d : Array Int) : w.grownBy (putRow (Value.int .i64) (Sort.ahead w n) blk off d) (some blk) := by
  have := grown_sort w n blk off d #[]
  rwa [grow_empty] at this
/-- The first so many. -/
theorem holds_prefix {w : World} {blk off : Nat} {a b : List Int} (h : Holds (Value.int .i64) w blk off (a ++ b).toArray) : Holds (Value.int .i64) w blk off a.toArray := fun j hj => by
  have hj' : j < a.length := by simpa using hj
  have h2 := h j (by simp; omega)
  rw [getElem!_pos (a ++ b).toArray j (by simp; omega)] at h2
  rw [getElem!_pos a.toArray j hj]
  simpa [List.getElem_append_left hj'] using h2
theorem holds_put {w : World} {n blk off : Nat} {d0 : Array Int} {a b : List Int} (h : Holds (Value.int .i64) w blk off d0) (hs : (a ++ b).length = d0.size) : Holds (Value.int .i64) (putRow (Value.int .i64) (Sort.ahead w n) blk off (a ++ b).toArray) blk off a.toArray :=
  holds_prefix (holds_putRow (Value.int .i64) (Sort.ahead w n) blk off d0 (a ++ b).toArray (holds_ahead _ w n blk off d0 h) (by simpa using hs))
def IL (w : World) (v : Value) (ys : List Int) : Prop := ∃ A c, v = .slice A ys.length c ∧ ∀ j x, ys[j]? = some x → ∃ b o, A = some ⟨b, o, none⟩ ∧ w.cell? ⟨b, o + j, none⟩ = some (.int .i64 x)
theorem il_holds {w : World} {blk c : Nat} {ys : List Int} (h : Holds (Value.int .i64) w blk 0 ys.toArray) : IL w (.slice (some ⟨blk, 0, none⟩) ys.length c) ys :=
  ⟨_, c, rfl, fun j x hx => by
    obtain ⟨hj, rfl⟩ := List.getElem?_eq_some_iff.1 hx
    have h1 := (h j (by simpa using hj)).1
    rw [getElem!_pos ys.toArray j (by simpa using hj)] at h1
    exact ⟨blk, 0, rfl, by simpa using h1⟩⟩
theorem il_nil (w : World) (A : Option Addr) (c : Nat) : IL w (.slice A 0 c) [] := ⟨A, c, rfl, fun j x hx => by simp at hx⟩
theorem IL.below {w w' : World} {v : Value} {ys : List Int} (h : IL w v ys) (hb : Below w.heap.size w w') : IL w' v ys := by
  obtain ⟨A, c, h1, h2⟩ := h
  refine ⟨A, c, h1, fun j x hx => ?_⟩
  obtain ⟨b, o, e1, e2⟩ := h2 j x hx
  exact ⟨b, o, e1, (hb.cell (by exact World.block_lt_of_cell? w _ e2)).trans e2⟩
theorem own_holds {w : World} {base g c : Nat} {xs : List Int} (h : w.ownsRow base 3 1 (.slice (some ⟨g, 0, none⟩) xs.length c) xs.length (ic xs)) : Holds (Value.int .i64) w g 0 xs.toArray ∧ g < w.heap.size ∧ xs.length ≤ c ∧ base ≤ g := by
  obtain ⟨_, h2⟩ := h
  rcases h2 with ⟨h2, _⟩ | ⟨g', cap, cur, h2, h3, h4, h5, h6, h7, h8⟩
  · cases h2
  · simp only [Value.slice.injEq, Option.some.injEq, Addr.mk.injEq, and_true, true_and] at h2
    obtain ⟨rfl, rfl⟩ := h2
    refine ⟨fun j hj => ?_, (Array.getElem?_eq_some_iff.1 h4).1, h5, h3⟩
    have hj' : j < xs.length := by simpa using hj
    constructor
    · rw [Nat.zero_add, cell_of_row w g j _ _ _ h4, getElem!_pos xs.toArray j hj]
      have e : cur.toList[j]? = (ic xs)[j]? := by
        rw [← h8, List.getElem?_take_of_lt (by omega)]
      rw [← Array.getElem?_toList, e]
      simp [ic, hj']
    · rw [Nat.zero_add]
      exact frozen_of_row w g j _ _ h4
def delB (last : Nat) (x : Int) : Bool := decide (x < 0) || decide ((last : Int) < x)
set_option maxHeartbeats 2000000 in
theorem clos_c (last : Nat) (x : Int) (B : Nat) (W : World) (hc : W.cell? ⟨B, 0, none⟩ = some (.int .i64 (last : Int))) : FnGives Tryz.prog 103 #[.pointer (some ⟨B, 0, none⟩)] #[.int .i64 x] (.bool (delB last x)) W := by
  show Calls Tryz.prog 103 #[.int .i64 x, .pointer (some ⟨B, 0, none⟩)] W _
  unfold delB
  by_cases h : x < 0
  · go_enter Tryz.func103, Tryz.ntmps103
    go_wp2
    go_ret
    exact ⟨by simp [h], 0, rfl⟩
  · by_cases h2 : (last : Int) < x
    · go_enter Tryz.func103, Tryz.ntmps103
      go_wp2
      go_ret
      exact ⟨by simp [h, h2], 0, rfl⟩
    · go_enter Tryz.func103, Tryz.ntmps103
      go_wp2
      go_ret
      exact ⟨by simp [h, h2], 0, rfl⟩
theorem ltC (x y : Int) : ltOf Lib.compareInt x y = decide (x < y) := by
  unfold ltOf Lib.compareInt
  by_cases h1 : x < y
  · simp [h1]
  · by_cases h2 : y < x <;> simp [h1, h2]
theorem swoC : SWO (ltOf Lib.compareInt) where
  irrefl x := by rw [ltC]; simp
  trans x y z h1 h2 := by rw [ltC] at *; simp at *; omega
  ntrans x y z h1 h2 := by rw [ltC] at *; simp at *; omega
theorem totC (x y : Int) (h1 : ltOf Lib.compareInt x y = false) (h2 : ltOf Lib.compareInt y x = false) : x = y := by rw [ltC] at *; simp at *; omega
theorem leC : (fun x y : Int => !ltOf Lib.compareInt y x) = fun x y => decide (x ≤ y) := by
  funext x y
  rw [ltC]
  by_cases h : x ≤ y
  · have h' : ¬ y < x := by omega
    simp [h, h']
  · have h' : y < x := by omega
    simp [h, h']
theorem zeroI : ∀ w, (zeroValue 3).run Tryz.prog w = .ok (.int .i64 0) w := Tryz.zeroValue3
/-- DeleteFunc, at a row of the call's own. -/
theorem del_c (last : Nat) (xs : List Int) (g c B : Nat) (w : World) (hH : Holds (Value.int .i64) w g 0 xs.toArray) (hc : xs.length ≤ c) (hn : xs.length < 1000) (hB : B < w.heap.size) (hne : B ≠ g) (hcell : w.cell? ⟨B, 0, none⟩ = some (.int .i64 (last : Int))) :
    Calls Tryz.prog 102 #[.slice (some ⟨g, 0, none⟩) xs.length c, .func (.func 103) #[] #[.pointer (some ⟨B, 0, none⟩)]] w fun e w' => e = .returned (.slice (some ⟨g, 0, none⟩) (xs.filter fun x => !delB last x).length c) ∧ Holds (Value.int .i64) w' g 0 (xs.filter fun x => !delB last x).toArray ∧ w.grownBy w' (some g) := by
  have eg : ∀ args w, (callFunc 103 args).run Tryz.prog w = .ok (.enter 103 args) w := enters_of Tryz.func103 (by kernel_rfl) rfl
  have hp : PredAt Tryz.prog 103 #[.pointer (some ⟨B, 0, none⟩)] (Value.int .i64) (delB last) w := fun W x hb => clos_c last x B W ((hb.cell (p := ⟨B, 0, none⟩) hB).trans hcell)
  have ho : PredOver Tryz.prog 103 #[.pointer (some ⟨B, 0, none⟩)] (Value.int .i64) (delB last) g 0 xs.toArray.size w := fun n os dk x _ => clos_c last x B _ (by
    unfold sortWorld
    rw [cell?_grow _ _ _ (by show B < (putRow _ _ _ _ _).heap.size; rw [size_putRow]; exact hB), cell?_putRow_other _ _ g 0 _ _ (Or.inl hne)]
    exact hcell)
  have h := Tryz.slices_DeleteFunc (Value.int .i64) (fun _ => rfl) (delB last) 103 #[.pointer (some ⟨B, 0, none⟩)] eg 0 zeroI g 0 c xs.toArray w hp ho hH (by simp; omega) (by simpa using hc)
  simp only [List.size_toArray] at h
  refine h.mono fun e w' ⟨he, q, hw⟩ => ⟨he, ?_, ?_⟩
  · rw [hw]
    refine holds_put hH ?_
    have := List.length_filter_le (fun x => !delB last x) xs
    simp
    omega
  · rw [hw]
    exact grown_put w q g 0 _
theorem sort_c (xs : List Int) (g c : Nat) (w : World) (hH : Holds (Value.int .i64) w g 0 xs.toArray) (hn : xs.length < 1000) (hg : g < w.heap.size) :
    Calls Tryz.prog 104 #[.slice (some ⟨g, 0, none⟩) xs.length c, .func (.func 105) #[] #[]] w fun e w' => e = .returned (.tuple #[]) ∧ Holds (Value.int .i64) w' g 0 (xs.mergeSort fun x y => decide (x ≤ y)).toArray ∧ w.grownBy w' (some g) := by
  have eg : ∀ args w, (callFunc 105 args).run Tryz.prog w = .ok (.enter 105 args) w := enters_of Tryz.func105 (by kernel_rfl) rfl
  have hc : CmpReads Tryz.prog 105 #[] (Value.int .i64) Lib.compareInt g 0 xs.toArray.size w := fun _ _ _ _ x y => (Tryz.cmp_Compare_int x y _).mono fun _ _ ⟨he, hw⟩ => ⟨he, 0, hw⟩
  have h := Tryz.slices_SortFunc_total (Value.int .i64) (fun _ => rfl) Lib.compareInt swoC 105 #[] g 0 c xs.toArray w eg hc.lays hH hg (by simp; omega) totC
  rw [leC] at h
  simp only [List.size_toArray] at h
  refine h.mono fun e w' ⟨he, n, os, hw⟩ => ⟨he, ?_, ?_⟩
  · rw [hw]
    have hs : (xs.mergeSort fun x y => decide (x ≤ y)).toArray.size = xs.toArray.size := by simp
    exact holds_grow _ _ os g 0 _ (by rw [size_putRow]; exact hg) (holds_putRow (Value.int .i64) (Sort.ahead w n) g 0 xs.toArray _ (holds_ahead _ w n g 0 _ hH) hs)
  · rw [hw]
    exact grown_sort w n g 0 _ os
theorem compact_c (xs : List Int) (g c : Nat) (w : World) (hH : Holds (Value.int .i64) w g 0 xs.toArray) (hn : xs.length < 1000) (hc : xs.length ≤ c) :
    Calls Tryz.prog 106 #[.slice (some ⟨g, 0, none⟩) xs.length c] w fun e w' => e = .returned (.slice (some ⟨g, 0, none⟩) (compactUpTo xs.toArray xs.length).length c) ∧ Holds (Value.int .i64) w' g 0 (compactUpTo xs.toArray xs.length).toArray ∧ w.grownBy w' (some g) := by
  refine (Tryz.slices_Compact_int g 0 c xs w hH (by omega) hc).mono fun e w' ⟨he, q, hw⟩ => ⟨he, ?_, ?_⟩
  · rw [hw]
    refine holds_put hH ?_
    have h2 : (Lib.compact xs).length ≤ xs.length := by
      unfold Lib.compact compactUpTo
      rw [List.length_map]
      exact Nat.le_trans (List.length_filter_le _ _) (by simp)
    simp
    omega
  · rw [hw]
    exact grown_put w q g 0 _
set_option maxHeartbeats 4000000 in
set_option maxRecDepth 100000 in
theorem rising_c (last : Nat) (xs : List Int) (base : Nat) (v : Value) (w : World) (hv : w.ownsRow base 3 1 v xs.length (ic xs)) (hn : xs.length < 1000) : Calls Tryz.prog 60 #[v, .int .i64 (last : Int)] w fun e w' => ∃ u, e = .returned u ∧ IL w' u (riseL last xs) ∧ w.grownBy w' v.ownBlock := by
  have hv' := hv
  rcases hv.2 with ⟨h2, h3⟩ | ⟨g, cap, cur, h2, _⟩
  · subst h2
    have hx : xs = [] := List.eq_nil_of_length_eq_zero h3
    subst hx
    have hr : riseL last [] = [] := by
      have := rise_eq last []
      rw [← this]
      simp [compactUpTo]
    rw [hr]
    have CD : Hid (∀ (B : Nat) (w : World), Calls Tryz.prog 102 #[.slice none 0 0, .func (.func 103) #[] #[.pointer (some ⟨B, 0, none⟩)]] w fun e w' => e = .returned (.slice none 0 0) ∧ w' = w) := fun B w => by
      have CI : Hid (∀ w, Calls Tryz.prog 127 #[.slice none 0 0, .func (.func 103) #[] #[.pointer (some ⟨B, 0, none⟩)]] w fun e w' => e = .returned (.int .i64 (-1)) ∧ w' = w) := fun w => Tryz.slices_IndexFunc_empty (α := Int) none 0 _ w
      go_enter Tryz.func102, Tryz.ntmps102
      go_wp2_with (go_at_call 127; refine (CI.out _).mono ?_; rintro e wf ⟨rfl, rfl⟩)
      go_ret
      exact ⟨rfl, rfl⟩
    have CS : Hid (∀ w, Calls Tryz.prog 104 #[.slice none 0 0, .func (.func 105) #[] #[]] w fun e w' => e = .returned (.tuple #[]) ∧ w' = w) := fun w => Tryz.slices_SortFunc_none (α := Int) none 0 _ w
    have CC : Hid (∀ w, Calls Tryz.prog 106 #[.slice none 0 0] w fun e w' => e = .returned (.slice none 0 0) ∧ w' = w) := fun w => Tryz.slices_Compact_int_empty none 0 w
    clear hv hv' h3 hr
    go_enter Tryz.func60, Tryz.ntmps60
    go_wp2_with (first
      | (go_at_call 102; refine (CD.out _ _).mono ?_; rintro e wf ⟨rfl, rfl⟩)
      | (go_at_call 104; refine (CS.out _).mono ?_; rintro e wf ⟨rfl, rfl⟩)
      | (go_at_call 106; refine (CC.out _).mono ?_; rintro e wf ⟨rfl, rfl⟩))
    go_ret
    exact ⟨_, rfl, il_nil _ none 0, World.grownBy_alloc w _ none⟩
  · subst h2
    obtain ⟨hH, hg, hc, _⟩ := own_holds hv
    have hA : Holds (Value.int .i64) (w.alloc (.cells #[.int .i64 (last : Int)] 3)) g 0 xs.toArray := by
      have e : w.alloc (.cells #[.int .i64 (last : Int)] 3) = grow w #[.cells #[.int .i64 (last : Int)] 3] := alloc_eq_grow w _
      rw [e]
      exact holds_grow _ _ _ g 0 _ hg hH
    have hcell : (w.alloc (.cells #[.int .i64 (last : Int)] 3)).cell? ⟨w.heap.size, 0, none⟩ = some (.int .i64 (last : Int)) := by simp
    have hsz : (w.alloc (.cells #[.int .i64 (last : Int)] 3)).heap.size = w.heap.size + 1 := by simp
    have HG : Hid (w.grownBy (w.alloc (.cells #[.int .i64 (last : Int)] 3)) (some g)) := World.grownBy_alloc w _ _
    have CD : Hid (Calls Tryz.prog 102 #[.slice (some ⟨g, 0, none⟩) xs.length cap, .func (.func 103) #[] #[.pointer (some ⟨w.heap.size, 0, none⟩)]] (w.alloc (.cells #[.int .i64 (last : Int)] 3)) fun e w' => e = .returned (.slice (some ⟨g, 0, none⟩) (xs.filter fun x => !delB last x).length cap) ∧ Holds (Value.int .i64) w' g 0 (xs.filter fun x => !delB last x).toArray ∧ (w.alloc (.cells #[.int .i64 (last : Int)] 3)).grownBy w' (some g)) :=
      del_c last xs g cap w.heap.size _ hA hc hn (by rw [hsz]; omega) (by omega) hcell
    have hl2 := List.length_filter_le (fun x => !delB last x) xs
    have HRE : Hid (compactUpTo ((xs.filter fun x => !delB last x).mergeSort fun x y => decide (x ≤ y)).toArray (xs.filter fun x => !delB last x).length = riseL last xs) := rise_eq last xs
    have hml : ((xs.filter fun x => !delB last x).mergeSort fun x y => decide (x ≤ y)).length = (xs.filter fun x => !delB last x).length := by simp
    generalize hys : (xs.filter fun x => !delB last x) = ys at *
    clear hys
    have CS : Hid (∀ w1, w.grownBy w1 (some g) → Holds (Value.int .i64) w1 g 0 ys.toArray → Calls Tryz.prog 104 #[.slice (some ⟨g, 0, none⟩) ys.length cap, .func (.func 105) #[] #[]] w1 fun e w' => e = .returned (.tuple #[]) ∧ Holds (Value.int .i64) w' g 0 (ys.mergeSort fun x y => decide (x ≤ y)).toArray ∧ w1.grownBy w' (some g)) := fun w1 hgw hh => sort_c ys g cap w1 hh (by omega) (Nat.lt_of_lt_of_le hg hgw.size)
    have CC : Hid (∀ w1, Holds (Value.int .i64) w1 g 0 (ys.mergeSort fun x y => decide (x ≤ y)).toArray → Calls Tryz.prog 106 #[.slice (some ⟨g, 0, none⟩) ys.length cap] w1 fun e w' => e = .returned (.slice (some ⟨g, 0, none⟩) (riseL last xs).length cap) ∧ Holds (Value.int .i64) w' g 0 (riseL last xs).toArray ∧ w1.grownBy w' (some g)) := fun w1 hh => by
      have h := compact_c (ys.mergeSort fun x y => decide (x ≤ y)) g cap w1 hh (by omega) (by omega)
      rw [hml, HRE.out] at h
      exact h
    clear hv hv' hH hA hcell hsz hl2 hml hc hn HRE
    generalize riseL last xs = zs at *
    go_enter Tryz.func60, Tryz.ntmps60
    go_wp2_with (first
      | (go_at_call 102; refine CD.out.mono ?_; rintro e w2 ⟨rfl, hh2, hg2⟩; have H2 : Hid (Holds (Value.int .i64) w2 g 0 ys.toArray) := hh2; have G2 : Hid (w.grownBy w2 (some g)) := HG.out.trans hg2; clear hh2 hg2)
      | (go_at_call 104; refine (CS.out _ G2.out H2.out).mono ?_; rintro e w3 ⟨rfl, hh3, hg3⟩; have H3 : Hid (Holds (Value.int .i64) w3 g 0 (ys.mergeSort fun x y => decide (x ≤ y)).toArray) := hh3; have G3 : Hid (w.grownBy w3 (some g)) := G2.out.trans hg3; clear hh3 hg3)
      | (go_at_call 106; refine (CC.out _ H3.out).mono ?_; rintro e w4 ⟨rfl, hh4, hg4⟩; have H4 : Hid (Holds (Value.int .i64) w4 g 0 zs.toArray) := hh4; have G4 : Hid (w.grownBy w4 (some g)) := G3.out.trans hg4; clear hh4 hg4))
    go_ret
    exact ⟨_, rfl, il_holds H4.out, G4.out⟩
end Go.Proofs.YtplhblhopaheeaaGreatDoor
