/- Rows of one-cell elements of the call's own, put together by append, beside its local blocks; copy between blocks; what a drawn region may use. -/
import Derived.Test.YtbbkiiabjhgpkaaDoorShP
import Derived.Test.YtbbkiiabjhgpkaaDoorUpt
import Derived.Laws.StructEq
import Derived.Laws.BytesString
import Derived.Laws.CopyOwn
import Derived.Deep.Cut
namespace Go.Proofs.YtbbkiiabjhgpkaaDoor
open Go.ChangeShapes Go.WideShapes Go.ChangeAt Go.RowKit
set_option linter.unusedVariables false
set_option linter.unusedSimpArgs false

section
variable {P : Program} {M : Zn} {w0 w : World} {L : List (Nat × Cel)} {ops : Array Oper} {rest : List Oper} {o : Oper} {a : Act} {Q : Exit → Act → World → Prop}
theorem SH.boxA (S : SH M w0 w L) (hgd : o.guard = none) (ty : TypeId) (x : Operand) (ho : o.op = .box ty x) (cs : List Value) (hx : a.eval x = .agg cs.toArray)
    (h : ∀ b w1, SH M w0 w1 ((b, Cel.any cs) :: L) → wpList P ops Q rest (a.put o.dst (.pointer (some ⟨b, 0, none⟩))) w1) : wpList P ops Q (o :: rest) a w :=
  S.box hgd ty x ho (Cel.any cs) hx h
theorem SH.storeA (S : SH M w0 w L) (hgd : o.guard = none) (ty : TypeId) (x y : Operand) (ho : o.op = .store ty x y) (b : Nat) (cs : List Value) (hx : a.eval x = .pointer (some ⟨b, 0, none⟩)) (hy : a.eval y = .agg cs.toArray) (i : Nat) (c : Cel) (hL : L[i]? = some (b, c))
    (hl : c.cells.length = cs.length) (h1 : cs.all (fun v => v.oneCell') = true) (hi : (P.info? ty).map (·.size) = some (Cel.any cs).cells.length)
    (h : ∀ w1, SH M w0 w1 (L.set i (b, Cel.any cs)) → wpList P ops Q rest (a.put o.dst undef) w1) : wpList P ops Q (o :: rest) a w :=
  S.storeAll hgd ty x y ho b (Cel.any cs) hx hy i c hL hl (fun v hv => List.all_eq_true.1 h1 v hv) hi h
theorem wpl_isStoreAt (k : Nat) {d : Option Nat} {ty : TypeId} {y : Operand} {t : TypeId} {p : String} {af : Array Edge} {g : Option (Nat × Bool)} (h : wpList P ops Q ({ dst := d, op := Op.store ty (Operand.tmp k) y, type := t, pos := p, after := af, guard := g } :: rest) a w) : wpList P ops Q ({ dst := d, op := Op.store ty (Operand.tmp k) y, type := t, pos := p, after := af, guard := g } :: rest) a w := h
theorem SH.results2 (S : SH M w0 w L) {fn : Func} {p q : Tmp} {ty : TypeId} (hfn : fn.results = #[.cell p ty, .tmp q]) (tmps : Array Value) (b : Nat) (hp : tmps.getD p undef = .pointer (some ⟨b, 0, none⟩)) (i : Nat) (c : Cel) (hL : L[i]? = some (b, c))
    (d : TypeDesc) (hu : P.underlying ty = some d) (hd : d.isRow = true) (hi : (P.info? ty).map (·.size) = some c.cells.length) : (Go.results fn tmps).run P w = .ok (.tuple #[c.val, tmps.getD q undef]) w := by
  obtain ⟨⟨t, hb⟩, _⟩ := S.at hL
  have hp' : tmps[p]?.getD undef = .pointer (some ⟨b, 0, none⟩) := by simpa using hp
  simp [Go.results, hfn, hp', asAddr, Cel.val, run_loadVar_row w b t ty _ _ d hb hu (by cases d <;> simp_all) (by simpa using hi)]
theorem SH.sliceQ (S : SH M w0 w L) (hgd : o.guard = none) (ty n : Nat) (xs : Array (Nat × Operand)) (ho : o.op = .buildSlice ty n xs) (cs : List Value) (e : TypeId)
    (hr : (execOp a.eval o).run P w = .ok (.value (.slice (some ⟨w.heap.size, 0, none⟩) n n)) (w.alloc (.cells cs.toArray e)))
    (h : ∀ g w1, SH M w0 w1 ((g, Cel.any cs) :: L) → wpList P ops Q rest (a.put o.dst (.slice (some ⟨g, 0, none⟩) n n)) w1) : wpList P ops Q (o :: rest) a w :=
  wpList_plain hgd fun K hK => by
    unfold Oper.wp
    rw [hr]
    exact hK _ _ (h _ _ (S.new (Cel.any cs) e))
theorem SH.ldMid (S : SH M w0 w L) (ty : TypeId) (x : Operand) (ho : o.op = .load ty x) (b j : Nat) (hx : a.eval x = .pointer (some ⟨b, j, none⟩)) (i : Nat) (c : Cel) (hL : L[i]? = some (b, c))
    (cs : List Value) (hcs : ∀ t u, cs[t]? = some u → c.cells[j + t]? = some u) (d : TypeDesc) (hu : P.underlying ty = some d) (hd : d.isRow = true) (hi : (P.info? ty).map (·.size) = some cs.length) (hw : Region.wanted o (yielded ops a.tmps) = true)
    (h : wpList P ops Q rest (a.put o.dst (.agg cs.toArray)) w) : wpList P ops Q (o :: rest) a w :=
  wpList_step fun K hK => by
    rw [if_pos hw]
    exact wp_load_mid ty x ho b j hx cs d (fun t u hu' => ((S.at hL).1.cell (j + t)).trans (hcs t u hu')) hu hd hi (hK _ _ h)
end
/-! ### What a drawn region may use -/
section
variable {P : Program} {M : Zn} {w0 : World} {L : List (Nat × Cel)} {ops : Array Oper} {o : Oper} {a : Act}
theorem y_load1 (hw : Region.wanted o (yielded ops a.tmps) = true) (ty : TypeId) (x : Operand) (ho : o.op = .load ty x) (b j : Nat) (hx : a.eval x = .pointer (some ⟨b, j, none⟩)) (i : Nat) (c : Cel) (hL : L[i]? = some (b, c))
    (v : Value) (hv : c.cells[j]? = some v) (d : TypeDesc) (hu : P.underlying ty = some d) (hd : d.isRow = false) : YieldsIf P ops (fun w' => SH M w0 w' L) o v a :=
  .inl ⟨hw, fun w S => by
    unfold execOp
    simp only [ho, hx, Sem.run_bind, run_load1 w b j ty v d (((S.at hL).1.cell j).trans hv) hu hd, Result.andThen_ok, Sem.run_pure]⟩
theorem y_loadAll (hw : Region.wanted o (yielded ops a.tmps) = true) (ty : TypeId) (x : Operand) (ho : o.op = .load ty x) (b : Nat) (hx : a.eval x = .pointer (some ⟨b, 0, none⟩)) (i : Nat) (c : Cel) (hL : L[i]? = some (b, c))
    (d : TypeDesc) (hu : P.underlying ty = some d) (hd : d.isRow = true) (hi : (P.info? ty).map (·.size) = some c.cells.length) : YieldsIf P ops (fun w' => SH M w0 w' L) o c.val a :=
  yieldsIf_load_mid hw ty x ho b 0 hx c.cells d (fun w S => (S.at hL).1.range) hu hd hi
theorem y_loadMid (hw : Region.wanted o (yielded ops a.tmps) = true) (ty : TypeId) (x : Operand) (ho : o.op = .load ty x) (b j : Nat) (hx : a.eval x = .pointer (some ⟨b, j, none⟩)) (i : Nat) (c : Cel) (hL : L[i]? = some (b, c))
    (cs : List Value) (hcs : ∀ t u, cs[t]? = some u → c.cells[j + t]? = some u) (d : TypeDesc) (hu : P.underlying ty = some d) (hd : d.isRow = true) (hi : (P.info? ty).map (·.size) = some cs.length) : YieldsIf P ops (fun w' => SH M w0 w' L) o (.agg cs.toArray) a :=
  yieldsIf_load_mid hw ty x ho b j hx cs d (fun w S t u hu' => ((S.at hL).1.cell (j + t)).trans (hcs t u hu')) hu hd hi
theorem y_val {S : World → Prop} (hw : Region.wanted o (yielded ops a.tmps) = true) (v : Value) (hr : ∀ w, (execOp a.eval o).run P w = .ok (.value v) w) : YieldsIf P ops S o v a := .inl ⟨hw, fun w _ => hr w⟩
theorem y_valS {S : World → Prop} (hw : Region.wanted o (yielded ops a.tmps) = true) (v : Value) (hr : ∀ w, S w → (execOp a.eval o).run P w = .ok (.value v) w) : YieldsIf P ops S o v a := .inl ⟨hw, fun w h => hr w h⟩
theorem y_build3 {S : World → Prop} (hw : Region.wanted o (yielded ops a.tmps) = true) (ty i j k : Nat) (x y z : Operand) (ho : o.op = .build ty #[(i, x), (j, y), (k, z)]) (vx vy vz v : Value) (hx : a.eval x = vx) (hy : a.eval y = vy) (hz : a.eval z = vz)
    (hr : ∀ w, (Instr.build ty #[(i, vx), (j, vy), (k, vz)]).run P w = .ok v w) : YieldsIf P ops S o v a :=
  .inl ⟨hw, fun w _ => by
    unfold execOp
    simp only [ho, List.map_toArray, List.map_cons, List.map_nil, hx, hy, hz, Sem.run_bind, hr, Result.andThen_ok, Sem.run_pure]⟩
theorem y_eqS {S : World → Prop} (hw : Region.wanted o (yielded ops a.tmps) = true) (op : BinOp) (ty : TypeId) (x y : Operand) (t : TypeId) (ho : o.op = .binOp op ty x y t) (xs ys : List Value) (hx : a.eval x = .agg xs.toArray) (hy : a.eval y = .agg ys.toArray) (hm : P.eqGuardType P.depth ty = false) (r : Bool)
    (hr : ∀ w, (binOp op ty (.agg xs.toArray) (.agg ys.toArray)).run P w = .ok (.bool r) w) : YieldsIf P ops S o (.bool r) a :=
  .inl ⟨hw, fun w _ => by
    unfold execOp
    simp only [ho, hx, hy, Sem.run_bind, run_eqGuard_agg w op _ x y _ _ hm, Result.andThen_ok, hr, Sem.run_pure]⟩
end

/-! ### Rows put together by append -/
def rowZ (base e : Nat) (v : Value) (xs : List Value) : Zn := ⟨fun k => v.ownBlock = some k, fun w => w.ownsRow base e 1 v xs.length xs ∧ base ≤ w.heap.size, 0, 0⟩
theorem ownsRow_same {w w' : World} {base e : Nat} {v : Value} {n : Nat} {xs : List Value} (h : w.ownsRow base e 1 v n xs) (hb : ∀ g, v.ownBlock = some g → w'.heap[g]? = w.heap[g]?) : w'.ownsRow base e 1 v n xs := by
  refine ⟨h.1, ?_⟩
  rcases h.2 with h2 | ⟨g, cap, cur, h2, h3⟩
  · exact .inl h2
  · refine .inr ⟨g, cap, cur, h2, ?_⟩
    rw [hb g (by rw [h2]; rfl)]
    exact h3
theorem rowZ_ok (base e : Nat) (v : Value) (xs : List Value) : (rowZ base e v xs).ok :=
  ⟨fun w w' h hs hk => ⟨ownsRow_same h.1 fun g hg => hk g hg (World.ownsRow.lt h.1 g hg).2, Nat.le_trans h.2 hs⟩, fun k h1 h2 => by simp only [rowZ] at h2; omega⟩
section
variable {P : Program} {w0 w w1 : World} {L : List (Nat × Cel)} {base e : Nat} {v : Value} {xs : List Value} {ops : Array Oper} {rest : List Oper} {o : Oper} {a : Act} {Q : Exit → Act → World → Prop} {K : Act → World → Prop}
theorem SH.dropR (S : SH (rowZ base e v xs) w0 w L) : SH noZ w0 w L :=
  S.turn noZ_ok trivial (fun k hk => hk.elim) S.mid (fun _ _ => rfl) (fun p hp h => h)
theorem SH.rowNil (S : SH noZ w0 w L) (e : Nat) : SH (rowZ w0.heap.size e (.slice none 0 0) []) w0 w L :=
  S.turn (rowZ_ok _ _ _ _) ⟨⟨rfl, .inl ⟨rfl, rfl⟩⟩, S.low.size⟩ (fun k hk => by simp [rowZ, Value.ownBlock] at hk) S.mid (fun _ _ => rfl) (fun p hp hz => by simp [rowZ, Value.ownBlock] at hz)
theorem SH.wpAppendG' (S : SH (rowZ w0.heap.size e v xs) w0 w L) (ty : TypeId) (s x : Operand) (ho : o.op = .call { callee := .builtin .append, args := #[s, x], argTypes := #[ty, ty] })
    (hu : P.underlying ty = some (.slice e)) (z : Value) (bytes : Nat) (hinf : (P.info? e).map (fun i => (i.zero, i.size, i.bytes)) = some (some z, 1, bytes)) (hzs : z.cells.size = 1)
    (hs : a.eval s = v) (g m c : Nat) (hx : a.eval x = .slice (some ⟨g, 0, none⟩) m c) (i : Nat) (news : List Value) (hL : L[i]? = some (g, Cel.any news)) (hm : news.length = m) (h1 : ∀ u ∈ news, u.oneCell' = true) (h0 : 0 < m) (hb : (xs.length + m) * bytes ≤ 1000000) (h9 : xs.length + m ≤ 100000)
    (h : ∀ g' cap w1, SH (rowZ w0.heap.size e (.slice (some ⟨g', 0, none⟩) (xs.length + m) cap) (xs ++ news)) w0 w1 L → K (a.put o.dst (.slice (some ⟨g', 0, none⟩) (xs.length + m) cap)) w1) : o.wp P a w K Q := by
  obtain ⟨i0, hi, hz, hsz, hby⟩ : ∃ i0, P.info? e = some i0 ∧ i0.zero = some z ∧ i0.size = 1 ∧ i0.bytes = bytes := by
    cases hq : P.info? e with
    | none => rw [hq] at hinf; cases hinf
    | some i0 =>
      rw [hq] at hinf
      simp only [Option.map_some, Option.some.injEq, Prod.mk.injEq] at hinf
      exact ⟨i0, rfl, hinf.1, hinf.2.1, hinf.2.2⟩
  subst hm
  have hbk := (S.at hL).1
  refine wp_append_lies w s x ty ho w0.heap.size e i0 z 1 bytes hu hi hz hsz hby hzs (by decide) v xs.length xs hs S.inv.1 ⟨g, 0, none⟩ news.length c news hx (by omega) (fun j u hu => ?_) h1 h0 (by simp only [maxLen]; omega) (by omega) S.inv.2 _ rfl (fun g' cap w1 hown hg hat hlt => ?_)
  · have hadd : (⟨g, 0, none⟩ : Addr).add j = ⟨g, j, none⟩ := by unfold Addr.add; split <;> simp_all
    rw [hadd, hbk.cell]
    exact hu
  · refine h g' cap w1 ?_
    have hv : ∀ k, v.ownBlock = some k → w0.heap.size ≤ k := fun k hk => (World.ownsRow.lt S.inv.1 k hk).1
    have hmid : Mid 0 0 w0 w1 := ⟨hg.os.trans S.mid.os, hg.tape.trans S.mid.tape, hg.output.trans S.mid.output, Nat.le_trans S.mid.size hg.size, fun k hk hk2 => (hg.block k (Nat.lt_of_lt_of_le hk S.mid.size) (fun e => by have := hv k e.symm; omega)).trans (S.mid.block k hk hk2)⟩
    have hk : ∀ p ∈ L, w1.heap[p.1]? = w.heap[p.1]? := fun p hp => hg.block _ (S.blk p hp).lt (fun e => (S.out p hp).2 e.symm)
    have hown' : w1.ownsRow w0.heap.size e 1 (.slice (some ⟨g', 0, none⟩) (xs.length + news.length) cap) (xs ++ news).length (xs ++ news) := by
      rw [List.length_append]
      exact hown
    refine S.turn (rowZ_ok _ _ _ _) ⟨hown', Nat.le_trans S.inv.2 hg.size⟩ (fun k hk => (World.ownsRow.lt hown' k hk).2) hmid hk (fun p hp hz => ?_)
    simp only [rowZ, Value.ownBlock, Option.some.injEq] at hz
    rcases hat with e | e
    · exact (S.out p hp).2 (by rw [← hz]; exact e)
    · have := (S.blk p hp).lt
      omega
theorem SH.wpAppendG (S : SH (rowZ w0.heap.size e v xs) w0 w L) (k0 : Nat) (hd0 : o.dst = some k0) (ty : TypeId) (s x : Operand) (ho : o.op = .call { callee := .builtin .append, args := #[s, x], argTypes := #[ty, ty] })
    (hu : P.underlying ty = some (.slice e)) (z : Value) (bytes : Nat) (hinf : (P.info? e).map (fun i => (i.zero, i.size, i.bytes)) = some (some z, 1, bytes)) (hzs : z.cells.size = 1)
    (hs : a.eval s = v) (g m c : Nat) (hx : a.eval x = .slice (some ⟨g, 0, none⟩) m c) (i : Nat) (news : List Value) (hL : L[i]? = some (g, Cel.any news)) (hm : news.length = m) (h1 : ∀ u ∈ news, u.oneCell' = true) (h0 : 0 < m) (hb : (xs.length + m) * bytes ≤ 1000000) (h9 : xs.length + m ≤ 100000)
    (h : ∀ g' cap w1, SH (rowZ w0.heap.size e (.slice (some ⟨g', 0, none⟩) (xs.length + m) cap) (xs ++ news)) w0 w1 L → K (a.put (some k0) (.slice (some ⟨g', 0, none⟩) (xs.length + m) cap)) w1) : o.wp P a w K Q :=
  S.wpAppendG' ty s x ho hu z bytes hinf hzs hs g m c hx i news hL hm h1 h0 hb h9 (by rw [hd0]; exact h)
theorem SH.appendG (S : SH (rowZ w0.heap.size e v xs) w0 w L) (hgd : o.guard = none) (ty : TypeId) (s x : Operand) (ho : o.op = .call { callee := .builtin .append, args := #[s, x], argTypes := #[ty, ty] })
    (hu : P.underlying ty = some (.slice e)) (z : Value) (bytes : Nat) (hinf : (P.info? e).map (fun i => (i.zero, i.size, i.bytes)) = some (some z, 1, bytes)) (hzs : z.cells.size = 1)
    (hs : a.eval s = v) (g m c : Nat) (hx : a.eval x = .slice (some ⟨g, 0, none⟩) m c) (i : Nat) (news : List Value) (hL : L[i]? = some (g, Cel.any news)) (hm : news.length = m) (h1 : ∀ u ∈ news, u.oneCell' = true) (h0 : 0 < m) (hb : (xs.length + m) * bytes ≤ 1000000) (h9 : xs.length + m ≤ 100000)
    (h : ∀ g' cap w1, SH (rowZ w0.heap.size e (.slice (some ⟨g', 0, none⟩) (xs.length + m) cap) (xs ++ news)) w0 w1 L → wpList P ops Q rest (a.put o.dst (.slice (some ⟨g', 0, none⟩) (xs.length + m) cap)) w1) : wpList P ops Q (o :: rest) a w :=
  wpList_plain hgd fun _ hK => S.wpAppendG' ty s x ho hu z bytes hinf hzs hs g m c hx i news hL hm h1 h0 hb h9 fun g' cap w1 h2 => hK _ _ (h g' cap w1 h2)
theorem SH.wpSliceG (S : SH (rowZ base e v xs) w0 w L) (k0 : Nat) (hd0 : o.dst = some k0) (ty n : Nat) (ys : Array (Nat × Operand)) (ho : o.op = .buildSlice ty n ys) (cs : List Value) (t : TypeId)
    (hr : (execOp a.eval o).run P w = .ok (.value (.slice (some ⟨w.heap.size, 0, none⟩) n n)) (w.alloc (.cells cs.toArray t)))
    (h : ∀ g w1, SH (rowZ base e v xs) w0 w1 ((g, Cel.any cs) :: L) → K (a.put (some k0) (.slice (some ⟨g, 0, none⟩) n n)) w1) : o.wp P a w K Q := by
  rw [← hd0] at h
  unfold Oper.wp
  rw [hr]
  exact h _ _ (S.new (Cel.any cs) t)
/-- The row as it lies behind the call. -/
theorem SH.rowOut (S : SH (rowZ w0.heap.size e v xs) w0 w L) : w.ownsRow w0.heap.size e 1 v xs.length xs ∧ Below w0.heap.size w0 w := ⟨S.inv.1, S.dropR.low⟩
end

/-! ### Copy -/
section
variable {P : Program} {w0 w w1 : World} {L : List (Nat × Cel)} {M : Zn} {ops : Array Oper} {rest : List Oper} {o : Oper} {a : Act} {Q : Exit → Act → World → Prop} {K : Act → World → Prop}
theorem SH.wpCopy (S : SH M w0 w L) (k0 : Nat) (hd0 : o.dst = some k0) (d s : Operand) (dT sT : TypeId) (ho : o.op = .call { callee := .builtin .copy, args := #[d, s], argTypes := #[dT, sT] }) (elem : TypeId) (hu : P.underlying dT = some (.slice elem)) (hsz : (P.info? elem).map (·.size) = some 1)
    (gd gs od os dLen dCap sLen sCap : Nat) (hd : a.eval d = .slice (some ⟨gd, od, none⟩) dLen dCap) (hs : a.eval s = .slice (some ⟨gs, os, none⟩) sLen sCap) (i j : Nat) (cd : Cel) (c2 : Cel) (hi : L[i]? = some (gd, cd)) (hj : L[j]? = some (gs, c2))
    (cs : List Value) (hn : cs.length = Nat.min sLen dLen) (hcs : ∀ t u, cs[t]? = some u → c2.cells[os + t]? = some u) (hfit : od + cs.length ≤ cd.cells.length) (h1 : ∀ v ∈ cs, v.oneCell' = true) (hne : 0 < cs.length) (c' : Cel) (hc' : splice cd.cells od cs = c'.cells)
    (h : ∀ w1, SH M w0 w1 (L.set i (gd, c')) → K (a.put (some k0) (goInt cs.length)) w1) : o.wp P a w K Q := by
  rw [← hd0] at h
  obtain ⟨⟨t, hb⟩, _⟩ := S.at hi
  have hsrc := (S.at hj).1
  have hrun := run_copy_row (P := P) w dT sT o.type elem gd od dLen dCap ⟨gs, os, none⟩ sLen sCap cd.cells.toArray t cs hu hsz hb hn (fun k u hk => by
    have hadd : (⟨gs, os, none⟩ : Addr).add k = ⟨gs, os + k, none⟩ := by unfold Addr.add; split <;> simp_all
    rw [hadd, hsrc.cell]
    exact hcs k u hk) (by simpa using hfit) h1
  unfold Oper.wp execOp
  simp only [ho, resolve, invoke, builtin, Sem.run_bind, Sem.run_pure, Result.andThen_ok, List.map_toArray, List.map_cons, List.map_nil, hd, hs, hrun]
  refine h _ (S.upd c' hi (Upd.setRow w gd _) ⟨t, ?_⟩)
  rw [← hc']
  simpa [splice] using setRow_heap w gd _ _ t _ hb
end
end Go.Proofs.YtbbkiiabjhgpkaaDoor
