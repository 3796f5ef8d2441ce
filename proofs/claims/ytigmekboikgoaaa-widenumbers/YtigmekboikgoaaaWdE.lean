/- Stage 8: two instructions held against one another. -/
import Derived.Test.YtigmekboikgoaaaShP
import Derived.Laws.StructEq
import Derived.Test.YtigmekboikgoaaaUpt
namespace Go.Proofs.Ytigmekboikgoaaa
open Go.ChangeShapes Go.WideShapes Go.ChangeAt Go.RowKit
set_option linter.unusedVariables false
set_option linter.unusedSimpArgs false

def ivEq (i j : IV) : Bool := ((i.op == j.op) && ((i.wide == j.wide) && ((i.s == j.s) && ((i.cond == j.cond) && ((i.d == j.d) && ((i.n == j.n) && ((i.m == j.m) && ((i.a == j.a) && ((i.imm == j.imm) && ((i.useImm == j.useImm) && ((i.sh == j.sh) && ((i.amt == j.amt) && ((i.list == j.list) && ((i.back == j.back) && ((i.down == j.down) && true)))))))))))))))
theorem ivEq_iff (i j : IV) : ivEq i j = true ↔ i = j := by
  obtain ⟨i0, i1, i2, i3, i4, i5, i6, i7, i8, i9, i10, i11, i12, i13, i14⟩ := i
  obtain ⟨j0, j1, j2, j3, j4, j5, j6, j7, j8, j9, j10, j11, j12, j13, j14⟩ := j
  simp [ivEq]
theorem ivEq_self (i : IV) : ivEq i i = true := (ivEq_iff i i).2 rfl
theorem ivEq_ne {i j : IV} (h : i ≠ j) : ivEq i j = false := by
  cases k : ivEq i j
  · rfl
  · exact absurd ((ivEq_iff i j).1 k) h
theorem eqf_cons {P : Program} {w : World} {d : Nat} {xs ys : Array Value} {f : Field} {fs : List Field} {a b : Value} {r s : Bool} (hn : f.name ≠ "_") (ha : (part f.type xs f.offset).run P w = .ok a w) (hb : (part f.type ys f.offset).run P w = .ok b w)
    (he : (Op.equalIn d f.type a b).run P w = .ok r w) (hs : (Op.eqFields d xs ys fs).run P w = .ok s w) : (Op.eqFields d xs ys (f :: fs)).run P w = .ok (r && s) w := by
  simp only [Op.eqFields, Sem.run_bind, if_pos hn, ha, hb, he, Result.andThen_ok, Sem.run_ite]
  cases r
  · simp
  · simpa using hs
set_option maxRecDepth 100000 in
theorem iv_fields (i j : IV) (w : World) : (Op.eqFields 9999 i.cellsL.toArray j.cellsL.toArray (Try.prog.fieldsOf 30).toList).run Try.prog w = .ok (ivEq i j) w := by
  unfold Program.fieldsOf
  rw [Try.underlying30]
  show (Op.eqFields 9999 i.cellsL.toArray j.cellsL.toArray [_, _, _, _, _, _, _, _, _, _, _, _, _, _, _]).run Try.prog w = _
  refine eqf_cons (by decide) (run_part_plain w (by kernel_rfl) rfl) (run_part_plain w (by kernel_rfl) rfl) (run_equalIn_int w 9998 _ _ _ _ _ Try.underlying3) ?_
  refine eqf_cons (by decide) (run_part_plain w (by kernel_rfl) rfl) (run_part_plain w (by kernel_rfl) rfl) (run_equalIn_bool' w 9998 _ _ _ Try.underlying4) ?_
  refine eqf_cons (by decide) (run_part_plain w (by kernel_rfl) rfl) (run_part_plain w (by kernel_rfl) rfl) (run_equalIn_bool' w 9998 _ _ _ Try.underlying4) ?_
  refine eqf_cons (by decide) (run_part_plain w (by kernel_rfl) rfl) (run_part_plain w (by kernel_rfl) rfl) (run_equalIn_int w 9998 _ _ _ _ _ Try.underlying3) ?_
  refine eqf_cons (by decide) (run_part_plain w (by kernel_rfl) rfl) (run_part_plain w (by kernel_rfl) rfl) (run_equalIn_int w 9998 _ _ _ _ _ Try.underlying3) ?_
  refine eqf_cons (by decide) (run_part_plain w (by kernel_rfl) rfl) (run_part_plain w (by kernel_rfl) rfl) (run_equalIn_int w 9998 _ _ _ _ _ Try.underlying3) ?_
  refine eqf_cons (by decide) (run_part_plain w (by kernel_rfl) rfl) (run_part_plain w (by kernel_rfl) rfl) (run_equalIn_int w 9998 _ _ _ _ _ Try.underlying3) ?_
  refine eqf_cons (by decide) (run_part_plain w (by kernel_rfl) rfl) (run_part_plain w (by kernel_rfl) rfl) (run_equalIn_int w 9998 _ _ _ _ _ Try.underlying3) ?_
  refine eqf_cons (by decide) (run_part_plain w (by kernel_rfl) rfl) (run_part_plain w (by kernel_rfl) rfl) (run_equalIn_int w 9998 _ _ _ _ _ Try.underlying28) ?_
  refine eqf_cons (by decide) (run_part_plain w (by kernel_rfl) rfl) (run_part_plain w (by kernel_rfl) rfl) (run_equalIn_bool' w 9998 _ _ _ Try.underlying4) ?_
  refine eqf_cons (by decide) (run_part_plain w (by kernel_rfl) rfl) (run_part_plain w (by kernel_rfl) rfl) (run_equalIn_int w 9998 _ _ _ _ _ Try.underlying3) ?_
  refine eqf_cons (by decide) (run_part_plain w (by kernel_rfl) rfl) (run_part_plain w (by kernel_rfl) rfl) (run_equalIn_int w 9998 _ _ _ _ _ Try.underlying3) ?_
  refine eqf_cons (by decide) (run_part_plain w (by kernel_rfl) rfl) (run_part_plain w (by kernel_rfl) rfl) (run_equalIn_int w 9998 _ _ _ _ _ Try.underlying3) ?_
  refine eqf_cons (by decide) (run_part_plain w (by kernel_rfl) rfl) (run_part_plain w (by kernel_rfl) rfl) (run_equalIn_bool' w 9998 _ _ _ Try.underlying4) ?_
  refine eqf_cons (by decide) (run_part_plain w (by kernel_rfl) rfl) (run_part_plain w (by kernel_rfl) rfl) (run_equalIn_bool' w 9998 _ _ _ Try.underlying4) ?_
  simp [Op.eqFields]
theorem iv_eql (i j : IV) (w : World) : (binOp .eql 30 i.val j.val).run Try.prog w = .ok (.bool (ivEq i j)) w := by
  show (binOp .eql 30 (.agg i.cellsL.toArray) (.agg j.cellsL.toArray)).run Try.prog w = _
  rw [run_eql_struct, run_equalIn_struct w 9999 _ _ _ (by kernel_rfl) (by kernel_rfl), iv_fields]
  rfl
theorem iv_neq (i j : IV) (w : World) : (binOp .neq 30 i.val j.val).run Try.prog w = .ok (.bool (!ivEq i j)) w := by
  show (binOp .neq 30 (.agg i.cellsL.toArray) (.agg j.cellsL.toArray)).run Try.prog w = _
  rw [run_neq_struct, run_equalIn_struct w 9999 _ _ _ (by kernel_rfl) (by kernel_rfl), iv_fields]
  rfl
section
variable {ops : Array Oper} {rest : List Oper} {o : Oper} {a : Act} {Q : Exit → Act → World → Prop} {w : World}
theorem iv_guard (op : BinOp) (x y : Operand) (i j : IV) (w : World) : (eqGuard op 30 x y i.val j.val).run Try.prog w = .ok () w :=
  run_eqGuard_agg w op _ x y _ _ (by kernel_rfl)
theorem wpl_eql (x y : Operand) (t : TypeId) (ho : o.op = .binOp .eql 30 x y t) (i j : IV) (hx : a.eval x = i.val) (hy : a.eval y = j.val) (hw : Region.wanted o (yielded ops a.tmps) = true) (h : wpList Try.prog ops Q rest (a.put o.dst (.bool (ivEq i j))) w) : wpList Try.prog ops Q (o :: rest) a w :=
  wpList_step fun K hK => by
    rw [if_pos hw]
    unfold Oper.wp execOp
    simp only [ho, hx, hy, Sem.run_bind, iv_guard, Result.andThen_ok, iv_eql, Sem.run_pure]
    exact hK _ _ h
theorem wpl_neq (x y : Operand) (t : TypeId) (ho : o.op = .binOp .neq 30 x y t) (i j : IV) (hx : a.eval x = i.val) (hy : a.eval y = j.val) (hw : Region.wanted o (yielded ops a.tmps) = true) (h : wpList Try.prog ops Q rest (a.put o.dst (.bool (!ivEq i j))) w) : wpList Try.prog ops Q (o :: rest) a w :=
  wpList_step fun K hK => by
    rw [if_pos hw]
    unfold Oper.wp execOp
    simp only [ho, hx, hy, Sem.run_bind, iv_guard, Result.andThen_ok, iv_neq, Sem.run_pure]
    exact hK _ _ h
end
section
variable {P : Program} {M : Zn} {w0 : World} {L : List (Nat × Cel)} {ops : Array Oper} {o : Oper} {a : Act}
theorem y_load1 (hw : Region.wanted o (yielded ops a.tmps) = true) (ty : TypeId) (x : Operand) (ho : o.op = .load ty x) (b j : Nat) (hx : a.eval x = .pointer (some ⟨b, j, none⟩)) (i : Nat) (c : Cel) (hL : L[i]? = some (b, c))
    (v : Value) (hv : c.cells[j]? = some v) (d : TypeDesc) (hu : P.underlying ty = some d) (hd : d.isRow = false) : YieldsIf P ops (fun w' => SH M w0 w' L) o v a :=
  .inl ⟨hw, fun w S => by
    unfold execOp
    simp only [ho, hx, Sem.run_bind, run_load1 w b j ty v d (((S.at hL).1.cell j).trans hv) hu hd, Result.andThen_ok, Sem.run_pure]⟩
theorem y_loadAll (hw : Region.wanted o (yielded ops a.tmps) = true) (ty : TypeId) (x : Operand) (ho : o.op = .load ty x) (b : Nat) (hx : a.eval x = .pointer (some ⟨b, 0, none⟩)) (i : Nat) (c : Cel) (hL : L[i]? = some (b, c))
    (d : TypeDesc) (hu : P.underlying ty = some d) (hd : d.isRow = true) (hi : (P.info? ty).map (·.size) = some c.cells.length) : YieldsIf P ops (fun w' => SH M w0 w' L) o c.val a :=
  yieldsIf_load_mid hw ty x ho b 0 hx c.cells d (fun w S => (S.at hL).1.range) hu hd hi
end
theorem y_neqB {S : World → Prop} {ops : Array Oper} {o : Oper} {a : Act} (hw : Region.wanted o (yielded ops a.tmps) = true) (x y : Operand) (t : TypeId) (ho : o.op = .binOp .neq 30 x y t) (i j : IV) (hx : a.eval x = i.val) (hy : a.eval y = j.val) (v : Bool) (hv : (!ivEq i j) = v) : YieldsIf Try.prog ops S o (.bool v) a :=
  .inl ⟨hw, fun w _ => by
    unfold execOp
    simp only [ho, hx, hy, Sem.run_bind, iv_guard, Result.andThen_ok, iv_neq, Sem.run_pure, hv]⟩
theorem wpl_eqlB {ops : Array Oper} {rest : List Oper} {o : Oper} {a : Act} {Q : Exit → Act → World → Prop} {w : World} (x y : Operand) (t : TypeId) (ho : o.op = .binOp .eql 30 x y t) (i j : IV) (hx : a.eval x = i.val) (hy : a.eval y = j.val) (b : Bool) (hb : ivEq i j = b) (hw : Region.wanted o (yielded ops a.tmps) = true) (h : wpList Try.prog ops Q rest (a.put o.dst (.bool b)) w) : wpList Try.prog ops Q (o :: rest) a w := by
  subst hb
  exact wpl_eql x y t ho i j hx hy hw h
theorem wpl_neqB {ops : Array Oper} {rest : List Oper} {o : Oper} {a : Act} {Q : Exit → Act → World → Prop} {w : World} (x y : Operand) (t : TypeId) (ho : o.op = .binOp .neq 30 x y t) (i j : IV) (hx : a.eval x = i.val) (hy : a.eval y = j.val) (b : Bool) (hb : (!ivEq i j) = b) (hw : Region.wanted o (yielded ops a.tmps) = true) (h : wpList Try.prog ops Q rest (a.put o.dst (.bool b)) w) : wpList Try.prog ops Q (o :: rest) a w := by
  subst hb
  exact wpl_neq x y t ho i j hx hy hw h
end Go.Proofs.Ytigmekboikgoaaa
