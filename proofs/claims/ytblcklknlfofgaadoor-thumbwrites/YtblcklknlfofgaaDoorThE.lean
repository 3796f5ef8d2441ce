/- Stage 8: two instructions held against one another. -/
import Derived.Test.YtblcklknlfofgaaDoorSh0
import Derived.Laws.StructEq
namespace Go.Proofs.YtblcklknlfofgaaDoor
open Go.ChangeShapes Go.WideShapes Go.ChangeAt Go.RowKit
set_option linter.unusedVariables false
set_option linter.unusedSimpArgs false

def ivEq (i j : IV) : Bool := ((i.op == j.op) && ((i.wide == j.wide) && ((i.s == j.s) && ((i.cond == j.cond) && ((i.d == j.d) && ((i.n == j.n) && ((i.m == j.m) && ((i.a == j.a) && ((i.imm == j.imm) && ((i.useImm == j.useImm) && ((i.sh == j.sh) && ((i.amt == j.amt) && ((i.list == j.list) && ((i.back == j.back) && ((i.down == j.down) && true)))))))))))))))
theorem ivEq_iff (i j : IV) : ivEq i j = true ↔ i = j := by
  obtain ⟨i0, i1, i2, i3, i4, i5, i6, i7, i8, i9, i10, i11, i12, i13, i14⟩ := i
  obtain ⟨j0, j1, j2, j3, j4, j5, j6, j7, j8, j9, j10, j11, j12, j13, j14⟩ := j
  simp [ivEq]
theorem ivEq_self (i : IV) : ivEq i i = true := (ivEq_iff i i).2 rfl
theorem ivEq_ne {i j : IV} (h : i ≠ j) : ivEq i j = false := by
  cases k : ivEq i j
  · rfl
  · exact absurd ((ivEq_iff i j).1 k) h
theorem eqf_cons {P : Program} {w : World} {d : Nat} {xs ys : Array Value} {f : Field} {fs : List Field} {a b : Value} {r s : Bool} (hn : f.name ≠ "_") (ha : (part f.type xs f.offset).run P w = .ok a w) (hb : (part f.type ys f.offset).run P w = .ok b w)
    (he : (Op.equalIn d f.type a b).run P w = .ok r w) (hs : (Op.eqFields d xs ys fs).run P w = .ok s w) : (Op.eqFields d xs ys (f :: fs)).run P w = .ok (r && s) w := by
  simp only [Op.eqFields, Sem.run_bind, if_pos hn, ha, hb, he, Result.andThen_ok, Sem.run_ite]
  cases r
  · simp
  · simpa using hs
set_option maxRecDepth 100000 in
theorem iv_fields (i j : IV) (w : World) : (Op.eqFields 9999 i.cellsL.toArray j.cellsL.toArray (Tryd.prog.fieldsOf 29).toList).run Tryd.prog w = .ok (ivEq i j) w := by
  unfold Program.fieldsOf
  rw [Tryd.underlying29]
  show (Op.eqFields 9999 i.cellsL.toArray j.cellsL.toArray [_, _, _, _, _, _, _, _, _, _, _, _, _, _, _]).run Tryd.prog w = _
  refine eqf_cons (by decide) (run_part_plain w (by kernel_rfl) rfl) (run_part_plain w (by kernel_rfl) rfl) (run_equalIn_int w 9998 _ _ _ _ _ Tryd.underlying3) ?_
  refine eqf_cons (by decide) (run_part_plain w (by kernel_rfl) rfl) (run_part_plain w (by kernel_rfl) rfl) (run_equalIn_bool' w 9998 _ _ _ Tryd.underlying4) ?_
  refine eqf_cons (by decide) (run_part_plain w (by kernel_rfl) rfl) (run_part_plain w (by kernel_rfl) rfl) (run_equalIn_bool' w 9998 _ _ _ Tryd.underlying4) ?_
  refine eqf_cons (by decide) (run_part_plain w (by kernel_rfl) rfl) (run_part_plain w (by kernel_rfl) rfl) (run_equalIn_int w 9998 _ _ _ _ _ Tryd.underlying3) ?_
  refine eqf_cons (by decide) (run_part_plain w (by kernel_rfl) rfl) (run_part_plain w (by kernel_rfl) rfl) (run_equalIn_int w 9998 _ _ _ _ _ Tryd.underlying3) ?_
  refine eqf_cons (by decide) (run_part_plain w (by kernel_rfl) rfl) (run_part_plain w (by kernel_rfl) rfl) (run_equalIn_int w 9998 _ _ _ _ _ Tryd.underlying3) ?_
  refine eqf_cons (by decide) (run_part_plain w (by kernel_rfl) rfl) (run_part_plain w (by kernel_rfl) rfl) (run_equalIn_int w 9998 _ _ _ _ _ Tryd.underlying3) ?_
  refine eqf_cons (by decide) (run_part_plain w (by kernel_rfl) rfl) (run_part_plain w (by kernel_rfl) rfl) (run_equalIn_int w 9998 _ _ _ _ _ Tryd.underlying3) ?_
  refine eqf_cons (by decide) (run_part_plain w (by kernel_rfl) rfl) (run_part_plain w (by kernel_rfl) rfl) (run_equalIn_int w 9998 _ _ _ _ _ Tryd.underlying27) ?_
  refine eqf_cons (by decide) (run_part_plain w (by kernel_rfl) rfl) (run_part_plain w (by kernel_rfl) rfl) (run_equalIn_bool' w 9998 _ _ _ Tryd.underlying4) ?_
  refine eqf_cons (by decide) (run_part_plain w (by kernel_rfl) rfl) (run_part_plain w (by kernel_rfl) rfl) (run_equalIn_int w 9998 _ _ _ _ _ Tryd.underlying3) ?_
  refine eqf_cons (by decide) (run_part_plain w (by kernel_rfl) rfl) (run_part_plain w (by kernel_rfl) rfl) (run_equalIn_int w 9998 _ _ _ _ _ Tryd.underlying3) ?_
  refine eqf_cons (by decide) (run_part_plain w (by kernel_rfl) rfl) (run_part_plain w (by kernel_rfl) rfl) (run_equalIn_int w 9998 _ _ _ _ _ Tryd.underlying3) ?_
  refine eqf_cons (by decide) (run_part_plain w (by kernel_rfl) rfl) (run_part_plain w (by kernel_rfl) rfl) (run_equalIn_bool' w 9998 _ _ _ Tryd.underlying4) ?_
  refine eqf_cons (by decide) (run_part_plain w (by kernel_rfl) rfl) (run_part_plain w (by kernel_rfl) rfl) (run_equalIn_bool' w 9998 _ _ _ Tryd.underlying4) ?_
  simp [Op.eqFields]
theorem iv_eql (i j : IV) (w : World) : (binOp .eql 29 i.val j.val).run Tryd.prog w = .ok (.bool (ivEq i j)) w := by
  show (binOp .eql 29 (.agg i.cellsL.toArray) (.agg j.cellsL.toArray)).run Tryd.prog w = _
  rw [run_eql_struct, run_equalIn_struct w 9999 _ _ _ (by kernel_rfl) (by kernel_rfl), iv_fields]
  rfl
theorem iv_neq (i j : IV) (w : World) : (binOp .neq 29 i.val j.val).run Tryd.prog w = .ok (.bool (!ivEq i j)) w := by
  show (binOp .neq 29 (.agg i.cellsL.toArray) (.agg j.cellsL.toArray)).run Tryd.prog w = _
  rw [run_neq_struct, run_equalIn_struct w 9999 _ _ _ (by kernel_rfl) (by kernel_rfl), iv_fields]
  rfl
section
variable {ops : Array Oper} {rest : List Oper} {o : Oper} {a : Act} {Q : Exit → Act → World → Prop} {w : World}
theorem iv_guard (op : BinOp) (x y : Operand) (i j : IV) (w : World) : (eqGuard op 29 x y i.val j.val).run Tryd.prog w = .ok () w :=
  run_eqGuard_agg w op _ x y _ _ (by kernel_rfl)
theorem wpl_eql (x y : Operand) (t : TypeId) (ho : o.op = .binOp .eql 29 x y t) (i j : IV) (hx : a.eval x = i.val) (hy : a.eval y = j.val) (hw : Region.wanted o (yielded ops a.tmps) = true) (h : wpList Tryd.prog ops Q rest (a.put o.dst (.bool (ivEq i j))) w) : wpList Tryd.prog ops Q (o :: rest) a w :=
  wpList_step fun K hK => by
    rw [if_pos hw]
    unfold Oper.wp execOp
    simp only [ho, hx, hy, Sem.run_bind, iv_guard, Result.andThen_ok, iv_eql, Sem.run_pure]
    exact hK _ _ h
theorem wpl_neq (x y : Operand) (t : TypeId) (ho : o.op = .binOp .neq 29 x y t) (i j : IV) (hx : a.eval x = i.val) (hy : a.eval y = j.val) (hw : Region.wanted o (yielded ops a.tmps) = true) (h : wpList Tryd.prog ops Q rest (a.put o.dst (.bool (!ivEq i j))) w) : wpList Tryd.prog ops Q (o :: rest) a w :=
  wpList_step fun K hK => by
    rw [if_pos hw]
    unfold Oper.wp execOp
    simp only [ho, hx, hy, Sem.run_bind, iv_guard, Result.andThen_ok, iv_neq, Sem.run_pure]
    exact hK _ _ h
end
theorem NV.iv_inj {i j : NV} (h : i.iv = j.iv) : i = j := by
  obtain ⟨i0, i1, i2, i3, i4, i5, i6, i7, i8, i9, i10⟩ := i
  obtain ⟨j0, j1, j2, j3, j4, j5, j6, j7, j8, j9, j10⟩ := j
  simp only [NV.iv, IV.mk.injEq] at h
  obtain ⟨h0, _, h1, h2, h3, h4, h5, _, h6, h7, _, _, h8, h9, h10⟩ := h
  simp only [NV.mk.injEq]
  refine ⟨by omega, h1, by omega, by omega, by omega, by omega, by omega, h7, by omega, h9, h10⟩
theorem ivEq_nv (i j : NV) : ivEq i.iv j.iv = NV.beq i j := by
  cases k : NV.beq i j
  · refine ivEq_ne fun e => ?_
    have := NV.iv_inj e
    subst this
    obtain ⟨i0, i1, i2, i3, i4, i5, i6, i7, i8, i9, i10⟩ := i
    simp [NV.beq, bEq] at k
  · rw [NV.eq_of_beq k]
    exact ivEq_self _
end Go.Proofs.YtblcklknlfofgaaDoor
