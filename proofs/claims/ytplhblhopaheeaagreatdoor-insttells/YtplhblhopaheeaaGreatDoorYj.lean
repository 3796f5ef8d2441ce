/- Stage 8: two instructions held against one another. -/
import Derived.Test.YtplhblhopaheeaaGreatDoorYa
import Derived.Laws.StructEq
import Derived.Laws.BitsAllLaws
import Derived.Test.YtplhblhopaheeaaGreatDoorYh
namespace Go.Proofs.YtplhblhopaheeaaGreatDoor
open Go.ChangeShapes Go.WideShapes Go.ChangeAt Go.RowKit
set_option linter.unusedVariables false
set_option linter.unusedSimpArgs false

def ivEq (i j : IV) : Bool := ((i.op == j.op) && ((i.wide == j.wide) && ((i.s == j.s) && ((i.cond == j.cond) && ((i.d == j.d) && ((i.n == j.n) && ((i.m == j.m) && ((i.a == j.a) && ((i.imm == j.imm) && ((i.useImm == j.useImm) && ((i.sh == j.sh) && ((i.amt == j.amt) && ((i.list == j.list) && ((i.back == j.back) && ((i.down == j.down) && true)))))))))))))))
theorem ivEq_iff (i j : IV) : ivEq i j = true ↔ i = j := by
  obtain ⟨i0, i1, i2, i3, i4, i5, i6, i7, i8, i9, i10, i11, i12, i13, i14⟩ := i
  obtain ⟨j0, j1, j2, j3, j4, j5, j6, j7, j8, j9, j10, j11, j12, j13, j14⟩ := j
  simp [ivEq]
theorem ivEq_self (i : IV) : ivEq i i = true := (ivEq_iff i i).2 rfl
theorem ivEq_ne {i j : IV} (h : i ≠ j) : ivEq i j = false := by
  cases k : ivEq i j
  · rfl
  · exact absurd ((ivEq_iff i j).1 k) h
theorem eqf_cons {P : Program} {w : World} {d : Nat} {xs ys : Array Value} {f : Field} {fs : List Field} {a b : Value} {r s : Bool} (hn : f.name ≠ "_") (ha : (part f.type xs f.offset).run P w = .ok a w) (hb : (part f.type ys f.offset).run P w = .ok b w)
    (he : (Op.equalIn d f.type a b).run P w = .ok r w) (hs : (Op.eqFields d xs ys fs).run P w = .ok s w) : (Op.eqFields d xs ys (f :: fs)).run P w = .ok (r && s) w := by
  simp only [Op.eqFields, Sem.run_bind, if_pos hn, ha, hb, he, Result.andThen_ok, Sem.run_ite]
  cases r
  · simp
  · simpa using hs
set_option maxRecDepth 100000 in
theorem iv_fields (i j : IV) (w : World) : (Op.eqFields 9999 i.cellsL.toArray j.cellsL.toArray (Tryz.prog.fieldsOf 28).toList).run Tryz.prog w = .ok (ivEq i j) w := by
  unfold Program.fieldsOf
  rw [Tryz.underlying28]
  show (Op.eqFields 9999 i.cellsL.toArray j.cellsL.toArray [_, _, _, _, _, _, _, _, _, _, _, _, _, _, _]).run Tryz.prog w = _
  refine eqf_cons (by decide) (run_part_plain w (by kernel_rfl) rfl) (run_part_plain w (by kernel_rfl) rfl) (run_equalIn_int w 9998 _ _ _ _ _ Tryz.underlying3) ?_
  refine eqf_cons (by decide) (run_part_plain w (by kernel_rfl) rfl) (run_part_plain w (by kernel_rfl) rfl) (run_equalIn_bool' w 9998 _ _ _ Tryz.underlying4) ?_
  refine eqf_cons (by decide) (run_part_plain w (by kernel_rfl) rfl) (run_part_plain w (by kernel_rfl) rfl) (run_equalIn_bool' w 9998 _ _ _ Tryz.underlying4) ?_
  refine eqf_cons (by decide) (run_part_plain w (by kernel_rfl) rfl) (run_part_plain w (by kernel_rfl) rfl) (run_equalIn_int w 9998 _ _ _ _ _ Tryz.underlying3) ?_
  refine eqf_cons (by decide) (run_part_plain w (by kernel_rfl) rfl) (run_part_plain w (by kernel_rfl) rfl) (run_equalIn_int w 9998 _ _ _ _ _ Tryz.underlying3) ?_
  refine eqf_cons (by decide) (run_part_plain w (by kernel_rfl) rfl) (run_part_plain w (by kernel_rfl) rfl) (run_equalIn_int w 9998 _ _ _ _ _ Tryz.underlying3) ?_
  refine eqf_cons (by decide) (run_part_plain w (by kernel_rfl) rfl) (run_part_plain w (by kernel_rfl) rfl) (run_equalIn_int w 9998 _ _ _ _ _ Tryz.underlying3) ?_
  refine eqf_cons (by decide) (run_part_plain w (by kernel_rfl) rfl) (run_part_plain w (by kernel_rfl) rfl) (run_equalIn_int w 9998 _ _ _ _ _ Tryz.underlying3) ?_
  refine eqf_cons (by decide) (run_part_plain w (by kernel_rfl) rfl) (run_part_plain w (by kernel_rfl) rfl) (run_equalIn_int w 9998 _ _ _ _ _ Tryz.underlying26) ?_
  refine eqf_cons (by decide) (run_part_plain w (by kernel_rfl) rfl) (run_part_plain w (by kernel_rfl) rfl) (run_equalIn_bool' w 9998 _ _ _ Tryz.underlying4) ?_
  refine eqf_cons (by decide) (run_part_plain w (by kernel_rfl) rfl) (run_part_plain w (by kernel_rfl) rfl) (run_equalIn_int w 9998 _ _ _ _ _ Tryz.underlying3) ?_
  refine eqf_cons (by decide) (run_part_plain w (by kernel_rfl) rfl) (run_part_plain w (by kernel_rfl) rfl) (run_equalIn_int w 9998 _ _ _ _ _ Tryz.underlying3) ?_
  refine eqf_cons (by decide) (run_part_plain w (by kernel_rfl) rfl) (run_part_plain w (by kernel_rfl) rfl) (run_equalIn_int w 9998 _ _ _ _ _ Tryz.underlying3) ?_
  refine eqf_cons (by decide) (run_part_plain w (by kernel_rfl) rfl) (run_part_plain w (by kernel_rfl) rfl) (run_equalIn_bool' w 9998 _ _ _ Tryz.underlying4) ?_
  refine eqf_cons (by decide) (run_part_plain w (by kernel_rfl) rfl) (run_part_plain w (by kernel_rfl) rfl) (run_equalIn_bool' w 9998 _ _ _ Tryz.underlying4) ?_
  simp [Op.eqFields]
theorem iv_eql (i j : IV) (w : World) : (binOp .eql 28 i.val j.val).run Tryz.prog w = .ok (.bool (ivEq i j)) w := by
  show (binOp .eql 28 (.agg i.cellsL.toArray) (.agg j.cellsL.toArray)).run Tryz.prog w = _
  rw [run_eql_struct, run_equalIn_struct w 9999 _ _ _ (by kernel_rfl) (by kernel_rfl), iv_fields]
  rfl
theorem iv_neq (i j : IV) (w : World) : (binOp .neq 28 i.val j.val).run Tryz.prog w = .ok (.bool (!ivEq i j)) w := by
  show (binOp .neq 28 (.agg i.cellsL.toArray) (.agg j.cellsL.toArray)).run Tryz.prog w = _
  rw [run_neq_struct, run_equalIn_struct w 9999 _ _ _ (by kernel_rfl) (by kernel_rfl), iv_fields]
  rfl
section
variable {ops : Array Oper} {rest : List Oper} {o : Oper} {a : Act} {Q : Exit → Act → World → Prop} {w : World}
theorem iv_guard (op : BinOp) (x y : Operand) (i j : IV) (w : World) : (eqGuard op 28 x y i.val j.val).run Tryz.prog w = .ok () w :=
  run_eqGuard_agg w op _ x y _ _ (by kernel_rfl)
theorem wpl_eql (x y : Operand) (t : TypeId) (ho : o.op = .binOp .eql 28 x y t) (i j : IV) (hx : a.eval x = i.val) (hy : a.eval y = j.val) (hw : Region.wanted o (yielded ops a.tmps) = true) (h : wpList Tryz.prog ops Q rest (a.put o.dst (.bool (ivEq i j))) w) : wpList Tryz.prog ops Q (o :: rest) a w :=
  wpList_step fun K hK => by
    rw [if_pos hw]
    unfold Oper.wp execOp
    simp only [ho, hx, hy, Sem.run_bind, iv_guard, Result.andThen_ok, iv_eql, Sem.run_pure]
    exact hK _ _ h
theorem wpl_neq (x y : Operand) (t : TypeId) (ho : o.op = .binOp .neq 28 x y t) (i j : IV) (hx : a.eval x = i.val) (hy : a.eval y = j.val) (hw : Region.wanted o (yielded ops a.tmps) = true) (h : wpList Tryz.prog ops Q rest (a.put o.dst (.bool (!ivEq i j))) w) : wpList Tryz.prog ops Q (o :: rest) a w :=
  wpList_step fun K hK => by
    rw [if_pos hw]
    unfold Oper.wp execOp
    simp only [ho, hx, hy, Sem.run_bind, iv_guard, Result.andThen_ok, iv_neq, Sem.run_pure]
    exact hK _ _ h
end
section
variable {P : Program} {M : Zn} {w0 : World} {L : List (Nat × Cel)} {ops : Array Oper} {o : Oper} {a : Act}
theorem y_load1_w (hw : Region.wanted o (yielded ops a.tmps) = true) (ty : TypeId) (x : Operand) (ho : o.op = .load ty x) (b j : Nat) (hx : a.eval x = .pointer (some ⟨b, j, none⟩)) (i : Nat) (c : Cel) (hL : L[i]? = some (b, c))
    (v : Value) (hv : c.cells[j]? = some v) (d : TypeDesc) (hu : P.underlying ty = some d) (hd : d.isRow = false) : YieldsIf P ops (fun w' => SH M w0 w' L) o v a :=
  .inl ⟨hw, fun w S => by
    unfold execOp
    simp only [ho, hx, Sem.run_bind, run_load1 w b j ty v d (((S.at hL).1.cell j).trans hv) hu hd, Result.andThen_ok, Sem.run_pure]⟩
theorem y_loadAll_w (hw : Region.wanted o (yielded ops a.tmps) = true) (ty : TypeId) (x : Operand) (ho : o.op = .load ty x) (b : Nat) (hx : a.eval x = .pointer (some ⟨b, 0, none⟩)) (i : Nat) (c : Cel) (hL : L[i]? = some (b, c))
    (d : TypeDesc) (hu : P.underlying ty = some d) (hd : d.isRow = true) (hi : (P.info? ty).map (·.size) = some c.cells.length) : YieldsIf P ops (fun w' => SH M w0 w' L) o c.val a :=
  yieldsIf_load_mid hw ty x ho b 0 hx c.cells d (fun w S => (S.at hL).1.range) hu hd hi
end
theorem y_neqB {S : World → Prop} {ops : Array Oper} {o : Oper} {a : Act} (hw : Region.wanted o (yielded ops a.tmps) = true) (x y : Operand) (t : TypeId) (ho : o.op = .binOp .neq 28 x y t) (i j : IV) (hx : a.eval x = i.val) (hy : a.eval y = j.val) (v : Bool) (hv : (!ivEq i j) = v) : YieldsIf Tryz.prog ops S o (.bool v) a :=
  .inl ⟨hw, fun w _ => by
    unfold execOp
    simp only [ho, hx, hy, Sem.run_bind, iv_guard, Result.andThen_ok, iv_neq, Sem.run_pure, hv]⟩
theorem wpl_eqlB {ops : Array Oper} {rest : List Oper} {o : Oper} {a : Act} {Q : Exit → Act → World → Prop} {w : World} (x y : Operand) (t : TypeId) (ho : o.op = .binOp .eql 28 x y t) (i j : IV) (hx : a.eval x = i.val) (hy : a.eval y = j.val) (b : Bool) (hb : ivEq i j = b) (hw : Region.wanted o (yielded ops a.tmps) = true) (h : wpList Tryz.prog ops Q rest (a.put o.dst (.bool b)) w) : wpList Tryz.prog ops Q (o :: rest) a w := by
  subst hb
  exact wpl_eql x y t ho i j hx hy hw h
theorem wpl_neqB {ops : Array Oper} {rest : List Oper} {o : Oper} {a : Act} {Q : Exit → Act → World → Prop} {w : World} (x y : Operand) (t : TypeId) (ho : o.op = .binOp .neq 28 x y t) (i j : IV) (hx : a.eval x = i.val) (hy : a.eval y = j.val) (b : Bool) (hb : (!ivEq i j) = b) (hw : Region.wanted o (yielded ops a.tmps) = true) (h : wpList Tryz.prog ops Q rest (a.put o.dst (.bool b)) w) : wpList Tryz.prog ops Q (o :: rest) a w := by
  subst hb
  exact wpl_neq x y t ho i j hx hy hw h
end Go.Proofs.YtplhblhopaheeaaGreatDoor
namespace Go.Proofs.YtplhblhopaheeaaGreatDoor
open Go.ChangeShapes Go.WideShapes Go.ChangeAt Go.RowKit
set_option linter.unusedVariables false
set_option linter.unusedSimpArgs false
set_option maxHeartbeats 20000000
set_option maxRecDepth 100000

/-- Bits of a word. -/
def fd_w (h a s : Nat) : Nat := h / 2 ^ a % 2 ^ s
theorem fd_lt_w (h a s : Nat) : fd_w h a s < 2 ^ s := Nat.mod_lt _ (Nat.two_pow_pos s)
theorem fd_land_w (h a s : Nat) : (h / 2 ^ a) &&& (2 ^ s - 1) = fd_w h a s := Nat.and_two_pow_sub_one_eq_mod _ _
theorem fd_u32 (h a s : Nat) (hh : h < 4294967296) (hs : s ≤ 31) (x y : Int) (hx : x = ((h / 2 ^ a : Nat) : Int)) (hy : y = ((2 ^ s - 1 : Nat) : Int)) : bits .and .u32 x y = ((fd_w h a s : Nat) : Int) := by
  have h2 : 2 ^ s ≤ 2 ^ 31 := Nat.pow_le_pow_right (by decide) hs
  have h3 := Nat.two_pow_pos s
  rw [hx, hy, u32_and_nat _ _ (Nat.lt_of_le_of_lt (Nat.div_le_self _ _) hh) (by omega), fd_land_w]
theorem fd_wrap_w (h a s : Nat) (hs : s ≤ 16) : wrap64 (fd_w h a s : Nat) = (fd_w h a s : Nat) := by
  have h2 : 2 ^ s ≤ 2 ^ 16 := Nat.pow_le_pow_right (by decide) hs
  have := fd_lt_w h a s
  unfold wrap64
  omega
/-- What is no instruction that may be; what begins one. -/
def noneI (op w : Nat) : IV := ⟨op, true, false, 14, 0, 0, 0, 0, w, false, 0, 0, 0, false, false⟩
def startI (op d n : Int) : IV := ⟨op, true, false, 14, d, n, 0, 0, 0, false, 0, 0, 0, false, false⟩
def Says_w (w : World) (i : IV) (e : Ending) (w' : World) : Prop := e = .returned i.val ∧ Below w.heap.size w w'
def secondI (i : IV) (v a : Int) : IV := { i with imm := v, useImm := true, a := a }
def dataOpS (o : Int) : Int := if o = 0 then 1 else if o = 1 then 14 else if o = 2 then 12 else if o = 3 then 16 else if o = 4 then 2 else if o = 8 then 5 else if o = 10 then 6 else if o = 11 then 7 else if o = 13 then 3 else if o = 14 then 4 else 64
def lessD (o : Int) : Int := if o = 1 then 8 else if o = 2 then 9 else if o = 5 then 11 else if o = 3 then 10 else o
def lessN (o : Int) : Int := if o = 12 then 13 else if o = 16 then 15 else o
def resS (o : Int) : Bool := o == 13 || o == 15
def sumW (o : Int) : Bool := o == 5 || o == 3 || o == 10 || o == 11
end Go.Proofs.YtplhblhopaheeaaGreatDoor
namespace Go.Proofs.YtplhblhopaheeaaGreatDoor
open Go.ChangeShapes Go.WideShapes Go.ChangeAt Go.RowKit
set_option linter.unusedVariables false
set_option linter.unusedSimpArgs false
set_option maxHeartbeats 20000000
set_option maxRecDepth 100000

theorem wpl_skip_w {P : Program} {ops : Array Oper} {rest : List Oper} {o : Oper} {a : Act} {Q : Exit → Act → World → Prop} {w : World} (hw : Region.wanted o (yielded ops a.tmps) = false) (h : wpList P ops Q rest (a.put o.dst undef) w) : wpList P ops Q (o :: rest) a w :=
  wpList_step fun K hK => by
    rw [if_neg (by simp [hw])]
    exact hK _ _ h
def mayD (i : IV) : Bool := bif (i.d == 13 && (i.n == 13 && i.useImm)) then (i.op == 5 || i.op == 3) else !resS i.d
def mayN (i : IV) : Bool := bif i.n == 13 then (classS i.op == 4 || (classS i.op == 5 || (i.useImm && sumW i.op))) else bif i.n == 15 then (classS i.op == 4 || i.op == 33) else true
def checkedI (i : IV) (ok : Bool) (w : Nat) : IV := bif (!ok || (resS i.m || (resS i.a || (!mayD i || !mayN i)))) then noneI 65 w else i
end Go.Proofs.YtplhblhopaheeaaGreatDoor
namespace Go.Proofs.YtplhblhopaheeaaGreatDoor
open Go.ChangeShapes Go.WideShapes Go.ChangeAt Go.RowKit
set_option linter.unusedVariables false
set_option linter.unusedSimpArgs false
set_option maxHeartbeats 20000000
set_option maxRecDepth 100000

def lk (a b : Nat) : Nat := (1 + a + b) % 2
def farX (x : Nat) : Nat := fd_w x 26 1 * 16777216 + lk (fd_w x 13 1) (fd_w x 26 1) * 8388608 + lk (fd_w x 11 1) (fd_w x 26 1) * 4194304 + fd_w x 16 10 * 4096 + fd_w x 0 11 * 2
def condX (x : Nat) : Nat := fd_w x 26 1 * 1048576 + fd_w x 11 1 * 524288 + fd_w x 13 1 * 262144 + fd_w x 16 6 * 4096 + fd_w x 0 11 * 2
def brI (op cond : Int) (v : Int) : IV := ⟨op, true, false, cond, 0, 0, 0, 0, v, false, 0, 0, 0, false, false⟩
def condI (x : Nat) : IV := bif Nat.ble 14 (fd_w x 22 4) then noneI 64 x else brI 54 (fd_w x 22 4 : Nat) (signS_w (condX x : Nat) 21)
def branchG (b12 b14 : Nat) (c n f g : IV) : IV := bif Nat.beq b12 0 then (bif Nat.beq b14 0 then c else n) else bif Nat.beq b14 0 then f else g
def branchI (x : Nat) : IV := branchG (fd_w x 12 1) (fd_w x 14 1) (condI x) (noneI 64 x) (brI 54 14 (signS_w (farX x : Nat) 25)) (brI 55 14 (signS_w (farX x : Nat) 25))
theorem branchG00 (c n f g : IV) : branchG 0 0 c n f g = c := rfl
theorem branchG01 (c n f g : IV) : branchG 0 1 c n f g = n := rfl
theorem branchG10 (c n f g : IV) : branchG 1 0 c n f g = f := rfl
theorem branchG11 (c n f g : IV) : branchG 1 1 c n f g = g := rfl
theorem nbeq_w (a b : Nat) : Nat.beq a b = decide (a = b) := by
  rw [Bool.eq_iff_iff]
  simp
theorem nble_w (a b : Nat) : Nat.ble a b = decide (a ≤ b) := by
  rw [Bool.eq_iff_iff]
  simp
theorem i64_join_w (x y i : Nat) (hx : x % 2 ^ i = 0) (hx1 : x < 2 ^ 32) (hy : y < 2 ^ i) (hi : i ≤ 32) : bits .or .i64 (x : Int) (y : Int) = ((x + y : Nat) : Int) := by
  have h2 : 2 ^ i ≤ 2 ^ 32 := Nat.pow_le_pow_right (by decide) hi
  rw [(bits_nat .i64 33 (by decide) (fun n h1 h2 => by rw [IntKind.wrap_i64]; omega) x y (by omega) (by omega)).2]
  have hq : x = 2 ^ i * (x / 2 ^ i) := by
    have := Nat.div_add_mod x (2 ^ i)
    omega
  rw [hq, ← Nat.two_pow_add_eq_or_of_lt hy (x / 2 ^ i)]
theorem and_pow (x k : Nat) : x &&& 2 ^ k = fd_w x k 1 * 2 ^ k := by
  apply Nat.eq_of_testBit_eq
  intro i
  rw [Nat.testBit_and, Nat.testBit_two_pow, Nat.testBit_mul_two_pow]
  unfold fd_w
  rw [Nat.testBit_mod_two_pow, Nat.testBit_div_two_pow]
  by_cases h : k = i
  · subst h; simp
  · by_cases h2 : k ≤ i
    · have : ¬ (i - k < 1) := by omega
      simp [h, this]
    · simp [h, h2]
theorem and_mid (x a s : Nat) : x &&& ((2 ^ s - 1) * 2 ^ a) = fd_w x a s * 2 ^ a := by
  apply Nat.eq_of_testBit_eq
  intro i
  rw [Nat.testBit_and, Nat.testBit_mul_two_pow, Nat.testBit_mul_two_pow, Nat.testBit_two_pow_sub_one]
  unfold fd_w
  rw [Nat.testBit_mod_two_pow, Nat.testBit_div_two_pow]
  by_cases h2 : a ≤ i
  · rw [show i - a + a = i by omega]
    cases x.testBit i <;> simp [h2]
  · simp [h2]
theorem u32_mid (x a s : Nat) (m : Int) (hx : x < 4294967296) (hm : m = (((2 ^ s - 1) * 2 ^ a : Nat) : Int)) (h32 : (2 ^ s - 1) * 2 ^ a < 4294967296) : bits .and .u32 (x : Int) m = ((fd_w x a s * 2 ^ a : Nat) : Int) := by
  rw [hm, u32_and_nat _ _ hx h32, and_mid]
theorem mk53 (x : Nat) (hx : x < 4294967296) : bits .and .u32 (x : Int) 53248 = ((fd_w x 15 1 * 32768 + fd_w x 14 1 * 16384 + fd_w x 12 1 * 4096 : Nat) : Int) := by
  rw [show (53248 : Int) = ((53248 : Nat) : Int) from rfl, u32_and_nat _ _ hx (by decide)]
  refine congrArg _ ?_
  have e1 : x &&& 32768 = fd_w x 15 1 * 32768 := and_pow x 15
  have e2 : x &&& 16384 = fd_w x 14 1 * 16384 := and_pow x 14
  have e3 : x &&& 4096 = fd_w x 12 1 * 4096 := and_pow x 12
  rw [show (53248 : Nat) = 32768 ||| (16384 ||| 4096) by decide, Nat.and_or_distrib_left, Nat.and_or_distrib_left, e1, e2, e3]
  have f1 := fd_lt_w x 15 1
  have f2 := fd_lt_w x 14 1
  have f3 := fd_lt_w x 12 1
  generalize fd_w x 15 1 = a at *
  generalize fd_w x 14 1 = b at *
  generalize fd_w x 12 1 = c at *
  rcases (show a = 0 ∨ a = 1 by omega) with rfl | rfl <;> rcases (show b = 0 ∨ b = 1 by omega) with rfl | rfl <;> rcases (show c = 0 ∨ c = 1 by omega) with rfl | rfl <;> decide
theorem kk (x : Nat) (hx : x < 4294967296) (b14 b12 n : Nat) (h15 : fd_w x 15 1 = 1) (h14 : fd_w x 14 1 = b14) (h12 : fd_w x 12 1 = b12) (hn : 32768 + b14 * 16384 + b12 * 4096 = n) : bits .and .u32 (x : Int) 53248 = (n : Int) := by
  rw [mk53 x hx, h15, h14, h12, ← hn, Nat.one_mul]
theorem brI0 (x : Nat) (h14 : fd_w x 14 1 = 0) (h12 : fd_w x 12 1 = 0) : branchI x = condI x := by
  unfold branchI
  rw [h14, h12]
  exact branchG00 _ _ _ _
theorem brI1 (x : Nat) (h14 : fd_w x 14 1 = 1) (h12 : fd_w x 12 1 = 0) : branchI x = noneI 64 x := by
  unfold branchI
  rw [h14, h12]
  exact branchG01 _ _ _ _
theorem brI2 (x : Nat) (h14 : fd_w x 14 1 = 0) (h12 : fd_w x 12 1 = 1) : branchI x = brI 54 14 (signS_w (farX x : Nat) 25) := by
  unfold branchI
  rw [h14, h12]
  exact branchG10 _ _ _ _
theorem brI3 (x : Nat) (h14 : fd_w x 14 1 = 1) (h12 : fd_w x 12 1 = 1) : branchI x = brI 55 14 (signS_w (farX x : Nat) 25) := by
  unfold branchI
  rw [h14, h12]
  exact branchG11 _ _ _ _
end Go.Proofs.YtplhblhopaheeaaGreatDoor
namespace Go.Proofs.YtplhblhopaheeaaGreatDoor
open Go.ChangeShapes Go.WideShapes Go.ChangeAt Go.RowKit
set_option linter.unusedVariables false
set_option linter.unusedSimpArgs false

theorem u32_join (x y i : Nat) (hx : x % 2 ^ i = 0) (hx1 : x < 4294967296) (hy : y < 2 ^ i) (hy1 : y < 4294967296) : bits .or .u32 (x : Int) (y : Int) = ((x + y : Nat) : Int) := by
  rw [u32_or_nat x y hx1 hy1]
  have hq : x = 2 ^ i * (x / 2 ^ i) := by
    have := Nat.div_add_mod x (2 ^ i)
    omega
  rw [hq, ← Nat.two_pow_add_eq_or_of_lt hy (x / 2 ^ i)]
/-- A part that lies between two others. -/
theorem u32_between (A y B i j : Nat) (hA : A % 2 ^ j = 0) (hy0 : y % 2 ^ i = 0) (hy : y < 2 ^ j) (hB : B < 2 ^ i) (hij : i ≤ j) (h32 : A + y + B < 4294967296) : bits .or .u32 ((A + B : Nat) : Int) (y : Int) = ((A + y + B : Nat) : Int) := by
  rw [u32_or_nat _ _ (by omega) (by omega)]
  have hle : 2 ^ i ≤ 2 ^ j := Nat.pow_le_pow_right (by decide) hij
  have hqA : A = 2 ^ j * (A / 2 ^ j) := by
    have := Nat.div_add_mod A (2 ^ j)
    omega
  have hqy : y = 2 ^ i * (y / 2 ^ i) := by
    have := Nat.div_add_mod y (2 ^ i)
    omega
  have e1 : A + B = A ||| B := by
    rw [hqA]
    exact Nat.two_pow_add_eq_or_of_lt (Nat.lt_of_lt_of_le hB hle) _
  have e2 : y + B = y ||| B := by
    rw [hqy]
    exact Nat.two_pow_add_eq_or_of_lt hB _
  have hyB : y + B < 2 ^ j := by
    have h3 : y / 2 ^ i < 2 ^ (j - i) := by
      rw [Nat.div_lt_iff_lt_mul (Nat.two_pow_pos i), ← Nat.pow_add]
      rwa [show j - i + i = j by omega]
    have h4 : 2 ^ i * (y / 2 ^ i + 1) ≤ 2 ^ j := by
      have h5 : 2 ^ i * (y / 2 ^ i + 1) ≤ 2 ^ i * 2 ^ (j - i) := Nat.mul_le_mul_left _ h3
      rwa [← Nat.pow_add, show i + (j - i) = j by omega] at h5
    rw [Nat.mul_add, Nat.mul_one] at h4
    omega
  have e3 : A + (y + B) = A ||| (y + B) := by
    rw [hqA]
    exact Nat.two_pow_add_eq_or_of_lt hyB _
  rw [e1, Nat.or_assoc, Nat.or_comm B y, ← e2, ← e3]
  exact congrArg _ (by omega)
end Go.Proofs.YtplhblhopaheeaaGreatDoor
namespace Go.Proofs.YtplhblhopaheeaaGreatDoor
open Go.ChangeShapes Go.WideShapes Go.ChangeAt Go.RowKit
set_option linter.unusedVariables false
set_option linter.unusedSimpArgs false
set_option maxHeartbeats 20000000
set_option maxRecDepth 100000

theorem or_disj (x y : Nat) (hx : x < 4294967296) (hy : y < 4294967296) (h : x &&& y = 0) : x ||| y = x + y := by
  have hb : (BitVec.ofNat 64 x) &&& (BitVec.ofNat 64 y) = 0#64 := by
    apply BitVec.eq_of_toNat_eq
    rw [BitVec.toNat_and, BitVec.toNat_ofNat, BitVec.toNat_ofNat, Nat.mod_eq_of_lt (by omega), Nat.mod_eq_of_lt (by omega), h]
    rfl
  have e := congrArg BitVec.toNat (BitVec.add_eq_or_of_and_eq_zero _ _ hb)
  rw [BitVec.toNat_add, BitVec.toNat_or, BitVec.toNat_ofNat, BitVec.toNat_ofNat, Nat.mod_eq_of_lt (a := x) (by omega), Nat.mod_eq_of_lt (a := y) (by omega), Nat.mod_eq_of_lt (by omega)] at e
  exact e.symm
theorem u32_disj (x y : Nat) (hx : x < 4294967296) (hy : y < 4294967296) (h : x &&& y = 0) : bits .or .u32 (x : Int) (y : Int) = ((x + y : Nat) : Int) := by
  rw [u32_or_nat x y hx hy, or_disj x y hx hy h]
theorem row_f (F : Nat) (h : fd_w F 31 1 = 0 ∧ fd_w F 30 1 = 0 ∧ fd_w F 29 1 = 0 ∧ fd_w F 28 1 = 0 ∧ fd_w F 15 1 = 0 ∧ fd_w F 14 1 = 0 ∧ fd_w F 12 1 = 0) : 4026585088 &&& F = 0 ∧ 4026568704 &&& F = 0 ∧ 4026564608 &&& F = 0 := by
  obtain ⟨h31, h30, h29, h28, h15, h14, h12⟩ := h
  have e31 : F &&& 2147483648 = 0 := by rw [show (2147483648 : Nat) = 2 ^ 31 by decide, and_pow, h31, Nat.zero_mul]
  have e30 : F &&& 1073741824 = 0 := by rw [show (1073741824 : Nat) = 2 ^ 30 by decide, and_pow, h30, Nat.zero_mul]
  have e29 : F &&& 536870912 = 0 := by rw [show (536870912 : Nat) = 2 ^ 29 by decide, and_pow, h29, Nat.zero_mul]
  have e28 : F &&& 268435456 = 0 := by rw [show (268435456 : Nat) = 2 ^ 28 by decide, and_pow, h28, Nat.zero_mul]
  have e15 : F &&& 32768 = 0 := by rw [show (32768 : Nat) = 2 ^ 15 by decide, and_pow, h15, Nat.zero_mul]
  have e14 : F &&& 16384 = 0 := by rw [show (16384 : Nat) = 2 ^ 14 by decide, and_pow, h14, Nat.zero_mul]
  have e12 : F &&& 4096 = 0 := by rw [show (4096 : Nat) = 2 ^ 12 by decide, and_pow, h12, Nat.zero_mul]
  refine ⟨?_, ?_, ?_⟩
  · rw [Nat.and_comm, show (4026585088 : Nat) = 2147483648 ||| (1073741824 ||| (536870912 ||| (268435456 ||| (32768 ||| (16384 ||| 4096))))) by decide]
    simp only [Nat.and_or_distrib_left, e31, e30, e29, e28, e15, e14, e12, Nat.or_zero]
  · rw [Nat.and_comm, show (4026568704 : Nat) = 2147483648 ||| (1073741824 ||| (536870912 ||| (268435456 ||| (32768 ||| 4096)))) by decide]
    simp only [Nat.and_or_distrib_left, e31, e30, e29, e28, e15, e12, Nat.or_zero]
  · rw [Nat.and_comm, show (4026564608 : Nat) = 2147483648 ||| (1073741824 ||| (536870912 ||| (268435456 ||| 32768))) by decide]
    simp only [Nat.and_or_distrib_left, e31, e30, e29, e28, e15, Nat.or_zero]
/-- What lies in a far branch's word for the number v. -/
def farB (v : Nat) : Nat := fd_w v 24 1 * 67108864 + fd_w v 12 10 * 65536 + (lk (fd_w v 23 1) (fd_w v 24 1) * 8192 + lk (fd_w v 22 1) (fd_w v 24 1) * 2048) + fd_w v 1 11
theorem i64_bit1 (v k : Nat) (hv : v < 4294967296) : bits .and .i64 ((v / 2 ^ k : Nat) : Int) 1 = ((fd_w v k 1 : Nat) : Int) := by
  have : v / 2 ^ k ≤ v := Nat.div_le_self _ _
  rw [show (1 : Int) = ((1 : Nat) : Int) from rfl, (bits_nat .i64 33 (by decide) (fun n h1 h2 => by rw [IntKind.wrap_i64]; omega) _ 1 (by omega) (by decide)).1]
  exact congrArg _ (fd_land_w v k 1)
end Go.Proofs.YtplhblhopaheeaaGreatDoor
namespace Go.Proofs.YtplhblhopaheeaaGreatDoor
open Go.ChangeShapes Go.WideShapes Go.ChangeAt Go.RowKit
set_option linter.unusedVariables false
set_option linter.unusedSimpArgs false
set_option maxHeartbeats 20000000
set_option maxRecDepth 100000

def condW (c v : Nat) : Nat := 4026531840 + fd_w v 20 1 * 67108864 + c * 4194304 + fd_w v 12 6 * 65536 + 32768 + fd_w v 18 1 * 8192 + fd_w v 19 1 * 2048 + fd_w v 1 11
theorem farB_f (v : Nat) : fd_w (farB v) 31 1 = 0 ∧ fd_w (farB v) 30 1 = 0 ∧ fd_w (farB v) 29 1 = 0 ∧ fd_w (farB v) 28 1 = 0 ∧ fd_w (farB v) 15 1 = 0 ∧ fd_w (farB v) 14 1 = 0 ∧ fd_w (farB v) 12 1 = 0 := by
  have f24 : fd_w v 24 1 < 2 := fd_lt_w v 24 1
  have f12 : fd_w v 12 10 < 1024 := fd_lt_w v 12 10
  have f1 : fd_w v 1 11 < 2048 := fd_lt_w v 1 11
  have l1 : lk (fd_w v 23 1) (fd_w v 24 1) < 2 := Nat.mod_lt _ (by decide)
  have l2 : lk (fd_w v 22 1) (fd_w v 24 1) < 2 := Nat.mod_lt _ (by decide)
  unfold farB
  generalize lk (fd_w v 23 1) (fd_w v 24 1) = a1 at *
  generalize lk (fd_w v 22 1) (fd_w v 24 1) = a2 at *
  generalize fd_w v 24 1 = s at *
  generalize fd_w v 12 10 = g at *
  generalize fd_w v 1 11 = k at *
  unfold fd_w
  refine ⟨?_, ?_, ?_, ?_, ?_, ?_, ?_⟩ <;> simp only [Nat.reducePow] <;> omega
theorem farB_lt (v : Nat) : farB v < 134217728 := by
  have f24 : fd_w v 24 1 < 2 := fd_lt_w v 24 1
  have f12 : fd_w v 12 10 < 1024 := fd_lt_w v 12 10
  have f1 : fd_w v 1 11 < 2048 := fd_lt_w v 1 11
  have l1 : lk (fd_w v 23 1) (fd_w v 24 1) < 2 := Nat.mod_lt _ (by decide)
  have l2 : lk (fd_w v 22 1) (fd_w v 24 1) < 2 := Nat.mod_lt _ (by decide)
  unfold farB
  omega
end Go.Proofs.YtplhblhopaheeaaGreatDoor
namespace Go.Proofs.YtplhblhopaheeaaGreatDoor
open Go.ChangeShapes Go.WideShapes Go.ChangeAt Go.RowKit
set_option linter.unusedVariables false
set_option linter.unusedSimpArgs false
set_option maxHeartbeats 20000000
set_option maxRecDepth 100000

theorem jump_bits (x : Nat) (hx : x < 4294967296) : bits .and .u32 (x : Int) 4160782336 = ((fd_w x 27 5 * 134217728 + fd_w x 15 1 * 32768 : Nat) : Int) := by
  rw [show (4160782336 : Int) = ((4160782336 : Nat) : Int) from rfl, u32_and_nat _ _ hx (by decide)]
  refine congrArg _ ?_
  have e1 : x &&& 4160749568 = fd_w x 27 5 * 134217728 := and_mid x 27 5
  have e2 : x &&& 32768 = fd_w x 15 1 * 32768 := and_pow x 15
  have f : fd_w x 15 1 < 2 := fd_lt_w x 15 1
  rw [show (4160782336 : Nat) = 4160749568 ||| 32768 by decide, Nat.and_or_distrib_left, e1, e2, show fd_w x 27 5 * 134217728 = 2 ^ 27 * fd_w x 27 5 by omega, Nat.two_pow_add_eq_or_of_lt (by omega) (fd_w x 27 5)]
end Go.Proofs.YtplhblhopaheeaaGreatDoor
namespace Go.Proofs.YtplhblhopaheeaaGreatDoor
open Go.ChangeShapes Go.WideShapes Go.ChangeAt Go.RowKit
set_option linter.unusedVariables false
set_option linter.unusedSimpArgs false
set_option maxHeartbeats 20000000
set_option maxRecDepth 100000

def decI (b : Bool) (J : IV) (x : Nat) : IV := bif b && ((J.op == 54) && (J.cond != 14)) then noneI 65 x else J
end Go.Proofs.YtplhblhopaheeaaGreatDoor
namespace Go.Proofs.YtplhblhopaheeaaGreatDoor
open Go.ChangeShapes Go.WideShapes Go.ChangeAt Go.RowKit
set_option linter.unusedVariables false
set_option linter.unusedSimpArgs false

def zeroL : List Value := [.int .i64 0, .bool false, .bool false, .int .i64 0, .int .i64 0, .int .i64 0, .int .i64 0, .int .i64 0, .int .u32 0, .bool false, .int .i64 0, .int .i64 0, .int .i64 0, .bool false, .bool false]
theorem zeroA : (Tryz.prog.info? 28).map (fun i => i.zero) = some (some (Cel.any zeroL).val) := zeroIV
theorem szA (cs : List Value) (h : cs.length = 15) : (Tryz.prog.info? 28).map (·.size) = some (Cel.any cs).cells.length := by
  show _ = some cs.length
  rw [h]
  exact szIV IV.zero
section
variable {P : Program} {M : Zn} {w0 w : World} {L : List (Nat × Cel)} {ops : Array Oper} {rest : List Oper} {o : Oper} {a : Act} {Q : Exit → Act → World → Prop}
theorem SH.boxA_w (S : SH M w0 w L) (hgd : o.guard = none) (ty : TypeId) (x : Operand) (ho : o.op = .box ty x) (cs : List Value) (hx : a.eval x = .agg cs.toArray)
    (h : ∀ b w1, SH M w0 w1 ((b, Cel.any cs) :: L) → wpList P ops Q rest (a.put o.dst (.pointer (some ⟨b, 0, none⟩))) w1) : wpList P ops Q (o :: rest) a w :=
  S.box hgd ty x ho (Cel.any cs) hx h
theorem SH.storeA_w (S : SH M w0 w L) (hgd : o.guard = none) (ty : TypeId) (x y : Operand) (ho : o.op = .store ty x y) (b : Nat) (cs : List Value) (hx : a.eval x = .pointer (some ⟨b, 0, none⟩)) (hy : a.eval y = .agg cs.toArray) (i : Nat) (c : Cel) (hL : L[i]? = some (b, c))
    (hl : c.cells.length = cs.length) (h1 : cs.all (fun v => v.oneCell') = true) (hi : (P.info? ty).map (·.size) = some (Cel.any cs).cells.length)
    (h : ∀ w1, SH M w0 w1 (L.set i (b, Cel.any cs)) → wpList P ops Q rest (a.put o.dst undef) w1) : wpList P ops Q (o :: rest) a w :=
  S.storeAll hgd ty x y ho b (Cel.any cs) hx hy i c hL hl (fun v hv => List.all_eq_true.1 h1 v hv) hi h
theorem wpl_isStoreAt_w (k : Nat) {d : Option Nat} {ty : TypeId} {y : Operand} {t : TypeId} {p : String} {af : Array Edge} {g : Option (Nat × Bool)} (h : wpList P ops Q ({ dst := d, op := Op.store ty (Operand.tmp k) y, type := t, pos := p, after := af, guard := g } :: rest) a w) : wpList P ops Q ({ dst := d, op := Op.store ty (Operand.tmp k) y, type := t, pos := p, after := af, guard := g } :: rest) a w := h
theorem SH.results2_w (S : SH M w0 w L) {fn : Func} {p q : Tmp} {ty : TypeId} (hfn : fn.results = #[.cell p ty, .tmp q]) (tmps : Array Value) (b : Nat) (hp : tmps.getD p undef = .pointer (some ⟨b, 0, none⟩)) (i : Nat) (c : Cel) (hL : L[i]? = some (b, c))
    (d : TypeDesc) (hu : P.underlying ty = some d) (hd : d.isRow = true) (hi : (P.info? ty).map (·.size) = some c.cells.length) : (Go.results fn tmps).run P w = .ok (.tuple #[c.val, tmps.getD q undef]) w := by
  obtain ⟨⟨t, hb⟩, _⟩ := S.at hL
  have hp' : tmps[p]?.getD undef = .pointer (some ⟨b, 0, none⟩) := by simpa using hp
  simp [Go.results, hfn, hp', asAddr, Cel.val, run_loadVar_row w b t ty _ _ d hb hu (by cases d <;> simp_all) (by simpa using hi)]
theorem SH.sliceA_w (S : SH M w0 w L) (hgd : o.guard = none) (ty n : Nat) (xs : Array (Nat × Operand)) (ho : o.op = .buildSlice ty n xs) (cs : List Value) (e : TypeId)
    (hr : (execOp a.eval o).run P w = .ok (.value (.slice (some ⟨w.heap.size, 0, none⟩) n n)) (w.alloc (.cells cs.toArray e)))
    (h : ∀ g w1, SH M w0 w1 ((g, Cel.any cs) :: L) → wpList P ops Q rest (a.put o.dst (.slice (some ⟨g, 0, none⟩) n n)) w1) : wpList P ops Q (o :: rest) a w :=
  wpList_plain hgd fun K hK => by
    unfold Oper.wp
    rw [hr]
    exact hK _ _ (h _ _ (S.new (Cel.any cs) e))
end
/-- What the first two rows say without their second. -/
def dataJ (p d n : Int) (s : Bool) : IV :=
  bif lessD p != p && (s && d == 15) then (bif lessN (lessD p) != lessD p && n == 15 then ⟨lessN (lessD p), true, s, 14, 0, 0, 0, 0, 0, false, 0, 0, 0, false, false⟩ else ⟨lessD p, true, s, 14, 0, n, 0, 0, 0, false, 0, 0, 0, false, false⟩)
  else bif lessN p != p && n == 15 then ⟨lessN p, true, s, 14, d, 0, 0, 0, 0, false, 0, 0, 0, false, false⟩ else ⟨p, true, s, 14, d, n, 0, 0, 0, false, 0, 0, 0, false, false⟩
def dataX (x : Nat) : IV := dataJ (dataOpS (fd_w x 21 4 : Nat)) (fd_w x 8 4 : Nat) (fd_w x 16 4 : Nat) (fd_w x 20 1 != 0)
def numX (x : Nat) : Nat := fd_w x 26 1 * 2048 + fd_w x 12 3 * 256 + fd_w x 0 8
def modX (x : Nat) : IV := bif (dataX x).op == 64 then noneI 64 x else checkedI (secondI (dataX x) (expandS (numX x : Nat) false).1 (bif Nat.beq (numX x / 1024) 0 then 0 else 1)) (expandS (numX x : Nat) false).2.2 x
def shiftG (t b : Nat) : Int × Int :=
  bif Nat.beq t 0 then (bif Nat.beq b 0 then (0, 0) else (1, (b : Int)))
  else bif Nat.beq t 3 then (bif Nat.beq b 0 then (5, 1) else (4, (b : Int)))
  else (bif Nat.beq t 1 then 2 else 3, bif Nat.beq b 0 then 32 else (b : Int))
def regI (i : IV) (m sh amt : Int) : IV := { i with m := m, sh := sh, amt := amt }
def shiX (x : Nat) : IV := bif (dataX x).op == 64 || fd_w x 15 1 != 0 then noneI 64 x else checkedI (regI (dataX x) (fd_w x 0 4 : Nat) (shiftG (fd_w x 4 2) (fd_w x 12 3 * 4 + fd_w x 6 2)).1 (shiftG (fd_w x 4 2) (fd_w x 12 3 * 4 + fd_w x 6 2)).2) true x
def immI (i : IV) (v : Int) : IV := { i with imm := v }
def manyF (op : Int) (x : Nat) : Int := (fd_w x 0 5 : Nat) + 1 - bif op == 33 then ((fd_w x 12 3 * 4 + fd_w x 6 2 : Nat) : Int) else 0
def bitX (op : Int) (x : Nat) : IV := bif fd_w x 26 1 != 0 || fd_w x 5 1 != 0 then noneI 64 x else
  checkedI (immI (startI op (fd_w x 8 4 : Nat) (fd_w x 16 4 : Nat)) ((((fd_w x 12 3 * 4 + fd_w x 6 2 : Nat) : Int) + 32 * manyF op x) % 4294967296)) (decide (1 ≤ manyF op x) && decide (((fd_w x 12 3 * 4 + fd_w x 6 2 : Nat) : Int) + manyF op x ≤ 32)) x
def plaX (x : Nat) : IV :=
  bif Nat.beq (fd_w x 20 5) 0 then checkedI (secondI (startI 5 (fd_w x 8 4 : Nat) (fd_w x 16 4 : Nat)) (numX x : Nat) 2) true x
  else bif Nat.beq (fd_w x 20 5) 10 then checkedI (secondI (startI 3 (fd_w x 8 4 : Nat) (fd_w x 16 4 : Nat)) (numX x : Nat) 2) true x
  else bif Nat.beq (fd_w x 20 5) 4 then checkedI (secondI (startI 13 (fd_w x 8 4 : Nat) 0) (fd_w x 16 4 * 4096 + numX x : Nat) 2) true x
  else bif Nat.beq (fd_w x 20 5) 12 then checkedI (immI (startI 30 (fd_w x 8 4 : Nat) 0) (fd_w x 16 4 * 4096 + numX x : Nat)) true x
  else bif Nat.beq (fd_w x 20 5) 20 then bitX 32 x
  else bif Nat.beq (fd_w x 20 5) 28 then bitX 31 x
  else bif Nat.beq (fd_w x 20 5) 22 then bitX 33 x
  else noneI 64 x
def memOp_w (g z : Nat) : Int := bif Nat.beq g 0 then (bif Nat.beq z 0 then 50 else bif Nat.beq z 2 then 51 else bif Nat.beq z 4 then 49 else bif Nat.beq z 1 then 45 else bif Nat.beq z 3 then 46 else bif Nat.beq z 5 then 44 else 64) else bif Nat.beq z 1 then 47 else bif Nat.beq z 3 then 48 else 64
def litX (i : IV) (x : Nat) : IV := bif Nat.beq (fd_w x 20 1) 0 then noneI 64 x else bif Nat.beq (fd_w x 23 1) 0 then checkedI (secondI i ((-(fd_w x 0 12 : Nat) : Int) % 4294967296) 0) (fd_w x 0 12 != 0) x else checkedI (secondI i (fd_w x 0 12 : Nat) 0) true x
def memI (i : IV) (m amt : Int) : IV := { i with m := m, amt := amt }
def memX (x : Nat) : IV :=
  bif memOp_w (fd_w x 24 1) (fd_w x 20 3) == 64 then noneI 64 x
  else bif Nat.beq (fd_w x 16 4) 15 then litX (startI (memOp_w (fd_w x 24 1) (fd_w x 20 3)) (fd_w x 12 4 : Nat) (fd_w x 16 4 : Nat)) x
  else bif Nat.beq (fd_w x 23 1) 0 then (bif Nat.beq (fd_w x 6 6) 0 then checkedI (memI (startI (memOp_w (fd_w x 24 1) (fd_w x 20 3)) (fd_w x 12 4 : Nat) (fd_w x 16 4 : Nat)) (fd_w x 0 4 : Nat) (fd_w x 4 2 : Nat)) true x else noneI 64 x)
  else checkedI (secondI (startI (memOp_w (fd_w x 24 1) (fd_w x 20 3)) (fd_w x 12 4 : Nat) (fd_w x 16 4 : Nat)) (fd_w x 0 12 : Nat) 0) true x
def popN (v : Nat) : Nat → Nat
  | 0 => 0
  | k + 1 => popN v k + fd_w v k 1
def mayL (ldm : Bool) (l n : Nat) (back : Bool) : Bool := !(Nat.beq (fd_w l 13 1) 1 || (Nat.ble (popN l 16) 1 || (back && Nat.beq (fd_w l n 1) 1))) && (bif ldm then !(Nat.beq (fd_w l 14 2) 3) else Nat.beq (fd_w l 15 1) 0)
def manyI (ldm : Bool) (n l : Int) (back down : Bool) : IV := ⟨bif ldm then 52 else 53, true, false, 14, 0, n, 0, 0, 0, false, 0, 0, l, back, down⟩
def manX (x : Nat) : IV :=
  bif Nat.beq (fd_w x 22 3) 2 then checkedI (manyI (fd_w x 20 1 != 0) (fd_w x 16 4 : Nat) (fd_w x 0 16 : Nat) (fd_w x 21 1 != 0) false) (mayL (fd_w x 20 1 != 0) (fd_w x 0 16) (fd_w x 16 4) (fd_w x 21 1 != 0)) x
  else bif Nat.beq (fd_w x 22 3) 4 then checkedI (manyI (fd_w x 20 1 != 0) (fd_w x 16 4 : Nat) (fd_w x 0 16 : Nat) (fd_w x 21 1 != 0) true) (mayL (fd_w x 20 1 != 0) (fd_w x 0 16) (fd_w x 16 4) (fd_w x 21 1 != 0)) x
  else noneI 64 x
def regOpY (y : Int) : Int := if y = 4194304000 then 17 else if y = 4195352576 then 17 else if y = 4196401152 then 18 else if y = 4197449728 then 18 else if y = 4198498304 then 19 else if y = 4199546880 then 19 else if y = 4200595456 then 20 else if y = 4201644032 then 20 else if y = 4194304128 then 40 else if y = 4195352704 then 42 else if y = 4198498432 then 39 else if y = 4199547008 then 41 else if y = 4203741312 then 36 else if y = 4203741328 then 37 else if y = 4203741344 then 35 else if y = 4203741360 then 38 else if y = 4205838464 then 34 else if y = 4211081216 then 22 else if y = 4211081232 then 23 else if y = 4219469824 then 25 else if y = 4221566976 then 24 else if y = 4223664128 then 27 else if y = 4225761280 then 26 else if y = 4220518640 then 29 else if y = 4222615792 then 28 else 64
def regOp (x : Nat) : Int := regOpY (fd_w x 20 12 * 1048576 + fd_w x 4 4 * 16 : Nat)
def r4 (op : Int) (s : Bool) (d n m a : Int) : IV := ⟨op, true, s, 14, d, n, m, a, 0, false, 0, 0, 0, false, false⟩
def unaG (p d n m : Int) (x : Nat) : IV :=
  bif p == 40 || (p == 42 || (p == 39 || p == 41)) then (bif n == 15 then checkedI (r4 p false d 0 m 0) true x else noneI 64 x)
  else checkedI (r4 p false d 0 m 0) (n == m) x
def regG (p d n m a : Int) (s : Bool) (x : Nat) : IV :=
  bif p == 64 then noneI 64 x
  else bif p == 25 || (p == 24 || (p == 27 || p == 26)) then checkedI (r4 p false a n m d) (a != d) x
  else bif p == 22 || p == 23 then (bif p == 22 && a == 15 then checkedI (r4 21 false d n m 0) true x else checkedI (r4 p false d n m a) true x)
  else bif a != 15 then noneI 64 x
  else bif classS p == 3 then unaG p d n m x
  else checkedI (r4 p (classS p == 1 && s) d n m 0) true x
def regX (x : Nat) : IV := regG (regOp x) (fd_w x 8 4 : Nat) (fd_w x 16 4 : Nat) (fd_w x 0 4 : Nat) (fd_w x 12 4 : Nat) (fd_w x 20 1 != 0) x
/-- What a word is outside of an IT. -/
def aloX (x : Nat) : IV :=
  bif Nat.beq (fd_w x 27 5) 30 && Nat.beq (fd_w x 15 1) 1 then branchI x
  else bif Nat.beq (fd_w x 25 7) 116 then manX x
  else bif Nat.beq (fd_w x 25 7) 117 then shiX x
  else bif Nat.beq (fd_w x 25 7) 120 || Nat.beq (fd_w x 25 7) 122 then modX x
  else bif Nat.beq (fd_w x 25 7) 121 || Nat.beq (fd_w x 25 7) 123 then plaX x
  else bif Nat.beq (fd_w x 25 7) 124 then memX x
  else bif Nat.beq (fd_w x 25 7) 125 then regX x
  else noneI 64 x
theorem fdh (h k a s : Nat) (hk : k < 65536) : fd_w (h * 65536 + k) (16 + a) s = fd_w h a s := by
  unfold fd_w
  rw [Nat.pow_add, ← Nat.div_div_eq_div_mul, show (h * 65536 + k) / 2 ^ 16 = h by omega]
theorem fdk (h k a s : Nat) (has : a + s ≤ 16) : fd_w (h * 65536 + k) a s = fd_w k a s := by
  unfold fd_w
  have e : h * 65536 = 2 ^ a * (2 ^ s * (h * 2 ^ (16 - a - s))) := by
    rw [show (65536 : Nat) = 2 ^ a * (2 ^ s * 2 ^ (16 - a - s)) by rw [← Nat.pow_add, ← Nat.pow_add, show a + (s + (16 - a - s)) = 16 by omega]]
    rw [Nat.mul_left_comm h, Nat.mul_left_comm h]
  rw [e, Nat.mul_add_div (Nat.two_pow_pos a), Nat.mul_add_mod]
theorem fd_u16 (h a s : Nat) (hh : h < 65536) (hs : s ≤ 15) (x y : Int) (hx : x = ((h / 2 ^ a : Nat) : Int)) (hy : y = ((2 ^ s - 1 : Nat) : Int)) : bits .and .u16 x y = ((fd_w h a s : Nat) : Int) := by
  have h2 : 2 ^ s ≤ 2 ^ 15 := Nat.pow_le_pow_right (by decide) hs
  have h3 := Nat.two_pow_pos s
  have : h / 2 ^ a ≤ h := Nat.div_le_self _ _
  rw [hx, hy, (bits_nat .u16 16 (by decide) (fun n h1 h2 => by rw [IntKind.wrap_u16]; omega) _ _ (by omega) (by omega)).1, fd_land_w]
end Go.Proofs.YtplhblhopaheeaaGreatDoor
namespace Go.Proofs.YtplhblhopaheeaaGreatDoor
open Go.ChangeShapes Go.WideShapes Go.ChangeAt Go.RowKit
set_option linter.unusedVariables false
set_option linter.unusedSimpArgs false
set_option maxHeartbeats 20000000
set_option maxRecDepth 100000

end Go.Proofs.YtplhblhopaheeaaGreatDoor
namespace Go.Proofs.YtplhblhopaheeaaGreatDoor
open Go.ChangeShapes Go.WideShapes Go.ChangeAt Go.RowKit
set_option linter.unusedVariables false
set_option linter.unusedSimpArgs false
set_option maxHeartbeats 20000000
set_option maxRecDepth 100000

theorem numX_lt (x : Nat) : numX x < 4096 := by
  have := fd_lt_w x 26 1
  have := fd_lt_w x 12 3
  have := fd_lt_w x 0 8
  unfold numX
  omega
theorem ivcase (J : IV) (k : Int) : (J.op == k) = true → J.op = k := fun h => by simpa using h
end Go.Proofs.YtplhblhopaheeaaGreatDoor
namespace Go.Proofs.YtplhblhopaheeaaGreatDoor
open Go.ChangeShapes Go.WideShapes Go.ChangeAt Go.RowKit
set_option linter.unusedVariables false
set_option linter.unusedSimpArgs false
set_option maxHeartbeats 20000000
set_option maxRecDepth 100000

theorem and_two (x a s b t : Nat) (h : b + t ≤ a) : x &&& ((2 ^ s - 1) * 2 ^ a + (2 ^ t - 1) * 2 ^ b) = fd_w x a s * 2 ^ a + fd_w x b t * 2 ^ b := by
  have hb : ∀ y, y < 2 ^ t → y * 2 ^ b < 2 ^ a := fun y hy => by
    have h1 : y * 2 ^ b < 2 ^ t * 2 ^ b := (Nat.mul_lt_mul_right (Nat.two_pow_pos b)).2 hy
    have h2 : 2 ^ t * 2 ^ b ≤ 2 ^ a := by rw [← Nat.pow_add]; exact Nat.pow_le_pow_right (by decide) (by omega)
    omega
  have h0 := Nat.two_pow_pos t
  rw [Nat.mul_comm (2 ^ s - 1), Nat.two_pow_add_eq_or_of_lt (hb _ (by omega)), Nat.and_or_distrib_left, Nat.mul_comm (2 ^ a), and_mid, and_mid, Nat.mul_comm (fd_w x a s), Nat.two_pow_add_eq_or_of_lt (hb _ (fd_lt_w x b t))]
theorem u32_two (x a s b t : Nat) (m : Int) (hx : x < 4294967296) (h : b + t ≤ a) (hm : m = (((2 ^ s - 1) * 2 ^ a + (2 ^ t - 1) * 2 ^ b : Nat) : Int)) (h32 : (2 ^ s - 1) * 2 ^ a + (2 ^ t - 1) * 2 ^ b < 4294967296) : bits .and .u32 (x : Int) m = ((fd_w x a s * 2 ^ a + fd_w x b t * 2 ^ b : Nat) : Int) := by
  rw [hm, u32_and_nat _ _ hx h32, and_two x a s b t h]
end Go.Proofs.YtplhblhopaheeaaGreatDoor
namespace Go.Proofs.YtplhblhopaheeaaGreatDoor
open Go.ChangeShapes Go.WideShapes Go.ChangeAt Go.RowKit
set_option linter.unusedVariables false
set_option linter.unusedSimpArgs false
set_option maxHeartbeats 20000000
set_option maxRecDepth 100000

end Go.Proofs.YtplhblhopaheeaaGreatDoor
namespace Go.Proofs.YtplhblhopaheeaaGreatDoor
open Go.ChangeShapes Go.WideShapes Go.ChangeAt Go.RowKit
set_option linter.unusedVariables false
set_option linter.unusedSimpArgs false
set_option maxHeartbeats 20000000
set_option maxRecDepth 100000

end Go.Proofs.YtplhblhopaheeaaGreatDoor
namespace Go.Proofs.YtplhblhopaheeaaGreatDoor
open Go.ChangeShapes Go.WideShapes Go.ChangeAt Go.RowKit
set_option linter.unusedVariables false
set_option linter.unusedSimpArgs false
set_option maxHeartbeats 20000000
set_option maxRecDepth 100000

theorem if_le (c : Prop) [Decidable c] (a b : Int) (ha : a ≤ 64) (hb : b ≤ 64) : (if c then a else b) ≤ 64 := by split <;> assumption
theorem regOpY_le (y : Int) : regOpY y ≤ 64 := by
  unfold regOpY
  repeat (first | decide | refine if_le _ _ _ (by decide) ?_)
theorem regG_n (p d n m a : Int) (s : Bool) (x : Nat) (h : (p == 64) = true) : regG p d n m a s x = noneI 64 x := by
  unfold regG
  rw [h, cond_true]
theorem regG_l (p d n m a : Int) (s : Bool) (x : Nat) (h1 : (p == 64) = false) (h2 : (p == 25 || (p == 24 || (p == 27 || p == 26))) = true) : regG p d n m a s x = checkedI (r4 p false a n m d) (a != d) x := by
  unfold regG
  rw [h1, h2, cond_false, cond_true]
theorem regG_m (p d n m a : Int) (s : Bool) (x : Nat) (h1 : (p == 64) = false) (h2 : (p == 25 || (p == 24 || (p == 27 || p == 26))) = false) (h3 : (p == 22 || p == 23) = true) (h4 : (p == 22 && a == 15) = true) : regG p d n m a s x = checkedI (r4 21 false d n m 0) true x := by
  unfold regG
  rw [h1, h2, h3, h4, cond_false, cond_false, cond_true, cond_true]
theorem regG_a (p d n m a : Int) (s : Bool) (x : Nat) (h1 : (p == 64) = false) (h2 : (p == 25 || (p == 24 || (p == 27 || p == 26))) = false) (h3 : (p == 22 || p == 23) = true) (h4 : (p == 22 && a == 15) = false) : regG p d n m a s x = checkedI (r4 p false d n m a) true x := by
  unfold regG
  rw [h1, h2, h3, h4, cond_false, cond_false, cond_true, cond_false]
theorem regG_o (p d n m a : Int) (s : Bool) (x : Nat) (h1 : (p == 64) = false) (h2 : (p == 25 || (p == 24 || (p == 27 || p == 26))) = false) (h3 : (p == 22 || p == 23) = false) (h4 : (a != 15) = true) : regG p d n m a s x = noneI 64 x := by
  unfold regG
  rw [h1, h2, h3, h4, cond_false, cond_false, cond_false, cond_true]
theorem regG_u (p d n m a : Int) (s : Bool) (x : Nat) (h1 : (p == 64) = false) (h2 : (p == 25 || (p == 24 || (p == 27 || p == 26))) = false) (h3 : (p == 22 || p == 23) = false) (h4 : (a != 15) = false) (h5 : (classS p == 3) = true) : regG p d n m a s x = unaG p d n m x := by
  unfold regG
  rw [h1, h2, h3, h4, h5, cond_false, cond_false, cond_false, cond_false, cond_true]
theorem regG_s (p d n m a : Int) (s : Bool) (x : Nat) (h1 : (p == 64) = false) (h2 : (p == 25 || (p == 24 || (p == 27 || p == 26))) = false) (h3 : (p == 22 || p == 23) = false) (h4 : (a != 15) = false) (h5 : (classS p == 3) = false) (r : Bool) (h6 : (classS p == 1 && s) = r) : regG p d n m a s x = checkedI (r4 p r d n m 0) true x := by
  unfold regG
  rw [h1, h2, h3, h4, h5, h6, cond_false, cond_false, cond_false, cond_false, cond_false]
def regM (p : Int) : Prop := p = 64 ∨ p = 25 ∨ p = 24 ∨ p = 27 ∨ p = 26 ∨ p = 22 ∨ p = 23 ∨ p = 17 ∨ p = 18 ∨ p = 19 ∨ p = 20 ∨ p = 40 ∨ p = 42 ∨ p = 39 ∨ p = 41 ∨ p = 36 ∨ p = 37 ∨ p = 35 ∨ p = 38 ∨ p = 34 ∨ p = 28 ∨ p = 29
theorem if_P (P : Int → Prop) (c : Prop) [Decidable c] (a b : Int) (ha : P a) (hb : P b) : P (if c then a else b) := by split <;> assumption
theorem regOpY_mem (y : Int) : regM (regOpY y) := by
  unfold regOpY
  repeat (first | (exact (by unfold regM; decide)) | refine if_P regM _ _ _ (by unfold regM; decide) ?_)
end Go.Proofs.YtplhblhopaheeaaGreatDoor
namespace Go.Proofs.YtplhblhopaheeaaGreatDoor
open Go.ChangeShapes Go.WideShapes Go.ChangeAt Go.RowKit
set_option linter.unusedVariables false
set_option linter.unusedSimpArgs false
set_option maxHeartbeats 20000000
set_option maxRecDepth 100000

theorem u64_and (a b : Nat) (ha : a < 18446744073709551616) (hb : b < 18446744073709551616) : bits .and .u64 (a : Int) (b : Int) = ((a &&& b : Nat) : Int) :=
  (bits_nat .u64 64 (by decide) (fun n h1 h2 => by rw [IntKind.wrap_u64]; omega) a b (by omega) (by omega)).1
def oN1 (x : Nat) : Nat := (x / 2 &&& 6148914691236517205) + (x &&& 6148914691236517205)
def oN2 (x : Nat) : Nat := (x / 4 &&& 3689348814741910323) + (x &&& 3689348814741910323)
def oN3 (x : Nat) : Nat := (x / 16 + x) &&& 1085102592571150095
def oN4 (x : Nat) : Nat := x + x / 256
def oN5 (x : Nat) : Nat := x + x / 65536
def oN6 (x : Nat) : Nat := x + x / 4294967296
def onesN (x : Nat) : Nat := oN6 (oN5 (oN4 (oN3 (oN2 (oN1 x))))) &&& 127
theorem ones_0 : (List.range 4096).all (fun b => Nat.beq (onesN (0 + b)) (popN (0 + b) 16)) = true := by decide +kernel
theorem ones_1 : (List.range 4096).all (fun b => Nat.beq (onesN (4096 + b)) (popN (4096 + b) 16)) = true := by decide +kernel
theorem ones_2 : (List.range 4096).all (fun b => Nat.beq (onesN (8192 + b)) (popN (8192 + b) 16)) = true := by decide +kernel
theorem ones_3 : (List.range 4096).all (fun b => Nat.beq (onesN (12288 + b)) (popN (12288 + b) 16)) = true := by decide +kernel
theorem ones_4 : (List.range 4096).all (fun b => Nat.beq (onesN (16384 + b)) (popN (16384 + b) 16)) = true := by decide +kernel
theorem ones_5 : (List.range 4096).all (fun b => Nat.beq (onesN (20480 + b)) (popN (20480 + b) 16)) = true := by decide +kernel
theorem ones_6 : (List.range 4096).all (fun b => Nat.beq (onesN (24576 + b)) (popN (24576 + b) 16)) = true := by decide +kernel
theorem ones_7 : (List.range 4096).all (fun b => Nat.beq (onesN (28672 + b)) (popN (28672 + b) 16)) = true := by decide +kernel
theorem ones_8 : (List.range 4096).all (fun b => Nat.beq (onesN (32768 + b)) (popN (32768 + b) 16)) = true := by decide +kernel
theorem ones_9 : (List.range 4096).all (fun b => Nat.beq (onesN (36864 + b)) (popN (36864 + b) 16)) = true := by decide +kernel
theorem ones_10 : (List.range 4096).all (fun b => Nat.beq (onesN (40960 + b)) (popN (40960 + b) 16)) = true := by decide +kernel
theorem ones_11 : (List.range 4096).all (fun b => Nat.beq (onesN (45056 + b)) (popN (45056 + b) 16)) = true := by decide +kernel
theorem ones_12 : (List.range 4096).all (fun b => Nat.beq (onesN (49152 + b)) (popN (49152 + b) 16)) = true := by decide +kernel
theorem ones_13 : (List.range 4096).all (fun b => Nat.beq (onesN (53248 + b)) (popN (53248 + b) 16)) = true := by decide +kernel
theorem ones_14 : (List.range 4096).all (fun b => Nat.beq (onesN (57344 + b)) (popN (57344 + b) 16)) = true := by decide +kernel
theorem ones_15 : (List.range 4096).all (fun b => Nat.beq (onesN (61440 + b)) (popN (61440 + b) 16)) = true := by decide +kernel
theorem ones_pop (x : Nat) (hx : x < 65536) : onesN x = popN x 16 := by
  have key : ∀ k, (List.range 4096).all (fun b => Nat.beq (onesN (k * 4096 + b)) (popN (k * 4096 + b) 16)) = true → x / 4096 = k → onesN x = popN x 16 := fun k h hk => by
    have := List.all_eq_true.1 h (x % 4096) (List.mem_range.2 (Nat.mod_lt _ (by decide)))
    rw [show k * 4096 + x % 4096 = x by omega] at this
    exact Nat.eq_of_beq_eq_true this
  have h16 : x / 4096 < 16 := by omega
  generalize hq : x / 4096 = q at *
  rcases (show q = 0 ∨ q = 1 ∨ q = 2 ∨ q = 3 ∨ q = 4 ∨ q = 5 ∨ q = 6 ∨ q = 7 ∨ 8 ≤ q by omega) with e | e | e | e | e | e | e | e | e
  · exact key 0 ones_0 e
  · exact key 1 ones_1 e
  · exact key 2 ones_2 e
  · exact key 3 ones_3 e
  · exact key 4 ones_4 e
  · exact key 5 ones_5 e
  · exact key 6 ones_6 e
  · exact key 7 ones_7 e
  rcases (show q = 8 ∨ q = 9 ∨ q = 10 ∨ q = 11 ∨ q = 12 ∨ q = 13 ∨ q = 14 ∨ q = 15 by omega) with f | f | f | f | f | f | f | f
  · exact key 8 ones_8 f
  · exact key 9 ones_9 f
  · exact key 10 ones_10 f
  · exact key 11 ones_11 f
  · exact key 12 ones_12 f
  · exact key 13 ones_13 f
  · exact key 14 ones_14 f
  · exact key 15 ones_15 f
end Go.Proofs.YtplhblhopaheeaaGreatDoor
namespace Go.Proofs.YtplhblhopaheeaaGreatDoor
open Go.ChangeShapes Go.WideShapes Go.ChangeAt Go.RowKit
set_option linter.unusedVariables false
set_option linter.unusedSimpArgs false
set_option maxHeartbeats 20000000
set_option maxRecDepth 100000

theorem i64_mid (x a s : Nat) (m : Int) (hx : x < 65536) (hm : m = (((2 ^ s - 1) * 2 ^ a : Nat) : Int)) (h32 : (2 ^ s - 1) * 2 ^ a < 65536) : bits .and .i64 (x : Int) m = ((fd_w x a s * 2 ^ a : Nat) : Int) := by
  rw [hm, (bits_nat .i64 33 (by decide) (fun n h1 h2 => by rw [IntKind.wrap_i64]; omega) _ _ (by omega) (by omega)).1, and_mid]
theorem i64_bitv_w (x n : Nat) (hx : x < 65536) : bits .and .i64 ((x : Int) / 2 ^ n) 1 = ((fd_w x n 1 : Nat) : Int) := by
  have : x / 2 ^ n ≤ x := Nat.div_le_self _ _
  rw [show ((x : Int) / 2 ^ n) = ((x / 2 ^ n : Nat) : Int) by simp, show (1 : Int) = ((2 ^ 1 - 1 : Nat) : Int) from rfl, (bits_nat .i64 33 (by decide) (fun n h1 h2 => by rw [IntKind.wrap_i64]; omega) _ _ (by omega) (by decide)).1, fd_land_w]
end Go.Proofs.YtplhblhopaheeaaGreatDoor
