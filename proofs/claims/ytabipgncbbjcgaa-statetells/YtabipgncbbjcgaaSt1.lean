/- Stage 12: states as values; arrays of registers held against one another. -/
import Derived.Test.YtabipgncbbjcgaaSt0
import Derived.ChangeKeysEq
import Derived.Laws.StructEq
namespace Go.Proofs.Ytabipgncbbjcgaa
open Go.ChangeShapes Go.WideShapes Go.ChangeAt Go.RowKit
set_option linter.unusedVariables false
set_option linter.unusedSimpArgs false

def okU (x : Int) : Prop := 0 ≤ x ∧ x < 4294967296
def okN (n : Nat) (R : List Int) : Prop := R.length = n ∧ ∀ x ∈ R, okU x
def rc (R : List Int) : List Value := R.map fun x => Value.int .u32 x
theorem rc_length (R : List Int) : (rc R).length = R.length := by simp [rc]
theorem rc_at {R : List Int} {j : Nat} {x : Int} (h : R[j]? = some x) : (rc R)[j]? = some (.int .u32 x) := by simp [rc, h]
theorem rc_set (R : List Int) (j : Nat) (x : Int) : (rc R).set j (.int .u32 x) = rc (R.set j x) := by simp [rc, List.map_set]
theorem rc_append (A B : List Int) : rc (A ++ B) = rc A ++ rc B := by simp [rc]
theorem rc_one (R : List Int) : ∀ u ∈ rc R, u.oneCell' = true := by
  intro u hu
  obtain ⟨x, _, rfl⟩ := List.mem_map.1 hu
  rfl
theorem rc_inj {A B : List Int} (h : rc A = rc B) : A = B := by
  have := congrArg (List.map fun v => match v with | Value.int _ x => x | _ => 0) h
  simpa [rc, Function.comp_def] using this
theorem okN_at {n : Nat} {R : List Int} (h : okN n R) {j : Nat} (hj : j < n) : ∃ x, R[j]? = some x ∧ okU x := by
  obtain ⟨hl, hu⟩ := h
  exact ⟨R[j], List.getElem?_eq_getElem (by omega), hu _ (List.getElem_mem _)⟩
theorem okN_set {n : Nat} {R : List Int} (h : okN n R) (j : Nat) {x : Int} (hx : okU x) : okN n (R.set j x) :=
  ⟨by rw [List.length_set]; exact h.1, fun y hy => by rcases List.mem_or_eq_of_mem_set hy with h1 | h1; exact h.2 y h1; exact h1 ▸ hx⟩

structure SV where
  r : List Int
  f : Int
  h : Bool
def SV.ok (s : SV) : Prop := okN 16 s.r ∧ (-9223372036854775808 ≤ s.f ∧ s.f ≤ 9223372036854775807)
def SV.cs (s : SV) : List Value := rc s.r ++ [.int .i64 s.f, .bool s.h]
def SV.val (s : SV) : Value := .agg s.cs.toArray
theorem SV.len {s : SV} (h : s.r.length = 16) : s.cs.length = 18 := by simp [SV.cs, rc, h]
theorem SV.reg {s : SV} {j : Nat} {x : Int} (h : s.r[j]? = some x) : s.cs[j]? = some (.int .u32 x) := by
  have hj := (List.getElem?_eq_some_iff.1 h).1
  rw [SV.cs, List.getElem?_append_left (by rw [rc_length]; exact hj)]
  exact rc_at h
theorem SV.fl {s : SV} (h : s.r.length = 16) : s.cs[16]? = some (.int .i64 s.f) := by
  rw [SV.cs, List.getElem?_append_right (by rw [rc_length]; omega), rc_length, h]
  rfl
theorem SV.ha {s : SV} (h : s.r.length = 16) : s.cs[17]? = some (.bool s.h) := by
  rw [SV.cs, List.getElem?_append_right (by rw [rc_length]; omega), rc_length, h]
  rfl
theorem SV.set_reg {s : SV} {j : Nat} (h : j < s.r.length) (x : Int) : s.cs.set j (.int .u32 x) = SV.cs { s with r := s.r.set j x } := by
  rw [SV.cs, List.set_append_left _ _ (by rw [rc_length]; exact h), rc_set]
  rfl
theorem SV.set_fl {s : SV} (h : s.r.length = 16) (x : Int) : s.cs.set 16 (.int .i64 x) = SV.cs { s with f := x } := by
  rw [SV.cs, List.set_append_right _ _ (by rw [rc_length]; omega), rc_length, h]
  rfl
theorem SV.one (s : SV) : ∀ u ∈ s.cs, u.oneCell' = true := by
  intro u hu
  rw [SV.cs, List.mem_append] at hu
  rcases hu with h | h
  · exact rc_one _ u h
  · simp only [List.mem_cons, List.not_mem_nil, or_false] at h
    rcases h with rfl | rfl <;> rfl
theorem SV.arr {s : SV} : ∀ t u, (rc s.r)[t]? = some u → s.cs[0 + t]? = some u := by
  intro t u hu
  rw [Nat.zero_add, SV.cs, List.getElem?_append_left (List.getElem?_eq_some_iff.1 hu).1]
  exact hu
theorem szU : (Try.prog.info? 22).map (·.size) = some 1 := by kernel_rfl
theorem szI : (Try.prog.info? 3).map (·.size) = some 1 := by kernel_rfl
theorem szB : (Try.prog.info? 4).map (·.size) = some 1 := by kernel_rfl
theorem szState : (Try.prog.info? 25).map (·.size) = some 18 := by kernel_rfl
theorem szRegs : (Try.prog.info? 26).map (·.size) = some 32 := by kernel_rfl
theorem sz16 : (Try.prog.info? 23).map (·.size) = some 16 := by kernel_rfl
theorem szS {s : SV} (h : s.r.length = 16) : (Try.prog.info? 25).map (·.size) = some (Cel.any s.cs).cells.length := by
  show _ = some s.cs.length
  rw [SV.len h]
  exact szState
theorem szR {R : List Int} (h : R.length = 32) : (Try.prog.info? 26).map (·.size) = some (Cel.any (rc R)).cells.length := by
  show _ = some (rc R).length
  rw [rc_length, h]
  exact szRegs
def zeroSV : SV := ⟨List.replicate 16 0, 0, false⟩
theorem zeroState : (Try.prog.info? 25).map (fun i => i.zero) = some (some (Cel.any zeroSV.cs).val) := by kernel_rfl
theorem zeroRegs : (Try.prog.info? 26).map (fun i => i.zero) = some (some (Cel.any (rc (List.replicate 32 0))).val) := by kernel_rfl

/-! ### Held against one another -/
theorem infoU2 : ∃ i, Try.prog.info? 22 = some i := by
  have h := szU
  cases hq : Try.prog.info? 22 with
  | none => rw [hq] at h; cases h
  | some i => exact ⟨i, rfl⟩
theorem info16 : ∃ i, Try.prog.info? 23 = some i := by
  have h := sz16
  cases hq : Try.prog.info? 23 with
  | none => rw [hq] at h; cases h
  | some i => exact ⟨i, rfl⟩
def eqL (A B : List Int) : List Nat → Bool
  | [] => true
  | j :: js => (A.getD j 0 == B.getD j 0) && eqL A B js
theorem eqL_all (A B : List Int) (js : List Nat) : eqL A B js = true ↔ ∀ j ∈ js, A.getD j 0 = B.getD j 0 := by
  induction js with
  | nil => simp [eqL]
  | cons j js ih => simp [eqL, ih]
theorem eqL_range {A B : List Int} {n : Nat} (hA : A.length = n) (hB : B.length = n) : eqL A B (List.range n) = decide (A = B) := by
  rw [Bool.eq_iff_iff, eqL_all, decide_eq_true_iff]
  constructor
  · intro h
    refine List.ext_getElem (by omega) fun i h1 h2 => ?_
    have := h i (List.mem_range.2 (by omega))
    simpa [List.getD_eq_getElem?_getD, h1, h2] using this
  · rintro rfl j _
    rfl
theorem eqItems_rc (A B : List Int) (d : Nat) (w : World) : ∀ js : List Nat, (∀ j ∈ js, j < A.length ∧ j < B.length) → (Op.eqItems (d + 1) 22 1 (rc A).toArray (rc B).toArray js).run Try.prog w = .ok (eqL A B js) w := by
  intro js
  induction js with
  | nil => intro _; simp [Op.eqItems, eqL]
  | cons j js ih =>
    intro h
    obtain ⟨h1, h2⟩ := h j (by simp)
    have hp : (part 22 (rc A).toArray (j * 1)).run Try.prog w = .ok (.int .u32 (A.getD j 0)) w := by
      refine run_part_plain w (by kernel_rfl) ?_
      rw [Nat.mul_one]
      simp [rc, h1, List.getD_eq_getElem?_getD]
    have hq : (part 22 (rc B).toArray (j * 1)).run Try.prog w = .ok (.int .u32 (B.getD j 0)) w := by
      refine run_part_plain w (by kernel_rfl) ?_
      rw [Nat.mul_one]
      simp [rc, h2, List.getD_eq_getElem?_getD]
    simp only [Op.eqItems, Sem.run_bind, hp, hq, Result.andThen_ok, run_equalIn_int w d _ _ _ _ _ Try.underlying22, eqL]
    cases he : A.getD j 0 == B.getD j 0
    · simp
    · simpa using ih (fun k hk => h k (by simp [hk]))
theorem eqIn32 {A B : List Int} (hA : A.length = 32) (hB : B.length = 32) (w : World) : (Op.equalIn 10000 26 (.agg (rc A).toArray) (.agg (rc B).toArray)).run Try.prog w = .ok (decide (A = B)) w := by
  obtain ⟨i, hi⟩ := infoU2
  rw [run_equalIn_array w 9999 _ _ Try.underlying26 hi]
  rw [show Try.prog.cellsOf 22 = 1 by kernel_rfl, ← eqL_range hA hB]
  exact eqItems_rc A B 9998 w _ (fun j hj => by have := List.mem_range.1 hj; omega)
theorem eqIn16 {A B : List Int} (d : Nat) (hA : A.length = 16) (hB : B.length = 16) (w : World) : (Op.equalIn (d + 2) 23 (.agg (rc A).toArray) (.agg (rc B).toArray)).run Try.prog w = .ok (decide (A = B)) w := by
  obtain ⟨i, hi⟩ := infoU2
  rw [run_equalIn_array w (d + 1) _ _ Try.underlying23 hi]
  rw [show Try.prog.cellsOf 22 = 1 by kernel_rfl, ← eqL_range hA hB]
  exact eqItems_rc A B d w _ (fun j hj => by have := List.mem_range.1 hj; omega)
theorem regs_eql {A B : List Int} (hA : A.length = 32) (hB : B.length = 32) (w : World) : (binOp .eql 26 (Cel.any (rc A)).val (Cel.any (rc B)).val).run Try.prog w = .ok (.bool (decide (A = B))) w := by
  show (binOp .eql 26 (.agg (rc A).toArray) (.agg (rc B).toArray)).run Try.prog w = _
  rw [run_eql_struct, eqIn32 hA hB]
  rfl
theorem regs_neq {A B : List Int} (hA : A.length = 32) (hB : B.length = 32) (w : World) : (binOp .neq 26 (Cel.any (rc A)).val (Cel.any (rc B)).val).run Try.prog w = .ok (.bool (!decide (A = B))) w := by
  show (binOp .neq 26 (.agg (rc A).toArray) (.agg (rc B).toArray)).run Try.prog w = _
  rw [run_neq_struct, eqIn32 hA hB]
  rfl
theorem regs16_eql {A B : List Int} (hA : A.length = 16) (hB : B.length = 16) (w : World) : (binOp .eql 23 (.agg (rc A).toArray) (.agg (rc B).toArray)).run Try.prog w = .ok (.bool (decide (A = B))) w := by
  rw [run_eql_struct, eqIn16 9998 hA hB]
  rfl
def sameSV (a b : SV) : Bool := decide (a.r = b.r) && ((a.f == b.f) && (a.h == b.h))
theorem eqf_cons {P : Program} {w : World} {d : Nat} {xs ys : Array Value} {f : Field} {fs : List Field} {a b : Value} {r s : Bool} (hn : f.name ≠ "_") (ha : (part f.type xs f.offset).run P w = .ok a w) (hb : (part f.type ys f.offset).run P w = .ok b w)
    (he : (Op.equalIn d f.type a b).run P w = .ok r w) (hs : (Op.eqFields d xs ys fs).run P w = .ok s w) : (Op.eqFields d xs ys (f :: fs)).run P w = .ok (r && s) w := by
  simp only [Op.eqFields, Sem.run_bind, if_pos hn, ha, hb, he, Result.andThen_ok, Sem.run_ite]
  cases r
  · simp
  · simpa using hs
theorem part16 (s : SV) (h : s.r.length = 16) (w : World) : (part 23 s.cs.toArray 0).run Try.prog w = .ok (.agg (rc s.r).toArray) w := by
  obtain ⟨i, hi⟩ := info16
  have h1 : (isAgg 23).run Try.prog w = .ok true w := by
    simp [isAgg, run_underlying Try.underlying23]
  have h2 : Try.prog.cellsOf 23 = 16 := by kernel_rfl
  simp only [part, Sem.run_bind, h1, Result.andThen_ok, if_true, run_sizeOf w hi, Sem.run_pure, h2]
  simp [SV.cs, rc, h]
set_option maxRecDepth 100000 in
theorem sv_fields {a b : SV} (ha : a.r.length = 16) (hb : b.r.length = 16) (w : World) : (Op.eqFields 9999 a.cs.toArray b.cs.toArray (Try.prog.fieldsOf 25).toList).run Try.prog w = .ok (sameSV a b) w := by
  unfold Program.fieldsOf
  rw [Try.underlying25]
  show (Op.eqFields 9999 a.cs.toArray b.cs.toArray [_, _, _]).run Try.prog w = _
  have e : sameSV a b = (decide (a.r = b.r) && ((a.f == b.f) && ((a.h == b.h) && true))) := by simp [sameSV]
  rw [e]
  refine eqf_cons (by decide) (part16 a ha w) (part16 b hb w) (eqIn16 9997 ha hb w) ?_
  refine eqf_cons (by decide) (run_part_plain w (by kernel_rfl) (by simpa using SV.fl ha)) (run_part_plain w (by kernel_rfl) (by simpa using SV.fl hb)) (run_equalIn_int w 9998 _ _ _ _ _ Try.underlying3) ?_
  refine eqf_cons (by decide) (run_part_plain w (by kernel_rfl) (by simpa using SV.ha ha)) (run_part_plain w (by kernel_rfl) (by simpa using SV.ha hb)) (run_equalIn_bool' w 9998 _ _ _ Try.underlying4) ?_
  simp [Op.eqFields]
theorem sv_eql {a b : SV} (ha : a.r.length = 16) (hb : b.r.length = 16) (w : World) : (binOp .eql 25 a.val b.val).run Try.prog w = .ok (.bool (sameSV a b)) w := by
  show (binOp .eql 25 (.agg a.cs.toArray) (.agg b.cs.toArray)).run Try.prog w = _
  rw [run_eql_struct, run_equalIn_struct w 9999 _ _ _ (by kernel_rfl) (by kernel_rfl), sv_fields ha hb]
  rfl
section
variable {ops : Array Oper} {rest : List Oper} {o : Oper} {a : Act} {Q : Exit → Act → World → Prop} {w : World}
theorem wpl_eqS (op : BinOp) (ty : TypeId) (x y : Operand) (t : TypeId) (ho : o.op = .binOp op ty x y t) (xs ys : List Value) (hx : a.eval x = .agg xs.toArray) (hy : a.eval y = .agg ys.toArray) (hm : Try.prog.eqGuardType Try.prog.depth ty = false) (r : Bool)
    (hr : ∀ w, (binOp op ty (.agg xs.toArray) (.agg ys.toArray)).run Try.prog w = .ok (.bool r) w) (hw : Region.wanted o (yielded ops a.tmps) = true) (h : wpList Try.prog ops Q rest (a.put o.dst (.bool r)) w) : wpList Try.prog ops Q (o :: rest) a w :=
  wpList_step fun K hK => by
    rw [if_pos hw]
    unfold Oper.wp execOp
    simp only [ho, hx, hy, Sem.run_bind, run_eqGuard_agg w op _ x y _ _ hm, Result.andThen_ok, hr, Sem.run_pure]
    exact hK _ _ h
end
end Go.Proofs.Ytabipgncbbjcgaa
