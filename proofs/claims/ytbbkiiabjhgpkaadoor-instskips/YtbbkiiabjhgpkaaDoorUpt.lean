/- A region that draws its order, whose last operation waits for all others: what holds up to that one may be used by all ahead of it. -/
import Derived.Test.YtbbkiiabjhgpkaaDoorProg
import Derived.WalkKit
import Derived.Below
import Derived.Deep.RegionHeld
namespace Go.Proofs.YtbbkiiabjhgpkaaDoor
open Go.RowKit
set_option linter.unusedVariables false
set_option linter.unusedSimpArgs false

section
variable {P : Program} {ops : Array Oper} {Q : Exit → Act → World → Prop} {md : Region.Mode} {S : World → Prop} {n : Nat}
/-- Whatever comes up next; S is owed behind each but the n-th. -/
def Upto (P : Program) (md : Region.Mode) (ops : Array Oper) (Q : Exit → Act → World → Prop) (S : World → Prop) (n : Nat) : Nat → Array Bool → Act → World → Prop
  | 0, l, a, w => Region.ready md ops l = [] ∧ Q .normal a w
  | k + 1, l, a, w => (Region.ready md ops l = [] → Q .normal a w) ∧ ∀ i, i ∈ Region.ready md ops l → wpOp P ops Q i (fun a' w' => (i ≠ n → S w') ∧ Upto P md ops Q S n k (l.setIfInBounds i true) a' w') a w
theorem Upto.any : ∀ (k : Nat) {l : Array Bool} {a : Act} {w : World}, Upto P md ops Q S n k l a w → wpAny P md ops Q k l a w
  | 0, _, _, _, h => h
  | k + 1, _, _, _, h => ⟨h.1, fun i hi => wpOp_mono (fun _ _ q => Upto.any k q.2) (h.2 i hi)⟩
/-- Who is not listed keeps those back that wait for it. -/
theorem waits {l : Array Bool} {i j : Nat} {oj : Oper} (hi : i ∈ Region.ready md ops l) (hj : j ∈ Region.ready md ops l) (ho : ops[j]? = some oj) : ∀ e ∈ oj.after, Region.binds md e = true → e.on ≠ i := by
  intro e he hb h
  obtain ⟨_, o, h1, h2⟩ := mem_ready.1 hj
  obtain ⟨h3, _⟩ := mem_ready.1 hi
  rw [ho] at h1
  cases h1
  have h4 := h2 e he hb
  rw [h] at h4
  by_cases hs : i < l.size
  · simp [hs] at h3 h4
    rw [h3] at h4
    cases h4
  · simp [Array.getElem?_eq_none (Nat.le_of_not_lt hs)] at h4
theorem Upto.first {i : Nat} {oi on : Oper} {v : Value} (hi : ops[i]? = some oi) (hn : ops[n]? = some on) (hw : ∃ e ∈ on.after, Region.binds md e = true ∧ e.on = i) (hne : i ≠ n)
    (hsel : ∀ (j : Nat) (o : Oper) cs b, ops[j]? = some o → o.op ≠ .select cs b) (hQ : ∀ c a w, Q (.panic c) (a.put oi.dst v) w → Q (.panic c) a w) :
    ∀ (k : Nat) (l : Array Bool) (a : Act) (w : World), (∀ j oj, ops[j]? = some oj → j ≠ i → l.getD j true = false → (∀ e ∈ oj.after, Region.binds md e = true → e.on ≠ i) → oi.apart ops oj = true) →
      i ∈ Region.ready md ops l → YieldsIf P ops S oi v a → S w → Upto P md ops Q S n k (l.setIfInBounds i true) (a.put oi.dst v) w → Upto P md ops Q S n (k + 1) l a w := by
  intro k
  induction k with
  | zero =>
    intro l a w hf hr hy hS H
    refine ⟨fun h => absurd (h ▸ hr) (by simp), fun j hj => ?_⟩
    by_cases hji : j = i
    · rw [hji]
      exact hy.wpOp hi hS ⟨fun _ => hS, H⟩
    · exact absurd (H.1 ▸ ready_mono hj hji) (by simp)
  | succ k ih =>
    intro l a w hf hr hy hS H
    refine ⟨fun h => absurd (h ▸ hr) (by simp), fun j hj => ?_⟩
    by_cases hji : j = i
    · rw [hji]
      exact hy.wpOp hi hS ⟨fun _ => hS, H⟩
    · obtain ⟨hun, oj, hoj, _⟩ := mem_ready.1 hj
      have hno := waits hr hj hoj
      have hjn : j ≠ n := by
        rintro rfl
        rw [hn] at hoj
        cases hoj
        obtain ⟨e, h1, h2, h3⟩ := hw
        exact hno e h1 h2 h3
      refine wpOp_mono (fun a' w' q => ?_) (wpOp_putIf hoj (hf j oj hoj hji hun hno) (fun cs b => hsel i oi cs b hi) (fun cs b => hsel j oj cs b hoj) hQ hy (H.2 j (ready_mono hj hji)))
      have hS' := q.2.1 hjn
      refine ⟨fun _ => hS', ih _ a' w' (fun m om hm hmi hmu hmn => hf m om hm hmi ?_ hmn) (ready_mono hr (Ne.symm hji)) q.1 hS' ?_⟩
      · by_cases hjm : j = m
        · rw [← hjm]; exact hun
        · rwa [getD_set_ne true hjm] at hmu
      · rw [Array.setIfInBounds_comm _ _ hji]
        exact q.2.2
/-- The n-th waits for the i-th. -/
def waitsB (md : Region.Mode) (ops : Array Oper) (n i : Nat) : Bool := match ops[n]? with
  | some o => o.after.any fun e => Region.binds md e && e.on == i
  | none => false
theorem Upto.take {i : Nat} {oi : Oper} {v : Value} {k : Nat} {l : Array Bool} {a : Act} {w : World} (hi : ops[i]? = some oi) (hwt : (waitsB md ops n i && i != n) = true)
    (hs : Region.noSelect ops = true) (hf : Region.free md ops l i = true) (hr : (Region.ready md ops l).contains i = true)
    (hQ : ∀ c a w, Q (.panic c) (a.put oi.dst v) w → Q (.panic c) a w) (hy : YieldsIf P ops S oi v a) (hS : S w)
    (h : Upto P md ops Q S n k (l.setIfInBounds i true) (a.put oi.dst v) w) : Upto P md ops Q S n (k + 1) l a w := by
  simp only [Bool.and_eq_true, bne_iff_ne, waitsB] at hwt
  obtain ⟨h1, h2⟩ := hwt
  cases hn : ops[n]? with
  | none => rw [hn] at h1; cases h1
  | some on =>
    rw [hn] at h1
    simp only [Array.any_eq_true', Bool.and_eq_true, beq_iff_eq] at h1
    exact Upto.first hi hn h1 h2 (Region.noSelect_spec hs) hQ k l a w (Region.free_spec hi hf) (by simpa using hr) hy hS h
theorem Upto.done {l : Array Bool} {a : Act} {w : World} (hr : Region.ready md ops l = []) (h : Q .normal a w) : ∀ k, Upto P md ops Q S n k l a w
  | 0 => ⟨hr, h⟩
  | _ + 1 => ⟨fun _ => h, fun i hi => by rw [hr] at hi; cases hi⟩
theorem Upto.start (n : Nat) {id : Nat} {a : Act} {w : World} (hm : P.follows .mixedOrders = true) (h : Upto P .any ops Q S n ops.size (Array.replicate ops.size false) a w.drew) : (Code.region id ops true).wp P Q a w :=
  wp_region_any hm (Upto.any _ h)
def Nexts (P : Program) (md : Region.Mode) (ops : Array Oper) (Q : Exit → Act → World → Prop) (S : World → Prop) (n k : Nat) (l : Array Bool) (a : Act) (w : World) (rs : List Nat) : Prop :=
  ∀ i ∈ rs, wpOp P ops Q i (fun a' w' => (i ≠ n → S w') ∧ Upto P md ops Q S n k (l.setIfInBounds i true) a' w') a w
theorem Nexts.nil {k : Nat} {l : Array Bool} {a : Act} {w : World} : Nexts P md ops Q S n k l a w [] := fun _ h => by cases h
theorem Nexts.cons {k : Nat} {l : Array Bool} {a : Act} {w : World} {i : Nat} {o : Oper} {rs : List Nat} (ho : ops[i]? = some o) (hin : i ≠ n)
    (h : ∀ K' : Act → World → Prop, Shut (∀ a w, S w → Upto P md ops Q S n k (l.setIfInBounds i true) a w → K' a w) → if Region.wanted o (yielded ops a.tmps) = true then Oper.wp P o a w K' Q else K' (a.put o.dst undef) w)
    (hs : Nexts P md ops Q S n k l a w rs) : Nexts P md ops Q S n k l a w (i :: rs) := fun j hj => by
  rcases List.mem_cons.1 hj with rfl | hj
  · exact wpOp_step ho (fun K' hK => h K' (fun a w hS hW => hK a w ⟨fun _ => hS, hW⟩))
  · exact hs j hj
/-- The n-th itself. -/
theorem Nexts.last {k : Nat} {l : Array Bool} {a : Act} {w : World} {o : Oper} (ho : ops[n]? = some o)
    (h : ∀ K' : Act → World → Prop, Shut (∀ a w, Upto P md ops Q S n k (l.setIfInBounds n true) a w → K' a w) → if Region.wanted o (yielded ops a.tmps) = true then Oper.wp P o a w K' Q else K' (a.put o.dst undef) w) :
    Nexts P md ops Q S n k l a w [n] := fun j hj => by
  have : j = n := by simpa using hj
  subst this
  exact wpOp_step ho (fun K' hK => h K' (fun a w hW => hK a w ⟨fun e => absurd rfl e, hW⟩))
theorem Upto.ready {rs : List Nat} {k : Nat} {l : Array Bool} {a : Act} {w : World} (hr : Region.ready md ops l = rs) (hne : rs ≠ []) (h : Nexts P md ops Q S n k l a w rs) : Upto P md ops Q S n (k + 1) l a w :=
  ⟨fun h0 => absurd (hr ▸ h0) hne, fun i hi => h i (hr ▸ hi)⟩
end

theorem y_cell {P : Program} {ops : Array Oper} {S : World → Prop} {o : Oper} {a : Act} (hw : Region.wanted o (yielded ops a.tmps) = true) (ty : TypeId) (x : Operand) (ho : o.op = .load ty x) (b j : Nat) (hx : a.eval x = .pointer (some ⟨b, j, none⟩))
    (v : Value) (hv : ∀ w, S w → w.cell? ⟨b, j, none⟩ = some v) (d : TypeDesc) (hu : P.underlying ty = some d) (hd : d.isRow = false) : YieldsIf P ops S o v a :=
  .inl ⟨hw, fun w hS => by
    have hc := hv w hS
    have hagg : (isAgg ty).run P w = .ok false w := by
      unfold isAgg
      rw [Sem.run_bind, run_underlying hu w]
      cases d <;> simp_all
    have hl : (Instr.loadAt ty (.pointer (some ⟨b, j, none⟩))).run P w = .ok v w := by
      simp [Instr.loadAt, Instr.sureAddr, loadVar, Sem.run_bind, hagg, hc]
    unfold execOp
    simp only [ho, hx, Sem.run_bind, hl, Result.andThen_ok, Sem.run_pure]⟩
theorem Below.cellAt {w w' : World} (h : Below w.heap.size w w') {b j : Nat} {v : Value} (hc : w.cell? ⟨b, j, none⟩ = some v) : w'.cell? ⟨b, j, none⟩ = some v :=
  (World.cell?_of_block (w := w) (a := ⟨b, j, none⟩) (h.block b (World.block_lt_of_cell? w _ hc))).trans hc
end Go.Proofs.YtbbkiiabjhgpkaaDoor
