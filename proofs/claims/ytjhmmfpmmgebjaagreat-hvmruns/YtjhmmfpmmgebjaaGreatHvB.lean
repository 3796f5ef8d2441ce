/- A program of a few numbers: whatever they are, code and registers come. -/
import Derived.Test.YtjhmmfpmmgebjaaGreatVj
import Derived.Test.YtjhmmfpmmgebjaaGreatHvp
import Derived.Test.YtjhmmfpmmgebjaaGreatVh
import Derived.Deep.Cut
import Derived.Deep.CutRange
namespace Go.Proofs.YtjhmmfpmmgebjaaGreat
open Go.ChangeShapes Go.WideShapes Go.ChangeAt Go.RowKit
set_option linter.unusedVariables false
set_option linter.unusedSimpArgs false

/-- Fours of bytes behind a slice; numbers behind one. -/
def L4 (w : World) (A : Option Addr) (l : List (Int × Int × Int × Int)) : Prop := ∀ (i : Nat) (x : Int × Int × Int × Int), l[i]? = some x → ((0 ≤ x.1 ∧ x.1 ≤ 255) ∧ (0 ≤ x.2.1 ∧ x.2.1 ≤ 255) ∧ (0 ≤ x.2.2.1 ∧ x.2.2.1 ≤ 255) ∧ (0 ≤ x.2.2.2 ∧ x.2.2.2 ≤ 255)) ∧
  ∃ b o, A = some ⟨b, o, none⟩ ∧ w.rangeAt b (o + i * 4) [.int .u8 x.1, .int .u8 x.2.1, .int .u8 x.2.2.1, .int .u8 x.2.2.2]
def U4 (w : World) (A : Option Addr) (v : List Int) : Prop := ∀ (i : Nat) (x : Int), v[i]? = some x → (0 ≤ x ∧ x ≤ 4294967295) ∧ ∃ b o, A = some ⟨b, o, none⟩ ∧ w.cell? ⟨b, o + i, none⟩ = some (.int .u32 x)
theorem y_cell {P : Program} {ops : Array Oper} {S : World → Prop} {o : Oper} {a : Act} (hw : Region.wanted o (yielded ops a.tmps) = true) (ty : TypeId) (x : Operand) (ho : o.op = .load ty x) (b j : Nat) (hx : a.eval x = .pointer (some ⟨b, j, none⟩))
    (v : Value) (hv : ∀ w, S w → w.cell? ⟨b, j, none⟩ = some v) (d : TypeDesc) (hu : P.underlying ty = some d) (hd : d.isRow = false) : YieldsIf P ops S o v a :=
  .inl ⟨hw, fun w hS => by
    unfold execOp
    simp only [ho, hx, Sem.run_bind, run_load1 w b j ty v d (hv w hS) hu hd, Result.andThen_ok, Sem.run_pure]⟩
theorem SH.keep {base : Nat} {v : Value} {C : List HV} {w0 w : World} {L : List (Nat × Cel)} (S : SH (codeZ base v C) w0 w L) {b j : Nat} {u : Value} (h : w0.cell? ⟨b, j, none⟩ = some u) : w.cell? ⟨b, j, none⟩ = some u :=
  (World.cell?_of_block (w := w0) (a := ⟨b, j, none⟩) (S.mid.block b (World.block_lt_of_cell? w0 _ h) (.inr (Nat.zero_le _)))).trans h
theorem SH.wpAlloc {P : Program} {M : Zn} {w0 w : World} {L : List (Nat × Cel)} {o : Oper} {a : Act} {Q : Exit → Act → World → Prop} (S : SH M w0 w L) (ty : TypeId) (ho : o.op = .alloc ty) (k : Nat) (hd : o.dst = some k) (c : Cel) (hz : (P.info? ty).map (fun i => i.zero) = some (some c.val)) {K : Act → World → Prop}
    (h : ∀ b w1, SH M w0 w1 ((b, c) :: L) → K (a.put (some k) (.pointer (some ⟨b, 0, none⟩))) w1) : o.wp P a w K Q := by
  rw [← hd] at h
  unfold Oper.wp execOp
  have hr : (Instr.alloc ty true (.tuple #[])).run P w = .ok (.pointer (some ⟨w.heap.size, 0, none⟩)) (w.alloc (.cells c.cells.toArray ty)) := by
    cases hq : P.info? ty with
    | none => simp [hq] at hz
    | some i =>
      simp [hq] at hz
      simp [Instr.alloc, zeroValue, typeInfo, hq, hz, newVar, newRow, Cel.val, Value.cells]
  simp only [ho, Sem.run_bind, hr, Result.andThen_ok, Sem.run_pure]
  exact h _ _ (S.new c ty)
theorem SH.t1 {M : Zn} {w0 w : World} {p : Nat × Cel} {L : List (Nat × Cel)} (S : SH M w0 w (p :: L)) : SH M w0 w L := S.fewer 1
theorem SH.appendedF {w0 w w1 : World} {L : List (Nat × Cel)} {base : Nat} {v v' : Value} {C C' : List HV} (S : SH (codeZ base v C) w0 w L) (hb0 : w0.heap.size ≤ base) (hg : w.grownBy w1 v.ownBlock) : SH (codeZ base v C).free w0 w1 L := by
  have hv : ∀ k, v.ownBlock = some k → base ≤ k := fun k hk => (World.ownsRow.lt S.inv.1 k hk).1
  have hmid : Mid 0 0 w0 w1 := ⟨hg.os.trans S.mid.os, hg.tape.trans S.mid.tape, hg.output.trans S.mid.output, Nat.le_trans S.mid.size hg.size, fun k hk hk2 => (hg.block k (Nat.lt_of_lt_of_le hk S.mid.size) (fun e => by have := hv k e.symm; omega)).trans (S.mid.block k hk hk2)⟩
  have hk : ∀ p ∈ L, w1.heap[p.1]? = w.heap[p.1]? := fun p hp => hg.block _ (S.blk p hp).lt (fun e => (S.out p hp).2 e.symm)
  exact S.toFree.turn (free_ok S.ok) trivial (fun k hk => Nat.lt_of_lt_of_le (S.zb k hk) hg.size) hmid hk (fun p hp => (S.out p hp).2)
/-- One instruction, as a slice of its own: at a single operation. -/
theorem SH.wpSliceH {M : Zn} {w0 w : World} {L : List (Nat × Cel)} {o : Oper} {a : Act} {K : Act → World → Prop} {Q : Exit → Act → World → Prop} (S : SH M w0 w L) (hgd : o.guard = none) (k : Nat) (hd : o.dst = some k) (x : Operand) (ho : o.op = .buildSlice 22 1 #[(0, x)]) (h : HV) (hx : a.eval x = (Cel.host h).val)
    (hn : ∀ w1, SH (M.add (fun k => k = w.heap.size) (fun w2 => ∀ j u, (Cel.host h).cells[j]? = some u → w2.cell? ((⟨w.heap.size, 0, none⟩ : Addr).add j) = some u)) w0 w1 L → K (a.put (some k) (.slice (some ⟨w.heap.size, 0, none⟩) 1 1)) w1) : o.wp Tryz.prog a w K Q := by
  rw [← hd] at hn
  obtain ⟨op, d, a', b, c, im⟩ := h
  have hr : (Instr.buildSlice 22 1 #[(0, .agg #[.int .i64 op, .int .i64 d, .int .i64 a', .int .i64 b, .int .i64 c, .int .u32 im])]).run Tryz.prog w = .ok (.slice (some ⟨w.heap.size, 0, none⟩) 1 1) (w.alloc (Obj.cells #[.int .i64 op, .int .i64 d, .int .i64 a', .int .i64 b, .int .i64 c, .int .u32 im] 31)) := by kernel_rfl
  unfold Oper.wp execOp
  have hx' : a.eval x = .agg #[.int .i64 op, .int .i64 d, .int .i64 a', .int .i64 b, .int .i64 c, .int .u32 im] := hx
  simp only [ho, List.map_toArray, List.map_cons, List.map_nil, hx', Sem.run_bind, hr, Result.andThen_ok, Sem.run_pure]
  have hblk : Blk (w.alloc (Obj.cells #[.int .i64 op, .int .i64 d, .int .i64 a', .int .i64 b, .int .i64 c, .int .u32 im] 31)) w.heap.size (Cel.host ⟨op, d, a', b, c, im⟩).cells := Blk.new w _ _
  refine hn _ (S.gain ((Below.refl _ _).alloc (Nat.le_refl _) _) (fun w1 w2 hj hs hk j u hu => ?_) (fun j u hu => ?_) (fun k hk => ?_))
  · have q := hj j u hu
    rw [Addr.add_mid] at q ⊢
    exact (World.cell?_of_block (w := w1) (a := ⟨w.heap.size, 0 + j, none⟩) (hk _ rfl (World.block_lt_of_cell? w1 _ q))).trans q
  · rw [Addr.add_mid, Nat.zero_add, hblk.cell]
    exact hu
  · subst hk
    exact ⟨Nat.le_refl _, by rw [alloc_size']; omega⟩
theorem SH.results2b {P : Program} {M : Zn} {w0 w : World} {L : List (Nat × Cel)} (S : SH M w0 w L) {fn : Func} {p u : Tmp} {ty : TypeId} (hfn : fn.results = #[.tmp u, .cell p ty]) (tmps : Array Value) (b : Nat) (hp : tmps.getD p undef = .pointer (some ⟨b, 0, none⟩)) (i : Nat) (c : Cel) (hL : L[i]? = some (b, c))
    (d : TypeDesc) (hu : P.underlying ty = some d) (hd : d.isRow = true) (hi : (P.info? ty).map (·.size) = some c.cells.length) : (Go.results fn tmps).run P w = .ok (.tuple #[tmps.getD u undef, c.val]) w := by
  obtain ⟨⟨t, hb⟩, _⟩ := S.at hL
  have hl := run_loadVar_mid (P := P) w b 0 ty c.cells d (S.at hL).1.range hu hd hi
  have hp' : tmps[p]?.getD undef = .pointer (some ⟨b, 0, none⟩) := by simpa using hp
  simp [Go.results, hfn, hp', asAddr, hl, Cel.val]
theorem SH.keepF {base : Nat} {v : Value} {C : List HV} {w0 w : World} {L : List (Nat × Cel)} (S : SH (codeZ base v C).free w0 w L) {b j : Nat} {u : Value} (h : w0.cell? ⟨b, j, none⟩ = some u) : w.cell? ⟨b, j, none⟩ = some u :=
  (World.cell?_of_block (w := w0) (a := ⟨b, j, none⟩) (S.mid.block b (World.block_lt_of_cell? w0 _ h) (.inr (Nat.zero_le _)))).trans h
def okC (C : List HV) : Prop := ∀ h ∈ C, h.wf
def pgRel (w0 : World) (b5 b6 base n : Nat) (cv i : Value) (wr : World) : Prop :=
  ∃ (k : Nat) (C : List HV) (A : Option Addr) (c : Nat) (r : List Int), k ≤ n ∧ C.length = k ∧ cv = .slice A C.length c ∧ i = .int .i64 k ∧ okC C ∧ okR r ∧ SH (codeZ base (.slice A C.length c) C) w0 wr [(b6, Cel.regs r), (b5, Cel.regs zR)]
/-- What a program is: its code's row, its registers. -/
def ProgPost (w : World) (n : Nat) (e : Ending) (w' : World) : Prop := ∃ (C : List HV) (A : Option Addr) (c base : Nat) (r : List Int), e = .returned (.tuple #[.slice A C.length c, (Cel.regs r).val]) ∧ C.length ≤ n ∧ okC C ∧ okR r ∧ HRow w' base (.slice A C.length c) C ∧ w.heap.size ≤ base ∧ base ≤ w'.heap.size ∧ Below w.heap.size w w'
set_option maxHeartbeats 8000000 in
set_option maxRecDepth 100000 in
theorem program_c (A0 A1 : Option Addr) (c0 c1 : Nat) (l : List (Int × Int × Int × Int)) (v : List Int) (w : World) (hl : L4 w A0 l) (hv : U4 w A1 v) (hl30 : l.length ≤ 30) :
    Calls Tryz.prog 5 #[.slice A0 l.length c0, .slice A1 v.length c1] w fun e w' => ProgPost w 30 e w' := by
  have S := SH.start w
  have HL : Hid (L4 w A0 l) := hl
  have HV' : Hid (U4 w A1 v) := hv
  clear hl hv
  go_enter Tryz.func5, Tryz.ntmps5
  go_wp2_with (first
    | ((with_reducible refine wpl_is ?_); first
      | (refine SH.alloc (L := []) S rfl 27 rfl _ zeroRegs ?_; clear S; intro b5 w5 S)
      | (refine SH.alloc (L := [_]) S rfl 27 rfl _ zeroRegs ?_; clear S; intro b6 w6 S)))
  replace S := S.toCode (base := w6.heap.size) (Nat.le_refl _)
  obtain ⟨base, hbase⟩ : ∃ b, b = w6.heap.size := ⟨_, rfl⟩
  have HB : Hid (w.heap.size ≤ base) := by rw [hbase]; exact S.mid.size
  rw [← hbase] at S
  have ST : Hid (pgRel w b5 b6 base l.length (.slice none 0 0) (.int .i64 0) w6) := ⟨0, [], none, 0, zR, Nat.zero_le _, rfl, rfl, rfl, (fun h hh => by cases hh), zR_ok, S⟩
  clear S hbase
  go_loopw [7, 8] (fun cv i wr => pgRel w b5 b6 base l.length cv i wr) (fun _ i _ => l.length - (intOf i).toNat)
  case atStart => exact ST.out
  case round =>
    clear ST
    obtain ⟨k, C, A, c, r, hkn, hCk, rfl, rfl, hC, hr, S⟩ := hrel
    have HC : Hid (okC C) := hC
    have HR : Hid (okR r) := hr
    have hr32 := hr.1
    clear hC hr
    obtain ⟨i0, hi0, hz0, hz1, hz2⟩ := ho_info
    have HI : Hid (Tryz.prog.info? 31 = some i0 ∧ i0.zero = some (Cel.host noHV).val ∧ i0.size = 6 ∧ i0.bytes = 48) := ⟨hi0, hz0, hz1, hz2⟩
    clear hi0 hz0 hz1 hz2
    by_cases hgo : k < l.length ∧ k < v.length
    · obtain ⟨hlt, hlv⟩ := hgo
      have hlt' : (k : Int) < (l.length : Int) := by omega
      have hlv' : (k : Int) < (v.length : Int) := by omega
      obtain ⟨x, hx⟩ : ∃ x, l[k]? = some x := ⟨l[k], by simp [hlt]⟩
      obtain ⟨y, hy⟩ : ∃ y, v[k]? = some y := ⟨v[k], by simp [hlv]⟩
      obtain ⟨⟨q0, q1, q2, q3⟩, bl, ol, rfl, hrl⟩ := HL.out k x hx
      obtain ⟨qy, bv, ov, rfl, hcv⟩ := HV'.out k y hy
      have C1 : Hid (∀ w1, Calls Tryz.prog 15 #[.agg #[.int .u8 x.1, .int .u8 x.2.1, .int .u8 x.2.2.1, .int .u8 x.2.2.2], .int .u32 y, .int .i64 l.length] w1 fun e w' => ∃ h : HV, e = .returned (Cel.host h).val ∧ h.wf ∧ Below w1.heap.size w1 w') := fun w1 => lone_c _ _ _ _ _ _ q0 q1 q2 q3 qy w1
      have HRL : Hid (w.rangeAt bl (ol + k * 4) [.int .u8 x.1, .int .u8 x.2.1, .int .u8 x.2.2.1, .int .u8 x.2.2.2]) := hrl
      have HCV : Hid (w.cell? ⟨bv, ov + k, none⟩ = some (.int .u32 y)) := hcv
      have QY : Hid (0 ≤ y ∧ y ≤ 4294967295) := qy
      clear hx hy hrl hcv q0 q1 q2 q3 qy HL HV'
      obtain ⟨m, htm, hm8⟩ : ∃ m : Nat, (k : Int).tmod 8 = (m : Int) ∧ m < 8 := ⟨k % 8, by rw [Int.tmod_eq_emod_of_nonneg (by omega)]; omega, by omega⟩
      have hC30 : C.length ≤ 30 := by omega
      have HCK : Hid (C.length = k) := hCk
      clear hCk
      go_upto_region 6 with fail
      refine Upto.start (S := fun w' => SH (codeZ base (.slice A C.length c) C).free w w' [(b6, Cel.regs r), (b5, Cel.regs zR)]) 14 (by kernel_rfl) ?_
      replace S := S.drew
      refine Upto.take (i := 0) (oi := { dst := some 21, op := Op.move (Operand.tmp 7), type := 22, pos := "law.go:61", after := #[], guard := none }) (v := ?_) rfl (by kernel_rfl) (by kernel_rfl) (by kernel_rfl) (by kernel_rfl) (fun _ _ _ h => h) (Or.inl ⟨by rfl, ?_⟩) (by exact S.toFree) ?_
      rotate_left 1
      · intro w hSw
        clear hSw
        go_simp
        try with_reducible rfl
      simp only [Act.put, List.setIfInBounds_toArray, List.set_cons_zero, List.set_cons_succ]
      refine Upto.take (i := 1) (oi := { dst := some 22, op := Op.move (Operand.tmp 0), type := 23, pos := "law.go:61", after := #[], guard := none }) (v := ?_) rfl (by kernel_rfl) (by kernel_rfl) (by kernel_rfl) (by kernel_rfl) (fun _ _ _ h => h) (Or.inl ⟨by rfl, ?_⟩) (by exact S.toFree) ?_
      rotate_left 1
      · intro w hSw
        clear hSw
        go_simp
        try with_reducible rfl
      simp only [Act.put, List.setIfInBounds_toArray, List.set_cons_zero, List.set_cons_succ]
      refine Upto.take (i := 2) (oi := { dst := some 23, op := Op.move (Operand.tmp 8), type := 3, pos := "law.go:61", after := #[], guard := none }) (v := ?_) rfl (by kernel_rfl) (by kernel_rfl) (by kernel_rfl) (by kernel_rfl) (fun _ _ _ h => h) (Or.inl ⟨by rfl, ?_⟩) (by exact S.toFree) ?_
      rotate_left 1
      · intro w hSw
        clear hSw
        go_simp
        try with_reducible rfl
      simp only [Act.put, List.setIfInBounds_toArray, List.set_cons_zero, List.set_cons_succ]
      refine Upto.take (i := 3) (oi := { dst := some 24, op := Op.indexAddr 23 (Operand.tmp 22) (Operand.tmp 23), type := 0, pos := "law.go:61", after := #[{ on := 1, ground := Ground.data }, { on := 2, ground := Ground.data }], guard := none }) (v := ?_) rfl (by kernel_rfl) (by kernel_rfl) (by kernel_rfl) (by kernel_rfl) (fun _ _ _ h => h) (Or.inl ⟨by rfl, ?_⟩) (by exact S.toFree) ?_
      rotate_left 1
      · intro w hSw
        clear hSw
        go_simp
        try with_reducible rfl
      simp only [Act.put, List.setIfInBounds_toArray, List.set_cons_zero, List.set_cons_succ]
      refine Upto.take (i := 4) (oi := { dst := some 25, op := Op.load 61 (Operand.tmp 24), type := 61, pos := "law.go:61", after := #[{ on := 3, ground := Ground.data }], guard := none }) (v := _) rfl (by kernel_rfl) (by kernel_rfl) (by kernel_rfl) (by kernel_rfl) (fun _ _ _ h => h) (yieldsIf_load_mid (by rfl) _ _ rfl bl (ol + k * 4) (by rfl) [.int .u8 x.1, .int .u8 x.2.1, .int .u8 x.2.2.1, .int .u8 x.2.2.2] _ (fun w' S' j v' hv' => S'.keepF (HRL.out j v' hv')) Tryz.underlying61 rfl (by kernel_rfl)) (by exact S.toFree) ?_
      simp only [Act.put, List.setIfInBounds_toArray, List.set_cons_zero, List.set_cons_succ]
      refine Upto.take (i := 5) (oi := { dst := some 26, op := Op.move (Operand.tmp 1), type := 24, pos := "law.go:61", after := #[], guard := none }) (v := ?_) rfl (by kernel_rfl) (by kernel_rfl) (by kernel_rfl) (by kernel_rfl) (fun _ _ _ h => h) (Or.inl ⟨by rfl, ?_⟩) (by exact S.toFree) ?_
      rotate_left 1
      · intro w hSw
        clear hSw
        go_simp
        try with_reducible rfl
      simp only [Act.put, List.setIfInBounds_toArray, List.set_cons_zero, List.set_cons_succ]
      refine Upto.take (i := 6) (oi := { dst := some 27, op := Op.move (Operand.tmp 8), type := 3, pos := "law.go:61", after := #[], guard := none }) (v := ?_) rfl (by kernel_rfl) (by kernel_rfl) (by kernel_rfl) (by kernel_rfl) (fun _ _ _ h => h) (Or.inl ⟨by rfl, ?_⟩) (by exact S.toFree) ?_
      rotate_left 1
      · intro w hSw
        clear hSw
        go_simp
        try with_reducible rfl
      simp only [Act.put, List.setIfInBounds_toArray, List.set_cons_zero, List.set_cons_succ]
      refine Upto.take (i := 7) (oi := { dst := some 28, op := Op.indexAddr 24 (Operand.tmp 26) (Operand.tmp 27), type := 0, pos := "law.go:61", after := #[{ on := 5, ground := Ground.data }, { on := 6, ground := Ground.data }], guard := none }) (v := ?_) rfl (by kernel_rfl) (by kernel_rfl) (by kernel_rfl) (by kernel_rfl) (fun _ _ _ h => h) (Or.inl ⟨by rfl, ?_⟩) (by exact S.toFree) ?_
      rotate_left 1
      · intro w hSw
        clear hSw
        go_simp
        try with_reducible rfl
      simp only [Act.put, List.setIfInBounds_toArray, List.set_cons_zero, List.set_cons_succ]
      refine Upto.take (i := 8) (oi := { dst := some 29, op := Op.load 26 (Operand.tmp 28), type := 26, pos := "law.go:61", after := #[{ on := 7, ground := Ground.data }], guard := none }) (v := _) rfl (by kernel_rfl) (by kernel_rfl) (by kernel_rfl) (by kernel_rfl) (fun _ _ _ h => h) (y_cell (by rfl) _ _ rfl bv (ov + k) (by rfl) _ (fun w' S' => S'.keepF HCV.out) _ Tryz.underlying26 rfl) (by exact S.toFree) ?_
      simp only [Act.put, List.setIfInBounds_toArray, List.set_cons_zero, List.set_cons_succ]
      refine Upto.take (i := 9) (oi := { dst := some 30, op := Op.move (Operand.tmp 0), type := 23, pos := "law.go:61", after := #[], guard := none }) (v := ?_) rfl (by kernel_rfl) (by kernel_rfl) (by kernel_rfl) (by kernel_rfl) (fun _ _ _ h => h) (Or.inl ⟨by rfl, ?_⟩) (by exact S.toFree) ?_
      rotate_left 1
      · intro w hSw
        clear hSw
        go_simp
        try with_reducible rfl
      simp only [Act.put, List.setIfInBounds_toArray, List.set_cons_zero, List.set_cons_succ]
      refine Upto.take (i := 10) (oi := { dst := some 31, op := Op.call { callee := Callee.builtin Builtin.len, args := #[Operand.tmp 30], argTypes := #[23] }, type := 3, pos := "law.go:61", after := #[{ on := 9, ground := Ground.data }], guard := none }) (v := ?_) rfl (by kernel_rfl) (by kernel_rfl) (by kernel_rfl) (by kernel_rfl) (fun _ _ _ h => h) (Or.inl ⟨by rfl, ?_⟩) (by exact S.toFree) ?_
      rotate_left 1
      · intro w hSw
        clear hSw
        go_simp
        try with_reducible rfl
      simp only [Act.put, List.setIfInBounds_toArray, List.set_cons_zero, List.set_cons_succ]
      refine Upto.ready (rs := [11]) (by kernel_rfl) (by simp) ?_
      refine Nexts.cons rfl (by decide) (fun K hK => ?_) Nexts.nil
      go_simp
      go_wp2_with (go_at_call 15; refine (C1.out _).mono ?_; rintro e w15 ⟨h, rfl, hwf, hw15⟩)
      replace S := S.below hw15
      clear hw15
      refine hK.out _ _ (by exact S.toFree) ?_
      clear hK K
      refine Upto.ready (rs := [12]) (by kernel_rfl) (by simp) ?_
      refine Nexts.cons rfl (by decide) (fun K hK => ?_) Nexts.nil
      rw [if_pos (by rfl)]
      refine S.wpSliceH rfl 33 rfl _ rfl h rfl ?_
      clear S
      intro w20 S
      refine hK.out _ _ (by exact S.dropC.toFree) ?_
      simp only [Act.put, List.setIfInBounds_toArray, List.set_cons_zero, List.set_cons_succ]
      clear hK K
      refine Upto.ready (rs := [13]) (by kernel_rfl) (by simp) ?_
      refine Nexts.cons rfl (by decide) (fun K hK => ?_) Nexts.nil
      rw [if_pos (by rfl)]
      refine wp_append_lies _ _ _ 22 rfl base 31 i0 _ 6 48 Tryz.underlying22 HI.out.1 HI.out.2.1 HI.out.2.2.1 HI.out.2.2.2 rfl (by decide) (.slice A C.length c) C.length (codeC C) rfl S.inv.1.1 ⟨_, 0, none⟩ 1 1 ((Cel.host h).cells) rfl rfl S.inv.2 (one_host h) (by decide) (by simp only [maxLen]; omega) (by omega) S.inv.1.2 _ rfl ?_
      intro g cap w21 hown hgrow hat hlt2
      have S2 := (S.dropC.appendedC (v' := .slice (some ⟨g, 0, none⟩) (C.length + 1) cap) (C' := C ++ [h]) HB.out (by unfold HRow; rw [codeC_snoc, List.length_append]; exact hown) hgrow (fun g' hg' => by simp only [Value.ownBlock, Option.some.injEq] at hg'; subst hg'; exact hat))
      have O2 := (S.dropC.appendedF HB.out (C' := C ++ [h]) (v' := .slice (some ⟨g, 0, none⟩) (C.length + 1) cap) hgrow)
      clear hown hgrow hat hlt2 S
      have S := S2
      clear S2
      refine hK.out _ _ (by exact O2) ?_
      simp only [Act.put, List.setIfInBounds_toArray, List.set_cons_zero, List.set_cons_succ]
      clear O2
      clear hK K
      refine Upto.ready (rs := [14]) (by kernel_rfl) (by simp) ?_
      refine Nexts.last rfl (fun K hK => ?_)
      go_simp
      refine hK.out _ _ ?_
      clear hK K
      refine Upto.done (by kernel_rfl) ?_ _
      have HC2 : Hid (okC (C ++ [h])) := fun x hx => by
        rw [List.mem_append, List.mem_singleton] at hx
        rcases hx with hx | rfl
        · exact HC.out x hx
        · exact hwf
      clear hwf
      have HLE : Hid ((C ++ [h]).length = C.length + 1) := by show (C ++ [h]).length = C.length + 1; simp
      go_wp2_with (first
        | ((with_reducible refine wpl_isLoad ?_); first
          | (refine wpl_cl 26 _ rfl bv (ov + k) rfl _ (S.keep HCV.out) _ Tryz.underlying26 rfl rfl ?_))
        | ((with_reducible refine wpl_isStore ?_); first
          | (refine S.store1 rfl 26 _ _ rfl _ m _ rfl rfl 0 (Cel.regs r) rfl rfl (by rw [regs_length hr32]; omega) _ (set_regs _ _ _) szU ?_; clear S; intro w22 S; simp only [List.set_cons_zero, List.set_cons_succ] at S)))
      go_roundw
      case rel => exact ⟨k + 1, C ++ [h], some ⟨g, 0, none⟩, cap, r.set m y, hlt, by rw [HLE.out, HCK.out], by rw [HLE.out], by push_cast; rfl, HC2.out, okR_set HR.out _ ⟨by have := QY.out; omega, by have := QY.out; omega⟩, by rw [HLE.out]; exact S⟩
      case measure =>
        simp only [intOf]
        omega
    · subst hCk
      have hE0 : C.length ≤ 30 := by omega
      by_cases hlt : C.length < l.length
      · have hlt' : (C.length : Int) < (l.length : Int) := by omega
        have hlv' : decide ((C.length : Int) < (v.length : Int)) = false := by simp; omega
        go_wp2_with (first
          | ((with_reducible refine wpl_isStore ?_); first
            | (refine S.store1 rfl 26 _ _ rfl _ _ _ rfl rfl 0 (Cel.regs _) rfl rfl (by rw [regs_length (by simp [hr32])]; decide) _ (set_regs _ _ _) szU ?_; clear S; intro w22 S; simp only [List.set_cons_zero, List.set_cons_succ] at S)))
        obtain ⟨rr, hrr⟩ : ∃ x, x = (((r.set 20 536870912).set 21 805306368).set 22 32768).set 23 536871112 := ⟨_, rfl⟩
        have hro : okR rr := by rw [hrr]; exact okR_set (okR_set (okR_set (okR_set HR.out _ ⟨by decide, by decide⟩) _ ⟨by decide, by decide⟩) _ ⟨by decide, by decide⟩) _ ⟨by decide, by decide⟩
        have hro32 := hro.1
        rw [← hrr] at S
        clear hrr
        refine Upto.start (S := fun w' => SH (codeZ base (.slice A C.length c) C) w w' [(b6, Cel.regs rr), (b5, Cel.regs zR)]) 3 (by kernel_rfl) ?_
        replace S := S.drew
        refine Upto.take (i := 0) (oi := { dst := some 46, op := Op.move (Operand.tmp 7), type := 22, pos := "law.go:65", after := #[], guard := none }) (v := ?_) rfl (by kernel_rfl) (by kernel_rfl) (by kernel_rfl) (by kernel_rfl) (fun _ _ _ h => h) (Or.inl ⟨by rfl, ?_⟩) (by exact S) ?_
        rotate_left 1
        · intro w hSw
          clear hSw
          go_simp
          try with_reducible rfl
        simp only [Act.put, List.setIfInBounds_toArray, List.set_cons_zero, List.set_cons_succ]
        refine Upto.take (i := 1) (oi := { dst := some 47, op := Op.load 27 (Operand.tmp 6), type := 27, pos := "law.go:65", after := #[{ on := 2, ground := Ground.gcOnly Departure.lateStores }], guard := none }) (v := _) rfl (by kernel_rfl) (by kernel_rfl) (by kernel_rfl) (by kernel_rfl) (fun _ _ _ h => h) (y_loadAll (by rfl) _ _ rfl _ rfl 0 _ rfl _ Tryz.underlying27 rfl (by rw [regs_length hro32]; exact szRegs)) (by exact S) ?_
        simp only [Act.put, List.setIfInBounds_toArray, List.set_cons_zero, List.set_cons_succ]
        refine Upto.take (i := 2) (oi := { dst := some 4, op := Op.assign (Operand.tmp 46), type := 22, pos := "law.go:65", after := #[{ on := 0, ground := Ground.data }, { on := 0, ground := Ground.phase }, { on := 1, ground := Ground.textOnly Departure.lateStores }], guard := none }) (v := ?_) rfl (by kernel_rfl) (by kernel_rfl) (by kernel_rfl) (by kernel_rfl) (fun _ _ _ h => h) (Or.inl ⟨by rfl, ?_⟩) (by exact S) ?_
        rotate_left 1
        · intro w hSw
          clear hSw
          go_simp
          try with_reducible rfl
        simp only [Act.put, List.setIfInBounds_toArray, List.set_cons_zero, List.set_cons_succ]
        refine Upto.ready (rs := [3]) (by kernel_rfl) (by simp) ?_
        refine Nexts.last rfl (fun K hK => ?_)
        rw [if_pos (by rfl)]
        refine S.wpStoreAll 27 _ _ rfl _ (Cel.regs rr) rfl rfl 1 _ rfl (by rw [regs_length hro32, regs_length (by simp [zR])]) one_regs (by rw [regs_length hro32]; exact szRegs) ?_
        clear S
        intro w24 S
        simp only [List.set_cons_zero, List.set_cons_succ] at S
        refine hK.out _ _ ?_
        simp only [Act.put, List.setIfInBounds_toArray, List.set_cons_zero, List.set_cons_succ]
        clear hK K
        refine Upto.done (by kernel_rfl) ?_ _
        go_wp2_with fail
        refine bodyPost_ret (S.results2b rfl _ _ rfl 1 _ rfl _ Tryz.underlying27 rfl (by rw [regs_length hro32]; exact szRegs)) rfl ?_
        exact ⟨C, A, c, base, rr, rfl, hE0, HC.out, hro, S.inv.1, HB.out, S.inv.2, S.lowA ⟨rfl, rfl⟩⟩
      · have hlt' : decide ((C.length : Int) < (l.length : Int)) = false := by simp; omega
        go_wp2_with (first
          | ((with_reducible refine wpl_isStore ?_); first
            | (refine S.store1 rfl 26 _ _ rfl _ _ _ rfl rfl 0 (Cel.regs _) rfl rfl (by rw [regs_length (by simp [hr32])]; decide) _ (set_regs _ _ _) szU ?_; clear S; intro w22 S; simp only [List.set_cons_zero, List.set_cons_succ] at S)))
        obtain ⟨rr, hrr⟩ : ∃ x, x = (((r.set 20 536870912).set 21 805306368).set 22 32768).set 23 536871112 := ⟨_, rfl⟩
        have hro : okR rr := by rw [hrr]; exact okR_set (okR_set (okR_set (okR_set HR.out _ ⟨by decide, by decide⟩) _ ⟨by decide, by decide⟩) _ ⟨by decide, by decide⟩) _ ⟨by decide, by decide⟩
        have hro32 := hro.1
        rw [← hrr] at S
        clear hrr
        refine Upto.start (S := fun w' => SH (codeZ base (.slice A C.length c) C) w w' [(b6, Cel.regs rr), (b5, Cel.regs zR)]) 3 (by kernel_rfl) ?_
        replace S := S.drew
        refine Upto.take (i := 0) (oi := { dst := some 46, op := Op.move (Operand.tmp 7), type := 22, pos := "law.go:65", after := #[], guard := none }) (v := ?_) rfl (by kernel_rfl) (by kernel_rfl) (by kernel_rfl) (by kernel_rfl) (fun _ _ _ h => h) (Or.inl ⟨by rfl, ?_⟩) (by exact S) ?_
        rotate_left 1
        · intro w hSw
          clear hSw
          go_simp
          try with_reducible rfl
        simp only [Act.put, List.setIfInBounds_toArray, List.set_cons_zero, List.set_cons_succ]
        refine Upto.take (i := 1) (oi := { dst := some 47, op := Op.load 27 (Operand.tmp 6), type := 27, pos := "law.go:65", after := #[{ on := 2, ground := Ground.gcOnly Departure.lateStores }], guard := none }) (v := _) rfl (by kernel_rfl) (by kernel_rfl) (by kernel_rfl) (by kernel_rfl) (fun _ _ _ h => h) (y_loadAll (by rfl) _ _ rfl _ rfl 0 _ rfl _ Tryz.underlying27 rfl (by rw [regs_length hro32]; exact szRegs)) (by exact S) ?_
        simp only [Act.put, List.setIfInBounds_toArray, List.set_cons_zero, List.set_cons_succ]
        refine Upto.take (i := 2) (oi := { dst := some 4, op := Op.assign (Operand.tmp 46), type := 22, pos := "law.go:65", after := #[{ on := 0, ground := Ground.data }, { on := 0, ground := Ground.phase }, { on := 1, ground := Ground.textOnly Departure.lateStores }], guard := none }) (v := ?_) rfl (by kernel_rfl) (by kernel_rfl) (by kernel_rfl) (by kernel_rfl) (fun _ _ _ h => h) (Or.inl ⟨by rfl, ?_⟩) (by exact S) ?_
        rotate_left 1
        · intro w hSw
          clear hSw
          go_simp
          try with_reducible rfl
        simp only [Act.put, List.setIfInBounds_toArray, List.set_cons_zero, List.set_cons_succ]
        refine Upto.ready (rs := [3]) (by kernel_rfl) (by simp) ?_
        refine Nexts.last rfl (fun K hK => ?_)
        rw [if_pos (by rfl)]
        refine S.wpStoreAll 27 _ _ rfl _ (Cel.regs rr) rfl rfl 1 _ rfl (by rw [regs_length hro32, regs_length (by simp [zR])]) one_regs (by rw [regs_length hro32]; exact szRegs) ?_
        clear S
        intro w24 S
        simp only [List.set_cons_zero, List.set_cons_succ] at S
        refine hK.out _ _ ?_
        simp only [Act.put, List.setIfInBounds_toArray, List.set_cons_zero, List.set_cons_succ]
        clear hK K
        refine Upto.done (by kernel_rfl) ?_ _
        go_wp2_with fail
        refine bodyPost_ret (S.results2b rfl _ _ rfl 1 _ rfl _ Tryz.underlying27 rfl (by rw [regs_length hro32]; exact szRegs)) rfl ?_
        exact ⟨C, A, c, base, rr, rfl, hE0, HC.out, hro, S.inv.1, HB.out, S.inv.2, S.lowA ⟨rfl, rfl⟩⟩
end Go.Proofs.YtjhmmfpmmgebjaaGreat
