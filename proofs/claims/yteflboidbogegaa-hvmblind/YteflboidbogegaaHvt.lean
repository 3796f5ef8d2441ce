/- HvmBlind, walked. -/
import Derived.Test.YteflboidbogegaaHvs
import Derived.Test.YteflboidbogegaaHvp
import Derived.Test.YteflboidbogegaaHvr
import Derived.Test.YteflboidbogegaaHvu
import Derived.Deep.Cut
import Derived.Deep.CutRange
namespace Go.Proofs.Yteflboidbogegaa
open Go.ChangeShapes Go.WideShapes Go.ChangeAt Go.RowKit
set_option linter.unusedVariables false
set_option linter.unusedSimpArgs false

/-- Fours of bytes behind a slice; numbers behind one. -/
def L4 (w : World) (A : Option Addr) (l : List (Int × Int × Int × Int)) : Prop := ∀ (i : Nat) (x : Int × Int × Int × Int), l[i]? = some x → ((0 ≤ x.1 ∧ x.1 ≤ 255) ∧ (0 ≤ x.2.1 ∧ x.2.1 ≤ 255) ∧ (0 ≤ x.2.2.1 ∧ x.2.2.1 ≤ 255) ∧ (0 ≤ x.2.2.2 ∧ x.2.2.2 ≤ 255)) ∧
  ∃ b o, A = some ⟨b, o, none⟩ ∧ w.rangeAt b (o + i * 4) [.int .u8 x.1, .int .u8 x.2.1, .int .u8 x.2.2.1, .int .u8 x.2.2.2]
def U4 (w : World) (A : Option Addr) (v : List Int) : Prop := ∀ (i : Nat) (x : Int), v[i]? = some x → (0 ≤ x ∧ x ≤ 4294967295) ∧ ∃ b o, A = some ⟨b, o, none⟩ ∧ w.cell? ⟨b, o + i, none⟩ = some (.int .u32 x)
theorem y_cell {P : Program} {ops : Array Oper} {S : World → Prop} {o : Oper} {a : Act} (hw : Region.wanted o (yielded ops a.tmps) = true) (ty : TypeId) (x : Operand) (ho : o.op = .load ty x) (b j : Nat) (hx : a.eval x = .pointer (some ⟨b, j, none⟩))
    (v : Value) (hv : ∀ w, S w → w.cell? ⟨b, j, none⟩ = some v) (d : TypeDesc) (hu : P.underlying ty = some d) (hd : d.isRow = false) : YieldsIf P ops S o v a :=
  .inl ⟨hw, fun w hS => by
    unfold execOp
    simp only [ho, hx, Sem.run_bind, run_load1 w b j ty v d (hv w hS) hu hd, Result.andThen_ok, Sem.run_pure]⟩
theorem SH.keep {base : Nat} {v : Value} {C : List HV} {w0 w : World} {L : List (Nat × Cel)} (S : SH (codeZ base v C) w0 w L) {b j : Nat} {u : Value} (h : w0.cell? ⟨b, j, none⟩ = some u) : w.cell? ⟨b, j, none⟩ = some u :=
  (World.cell?_of_block (w := w0) (a := ⟨b, j, none⟩) (S.mid.block b (World.block_lt_of_cell? w0 _ h) (.inr (Nat.zero_le _)))).trans h
theorem SH.wpAlloc {P : Program} {M : Zn} {w0 w : World} {L : List (Nat × Cel)} {o : Oper} {a : Act} {Q : Exit → Act → World → Prop} (S : SH M w0 w L) (ty : TypeId) (ho : o.op = .alloc ty) (k : Nat) (hd : o.dst = some k) (c : Cel) (hz : (P.info? ty).map (fun i => i.zero) = some (some c.val)) {K : Act → World → Prop}
    (h : ∀ b w1, SH M w0 w1 ((b, c) :: L) → K (a.put (some k) (.pointer (some ⟨b, 0, none⟩))) w1) : o.wp P a w K Q := by
  rw [← hd] at h
  unfold Oper.wp execOp
  have hr : (Instr.alloc ty true (.tuple #[])).run P w = .ok (.pointer (some ⟨w.heap.size, 0, none⟩)) (w.alloc (.cells c.cells.toArray ty)) := by
    cases hq : P.info? ty with
    | none => simp [hq] at hz
    | some i =>
      simp [hq] at hz
      simp [Instr.alloc, zeroValue, typeInfo, hq, hz, newVar, newRow, Cel.val, Value.cells]
  simp only [ho, Sem.run_bind, hr, Result.andThen_ok, Sem.run_pure]
  exact h _ _ (S.new c ty)
theorem mem_swap {T : Type} {p q r : T} {L : List T} (h : r ∈ q :: p :: L) : r ∈ p :: q :: L := by
  simp only [List.mem_cons] at h ⊢
  rcases h with h | h | h
  · exact .inr (.inl h)
  · exact .inl h
  · exact .inr (.inr h)
theorem SH.swap {M : Zn} {w0 w : World} {L : List (Nat × Cel)} {p q : Nat × Cel} (S : SH M w0 w (p :: q :: L)) : SH M w0 w (q :: p :: L) :=
  ⟨S.ok, S.inv, S.zb, S.mid, fun r hr => S.blk r (mem_swap hr), fun r hr => S.out r (mem_swap hr), fun i j r s hi hj h => by
    have key : ∀ (i : Nat) (r : Nat × Cel), (q :: p :: L)[i]? = some r → (p :: q :: L)[if i = 0 then 1 else if i = 1 then 0 else i]? = some r := fun i r hr => by
      rcases i with _ | _ | i
      · simpa using hr
      · simpa using hr
      · simpa using hr
    have := S.nd _ _ r s (key i r hi) (key j s hj) h
    (repeat' split at this) <;> omega⟩

theorem SH.t1 {M : Zn} {w0 w : World} {p : Nat × Cel} {L : List (Nat × Cel)} (S : SH M w0 w (p :: L)) : SH M w0 w L := S.fewer 1
theorem SH.dropG {base : Nat} {v : Value} {C : List HV} {w0 w : World} {L : List (Nat × Cel)} {A : Option Addr} {n c b : Nat} {E : List HEv} {Z : Nat → Prop} {J : World → Prop} (S : SH (((codeZ base v C).add (fun k => (Value.slice A n c).ownBlock = some k) (fun w => EvRow w b (.slice A n c) E)).add Z J) w0 w L) :
    SH ((codeZ base v C).add (fun k => (Value.slice A n c).ownBlock = some k) (fun w => EvRow w b (.slice A n c) E)) w0 w L :=
  S.turn (add_ok (codeZ_ok _ _ _) (stb_ev _ _ _)) S.inv.1 (fun k hk => S.zb k (.inl hk)) S.mid (fun _ _ => rfl) (fun p hp h => (S.out p hp).2 (.inl h))
def blRel (w0 : World) (b10 b11 base : Nat) (n : Nat) (cv i : Value) (wr : World) : Prop :=
  ∃ (k : Nat) (C : List HV) (A : Option Addr) (c : Nat) (r s : List Int), k ≤ n ∧ C.length ≤ k ∧ cv = .slice A C.length c ∧ i = .int .i64 k ∧ recOk C ∧ okR r ∧ okR s ∧ SH (codeZ base (.slice A C.length c) C) w0 wr [(b11, Cel.regs s), (b10, Cel.regs r)]
set_option maxHeartbeats 8000000 in
set_option maxRecDepth 100000 in
theorem blind_c (A0 A1 A2 : Option Addr) (c0 c1 c2 : Nat) (l : List (Int × Int × Int × Int)) (v u : List Int) (at' : Int) (t0 : 0 ≤ at') (t1 : at' ≤ 65535) (w : World) (hl : L4 w A0 l) (hv : U4 w A1 v) (hu : U4 w A2 u) :
    Calls Try.prog 4 #[.slice A0 l.length c0, .slice A1 v.length c1, .slice A2 u.length c2, .int .u16 at'] w fun e w' => e = .returned (.bool true) ∧ Below w.heap.size w w' := by
  have S := SH.start w
  have HL : Hid (L4 w A0 l) := hl
  have HV' : Hid (U4 w A1 v) := hv
  have HU : Hid (U4 w A2 u) := hu
  have CK : Hid (∀ w1, Calls Try.prog 8 #[] w1 fun e w' => e = .returned (.bool true) ∧ Below w1.heap.size w1 w') := fun w1 => known_c w1
  clear hl hv hu
  go_enter Try.func4, Try.ntmps4
  by_cases g1 : 40 < l.length
  · have g1' : 40 < (l.length : Int) := by omega
    go_wp2_with (first
      | (go_at_call 8; refine (CK.out _).mono ?_; rintro e w2 ⟨rfl, hb2⟩; replace S := S.below hb2; clear hb2))
    go_ret
    exact ⟨rfl, S.low⟩
  have g1' : decide (40 < (l.length : Int)) = false := by simp; omega
  by_cases g2 : v.length < l.length
  · have g2' : (v.length : Int) < (l.length : Int) := by omega
    go_wp2_with (first
      | (go_at_call 8; refine (CK.out _).mono ?_; rintro e w2 ⟨rfl, hb2⟩; replace S := S.below hb2; clear hb2))
    go_ret
    exact ⟨rfl, S.low⟩
  have g2' : decide ((v.length : Int) < (l.length : Int)) = false := by simp; omega
  by_cases g3 : u.length < l.length
  · have g3' : (u.length : Int) < (l.length : Int) := by omega
    go_wp2_with (first
      | (go_at_call 8; refine (CK.out _).mono ?_; rintro e w2 ⟨rfl, hb2⟩; replace S := S.below hb2; clear hb2))
    go_ret
    exact ⟨rfl, S.low⟩
  have g3' : decide ((u.length : Int) < (l.length : Int)) = false := by simp; omega
  go_wp2_with (first
    | ((with_reducible refine wpl_is ?_); first
      | (refine SH.alloc (L := []) S rfl 28 rfl _ zeroRegs ?_; clear S; intro b10 w10 S)
      | (refine SH.alloc (L := [_]) S rfl 28 rfl _ zeroRegs ?_; clear S; intro b11 w11 S))
    | (go_at_call 8; refine (CK.out _).mono ?_; rintro e w2 ⟨rfl, hb2⟩; replace S := S.below hb2; clear hb2))
  replace S := S.toCode (base := w11.heap.size) (Nat.le_refl _)
  obtain ⟨base, hbase⟩ : ∃ b, b = w11.heap.size := ⟨_, rfl⟩
  have HB : Hid (w.heap.size ≤ base) := by rw [hbase]; exact S.mid.size
  rw [← hbase] at S
  have ST : Hid (blRel w b10 b11 base l.length (.slice none 0 0) (.int .i64 0) w11) := ⟨0, [], none, 0, zR, zR, Nat.zero_le _, Nat.le_refl _, rfl, rfl, (fun h hh => by cases hh), zR_ok, zR_ok, S⟩
  clear S hbase CK
  have LL : Hid (l.length ≤ 40 ∧ l.length ≤ v.length ∧ l.length ≤ u.length) := ⟨by omega, by omega, by omega⟩
  clear g1 g1' g2 g2' g3 g3'
  go_loopw [9, 12] (fun cv i wr => blRel w b10 b11 base l.length cv i wr) (fun _ i _ => l.length - (intOf i).toNat)
  case atStart => exact ST.out
  case round =>
    clear ST
    obtain ⟨k, C, A, c, r, s, hkn, hCk, rfl, rfl, hrec, hr, hs, S⟩ := hrel
    have HREC : Hid (recOk C) := hrec
    have HR : Hid (okR r) := hr
    have HS : Hid (okR s) := hs
    have hr32 := hr.1
    have hs32 := hs.1
    clear hrec hr hs
    by_cases hlt : k < l.length
    · have hlt' : (k : Int) < (l.length : Int) := by omega
      have hlv : (k : Int) < (v.length : Int) := by have := LL.out; omega
      have hlu : (k : Int) < (u.length : Int) := by have := LL.out; omega
      obtain ⟨x, hx⟩ : ∃ x, l[k]? = some x := ⟨l[k], by simp [hlt]⟩
      obtain ⟨y, hy⟩ : ∃ y, v[k]? = some y := ⟨v[k]'(by omega), by simp⟩
      obtain ⟨z, hz⟩ : ∃ z, u[k]? = some z := ⟨u[k]'(by omega), by simp⟩
      obtain ⟨⟨q0, q1, q2, q3⟩, bl, ol, rfl, hrl⟩ := HL.out k x hx
      obtain ⟨qy, bv, ov, rfl, hcv⟩ := HV'.out k y hy
      obtain ⟨qz, bu, ou, rfl, hcu⟩ := HU.out k z hz
      have C1 : Hid (∀ w1, Calls Try.prog 11 #[.agg #[.int .u8 x.1, .int .u8 x.2.1, .int .u8 x.2.2.1, .int .u8 x.2.2.2], .int .u32 y, .int .i64 l.length] w1 fun e w' => ∃ h : HV, e = .returned (Cel.host h).val ∧ h.wf ∧ Below w1.heap.size w1 w') := fun w1 => one_c _ _ _ _ _ _ q0 q1 q2 q3 qy w1
      have HRL : Hid (w.rangeAt bl (ol + k * 4) [.int .u8 x.1, .int .u8 x.2.1, .int .u8 x.2.2.1, .int .u8 x.2.2.2]) := hrl
      have HCV : Hid (w.cell? ⟨bv, ov + k, none⟩ = some (.int .u32 y)) := hcv
      have HCU : Hid (w.cell? ⟨bu, ou + k, none⟩ = some (.int .u32 z)) := hcu
      have QY : Hid ((0 ≤ y ∧ y ≤ 4294967295) ∧ (0 ≤ z ∧ z ≤ 4294967295)) := ⟨qy, qz⟩
      clear hx hy hz hrl hcv hcu q0 q1 q2 q3 qy qz HL HV' HU
      go_upto_region 10 with fail
      go_cut [13] from 43 to 53 (fun p wx => ∃ (b13 : Nat) (h : HV), p = .pointer (some ⟨b13, 0, none⟩) ∧ h.wf ∧ SH (codeZ base (.slice A C.length c) C) w wx [(b13, Cel.host h), (b11, Cel.regs s), (b10, Cel.regs r)])
      case first =>
        refine Upto.start (S := fun w' => SH (codeZ base (.slice A C.length c) C) w w' [(b11, Cel.regs s), (b10, Cel.regs r)]) 12 (by kernel_rfl) ?_
        replace S := S.drew
        refine Upto.take (i := 0) (oi := { dst := some 43, op := Op.move (Operand.tmp 0), type := 44, pos := "law.go:131", after := #[], guard := none }) (v := ?_) rfl (by kernel_rfl) (by kernel_rfl) (by kernel_rfl) (by kernel_rfl) (fun _ _ _ h => h) (Or.inl ⟨by rfl, ?_⟩) (by exact S) ?_
        rotate_left 1
        · intro w hSw
          clear hSw
          go_simp
          try with_reducible rfl
        simp only [Act.put, List.setIfInBounds_toArray, List.set_cons_zero, List.set_cons_succ]
        refine Upto.take (i := 1) (oi := { dst := some 44, op := Op.move (Operand.tmp 12), type := 3, pos := "law.go:131", after := #[], guard := none }) (v := ?_) rfl (by kernel_rfl) (by kernel_rfl) (by kernel_rfl) (by kernel_rfl) (fun _ _ _ h => h) (Or.inl ⟨by rfl, ?_⟩) (by exact S) ?_
        rotate_left 1
        · intro w hSw
          clear hSw
          go_simp
          try with_reducible rfl
        simp only [Act.put, List.setIfInBounds_toArray, List.set_cons_zero, List.set_cons_succ]
        refine Upto.take (i := 2) (oi := { dst := some 45, op := Op.indexAddr 44 (Operand.tmp 43) (Operand.tmp 44), type := 0, pos := "law.go:131", after := #[{ on := 0, ground := Ground.data }, { on := 1, ground := Ground.data }], guard := none }) (v := ?_) rfl (by kernel_rfl) (by kernel_rfl) (by kernel_rfl) (by kernel_rfl) (fun _ _ _ h => h) (Or.inl ⟨by rfl, ?_⟩) (by exact S) ?_
        rotate_left 1
        · intro w hSw
          clear hSw
          go_simp
          try with_reducible rfl
        simp only [Act.put, List.setIfInBounds_toArray, List.set_cons_zero, List.set_cons_succ]
        refine Upto.take (i := 3) (oi := { dst := some 46, op := Op.load 48 (Operand.tmp 45), type := 48, pos := "law.go:131", after := #[{ on := 2, ground := Ground.data }], guard := none }) (v := _) rfl (by kernel_rfl) (by kernel_rfl) (by kernel_rfl) (by kernel_rfl) (fun _ _ _ h => h) (yieldsIf_load_mid (by rfl) _ _ rfl bl (ol + k * 4) (by rfl) [.int .u8 x.1, .int .u8 x.2.1, .int .u8 x.2.2.1, .int .u8 x.2.2.2] _ (fun w' S' j v' hv' => S'.keep (HRL.out j v' hv')) Try.underlying48 rfl (by kernel_rfl)) (by exact S) ?_
        simp only [Act.put, List.setIfInBounds_toArray, List.set_cons_zero, List.set_cons_succ]
        refine Upto.take (i := 4) (oi := { dst := some 47, op := Op.move (Operand.tmp 1), type := 45, pos := "law.go:131", after := #[], guard := none }) (v := ?_) rfl (by kernel_rfl) (by kernel_rfl) (by kernel_rfl) (by kernel_rfl) (fun _ _ _ h => h) (Or.inl ⟨by rfl, ?_⟩) (by exact S) ?_
        rotate_left 1
        · intro w hSw
          clear hSw
          go_simp
          try with_reducible rfl
        simp only [Act.put, List.setIfInBounds_toArray, List.set_cons_zero, List.set_cons_succ]
        refine Upto.take (i := 5) (oi := { dst := some 48, op := Op.move (Operand.tmp 12), type := 3, pos := "law.go:131", after := #[], guard := none }) (v := ?_) rfl (by kernel_rfl) (by kernel_rfl) (by kernel_rfl) (by kernel_rfl) (fun _ _ _ h => h) (Or.inl ⟨by rfl, ?_⟩) (by exact S) ?_
        rotate_left 1
        · intro w hSw
          clear hSw
          go_simp
          try with_reducible rfl
        simp only [Act.put, List.setIfInBounds_toArray, List.set_cons_zero, List.set_cons_succ]
        refine Upto.take (i := 6) (oi := { dst := some 49, op := Op.indexAddr 45 (Operand.tmp 47) (Operand.tmp 48), type := 0, pos := "law.go:131", after := #[{ on := 4, ground := Ground.data }, { on := 5, ground := Ground.data }], guard := none }) (v := ?_) rfl (by kernel_rfl) (by kernel_rfl) (by kernel_rfl) (by kernel_rfl) (fun _ _ _ h => h) (Or.inl ⟨by rfl, ?_⟩) (by exact S) ?_
        rotate_left 1
        · intro w hSw
          clear hSw
          go_simp
          try with_reducible rfl
        simp only [Act.put, List.setIfInBounds_toArray, List.set_cons_zero, List.set_cons_succ]
        refine Upto.take (i := 7) (oi := { dst := some 50, op := Op.load 22 (Operand.tmp 49), type := 22, pos := "law.go:131", after := #[{ on := 6, ground := Ground.data }], guard := none }) (v := _) rfl (by kernel_rfl) (by kernel_rfl) (by kernel_rfl) (by kernel_rfl) (fun _ _ _ h => h) (y_cell (by rfl) _ _ rfl bv (ov + k) (by rfl) _ (fun w' S' => S'.keep HCV.out) _ Try.underlying22 rfl) (by exact S) ?_
        simp only [Act.put, List.setIfInBounds_toArray, List.set_cons_zero, List.set_cons_succ]
        refine Upto.take (i := 8) (oi := { dst := some 51, op := Op.move (Operand.tmp 0), type := 44, pos := "law.go:131", after := #[], guard := none }) (v := ?_) rfl (by kernel_rfl) (by kernel_rfl) (by kernel_rfl) (by kernel_rfl) (fun _ _ _ h => h) (Or.inl ⟨by rfl, ?_⟩) (by exact S) ?_
        rotate_left 1
        · intro w hSw
          clear hSw
          go_simp
          try with_reducible rfl
        simp only [Act.put, List.setIfInBounds_toArray, List.set_cons_zero, List.set_cons_succ]
        refine Upto.take (i := 9) (oi := { dst := some 52, op := Op.call { callee := Callee.builtin Builtin.len, args := #[Operand.tmp 51], argTypes := #[44] }, type := 3, pos := "law.go:131", after := #[{ on := 8, ground := Ground.data }], guard := none }) (v := ?_) rfl (by kernel_rfl) (by kernel_rfl) (by kernel_rfl) (by kernel_rfl) (fun _ _ _ h => h) (Or.inl ⟨by rfl, ?_⟩) (by exact S) ?_
        rotate_left 1
        · intro w hSw
          clear hSw
          go_simp
          try with_reducible rfl
        simp only [Act.put, List.setIfInBounds_toArray, List.set_cons_zero, List.set_cons_succ]
        refine Upto.ready (rs := [10, 11]) (by kernel_rfl) (by simp) ?_
        refine Nexts.cons rfl (by decide) (fun K hK => ?_) (Nexts.cons rfl (by decide) (fun K hK => ?_) (Nexts.nil))
        · go_simp
          go_wp2_with (go_at_call 11; refine (C1.out _).mono ?_; rintro e w15 ⟨h, rfl, hwf, hw15⟩)
          replace S := S.below hw15
          clear hw15
          refine hK.out _ _ (by with_reducible first | exact S | exact S.t1) ?_
          clear hK K
          refine Upto.ready (rs := [11]) (by kernel_rfl) (by simp) ?_
          refine Nexts.cons rfl (by decide) (fun K hK => ?_) Nexts.nil
          rw [if_pos (by rfl)]
          refine S.wpAlloc 25 rfl 13 rfl _ zeroHost ?_
          clear S
          intro b13 w13 S
          refine hK.out _ _ (by with_reducible exact S.t1) ?_
          simp only [Act.put, List.setIfInBounds_toArray, List.set_cons_zero, List.set_cons_succ]
          clear hK K
          refine Upto.ready (rs := [12]) (by kernel_rfl) (by simp) ?_
          refine Nexts.last rfl (fun K hK => ?_)
          rw [if_pos (by rfl)]
          refine S.wpStoreAll 25 _ _ rfl _ (Cel.host h) rfl rfl 0 _ rfl rfl (one_host h) szHost ?_
          clear S
          intro w16 S
          simp only [List.set_cons_zero, List.set_cons_succ] at S
          refine hK.out _ _ ?_
          simp only [Act.put, List.setIfInBounds_toArray, List.set_cons_zero, List.set_cons_succ]
          clear hK K
          refine Upto.done (by kernel_rfl) ?_ _
          go_wp2
          go_meet
          exact ⟨b13, h, rfl, hwf, S⟩
        · rw [if_pos (by rfl)]
          refine S.wpAlloc 25 rfl 13 rfl _ zeroHost ?_
          clear S
          intro b13 w13 S
          refine hK.out _ _ (by with_reducible exact S.t1) ?_
          simp only [Act.put, List.setIfInBounds_toArray, List.set_cons_zero, List.set_cons_succ]
          clear hK K
          refine Upto.ready (rs := [10]) (by kernel_rfl) (by simp) ?_
          refine Nexts.cons rfl (by decide) (fun K hK => ?_) Nexts.nil
          go_simp
          go_wp2_with (go_at_call 11; refine (C1.out _).mono ?_; rintro e w15 ⟨h, rfl, hwf, hw15⟩)
          replace S := S.below hw15
          clear hw15
          refine hK.out _ _ (by with_reducible first | exact S | exact S.t1) ?_
          clear hK K
          refine Upto.ready (rs := [12]) (by kernel_rfl) (by simp) ?_
          refine Nexts.last rfl (fun K hK => ?_)
          rw [if_pos (by rfl)]
          refine S.wpStoreAll 25 _ _ rfl _ (Cel.host h) rfl rfl 0 _ rfl rfl (one_host h) szHost ?_
          clear S
          intro w16 S
          simp only [List.set_cons_zero, List.set_cons_succ] at S
          refine hK.out _ _ ?_
          simp only [Act.put, List.setIfInBounds_toArray, List.set_cons_zero, List.set_cons_succ]
          clear hK K
          refine Upto.done (by kernel_rfl) ?_ _
          go_wp2
          go_meet
          exact ⟨b13, h, rfl, hwf, S⟩
      case rest =>
        obtain ⟨b13, h, rfl, hwf, S⟩ := hcut
        clear C1 HRL
        have HWF : Hid h.wf := hwf
        clear hwf
        have CR : Hid (∀ w1, Calls Try.prog 12 #[(Cel.host h).val] w1 fun e w' => e = .returned (.bool (rightS h)) ∧ Below w1.heap.size w1 w') := fun w1 => rright_c h w1
        obtain ⟨i0, hi0, hz0, hz1, hz2⟩ := ho_info
        have HI : Hid (Try.prog.info? 25 = some i0 ∧ i0.zero = some (Cel.host noHV).val ∧ i0.size = 6 ∧ i0.bytes = 48) := ⟨hi0, hz0, hz1, hz2⟩
        clear hi0 hz0 hz1 hz2
        have hk40 : k ≤ 40 := by have := LL.out; omega
        obtain ⟨m, htm, hm8⟩ : ∃ m : Nat, (k : Int).tmod 8 = (m : Int) ∧ m < 8 := ⟨k % 8, by rw [Int.tmod_eq_emod_of_nonneg (by omega)]; omega, by omega⟩
        have hmb : ((m : Int) < 32) = True := by simp; omega
        by_cases h21 : h.op ≤ 21
        · cases hright : rightS h
          · rw [hright] at CR
            go_wp2_with (first
              | ((with_reducible refine wpl_isLoad ?_); first
                | (refine S.ld 3 _ rfl _ 0 rfl 0 (Cel.host h) rfl _ rfl _ Try.underlying3 rfl rfl ?_)
                | (refine S.ldAll 25 _ rfl _ rfl 0 (Cel.host h) rfl _ Try.underlying25 rfl szHost rfl ?_))
              | ((with_reducible refine wpl_is ?_); first
                | (refine S.sliceH rfl _ rfl h rfl ?_; clear S; intro w20 S)
                | (refine wpList_append_lies _ rfl _ _ 34 rfl base 25 i0 _ 6 48 Try.underlying34 HI.out.1 HI.out.2.1 HI.out.2.2.1 HI.out.2.2.2 rfl (by decide) (.slice A C.length c) C.length (codeC C) rfl S.inv.1.1 ⟨_, 0, none⟩ 1 1 ((Cel.host h).cells) rfl rfl S.inv.2 (one_host h) (by decide) (by simp only [maxLen]; omega) (by omega) S.inv.1.2 _ rfl ?_; intro g cap w21 hown hgrow hat hlt2; have S2 := (S.dropC.appendedC (v' := .slice (some ⟨g, 0, none⟩) (C.length + 1) cap) (C' := C ++ [h]) HB.out (by unfold HRow; rw [codeC_snoc, List.length_append]; exact hown) hgrow (fun g' hg' => by simp only [Value.ownBlock, Option.some.injEq] at hg'; subst hg'; exact hat)); clear hown hgrow hat hlt2 S; have S := S2; clear S2))
              | (go_at_call 12; refine (CR.out _).mono ?_; rintro e w8 ⟨rfl, hw8⟩; replace S := S.below hw8; clear hw8))
            refine Upto.start (S := fun w' => SH (codeZ base (.slice A C.length c) (C)) w w' []) 15 (by kernel_rfl) ?_
            replace S := S.drew
            refine Upto.take (i := 0) (oi := { dst := some 65, op := Op.move (Operand.tmp 12), type := 3, pos := "law.go:135", after := #[], guard := none }) (v := ?_) rfl (by kernel_rfl) (by kernel_rfl) (by kernel_rfl) (by kernel_rfl) (fun _ _ _ h => h) (Or.inl ⟨by rfl, ?_⟩) (by exact S.fewer 3) ?_
            rotate_left 1
            · intro w hSw
              clear hSw
              go_simp
              try with_reducible rfl
            simp only [Act.put, List.setIfInBounds_toArray, List.set_cons_zero, List.set_cons_succ]
            refine Upto.take (i := 1) (oi := { dst := some 66, op := Op.binOp BinOp.rem 3 (Operand.tmp 65) (Operand.const (Value.int IntKind.i64 8)) 3, type := 3, pos := "law.go:135", after := #[{ on := 0, ground := Ground.data }], guard := none }) (v := ?_) rfl (by kernel_rfl) (by kernel_rfl) (by kernel_rfl) (by kernel_rfl) (fun _ _ _ h => h) (Or.inl ⟨by rfl, ?_⟩) (by exact S.fewer 3) ?_
            rotate_left 1
            · intro w hSw
              clear hSw
              go_simp
              try simp only [htm]
              try with_reducible rfl
            simp only [Act.put, List.setIfInBounds_toArray, List.set_cons_zero, List.set_cons_succ]
            refine Upto.take (i := 2) (oi := { dst := some 67, op := Op.move (Operand.tmp 12), type := 3, pos := "law.go:135", after := #[{ on := 13, ground := Ground.gcOnly Departure.lateStores }], guard := none }) (v := ?_) rfl (by kernel_rfl) (by kernel_rfl) (by kernel_rfl) (by kernel_rfl) (fun _ _ _ h => h) (Or.inl ⟨by rfl, ?_⟩) (by exact S.fewer 3) ?_
            rotate_left 1
            · intro w hSw
              clear hSw
              go_simp
              try with_reducible rfl
            simp only [Act.put, List.setIfInBounds_toArray, List.set_cons_zero, List.set_cons_succ]
            refine Upto.take (i := 3) (oi := { dst := some 68, op := Op.binOp BinOp.rem 3 (Operand.tmp 67) (Operand.const (Value.int IntKind.i64 8)) 3, type := 3, pos := "law.go:135", after := #[{ on := 2, ground := Ground.data }, { on := 13, ground := Ground.gcOnly Departure.lateStores }], guard := none }) (v := ?_) rfl (by kernel_rfl) (by kernel_rfl) (by kernel_rfl) (by kernel_rfl) (fun _ _ _ h => h) (Or.inl ⟨by rfl, ?_⟩) (by exact S.fewer 3) ?_
            rotate_left 1
            · intro w hSw
              clear hSw
              go_simp
              try simp only [htm]
              try with_reducible rfl
            simp only [Act.put, List.setIfInBounds_toArray, List.set_cons_zero, List.set_cons_succ]
            refine Upto.take (i := 4) (oi := { dst := some 69, op := Op.move (Operand.tmp 1), type := 45, pos := "law.go:135", after := #[], guard := none }) (v := ?_) rfl (by kernel_rfl) (by kernel_rfl) (by kernel_rfl) (by kernel_rfl) (fun _ _ _ h => h) (Or.inl ⟨by rfl, ?_⟩) (by exact S.fewer 3) ?_
            rotate_left 1
            · intro w hSw
              clear hSw
              go_simp
              try with_reducible rfl
            simp only [Act.put, List.setIfInBounds_toArray, List.set_cons_zero, List.set_cons_succ]
            refine Upto.take (i := 5) (oi := { dst := some 70, op := Op.move (Operand.tmp 12), type := 3, pos := "law.go:135", after := #[], guard := none }) (v := ?_) rfl (by kernel_rfl) (by kernel_rfl) (by kernel_rfl) (by kernel_rfl) (fun _ _ _ h => h) (Or.inl ⟨by rfl, ?_⟩) (by exact S.fewer 3) ?_
            rotate_left 1
            · intro w hSw
              clear hSw
              go_simp
              try with_reducible rfl
            simp only [Act.put, List.setIfInBounds_toArray, List.set_cons_zero, List.set_cons_succ]
            refine Upto.take (i := 6) (oi := { dst := some 71, op := Op.indexAddr 45 (Operand.tmp 69) (Operand.tmp 70), type := 0, pos := "law.go:135", after := #[{ on := 4, ground := Ground.data }, { on := 5, ground := Ground.data }], guard := none }) (v := ?_) rfl (by kernel_rfl) (by kernel_rfl) (by kernel_rfl) (by kernel_rfl) (fun _ _ _ h => h) (Or.inl ⟨by rfl, ?_⟩) (by exact S.fewer 3) ?_
            rotate_left 1
            · intro w hSw
              clear hSw
              go_simp
              try with_reducible rfl
            simp only [Act.put, List.setIfInBounds_toArray, List.set_cons_zero, List.set_cons_succ]
            refine Upto.take (i := 7) (oi := { dst := some 72, op := Op.load 22 (Operand.tmp 71), type := 22, pos := "law.go:135", after := #[{ on := 6, ground := Ground.data }], guard := none }) (v := _) rfl (by kernel_rfl) (by kernel_rfl) (by kernel_rfl) (by kernel_rfl) (fun _ _ _ h => h) (y_cell (by rfl) _ _ rfl bv (ov + k) (by rfl) _ (fun w' S' => S'.keep HCV.out) _ Try.underlying22 rfl) (by exact S.fewer 3) ?_
            simp only [Act.put, List.setIfInBounds_toArray, List.set_cons_zero, List.set_cons_succ]
            refine Upto.take (i := 8) (oi := { dst := some 73, op := Op.move (Operand.tmp 2), type := 45, pos := "law.go:135", after := #[{ on := 13, ground := Ground.gcOnly Departure.lateStores }], guard := none }) (v := ?_) rfl (by kernel_rfl) (by kernel_rfl) (by kernel_rfl) (by kernel_rfl) (fun _ _ _ h => h) (Or.inl ⟨by rfl, ?_⟩) (by exact S.fewer 3) ?_
            rotate_left 1
            · intro w hSw
              clear hSw
              go_simp
              try with_reducible rfl
            simp only [Act.put, List.setIfInBounds_toArray, List.set_cons_zero, List.set_cons_succ]
            refine Upto.take (i := 9) (oi := { dst := some 74, op := Op.move (Operand.tmp 12), type := 3, pos := "law.go:135", after := #[{ on := 13, ground := Ground.gcOnly Departure.lateStores }], guard := none }) (v := ?_) rfl (by kernel_rfl) (by kernel_rfl) (by kernel_rfl) (by kernel_rfl) (fun _ _ _ h => h) (Or.inl ⟨by rfl, ?_⟩) (by exact S.fewer 3) ?_
            rotate_left 1
            · intro w hSw
              clear hSw
              go_simp
              try with_reducible rfl
            simp only [Act.put, List.setIfInBounds_toArray, List.set_cons_zero, List.set_cons_succ]
            refine Upto.take (i := 10) (oi := { dst := some 75, op := Op.indexAddr 45 (Operand.tmp 73) (Operand.tmp 74), type := 0, pos := "law.go:135", after := #[{ on := 8, ground := Ground.data }, { on := 9, ground := Ground.data }, { on := 13, ground := Ground.gcOnly Departure.lateStores }], guard := none }) (v := ?_) rfl (by kernel_rfl) (by kernel_rfl) (by kernel_rfl) (by kernel_rfl) (fun _ _ _ h => h) (Or.inl ⟨by rfl, ?_⟩) (by exact S.fewer 3) ?_
            rotate_left 1
            · intro w hSw
              clear hSw
              go_simp
              try with_reducible rfl
            simp only [Act.put, List.setIfInBounds_toArray, List.set_cons_zero, List.set_cons_succ]
            refine Upto.take (i := 11) (oi := { dst := some 76, op := Op.load 22 (Operand.tmp 75), type := 22, pos := "law.go:135", after := #[{ on := 10, ground := Ground.data }, { on := 13, ground := Ground.gcOnly Departure.lateStores }], guard := none }) (v := _) rfl (by kernel_rfl) (by kernel_rfl) (by kernel_rfl) (by kernel_rfl) (fun _ _ _ h => h) (y_cell (by rfl) _ _ rfl bu (ou + k) (by rfl) _ (fun w' S' => S'.keep HCU.out) _ Try.underlying22 rfl) (by exact S.fewer 3) ?_
            simp only [Act.put, List.setIfInBounds_toArray, List.set_cons_zero, List.set_cons_succ]
            refine Upto.take (i := 12) (oi := { dst := some 77, op := Op.indexAddr 28 (Operand.tmp 10) (Operand.tmp 66), type := 0, pos := "law.go:135", after := #[{ on := 1, ground := Ground.data }, { on := 0, ground := Ground.phase }, { on := 1, ground := Ground.phase }, { on := 2, ground := Ground.textOnly Departure.lateStores }, { on := 3, ground := Ground.textOnly Departure.lateStores }, { on := 4, ground := Ground.phase }, { on := 5, ground := Ground.phase }, { on := 6, ground := Ground.phase }, { on := 7, ground := Ground.phase }, { on := 8, ground := Ground.textOnly Departure.lateStores }, { on := 9, ground := Ground.textOnly Departure.lateStores }, { on := 10, ground := Ground.textOnly Departure.lateStores }, { on := 11, ground := Ground.textOnly Departure.lateStores }], guard := none }) (v := ?_) rfl (by kernel_rfl) (by kernel_rfl) (by kernel_rfl) (by kernel_rfl) (fun _ _ _ h => h) (Or.inl ⟨by rfl, ?_⟩) (by exact S.fewer 3) ?_
            rotate_left 1
            · intro w hSw
              clear hSw
              go_simp
              try simp only [hmb, if_true, Int.toNat_natCast, Nat.zero_add]
              try with_reducible rfl
            simp only [Act.put, List.setIfInBounds_toArray, List.set_cons_zero, List.set_cons_succ]
            refine Upto.ready (rs := [13]) (by kernel_rfl) (by simp) ?_
            refine Nexts.cons rfl (by decide) (fun K hK => ?_) Nexts.nil
            rw [if_pos (by rfl)]
            refine S.wpStore1 22 _ _ rfl _ _ _ rfl rfl 2 (Cel.regs r) rfl rfl (by rw [regs_length hr32]; omega) _ (set_regs _ _ _) szU ?_
            clear S
            intro w17 S
            simp only [List.set_cons_zero, List.set_cons_succ] at S
            refine hK.out _ _ (by exact S.fewer 3) ?_
            clear hK K
            refine Upto.take (i := 14) (oi := { dst := some 78, op := Op.indexAddr 28 (Operand.tmp 11) (Operand.tmp 68), type := 0, pos := "law.go:135", after := #[{ on := 3, ground := Ground.data }, { on := 0, ground := Ground.phase }, { on := 1, ground := Ground.phase }, { on := 2, ground := Ground.phase }, { on := 3, ground := Ground.phase }, { on := 4, ground := Ground.phase }, { on := 5, ground := Ground.phase }, { on := 6, ground := Ground.phase }, { on := 7, ground := Ground.phase }, { on := 8, ground := Ground.phase }, { on := 9, ground := Ground.phase }, { on := 10, ground := Ground.phase }, { on := 11, ground := Ground.phase }, { on := 12, ground := Ground.phase }, { on := 13, ground := Ground.phase }], guard := none }) (v := ?_) rfl (by kernel_rfl) (by kernel_rfl) (by kernel_rfl) (by kernel_rfl) (fun _ _ _ h => h) (Or.inl ⟨by rfl, ?_⟩) (by exact S.fewer 3) ?_
            rotate_left 1
            · intro w hSw
              clear hSw
              go_simp
              try simp only [hmb, if_true, Int.toNat_natCast, Nat.zero_add]
              try with_reducible rfl
            simp only [Act.put, List.setIfInBounds_toArray, List.set_cons_zero, List.set_cons_succ]
            refine Upto.ready (rs := [15]) (by kernel_rfl) (by simp) ?_
            refine Nexts.last rfl (fun K hK => ?_)
            rw [if_pos (by rfl)]
            refine S.wpStore1 22 _ _ rfl _ _ _ rfl rfl 1 (Cel.regs s) rfl rfl (by rw [regs_length hs32]; omega) _ (set_regs _ _ _) szU ?_
            clear S
            intro w18 S
            simp only [List.set_cons_zero, List.set_cons_succ] at S
            refine hK.out _ _ ?_
            simp only [Act.put, List.setIfInBounds_toArray, List.set_cons_zero, List.set_cons_succ]
            clear hK K
            refine Upto.done (by kernel_rfl) ?_ _
            go_wp2
            go_roundw
            case rel =>
              exact ⟨k + 1, C, A, c, r.set m y, s.set m z, hlt, by omega, rfl, by push_cast; rfl, HREC.out, okR_set HR.out _ ⟨by have := QY.out; omega, by have := QY.out; omega⟩, okR_set HS.out _ ⟨by have := QY.out; omega, by have := QY.out; omega⟩, S.fewer 1⟩
            case measure =>
              simp only [intOf]
              omega
          · rw [hright] at CR
            have HR2 : Hid (recOk (C ++ [h])) := fun x hx => by
              rw [List.mem_append, List.mem_singleton] at hx
              rcases hx with hx | rfl
              · exact HREC.out x hx
              · exact ⟨h21, hright, HWF.out⟩
            clear hright
            go_wp2_with (first
              | ((with_reducible refine wpl_isLoad ?_); first
                | (refine S.ld 3 _ rfl _ 0 rfl 0 (Cel.host h) rfl _ rfl _ Try.underlying3 rfl rfl ?_)
                | (refine S.ldAll 25 _ rfl _ rfl 0 (Cel.host h) rfl _ Try.underlying25 rfl szHost rfl ?_))
              | ((with_reducible refine wpl_is ?_); first
                | (refine S.sliceH rfl _ rfl h rfl ?_; clear S; intro w20 S)
                | (refine wpList_append_lies _ rfl _ _ 34 rfl base 25 i0 _ 6 48 Try.underlying34 HI.out.1 HI.out.2.1 HI.out.2.2.1 HI.out.2.2.2 rfl (by decide) (.slice A C.length c) C.length (codeC C) rfl S.inv.1.1 ⟨_, 0, none⟩ 1 1 ((Cel.host h).cells) rfl rfl S.inv.2 (one_host h) (by decide) (by simp only [maxLen]; omega) (by omega) S.inv.1.2 _ rfl ?_; intro g cap w21 hown hgrow hat hlt2; have S2 := (S.dropC.appendedC (v' := .slice (some ⟨g, 0, none⟩) (C.length + 1) cap) (C' := C ++ [h]) HB.out (by unfold HRow; rw [codeC_snoc, List.length_append]; exact hown) hgrow (fun g' hg' => by simp only [Value.ownBlock, Option.some.injEq] at hg'; subst hg'; exact hat)); clear hown hgrow hat hlt2 S; have S := S2; clear S2))
              | (go_at_call 12; refine (CR.out _).mono ?_; rintro e w8 ⟨rfl, hw8⟩; replace S := S.below hw8; clear hw8))
            refine Upto.start (S := fun w' => SH (codeZ base (.slice (some ⟨g, 0, none⟩) (C.length + 1) cap) (C ++ [h])) w w' []) 15 (by kernel_rfl) ?_
            replace S := S.drew
            refine Upto.take (i := 0) (oi := { dst := some 65, op := Op.move (Operand.tmp 12), type := 3, pos := "law.go:135", after := #[], guard := none }) (v := ?_) rfl (by kernel_rfl) (by kernel_rfl) (by kernel_rfl) (by kernel_rfl) (fun _ _ _ h => h) (Or.inl ⟨by rfl, ?_⟩) (by exact S.fewer 3) ?_
            rotate_left 1
            · intro w hSw
              clear hSw
              go_simp
              try with_reducible rfl
            simp only [Act.put, List.setIfInBounds_toArray, List.set_cons_zero, List.set_cons_succ]
            refine Upto.take (i := 1) (oi := { dst := some 66, op := Op.binOp BinOp.rem 3 (Operand.tmp 65) (Operand.const (Value.int IntKind.i64 8)) 3, type := 3, pos := "law.go:135", after := #[{ on := 0, ground := Ground.data }], guard := none }) (v := ?_) rfl (by kernel_rfl) (by kernel_rfl) (by kernel_rfl) (by kernel_rfl) (fun _ _ _ h => h) (Or.inl ⟨by rfl, ?_⟩) (by exact S.fewer 3) ?_
            rotate_left 1
            · intro w hSw
              clear hSw
              go_simp
              try simp only [htm]
              try with_reducible rfl
            simp only [Act.put, List.setIfInBounds_toArray, List.set_cons_zero, List.set_cons_succ]
            refine Upto.take (i := 2) (oi := { dst := some 67, op := Op.move (Operand.tmp 12), type := 3, pos := "law.go:135", after := #[{ on := 13, ground := Ground.gcOnly Departure.lateStores }], guard := none }) (v := ?_) rfl (by kernel_rfl) (by kernel_rfl) (by kernel_rfl) (by kernel_rfl) (fun _ _ _ h => h) (Or.inl ⟨by rfl, ?_⟩) (by exact S.fewer 3) ?_
            rotate_left 1
            · intro w hSw
              clear hSw
              go_simp
              try with_reducible rfl
            simp only [Act.put, List.setIfInBounds_toArray, List.set_cons_zero, List.set_cons_succ]
            refine Upto.take (i := 3) (oi := { dst := some 68, op := Op.binOp BinOp.rem 3 (Operand.tmp 67) (Operand.const (Value.int IntKind.i64 8)) 3, type := 3, pos := "law.go:135", after := #[{ on := 2, ground := Ground.data }, { on := 13, ground := Ground.gcOnly Departure.lateStores }], guard := none }) (v := ?_) rfl (by kernel_rfl) (by kernel_rfl) (by kernel_rfl) (by kernel_rfl) (fun _ _ _ h => h) (Or.inl ⟨by rfl, ?_⟩) (by exact S.fewer 3) ?_
            rotate_left 1
            · intro w hSw
              clear hSw
              go_simp
              try simp only [htm]
              try with_reducible rfl
            simp only [Act.put, List.setIfInBounds_toArray, List.set_cons_zero, List.set_cons_succ]
            refine Upto.take (i := 4) (oi := { dst := some 69, op := Op.move (Operand.tmp 1), type := 45, pos := "law.go:135", after := #[], guard := none }) (v := ?_) rfl (by kernel_rfl) (by kernel_rfl) (by kernel_rfl) (by kernel_rfl) (fun _ _ _ h => h) (Or.inl ⟨by rfl, ?_⟩) (by exact S.fewer 3) ?_
            rotate_left 1
            · intro w hSw
              clear hSw
              go_simp
              try with_reducible rfl
            simp only [Act.put, List.setIfInBounds_toArray, List.set_cons_zero, List.set_cons_succ]
            refine Upto.take (i := 5) (oi := { dst := some 70, op := Op.move (Operand.tmp 12), type := 3, pos := "law.go:135", after := #[], guard := none }) (v := ?_) rfl (by kernel_rfl) (by kernel_rfl) (by kernel_rfl) (by kernel_rfl) (fun _ _ _ h => h) (Or.inl ⟨by rfl, ?_⟩) (by exact S.fewer 3) ?_
            rotate_left 1
            · intro w hSw
              clear hSw
              go_simp
              try with_reducible rfl
            simp only [Act.put, List.setIfInBounds_toArray, List.set_cons_zero, List.set_cons_succ]
            refine Upto.take (i := 6) (oi := { dst := some 71, op := Op.indexAddr 45 (Operand.tmp 69) (Operand.tmp 70), type := 0, pos := "law.go:135", after := #[{ on := 4, ground := Ground.data }, { on := 5, ground := Ground.data }], guard := none }) (v := ?_) rfl (by kernel_rfl) (by kernel_rfl) (by kernel_rfl) (by kernel_rfl) (fun _ _ _ h => h) (Or.inl ⟨by rfl, ?_⟩) (by exact S.fewer 3) ?_
            rotate_left 1
            · intro w hSw
              clear hSw
              go_simp
              try with_reducible rfl
            simp only [Act.put, List.setIfInBounds_toArray, List.set_cons_zero, List.set_cons_succ]
            refine Upto.take (i := 7) (oi := { dst := some 72, op := Op.load 22 (Operand.tmp 71), type := 22, pos := "law.go:135", after := #[{ on := 6, ground := Ground.data }], guard := none }) (v := _) rfl (by kernel_rfl) (by kernel_rfl) (by kernel_rfl) (by kernel_rfl) (fun _ _ _ h => h) (y_cell (by rfl) _ _ rfl bv (ov + k) (by rfl) _ (fun w' S' => S'.keep HCV.out) _ Try.underlying22 rfl) (by exact S.fewer 3) ?_
            simp only [Act.put, List.setIfInBounds_toArray, List.set_cons_zero, List.set_cons_succ]
            refine Upto.take (i := 8) (oi := { dst := some 73, op := Op.move (Operand.tmp 2), type := 45, pos := "law.go:135", after := #[{ on := 13, ground := Ground.gcOnly Departure.lateStores }], guard := none }) (v := ?_) rfl (by kernel_rfl) (by kernel_rfl) (by kernel_rfl) (by kernel_rfl) (fun _ _ _ h => h) (Or.inl ⟨by rfl, ?_⟩) (by exact S.fewer 3) ?_
            rotate_left 1
            · intro w hSw
              clear hSw
              go_simp
              try with_reducible rfl
            simp only [Act.put, List.setIfInBounds_toArray, List.set_cons_zero, List.set_cons_succ]
            refine Upto.take (i := 9) (oi := { dst := some 74, op := Op.move (Operand.tmp 12), type := 3, pos := "law.go:135", after := #[{ on := 13, ground := Ground.gcOnly Departure.lateStores }], guard := none }) (v := ?_) rfl (by kernel_rfl) (by kernel_rfl) (by kernel_rfl) (by kernel_rfl) (fun _ _ _ h => h) (Or.inl ⟨by rfl, ?_⟩) (by exact S.fewer 3) ?_
            rotate_left 1
            · intro w hSw
              clear hSw
              go_simp
              try with_reducible rfl
            simp only [Act.put, List.setIfInBounds_toArray, List.set_cons_zero, List.set_cons_succ]
            refine Upto.take (i := 10) (oi := { dst := some 75, op := Op.indexAddr 45 (Operand.tmp 73) (Operand.tmp 74), type := 0, pos := "law.go:135", after := #[{ on := 8, ground := Ground.data }, { on := 9, ground := Ground.data }, { on := 13, ground := Ground.gcOnly Departure.lateStores }], guard := none }) (v := ?_) rfl (by kernel_rfl) (by kernel_rfl) (by kernel_rfl) (by kernel_rfl) (fun _ _ _ h => h) (Or.inl ⟨by rfl, ?_⟩) (by exact S.fewer 3) ?_
            rotate_left 1
            · intro w hSw
              clear hSw
              go_simp
              try with_reducible rfl
            simp only [Act.put, List.setIfInBounds_toArray, List.set_cons_zero, List.set_cons_succ]
            refine Upto.take (i := 11) (oi := { dst := some 76, op := Op.load 22 (Operand.tmp 75), type := 22, pos := "law.go:135", after := #[{ on := 10, ground := Ground.data }, { on := 13, ground := Ground.gcOnly Departure.lateStores }], guard := none }) (v := _) rfl (by kernel_rfl) (by kernel_rfl) (by kernel_rfl) (by kernel_rfl) (fun _ _ _ h => h) (y_cell (by rfl) _ _ rfl bu (ou + k) (by rfl) _ (fun w' S' => S'.keep HCU.out) _ Try.underlying22 rfl) (by exact S.fewer 3) ?_
            simp only [Act.put, List.setIfInBounds_toArray, List.set_cons_zero, List.set_cons_succ]
            refine Upto.take (i := 12) (oi := { dst := some 77, op := Op.indexAddr 28 (Operand.tmp 10) (Operand.tmp 66), type := 0, pos := "law.go:135", after := #[{ on := 1, ground := Ground.data }, { on := 0, ground := Ground.phase }, { on := 1, ground := Ground.phase }, { on := 2, ground := Ground.textOnly Departure.lateStores }, { on := 3, ground := Ground.textOnly Departure.lateStores }, { on := 4, ground := Ground.phase }, { on := 5, ground := Ground.phase }, { on := 6, ground := Ground.phase }, { on := 7, ground := Ground.phase }, { on := 8, ground := Ground.textOnly Departure.lateStores }, { on := 9, ground := Ground.textOnly Departure.lateStores }, { on := 10, ground := Ground.textOnly Departure.lateStores }, { on := 11, ground := Ground.textOnly Departure.lateStores }], guard := none }) (v := ?_) rfl (by kernel_rfl) (by kernel_rfl) (by kernel_rfl) (by kernel_rfl) (fun _ _ _ h => h) (Or.inl ⟨by rfl, ?_⟩) (by exact S.fewer 3) ?_
            rotate_left 1
            · intro w hSw
              clear hSw
              go_simp
              try simp only [hmb, if_true, Int.toNat_natCast, Nat.zero_add]
              try with_reducible rfl
            simp only [Act.put, List.setIfInBounds_toArray, List.set_cons_zero, List.set_cons_succ]
            refine Upto.ready (rs := [13]) (by kernel_rfl) (by simp) ?_
            refine Nexts.cons rfl (by decide) (fun K hK => ?_) Nexts.nil
            rw [if_pos (by rfl)]
            refine S.wpStore1 22 _ _ rfl _ _ _ rfl rfl 2 (Cel.regs r) rfl rfl (by rw [regs_length hr32]; omega) _ (set_regs _ _ _) szU ?_
            clear S
            intro w17 S
            simp only [List.set_cons_zero, List.set_cons_succ] at S
            refine hK.out _ _ (by exact S.fewer 3) ?_
            clear hK K
            refine Upto.take (i := 14) (oi := { dst := some 78, op := Op.indexAddr 28 (Operand.tmp 11) (Operand.tmp 68), type := 0, pos := "law.go:135", after := #[{ on := 3, ground := Ground.data }, { on := 0, ground := Ground.phase }, { on := 1, ground := Ground.phase }, { on := 2, ground := Ground.phase }, { on := 3, ground := Ground.phase }, { on := 4, ground := Ground.phase }, { on := 5, ground := Ground.phase }, { on := 6, ground := Ground.phase }, { on := 7, ground := Ground.phase }, { on := 8, ground := Ground.phase }, { on := 9, ground := Ground.phase }, { on := 10, ground := Ground.phase }, { on := 11, ground := Ground.phase }, { on := 12, ground := Ground.phase }, { on := 13, ground := Ground.phase }], guard := none }) (v := ?_) rfl (by kernel_rfl) (by kernel_rfl) (by kernel_rfl) (by kernel_rfl) (fun _ _ _ h => h) (Or.inl ⟨by rfl, ?_⟩) (by exact S.fewer 3) ?_
            rotate_left 1
            · intro w hSw
              clear hSw
              go_simp
              try simp only [hmb, if_true, Int.toNat_natCast, Nat.zero_add]
              try with_reducible rfl
            simp only [Act.put, List.setIfInBounds_toArray, List.set_cons_zero, List.set_cons_succ]
            refine Upto.ready (rs := [15]) (by kernel_rfl) (by simp) ?_
            refine Nexts.last rfl (fun K hK => ?_)
            rw [if_pos (by rfl)]
            refine S.wpStore1 22 _ _ rfl _ _ _ rfl rfl 1 (Cel.regs s) rfl rfl (by rw [regs_length hs32]; omega) _ (set_regs _ _ _) szU ?_
            clear S
            intro w18 S
            simp only [List.set_cons_zero, List.set_cons_succ] at S
            refine hK.out _ _ ?_
            simp only [Act.put, List.setIfInBounds_toArray, List.set_cons_zero, List.set_cons_succ]
            clear hK K
            refine Upto.done (by kernel_rfl) ?_ _
            go_wp2
            go_roundw
            case rel =>
              exact ⟨k + 1, C ++ [h], some ⟨g, 0, none⟩, cap, r.set m y, s.set m z, hlt, by simp only [List.length_append, List.length_cons, List.length_nil]; omega, by simp only [List.length_append, List.length_cons, List.length_nil, Nat.zero_add], by push_cast; rfl, HR2.out, okR_set HR.out _ ⟨by have := QY.out; omega, by have := QY.out; omega⟩, okR_set HS.out _ ⟨by have := QY.out; omega, by have := QY.out; omega⟩, by simp only [List.length_append, List.length_cons, List.length_nil, Nat.zero_add]; exact S.fewer 1⟩
            case measure =>
              simp only [intOf]
              omega
        · have h21' : decide (h.op ≤ 21) = false := by simpa using h21
          go_wp2_with (first
            | ((with_reducible refine wpl_isLoad ?_); first
              | (refine S.ld 3 _ rfl _ 0 rfl 0 (Cel.host h) rfl _ rfl _ Try.underlying3 rfl rfl ?_)
              | (refine S.ldAll 25 _ rfl _ rfl 0 (Cel.host h) rfl _ Try.underlying25 rfl szHost rfl ?_))
            | ((with_reducible refine wpl_is ?_); first
              | (refine S.sliceH rfl _ rfl h rfl ?_; clear S; intro w20 S)
              | (refine wpList_append_lies _ rfl _ _ 34 rfl base 25 i0 _ 6 48 Try.underlying34 HI.out.1 HI.out.2.1 HI.out.2.2.1 HI.out.2.2.2 rfl (by decide) (.slice A C.length c) C.length (codeC C) rfl S.inv.1.1 ⟨_, 0, none⟩ 1 1 ((Cel.host h).cells) rfl rfl S.inv.2 (one_host h) (by decide) (by simp only [maxLen]; omega) (by omega) S.inv.1.2 _ rfl ?_; intro g cap w21 hown hgrow hat hlt2; have S2 := (S.dropC.appendedC (v' := .slice (some ⟨g, 0, none⟩) (C.length + 1) cap) (C' := C ++ [h]) HB.out (by unfold HRow; rw [codeC_snoc, List.length_append]; exact hown) hgrow (fun g' hg' => by simp only [Value.ownBlock, Option.some.injEq] at hg'; subst hg'; exact hat)); clear hown hgrow hat hlt2 S; have S := S2; clear S2))
            | (go_at_call 12; refine (CR.out _).mono ?_; rintro e w8 ⟨rfl, hw8⟩; replace S := S.below hw8; clear hw8))
          refine Upto.start (S := fun w' => SH (codeZ base (.slice A C.length c) (C)) w w' []) 15 (by kernel_rfl) ?_
          replace S := S.drew
          refine Upto.take (i := 0) (oi := { dst := some 65, op := Op.move (Operand.tmp 12), type := 3, pos := "law.go:135", after := #[], guard := none }) (v := ?_) rfl (by kernel_rfl) (by kernel_rfl) (by kernel_rfl) (by kernel_rfl) (fun _ _ _ h => h) (Or.inl ⟨by rfl, ?_⟩) (by exact S.fewer 3) ?_
          rotate_left 1
          · intro w hSw
            clear hSw
            go_simp
            try with_reducible rfl
          simp only [Act.put, List.setIfInBounds_toArray, List.set_cons_zero, List.set_cons_succ]
          refine Upto.take (i := 1) (oi := { dst := some 66, op := Op.binOp BinOp.rem 3 (Operand.tmp 65) (Operand.const (Value.int IntKind.i64 8)) 3, type := 3, pos := "law.go:135", after := #[{ on := 0, ground := Ground.data }], guard := none }) (v := ?_) rfl (by kernel_rfl) (by kernel_rfl) (by kernel_rfl) (by kernel_rfl) (fun _ _ _ h => h) (Or.inl ⟨by rfl, ?_⟩) (by exact S.fewer 3) ?_
          rotate_left 1
          · intro w hSw
            clear hSw
            go_simp
            try simp only [htm]
            try with_reducible rfl
          simp only [Act.put, List.setIfInBounds_toArray, List.set_cons_zero, List.set_cons_succ]
          refine Upto.take (i := 2) (oi := { dst := some 67, op := Op.move (Operand.tmp 12), type := 3, pos := "law.go:135", after := #[{ on := 13, ground := Ground.gcOnly Departure.lateStores }], guard := none }) (v := ?_) rfl (by kernel_rfl) (by kernel_rfl) (by kernel_rfl) (by kernel_rfl) (fun _ _ _ h => h) (Or.inl ⟨by rfl, ?_⟩) (by exact S.fewer 3) ?_
          rotate_left 1
          · intro w hSw
            clear hSw
            go_simp
            try with_reducible rfl
          simp only [Act.put, List.setIfInBounds_toArray, List.set_cons_zero, List.set_cons_succ]
          refine Upto.take (i := 3) (oi := { dst := some 68, op := Op.binOp BinOp.rem 3 (Operand.tmp 67) (Operand.const (Value.int IntKind.i64 8)) 3, type := 3, pos := "law.go:135", after := #[{ on := 2, ground := Ground.data }, { on := 13, ground := Ground.gcOnly Departure.lateStores }], guard := none }) (v := ?_) rfl (by kernel_rfl) (by kernel_rfl) (by kernel_rfl) (by kernel_rfl) (fun _ _ _ h => h) (Or.inl ⟨by rfl, ?_⟩) (by exact S.fewer 3) ?_
          rotate_left 1
          · intro w hSw
            clear hSw
            go_simp
            try simp only [htm]
            try with_reducible rfl
          simp only [Act.put, List.setIfInBounds_toArray, List.set_cons_zero, List.set_cons_succ]
          refine Upto.take (i := 4) (oi := { dst := some 69, op := Op.move (Operand.tmp 1), type := 45, pos := "law.go:135", after := #[], guard := none }) (v := ?_) rfl (by kernel_rfl) (by kernel_rfl) (by kernel_rfl) (by kernel_rfl) (fun _ _ _ h => h) (Or.inl ⟨by rfl, ?_⟩) (by exact S.fewer 3) ?_
          rotate_left 1
          · intro w hSw
            clear hSw
            go_simp
            try with_reducible rfl
          simp only [Act.put, List.setIfInBounds_toArray, List.set_cons_zero, List.set_cons_succ]
          refine Upto.take (i := 5) (oi := { dst := some 70, op := Op.move (Operand.tmp 12), type := 3, pos := "law.go:135", after := #[], guard := none }) (v := ?_) rfl (by kernel_rfl) (by kernel_rfl) (by kernel_rfl) (by kernel_rfl) (fun _ _ _ h => h) (Or.inl ⟨by rfl, ?_⟩) (by exact S.fewer 3) ?_
          rotate_left 1
          · intro w hSw
            clear hSw
            go_simp
            try with_reducible rfl
          simp only [Act.put, List.setIfInBounds_toArray, List.set_cons_zero, List.set_cons_succ]
          refine Upto.take (i := 6) (oi := { dst := some 71, op := Op.indexAddr 45 (Operand.tmp 69) (Operand.tmp 70), type := 0, pos := "law.go:135", after := #[{ on := 4, ground := Ground.data }, { on := 5, ground := Ground.data }], guard := none }) (v := ?_) rfl (by kernel_rfl) (by kernel_rfl) (by kernel_rfl) (by kernel_rfl) (fun _ _ _ h => h) (Or.inl ⟨by rfl, ?_⟩) (by exact S.fewer 3) ?_
          rotate_left 1
          · intro w hSw
            clear hSw
            go_simp
            try with_reducible rfl
          simp only [Act.put, List.setIfInBounds_toArray, List.set_cons_zero, List.set_cons_succ]
          refine Upto.take (i := 7) (oi := { dst := some 72, op := Op.load 22 (Operand.tmp 71), type := 22, pos := "law.go:135", after := #[{ on := 6, ground := Ground.data }], guard := none }) (v := _) rfl (by kernel_rfl) (by kernel_rfl) (by kernel_rfl) (by kernel_rfl) (fun _ _ _ h => h) (y_cell (by rfl) _ _ rfl bv (ov + k) (by rfl) _ (fun w' S' => S'.keep HCV.out) _ Try.underlying22 rfl) (by exact S.fewer 3) ?_
          simp only [Act.put, List.setIfInBounds_toArray, List.set_cons_zero, List.set_cons_succ]
          refine Upto.take (i := 8) (oi := { dst := some 73, op := Op.move (Operand.tmp 2), type := 45, pos := "law.go:135", after := #[{ on := 13, ground := Ground.gcOnly Departure.lateStores }], guard := none }) (v := ?_) rfl (by kernel_rfl) (by kernel_rfl) (by kernel_rfl) (by kernel_rfl) (fun _ _ _ h => h) (Or.inl ⟨by rfl, ?_⟩) (by exact S.fewer 3) ?_
          rotate_left 1
          · intro w hSw
            clear hSw
            go_simp
            try with_reducible rfl
          simp only [Act.put, List.setIfInBounds_toArray, List.set_cons_zero, List.set_cons_succ]
          refine Upto.take (i := 9) (oi := { dst := some 74, op := Op.move (Operand.tmp 12), type := 3, pos := "law.go:135", after := #[{ on := 13, ground := Ground.gcOnly Departure.lateStores }], guard := none }) (v := ?_) rfl (by kernel_rfl) (by kernel_rfl) (by kernel_rfl) (by kernel_rfl) (fun _ _ _ h => h) (Or.inl ⟨by rfl, ?_⟩) (by exact S.fewer 3) ?_
          rotate_left 1
          · intro w hSw
            clear hSw
            go_simp
            try with_reducible rfl
          simp only [Act.put, List.setIfInBounds_toArray, List.set_cons_zero, List.set_cons_succ]
          refine Upto.take (i := 10) (oi := { dst := some 75, op := Op.indexAddr 45 (Operand.tmp 73) (Operand.tmp 74), type := 0, pos := "law.go:135", after := #[{ on := 8, ground := Ground.data }, { on := 9, ground := Ground.data }, { on := 13, ground := Ground.gcOnly Departure.lateStores }], guard := none }) (v := ?_) rfl (by kernel_rfl) (by kernel_rfl) (by kernel_rfl) (by kernel_rfl) (fun _ _ _ h => h) (Or.inl ⟨by rfl, ?_⟩) (by exact S.fewer 3) ?_
          rotate_left 1
          · intro w hSw
            clear hSw
            go_simp
            try with_reducible rfl
          simp only [Act.put, List.setIfInBounds_toArray, List.set_cons_zero, List.set_cons_succ]
          refine Upto.take (i := 11) (oi := { dst := some 76, op := Op.load 22 (Operand.tmp 75), type := 22, pos := "law.go:135", after := #[{ on := 10, ground := Ground.data }, { on := 13, ground := Ground.gcOnly Departure.lateStores }], guard := none }) (v := _) rfl (by kernel_rfl) (by kernel_rfl) (by kernel_rfl) (by kernel_rfl) (fun _ _ _ h => h) (y_cell (by rfl) _ _ rfl bu (ou + k) (by rfl) _ (fun w' S' => S'.keep HCU.out) _ Try.underlying22 rfl) (by exact S.fewer 3) ?_
          simp only [Act.put, List.setIfInBounds_toArray, List.set_cons_zero, List.set_cons_succ]
          refine Upto.take (i := 12) (oi := { dst := some 77, op := Op.indexAddr 28 (Operand.tmp 10) (Operand.tmp 66), type := 0, pos := "law.go:135", after := #[{ on := 1, ground := Ground.data }, { on := 0, ground := Ground.phase }, { on := 1, ground := Ground.phase }, { on := 2, ground := Ground.textOnly Departure.lateStores }, { on := 3, ground := Ground.textOnly Departure.lateStores }, { on := 4, ground := Ground.phase }, { on := 5, ground := Ground.phase }, { on := 6, ground := Ground.phase }, { on := 7, ground := Ground.phase }, { on := 8, ground := Ground.textOnly Departure.lateStores }, { on := 9, ground := Ground.textOnly Departure.lateStores }, { on := 10, ground := Ground.textOnly Departure.lateStores }, { on := 11, ground := Ground.textOnly Departure.lateStores }], guard := none }) (v := ?_) rfl (by kernel_rfl) (by kernel_rfl) (by kernel_rfl) (by kernel_rfl) (fun _ _ _ h => h) (Or.inl ⟨by rfl, ?_⟩) (by exact S.fewer 3) ?_
          rotate_left 1
          · intro w hSw
            clear hSw
            go_simp
            try simp only [hmb, if_true, Int.toNat_natCast, Nat.zero_add]
            try with_reducible rfl
          simp only [Act.put, List.setIfInBounds_toArray, List.set_cons_zero, List.set_cons_succ]
          refine Upto.ready (rs := [13]) (by kernel_rfl) (by simp) ?_
          refine Nexts.cons rfl (by decide) (fun K hK => ?_) Nexts.nil
          rw [if_pos (by rfl)]
          refine S.wpStore1 22 _ _ rfl _ _ _ rfl rfl 2 (Cel.regs r) rfl rfl (by rw [regs_length hr32]; omega) _ (set_regs _ _ _) szU ?_
          clear S
          intro w17 S
          simp only [List.set_cons_zero, List.set_cons_succ] at S
          refine hK.out _ _ (by exact S.fewer 3) ?_
          clear hK K
          refine Upto.take (i := 14) (oi := { dst := some 78, op := Op.indexAddr 28 (Operand.tmp 11) (Operand.tmp 68), type := 0, pos := "law.go:135", after := #[{ on := 3, ground := Ground.data }, { on := 0, ground := Ground.phase }, { on := 1, ground := Ground.phase }, { on := 2, ground := Ground.phase }, { on := 3, ground := Ground.phase }, { on := 4, ground := Ground.phase }, { on := 5, ground := Ground.phase }, { on := 6, ground := Ground.phase }, { on := 7, ground := Ground.phase }, { on := 8, ground := Ground.phase }, { on := 9, ground := Ground.phase }, { on := 10, ground := Ground.phase }, { on := 11, ground := Ground.phase }, { on := 12, ground := Ground.phase }, { on := 13, ground := Ground.phase }], guard := none }) (v := ?_) rfl (by kernel_rfl) (by kernel_rfl) (by kernel_rfl) (by kernel_rfl) (fun _ _ _ h => h) (Or.inl ⟨by rfl, ?_⟩) (by exact S.fewer 3) ?_
          rotate_left 1
          · intro w hSw
            clear hSw
            go_simp
            try simp only [hmb, if_true, Int.toNat_natCast, Nat.zero_add]
            try with_reducible rfl
          simp only [Act.put, List.setIfInBounds_toArray, List.set_cons_zero, List.set_cons_succ]
          refine Upto.ready (rs := [15]) (by kernel_rfl) (by simp) ?_
          refine Nexts.last rfl (fun K hK => ?_)
          rw [if_pos (by rfl)]
          refine S.wpStore1 22 _ _ rfl _ _ _ rfl rfl 1 (Cel.regs s) rfl rfl (by rw [regs_length hs32]; omega) _ (set_regs _ _ _) szU ?_
          clear S
          intro w18 S
          simp only [List.set_cons_zero, List.set_cons_succ] at S
          refine hK.out _ _ ?_
          simp only [Act.put, List.setIfInBounds_toArray, List.set_cons_zero, List.set_cons_succ]
          clear hK K
          refine Upto.done (by kernel_rfl) ?_ _
          go_wp2
          go_roundw
          case rel =>
            exact ⟨k + 1, C, A, c, r.set m y, s.set m z, hlt, by omega, rfl, by push_cast; rfl, HREC.out, okR_set HR.out _ ⟨by have := QY.out; omega, by have := QY.out; omega⟩, okR_set HS.out _ ⟨by have := QY.out; omega, by have := QY.out; omega⟩, S.fewer 1⟩
          case measure =>
            simp only [intOf]
            omega
    · have hke : k = l.length := by omega
      have hlt' : ¬ (k : Int) < (l.length : Int) := by omega
      have hk40 : k ≤ 40 := by have := LL.out; omega
      obtain ⟨i0, hi0, hz0, hz1, hz2⟩ := ho_info
      have HI : Hid (Try.prog.info? 25 = some i0 ∧ i0.zero = some (Cel.host noHV).val ∧ i0.size = 6 ∧ i0.bytes = 48) := ⟨hi0, hz0, hz1, hz2⟩
      clear hi0 hz0 hz1 hz2 HL HV' HU
      go_upto_region 15 with (first
        | ((with_reducible refine wpl_is ?_); first
          | (refine S.sliceH rfl _ rfl mExit rfl ?_; clear S; intro w20 S)
          | (refine wpList_append_lies _ rfl _ _ 34 rfl base 25 i0 _ 6 48 Try.underlying34 HI.out.1 HI.out.2.1 HI.out.2.2.1 HI.out.2.2.2 rfl (by decide) (.slice A C.length c) C.length (codeC C) rfl S.inv.1.1 ⟨_, 0, none⟩ 1 1 ((Cel.host mExit).cells) rfl rfl S.inv.2 (one_host mExit) (by decide) (by simp only [maxLen]; omega) (by omega) S.inv.1.2 _ rfl ?_; intro g cap w21 hown hgrow hat hlt2; have S2 := (S.dropC.appendedC (v' := .slice (some ⟨g, 0, none⟩) (C.length + 1) cap) (C' := C ++ [mExit]) HB.out (by unfold HRow; rw [codeC_snoc, List.length_append]; exact hown) hgrow (fun g' hg' => by simp only [Value.ownBlock, Option.some.injEq] at hg'; subst hg'; exact hat)); clear hown hgrow hat hlt2 S; have S := S2; clear S2)))
      obtain ⟨D, hD⟩ : ∃ D, C ++ [mExit] = D := ⟨_, rfl⟩
      have hDl : D.length = C.length + 1 := by rw [← hD]; simp
      rw [hD, ← hDl] at S
      rw [← hDl]
      have HW : Hid (∀ x ∈ D, x.wf) := fun x hx => by
        rw [← hD, List.mem_append, List.mem_singleton] at hx
        rcases hx with hx | rfl
        · exact (HREC.out x hx).2.2
        · exact ⟨by decide, by decide⟩
      have hD41 : D.length ≤ 41 := by omega
      have hD0 : 0 < D.length := by omega
      have hEl : (evs at' 0 D).length = D.length := evs_length _ _ _
      have CRun : Hid (∀ (R : List Int) (w1 : World), okR R → HRow w1 base (.slice (some ⟨g, 0, none⟩) D.length cap) D → Calls Try.prog 9 #[.slice (some ⟨g, 0, none⟩) D.length cap, .int .i64 at', (Cel.regs R).val, .pointer none, .int .i64 100] w1 fun e w' =>
          ∃ R' g' c' base', e = .returned (Cel.res R' (.slice (some ⟨g', 0, none⟩) D.length c') 0 C.length).val ∧ R'.length = 32 ∧ EvRow w' base' (.slice (some ⟨g', 0, none⟩) D.length c') (evs at' 0 D) ∧ w1.heap.size ≤ base' ∧ Below w1.heap.size w1 w') := fun R w1 hR hrow => by
        obtain ⟨R', hrun⟩ := blind_all at' C HREC.out (by omega) R
        rw [hD] at hrun
        refine (run_nil D (some ⟨g, 0, none⟩) cap at' 100 R w1 (hrow.cl HW.out (by omega)) (fun b o hb => by cases hb; exact (World.ownsRow.lt hrow g rfl).2) hR (by omega) (by omega) (by decide) _ hrun).mono ?_
        intro e w' hp
        obtain ⟨g', c', base', h1, h2, h3, h4, h5⟩ := hp.some (by simp only []; omega)
        simp only [hEl] at h1 h2
        exact ⟨R', g', c', base', h1, h5.1, h2, h3, h4⟩
      have ea : IntKind.i64.wrap at' = at' := by rw [IntKind.wrap_i64]; omega
      have HDL : Hid (D.length = C.length + 1 ∧ C ++ [mExit] = D) := ⟨hDl, hD⟩
      clear hDl hD
      go_cut [14, 15] from 83 to 92 (fun p q wx => ∃ (b14 b15 gx cx Bx gy cy By : Nat) (Rx Ry : List Int), p = .pointer (some ⟨b14, 0, none⟩) ∧ q = .pointer (some ⟨b15, 0, none⟩) ∧ Rx.length = 32 ∧ Ry.length = 32 ∧ SH (((codeZ base (.slice (some ⟨g, 0, none⟩) D.length cap) D).add (fun k => (Value.slice (some ⟨gx, 0, none⟩) D.length cx).ownBlock = some k) (fun w => EvRow w Bx (.slice (some ⟨gx, 0, none⟩) D.length cx) (evs at' 0 D))).add (fun k => (Value.slice (some ⟨gy, 0, none⟩) D.length cy).ownBlock = some k) (fun w => EvRow w By (.slice (some ⟨gy, 0, none⟩) D.length cy) (evs at' 0 D))) w wx [(b15, Cel.res Ry (.slice (some ⟨gy, 0, none⟩) D.length cy) 0 C.length), (b14, Cel.res Rx (.slice (some ⟨gx, 0, none⟩) D.length cx) 0 C.length), (b11, Cel.regs s), (b10, Cel.regs r)])
      case first =>
        refine Upto.start (S := fun w' => SH (codeZ base (.slice (some ⟨g, 0, none⟩) D.length cap) D) w w' [(b11, Cel.regs s), (b10, Cel.regs r)]) 13 (by kernel_rfl) ?_
        replace S := S.drew
        refine Upto.take (i := 0) (oi := { dst := some 83, op := Op.move (Operand.tmp 9), type := 34, pos := "law.go:138", after := #[], guard := none }) (v := ?_) rfl (by kernel_rfl) (by kernel_rfl) (by kernel_rfl) (by kernel_rfl) (fun _ _ _ h => h) (Or.inl ⟨by rfl, ?_⟩) (by exact S) ?_
        rotate_left 1
        · intro w hSw
          clear hSw
          go_simp
          try with_reducible rfl
        simp only [Act.put, List.setIfInBounds_toArray, List.set_cons_zero, List.set_cons_succ]
        refine Upto.take (i := 1) (oi := { dst := some 84, op := Op.move (Operand.tmp 3), type := 46, pos := "law.go:138", after := #[], guard := none }) (v := ?_) rfl (by kernel_rfl) (by kernel_rfl) (by kernel_rfl) (by kernel_rfl) (fun _ _ _ h => h) (Or.inl ⟨by rfl, ?_⟩) (by exact S) ?_
        rotate_left 1
        · intro w hSw
          clear hSw
          go_simp
          try with_reducible rfl
        simp only [Act.put, List.setIfInBounds_toArray, List.set_cons_zero, List.set_cons_succ]
        refine Upto.take (i := 2) (oi := { dst := some 85, op := Op.convert 46 3 (Operand.tmp 84), type := 3, pos := "law.go:138", after := #[{ on := 1, ground := Ground.data }], guard := none }) (v := ?_) rfl (by kernel_rfl) (by kernel_rfl) (by kernel_rfl) (by kernel_rfl) (fun _ _ _ h => h) (Or.inl ⟨by rfl, ?_⟩) (by exact S) ?_
        rotate_left 1
        · intro w hSw
          clear hSw
          go_simp
          try simp only [ea]
          try with_reducible rfl
        simp only [Act.put, List.setIfInBounds_toArray, List.set_cons_zero, List.set_cons_succ]
        refine Upto.take (i := 3) (oi := { dst := some 86, op := Op.load 28 (Operand.tmp 10), type := 28, pos := "law.go:138", after := #[], guard := none }) (v := _) rfl (by kernel_rfl) (by kernel_rfl) (by kernel_rfl) (by kernel_rfl) (fun _ _ _ h => h) (y_loadAll (by rfl) _ _ rfl _ rfl 1 _ rfl _ Try.underlying28 rfl (by rw [regs_length hr32]; exact szRegs)) (by exact S) ?_
        simp only [Act.put, List.setIfInBounds_toArray, List.set_cons_zero, List.set_cons_succ]
        refine Upto.take (i := 5) (oi := { dst := some 88, op := Op.move (Operand.tmp 9), type := 34, pos := "law.go:138", after := #[], guard := none }) (v := ?_) rfl (by kernel_rfl) (by kernel_rfl) (by kernel_rfl) (by kernel_rfl) (fun _ _ _ h => h) (Or.inl ⟨by rfl, ?_⟩) (by exact S) ?_
        rotate_left 1
        · intro w hSw
          clear hSw
          go_simp
          try with_reducible rfl
        simp only [Act.put, List.setIfInBounds_toArray, List.set_cons_zero, List.set_cons_succ]
        refine Upto.take (i := 6) (oi := { dst := some 89, op := Op.move (Operand.tmp 3), type := 46, pos := "law.go:138", after := #[], guard := none }) (v := ?_) rfl (by kernel_rfl) (by kernel_rfl) (by kernel_rfl) (by kernel_rfl) (fun _ _ _ h => h) (Or.inl ⟨by rfl, ?_⟩) (by exact S) ?_
        rotate_left 1
        · intro w hSw
          clear hSw
          go_simp
          try with_reducible rfl
        simp only [Act.put, List.setIfInBounds_toArray, List.set_cons_zero, List.set_cons_succ]
        refine Upto.take (i := 7) (oi := { dst := some 90, op := Op.convert 46 3 (Operand.tmp 89), type := 3, pos := "law.go:138", after := #[{ on := 6, ground := Ground.data }], guard := none }) (v := ?_) rfl (by kernel_rfl) (by kernel_rfl) (by kernel_rfl) (by kernel_rfl) (fun _ _ _ h => h) (Or.inl ⟨by rfl, ?_⟩) (by exact S) ?_
        rotate_left 1
        · intro w hSw
          clear hSw
          go_simp
          try simp only [ea]
          try with_reducible rfl
        simp only [Act.put, List.setIfInBounds_toArray, List.set_cons_zero, List.set_cons_succ]
        refine Upto.take (i := 8) (oi := { dst := some 91, op := Op.load 28 (Operand.tmp 11), type := 28, pos := "law.go:138", after := #[], guard := none }) (v := _) rfl (by kernel_rfl) (by kernel_rfl) (by kernel_rfl) (by kernel_rfl) (fun _ _ _ h => h) (y_loadAll (by rfl) _ _ rfl _ rfl 0 _ rfl _ Try.underlying28 rfl (by rw [regs_length hs32]; exact szRegs)) (by exact S) ?_
        simp only [Act.put, List.setIfInBounds_toArray, List.set_cons_zero, List.set_cons_succ]
        refine Upto.ready (rs := [4, 10, 11]) (by kernel_rfl) (by simp) ?_
        refine Nexts.cons rfl (by decide) (fun K hK => ?_) (Nexts.cons rfl (by decide) (fun K hK => ?_) (Nexts.cons rfl (by decide) (fun K hK => ?_) (Nexts.nil)))
        · go_simp
          go_wp2_with (go_at_call 9; refine (CRun.out r _ HR.out S.inv.1).mono ?_; rintro e w34 ⟨Rx, gx, cx, Bx, rfl, hRx, hevx, hbx, hwx⟩)
          replace S := RunN.gain S hevx hbx hwx
          clear hevx hbx hwx
          refine hK.out _ _ (by with_reducible first | exact S | exact S.t1 | exact S.t1.t1 | exact S.dropC | exact S.t1.dropC | exact S.t1.t1.dropC | exact S.dropG.dropC | exact S.t1.dropG.dropC | exact S.t1.t1.dropG.dropC) ?_
          clear hK K
          refine Upto.ready (rs := [9, 10, 11]) (by kernel_rfl) (by simp) ?_
          refine Nexts.cons rfl (by decide) (fun K hK => ?_) (Nexts.cons rfl (by decide) (fun K hK => ?_) (Nexts.cons rfl (by decide) (fun K hK => ?_) (Nexts.nil)))
          · go_simp
            go_wp2_with (go_at_call 9; refine (CRun.out s _ HS.out S.inv.1.1).mono ?_; rintro e w39 ⟨Ry, gy, cy, By, rfl, hRy, hevy, hby, hwy⟩)
            replace S := RunN.gain S hevy hby hwy
            clear hevy hby hwy
            refine hK.out _ _ (by with_reducible first | exact S | exact S.t1 | exact S.t1.t1 | exact S.dropC | exact S.t1.dropC | exact S.t1.t1.dropC | exact S.dropG.dropC | exact S.t1.dropG.dropC | exact S.t1.t1.dropG.dropC) ?_
            clear hK K
            refine Upto.ready (rs := [10, 11]) (by kernel_rfl) (by simp) ?_
            refine Nexts.cons rfl (by decide) (fun K hK => ?_) (Nexts.cons rfl (by decide) (fun K hK => ?_) (Nexts.nil))
            · rw [if_pos (by rfl)]
              refine S.wpAlloc 32 rfl 14 rfl _ zeroRes ?_
              clear S
              intro b14 w14 S
              refine hK.out _ _ (by with_reducible first | exact S | exact S.t1 | exact S.t1.t1 | exact S.dropC | exact S.t1.dropC | exact S.t1.t1.dropC | exact S.dropG.dropC | exact S.t1.dropG.dropC | exact S.t1.t1.dropG.dropC) ?_
              simp only [Act.put, List.setIfInBounds_toArray, List.set_cons_zero, List.set_cons_succ]
              clear hK K
              refine Upto.ready (rs := [11]) (by kernel_rfl) (by simp) ?_
              refine Nexts.cons rfl (by decide) (fun K hK => ?_) Nexts.nil
              rw [if_pos (by rfl)]
              refine S.wpAlloc 32 rfl 15 rfl _ zeroRes ?_
              clear S
              intro b15 w15 S
              refine hK.out _ _ (by with_reducible first | exact S | exact S.t1 | exact S.t1.t1 | exact S.dropC | exact S.t1.dropC | exact S.t1.t1.dropC | exact S.dropG.dropC | exact S.t1.dropG.dropC | exact S.t1.t1.dropG.dropC) ?_
              simp only [Act.put, List.setIfInBounds_toArray, List.set_cons_zero, List.set_cons_succ]
              clear hK K
              refine Upto.ready (rs := [12]) (by kernel_rfl) (by simp) ?_
              refine Nexts.cons rfl (by decide) (fun K hK => ?_) Nexts.nil
              rw [if_pos (by rfl)]
              first
                | refine S.wpStoreAll 32 _ _ rfl _ (Cel.res Rx _ _ _) rfl rfl 0 _ rfl (by rw [res_length hRx, res_length (by simp)]) (one_res rfl) (by rw [res_length hRx]; exact szRes) ?_
                | refine S.wpStoreAll 32 _ _ rfl _ (Cel.res Rx _ _ _) rfl rfl 1 _ rfl (by rw [res_length hRx, res_length (by simp)]) (one_res rfl) (by rw [res_length hRx]; exact szRes) ?_
              clear S
              intro w212 S
              simp only [List.set_cons_zero, List.set_cons_succ] at S
              refine hK.out _ _ (by with_reducible first | exact S | exact S.t1 | exact S.t1.t1 | exact S.dropC | exact S.t1.dropC | exact S.t1.t1.dropC | exact S.dropG.dropC | exact S.t1.dropG.dropC | exact S.t1.t1.dropG.dropC) ?_
              clear hK K
              refine Upto.ready (rs := [13]) (by kernel_rfl) (by simp) ?_
              refine Nexts.last rfl (fun K hK => ?_)
              rw [if_pos (by rfl)]
              first
                | refine S.wpStoreAll 32 _ _ rfl _ (Cel.res Ry _ _ _) rfl rfl 0 _ rfl (by rw [res_length hRy, res_length (by simp)]) (one_res rfl) (by rw [res_length hRy]; exact szRes) ?_
                | refine S.wpStoreAll 32 _ _ rfl _ (Cel.res Ry _ _ _) rfl rfl 1 _ rfl (by rw [res_length hRy, res_length (by simp)]) (one_res rfl) (by rw [res_length hRy]; exact szRes) ?_
              clear S
              intro w213 S
              simp only [List.set_cons_zero, List.set_cons_succ] at S
              refine hK.out _ _ ?_
              simp only [Act.put, List.setIfInBounds_toArray, List.set_cons_zero, List.set_cons_succ]
              clear hK K
              refine Upto.done (by kernel_rfl) ?_ _
              go_wp2
              go_meet
              exact ⟨b14, b15, gx, cx, Bx, gy, cy, By, Rx, Ry, rfl, rfl, hRx, hRy, by first | exact S | exact S.swap⟩
            · rw [if_pos (by rfl)]
              refine S.wpAlloc 32 rfl 15 rfl _ zeroRes ?_
              clear S
              intro b15 w15 S
              refine hK.out _ _ (by with_reducible first | exact S | exact S.t1 | exact S.t1.t1 | exact S.dropC | exact S.t1.dropC | exact S.t1.t1.dropC | exact S.dropG.dropC | exact S.t1.dropG.dropC | exact S.t1.t1.dropG.dropC) ?_
              simp only [Act.put, List.setIfInBounds_toArray, List.set_cons_zero, List.set_cons_succ]
              clear hK K
              refine Upto.ready (rs := [10]) (by kernel_rfl) (by simp) ?_
              refine Nexts.cons rfl (by decide) (fun K hK => ?_) Nexts.nil
              rw [if_pos (by rfl)]
              refine S.wpAlloc 32 rfl 14 rfl _ zeroRes ?_
              clear S
              intro b14 w14 S
              refine hK.out _ _ (by with_reducible first | exact S | exact S.t1 | exact S.t1.t1 | exact S.dropC | exact S.t1.dropC | exact S.t1.t1.dropC | exact S.dropG.dropC | exact S.t1.dropG.dropC | exact S.t1.t1.dropG.dropC) ?_
              simp only [Act.put, List.setIfInBounds_toArray, List.set_cons_zero, List.set_cons_succ]
              clear hK K
              refine Upto.ready (rs := [12]) (by kernel_rfl) (by simp) ?_
              refine Nexts.cons rfl (by decide) (fun K hK => ?_) Nexts.nil
              rw [if_pos (by rfl)]
              first
                | refine S.wpStoreAll 32 _ _ rfl _ (Cel.res Rx _ _ _) rfl rfl 0 _ rfl (by rw [res_length hRx, res_length (by simp)]) (one_res rfl) (by rw [res_length hRx]; exact szRes) ?_
                | refine S.wpStoreAll 32 _ _ rfl _ (Cel.res Rx _ _ _) rfl rfl 1 _ rfl (by rw [res_length hRx, res_length (by simp)]) (one_res rfl) (by rw [res_length hRx]; exact szRes) ?_
              clear S
              intro w212 S
              simp only [List.set_cons_zero, List.set_cons_succ] at S
              refine hK.out _ _ (by with_reducible first | exact S | exact S.t1 | exact S.t1.t1 | exact S.dropC | exact S.t1.dropC | exact S.t1.t1.dropC | exact S.dropG.dropC | exact S.t1.dropG.dropC | exact S.t1.t1.dropG.dropC) ?_
              clear hK K
              refine Upto.ready (rs := [13]) (by kernel_rfl) (by simp) ?_
              refine Nexts.last rfl (fun K hK => ?_)
              rw [if_pos (by rfl)]
              first
                | refine S.wpStoreAll 32 _ _ rfl _ (Cel.res Ry _ _ _) rfl rfl 0 _ rfl (by rw [res_length hRy, res_length (by simp)]) (one_res rfl) (by rw [res_length hRy]; exact szRes) ?_
                | refine S.wpStoreAll 32 _ _ rfl _ (Cel.res Ry _ _ _) rfl rfl 1 _ rfl (by rw [res_length hRy, res_length (by simp)]) (one_res rfl) (by rw [res_length hRy]; exact szRes) ?_
              clear S
              intro w213 S
              simp only [List.set_cons_zero, List.set_cons_succ] at S
              refine hK.out _ _ ?_
              simp only [Act.put, List.setIfInBounds_toArray, List.set_cons_zero, List.set_cons_succ]
              clear hK K
              refine Upto.done (by kernel_rfl) ?_ _
              go_wp2
              go_meet
              exact ⟨b14, b15, gx, cx, Bx, gy, cy, By, Rx, Ry, rfl, rfl, hRx, hRy, by first | exact S | exact S.swap⟩
          · rw [if_pos (by rfl)]
            refine S.wpAlloc 32 rfl 14 rfl _ zeroRes ?_
            clear S
            intro b14 w14 S
            refine hK.out _ _ (by with_reducible first | exact S | exact S.t1 | exact S.t1.t1 | exact S.dropC | exact S.t1.dropC | exact S.t1.t1.dropC | exact S.dropG.dropC | exact S.t1.dropG.dropC | exact S.t1.t1.dropG.dropC) ?_
            simp only [Act.put, List.setIfInBounds_toArray, List.set_cons_zero, List.set_cons_succ]
            clear hK K
            refine Upto.ready (rs := [9, 11]) (by kernel_rfl) (by simp) ?_
            refine Nexts.cons rfl (by decide) (fun K hK => ?_) (Nexts.cons rfl (by decide) (fun K hK => ?_) (Nexts.nil))
            · go_simp
              go_wp2_with (go_at_call 9; refine (CRun.out s _ HS.out S.inv.1.1).mono ?_; rintro e w39 ⟨Ry, gy, cy, By, rfl, hRy, hevy, hby, hwy⟩)
              replace S := RunN.gain S hevy hby hwy
              clear hevy hby hwy
              refine hK.out _ _ (by with_reducible first | exact S | exact S.t1 | exact S.t1.t1 | exact S.dropC | exact S.t1.dropC | exact S.t1.t1.dropC | exact S.dropG.dropC | exact S.t1.dropG.dropC | exact S.t1.t1.dropG.dropC) ?_
              clear hK K
              refine Upto.ready (rs := [11]) (by kernel_rfl) (by simp) ?_
              refine Nexts.cons rfl (by decide) (fun K hK => ?_) Nexts.nil
              rw [if_pos (by rfl)]
              refine S.wpAlloc 32 rfl 15 rfl _ zeroRes ?_
              clear S
              intro b15 w15 S
              refine hK.out _ _ (by with_reducible first | exact S | exact S.t1 | exact S.t1.t1 | exact S.dropC | exact S.t1.dropC | exact S.t1.t1.dropC | exact S.dropG.dropC | exact S.t1.dropG.dropC | exact S.t1.t1.dropG.dropC) ?_
              simp only [Act.put, List.setIfInBounds_toArray, List.set_cons_zero, List.set_cons_succ]
              clear hK K
              refine Upto.ready (rs := [12]) (by kernel_rfl) (by simp) ?_
              refine Nexts.cons rfl (by decide) (fun K hK => ?_) Nexts.nil
              rw [if_pos (by rfl)]
              first
                | refine S.wpStoreAll 32 _ _ rfl _ (Cel.res Rx _ _ _) rfl rfl 0 _ rfl (by rw [res_length hRx, res_length (by simp)]) (one_res rfl) (by rw [res_length hRx]; exact szRes) ?_
                | refine S.wpStoreAll 32 _ _ rfl _ (Cel.res Rx _ _ _) rfl rfl 1 _ rfl (by rw [res_length hRx, res_length (by simp)]) (one_res rfl) (by rw [res_length hRx]; exact szRes) ?_
              clear S
              intro w212 S
              simp only [List.set_cons_zero, List.set_cons_succ] at S
              refine hK.out _ _ (by with_reducible first | exact S | exact S.t1 | exact S.t1.t1 | exact S.dropC | exact S.t1.dropC | exact S.t1.t1.dropC | exact S.dropG.dropC | exact S.t1.dropG.dropC | exact S.t1.t1.dropG.dropC) ?_
              clear hK K
              refine Upto.ready (rs := [13]) (by kernel_rfl) (by simp) ?_
              refine Nexts.last rfl (fun K hK => ?_)
              rw [if_pos (by rfl)]
              first
                | refine S.wpStoreAll 32 _ _ rfl _ (Cel.res Ry _ _ _) rfl rfl 0 _ rfl (by rw [res_length hRy, res_length (by simp)]) (one_res rfl) (by rw [res_length hRy]; exact szRes) ?_
                | refine S.wpStoreAll 32 _ _ rfl _ (Cel.res Ry _ _ _) rfl rfl 1 _ rfl (by rw [res_length hRy, res_length (by simp)]) (one_res rfl) (by rw [res_length hRy]; exact szRes) ?_
              clear S
              intro w213 S
              simp only [List.set_cons_zero, List.set_cons_succ] at S
              refine hK.out _ _ ?_
              simp only [Act.put, List.setIfInBounds_toArray, List.set_cons_zero, List.set_cons_succ]
              clear hK K
              refine Upto.done (by kernel_rfl) ?_ _
              go_wp2
              go_meet
              exact ⟨b14, b15, gx, cx, Bx, gy, cy, By, Rx, Ry, rfl, rfl, hRx, hRy, by first | exact S | exact S.swap⟩
            · rw [if_pos (by rfl)]
              refine S.wpAlloc 32 rfl 15 rfl _ zeroRes ?_
              clear S
              intro b15 w15 S
              refine hK.out _ _ (by with_reducible first | exact S | exact S.t1 | exact S.t1.t1 | exact S.dropC | exact S.t1.dropC | exact S.t1.t1.dropC | exact S.dropG.dropC | exact S.t1.dropG.dropC | exact S.t1.t1.dropG.dropC) ?_
              simp only [Act.put, List.setIfInBounds_toArray, List.set_cons_zero, List.set_cons_succ]
              clear hK K
              refine Upto.ready (rs := [9]) (by kernel_rfl) (by simp) ?_
              refine Nexts.cons rfl (by decide) (fun K hK => ?_) Nexts.nil
              go_simp
              go_wp2_with (go_at_call 9; refine (CRun.out s _ HS.out S.inv.1.1).mono ?_; rintro e w39 ⟨Ry, gy, cy, By, rfl, hRy, hevy, hby, hwy⟩)
              replace S := RunN.gain S hevy hby hwy
              clear hevy hby hwy
              refine hK.out _ _ (by with_reducible first | exact S | exact S.t1 | exact S.t1.t1 | exact S.dropC | exact S.t1.dropC | exact S.t1.t1.dropC | exact S.dropG.dropC | exact S.t1.dropG.dropC | exact S.t1.t1.dropG.dropC) ?_
              clear hK K
              refine Upto.ready (rs := [12]) (by kernel_rfl) (by simp) ?_
              refine Nexts.cons rfl (by decide) (fun K hK => ?_) Nexts.nil
              rw [if_pos (by rfl)]
              first
                | refine S.wpStoreAll 32 _ _ rfl _ (Cel.res Rx _ _ _) rfl rfl 0 _ rfl (by rw [res_length hRx, res_length (by simp)]) (one_res rfl) (by rw [res_length hRx]; exact szRes) ?_
                | refine S.wpStoreAll 32 _ _ rfl _ (Cel.res Rx _ _ _) rfl rfl 1 _ rfl (by rw [res_length hRx, res_length (by simp)]) (one_res rfl) (by rw [res_length hRx]; exact szRes) ?_
              clear S
              intro w212 S
              simp only [List.set_cons_zero, List.set_cons_succ] at S
              refine hK.out _ _ (by with_reducible first | exact S | exact S.t1 | exact S.t1.t1 | exact S.dropC | exact S.t1.dropC | exact S.t1.t1.dropC | exact S.dropG.dropC | exact S.t1.dropG.dropC | exact S.t1.t1.dropG.dropC) ?_
              clear hK K
              refine Upto.ready (rs := [13]) (by kernel_rfl) (by simp) ?_
              refine Nexts.last rfl (fun K hK => ?_)
              rw [if_pos (by rfl)]
              first
                | refine S.wpStoreAll 32 _ _ rfl _ (Cel.res Ry _ _ _) rfl rfl 0 _ rfl (by rw [res_length hRy, res_length (by simp)]) (one_res rfl) (by rw [res_length hRy]; exact szRes) ?_
                | refine S.wpStoreAll 32 _ _ rfl _ (Cel.res Ry _ _ _) rfl rfl 1 _ rfl (by rw [res_length hRy, res_length (by simp)]) (one_res rfl) (by rw [res_length hRy]; exact szRes) ?_
              clear S
              intro w213 S
              simp only [List.set_cons_zero, List.set_cons_succ] at S
              refine hK.out _ _ ?_
              simp only [Act.put, List.setIfInBounds_toArray, List.set_cons_zero, List.set_cons_succ]
              clear hK K
              refine Upto.done (by kernel_rfl) ?_ _
              go_wp2
              go_meet
              exact ⟨b14, b15, gx, cx, Bx, gy, cy, By, Rx, Ry, rfl, rfl, hRx, hRy, by first | exact S | exact S.swap⟩
          · rw [if_pos (by rfl)]
            refine S.wpAlloc 32 rfl 15 rfl _ zeroRes ?_
            clear S
            intro b15 w15 S
            refine hK.out _ _ (by with_reducible first | exact S | exact S.t1 | exact S.t1.t1 | exact S.dropC | exact S.t1.dropC | exact S.t1.t1.dropC | exact S.dropG.dropC | exact S.t1.dropG.dropC | exact S.t1.t1.dropG.dropC) ?_
            simp only [Act.put, List.setIfInBounds_toArray, List.set_cons_zero, List.set_cons_succ]
            clear hK K
            refine Upto.ready (rs := [9, 10]) (by kernel_rfl) (by simp) ?_
            refine Nexts.cons rfl (by decide) (fun K hK => ?_) (Nexts.cons rfl (by decide) (fun K hK => ?_) (Nexts.nil))
            · go_simp
              go_wp2_with (go_at_call 9; refine (CRun.out s _ HS.out S.inv.1.1).mono ?_; rintro e w39 ⟨Ry, gy, cy, By, rfl, hRy, hevy, hby, hwy⟩)
              replace S := RunN.gain S hevy hby hwy
              clear hevy hby hwy
              refine hK.out _ _ (by with_reducible first | exact S | exact S.t1 | exact S.t1.t1 | exact S.dropC | exact S.t1.dropC | exact S.t1.t1.dropC | exact S.dropG.dropC | exact S.t1.dropG.dropC | exact S.t1.t1.dropG.dropC) ?_
              clear hK K
              refine Upto.ready (rs := [10]) (by kernel_rfl) (by simp) ?_
              refine Nexts.cons rfl (by decide) (fun K hK => ?_) Nexts.nil
              rw [if_pos (by rfl)]
              refine S.wpAlloc 32 rfl 14 rfl _ zeroRes ?_
              clear S
              intro b14 w14 S
              refine hK.out _ _ (by with_reducible first | exact S | exact S.t1 | exact S.t1.t1 | exact S.dropC | exact S.t1.dropC | exact S.t1.t1.dropC | exact S.dropG.dropC | exact S.t1.dropG.dropC | exact S.t1.t1.dropG.dropC) ?_
              simp only [Act.put, List.setIfInBounds_toArray, List.set_cons_zero, List.set_cons_succ]
              clear hK K
              refine Upto.ready (rs := [12]) (by kernel_rfl) (by simp) ?_
              refine Nexts.cons rfl (by decide) (fun K hK => ?_) Nexts.nil
              rw [if_pos (by rfl)]
              first
                | refine S.wpStoreAll 32 _ _ rfl _ (Cel.res Rx _ _ _) rfl rfl 0 _ rfl (by rw [res_length hRx, res_length (by simp)]) (one_res rfl) (by rw [res_length hRx]; exact szRes) ?_
                | refine S.wpStoreAll 32 _ _ rfl _ (Cel.res Rx _ _ _) rfl rfl 1 _ rfl (by rw [res_length hRx, res_length (by simp)]) (one_res rfl) (by rw [res_length hRx]; exact szRes) ?_
              clear S
              intro w212 S
              simp only [List.set_cons_zero, List.set_cons_succ] at S
              refine hK.out _ _ (by with_reducible first | exact S | exact S.t1 | exact S.t1.t1 | exact S.dropC | exact S.t1.dropC | exact S.t1.t1.dropC | exact S.dropG.dropC | exact S.t1.dropG.dropC | exact S.t1.t1.dropG.dropC) ?_
              clear hK K
              refine Upto.ready (rs := [13]) (by kernel_rfl) (by simp) ?_
              refine Nexts.last rfl (fun K hK => ?_)
              rw [if_pos (by rfl)]
              first
                | refine S.wpStoreAll 32 _ _ rfl _ (Cel.res Ry _ _ _) rfl rfl 0 _ rfl (by rw [res_length hRy, res_length (by simp)]) (one_res rfl) (by rw [res_length hRy]; exact szRes) ?_
                | refine S.wpStoreAll 32 _ _ rfl _ (Cel.res Ry _ _ _) rfl rfl 1 _ rfl (by rw [res_length hRy, res_length (by simp)]) (one_res rfl) (by rw [res_length hRy]; exact szRes) ?_
              clear S
              intro w213 S
              simp only [List.set_cons_zero, List.set_cons_succ] at S
              refine hK.out _ _ ?_
              simp only [Act.put, List.setIfInBounds_toArray, List.set_cons_zero, List.set_cons_succ]
              clear hK K
              refine Upto.done (by kernel_rfl) ?_ _
              go_wp2
              go_meet
              exact ⟨b14, b15, gx, cx, Bx, gy, cy, By, Rx, Ry, rfl, rfl, hRx, hRy, by first | exact S | exact S.swap⟩
            · rw [if_pos (by rfl)]
              refine S.wpAlloc 32 rfl 14 rfl _ zeroRes ?_
              clear S
              intro b14 w14 S
              refine hK.out _ _ (by with_reducible first | exact S | exact S.t1 | exact S.t1.t1 | exact S.dropC | exact S.t1.dropC | exact S.t1.t1.dropC | exact S.dropG.dropC | exact S.t1.dropG.dropC | exact S.t1.t1.dropG.dropC) ?_
              simp only [Act.put, List.setIfInBounds_toArray, List.set_cons_zero, List.set_cons_succ]
              clear hK K
              refine Upto.ready (rs := [9]) (by kernel_rfl) (by simp) ?_
              refine Nexts.cons rfl (by decide) (fun K hK => ?_) Nexts.nil
              go_simp
              go_wp2_with (go_at_call 9; refine (CRun.out s _ HS.out S.inv.1.1).mono ?_; rintro e w39 ⟨Ry, gy, cy, By, rfl, hRy, hevy, hby, hwy⟩)
              replace S := RunN.gain S hevy hby hwy
              clear hevy hby hwy
              refine hK.out _ _ (by with_reducible first | exact S | exact S.t1 | exact S.t1.t1 | exact S.dropC | exact S.t1.dropC | exact S.t1.t1.dropC | exact S.dropG.dropC | exact S.t1.dropG.dropC | exact S.t1.t1.dropG.dropC) ?_
              clear hK K
              refine Upto.ready (rs := [12]) (by kernel_rfl) (by simp) ?_
              refine Nexts.cons rfl (by decide) (fun K hK => ?_) Nexts.nil
              rw [if_pos (by rfl)]
              first
                | refine S.wpStoreAll 32 _ _ rfl _ (Cel.res Rx _ _ _) rfl rfl 0 _ rfl (by rw [res_length hRx, res_length (by simp)]) (one_res rfl) (by rw [res_length hRx]; exact szRes) ?_
                | refine S.wpStoreAll 32 _ _ rfl _ (Cel.res Rx _ _ _) rfl rfl 1 _ rfl (by rw [res_length hRx, res_length (by simp)]) (one_res rfl) (by rw [res_length hRx]; exact szRes) ?_
              clear S
              intro w212 S
              simp only [List.set_cons_zero, List.set_cons_succ] at S
              refine hK.out _ _ (by with_reducible first | exact S | exact S.t1 | exact S.t1.t1 | exact S.dropC | exact S.t1.dropC | exact S.t1.t1.dropC | exact S.dropG.dropC | exact S.t1.dropG.dropC | exact S.t1.t1.dropG.dropC) ?_
              clear hK K
              refine Upto.ready (rs := [13]) (by kernel_rfl) (by simp) ?_
              refine Nexts.last rfl (fun K hK => ?_)
              rw [if_pos (by rfl)]
              first
                | refine S.wpStoreAll 32 _ _ rfl _ (Cel.res Ry _ _ _) rfl rfl 0 _ rfl (by rw [res_length hRy, res_length (by simp)]) (one_res rfl) (by rw [res_length hRy]; exact szRes) ?_
                | refine S.wpStoreAll 32 _ _ rfl _ (Cel.res Ry _ _ _) rfl rfl 1 _ rfl (by rw [res_length hRy, res_length (by simp)]) (one_res rfl) (by rw [res_length hRy]; exact szRes) ?_
              clear S
              intro w213 S
              simp only [List.set_cons_zero, List.set_cons_succ] at S
              refine hK.out _ _ ?_
              simp only [Act.put, List.setIfInBounds_toArray, List.set_cons_zero, List.set_cons_succ]
              clear hK K
              refine Upto.done (by kernel_rfl) ?_ _
              go_wp2
              go_meet
              exact ⟨b14, b15, gx, cx, Bx, gy, cy, By, Rx, Ry, rfl, rfl, hRx, hRy, by first | exact S | exact S.swap⟩
        · rw [if_pos (by rfl)]
          refine S.wpAlloc 32 rfl 14 rfl _ zeroRes ?_
          clear S
          intro b14 w14 S
          refine hK.out _ _ (by with_reducible first | exact S | exact S.t1 | exact S.t1.t1 | exact S.dropC | exact S.t1.dropC | exact S.t1.t1.dropC | exact S.dropG.dropC | exact S.t1.dropG.dropC | exact S.t1.t1.dropG.dropC) ?_
          simp only [Act.put, List.setIfInBounds_toArray, List.set_cons_zero, List.set_cons_succ]
          clear hK K
          refine Upto.ready (rs := [4, 11]) (by kernel_rfl) (by simp) ?_
          refine Nexts.cons rfl (by decide) (fun K hK => ?_) (Nexts.cons rfl (by decide) (fun K hK => ?_) (Nexts.nil))
          · go_simp
            go_wp2_with (go_at_call 9; refine (CRun.out r _ HR.out S.inv.1).mono ?_; rintro e w34 ⟨Rx, gx, cx, Bx, rfl, hRx, hevx, hbx, hwx⟩)
            replace S := RunN.gain S hevx hbx hwx
            clear hevx hbx hwx
            refine hK.out _ _ (by with_reducible first | exact S | exact S.t1 | exact S.t1.t1 | exact S.dropC | exact S.t1.dropC | exact S.t1.t1.dropC | exact S.dropG.dropC | exact S.t1.dropG.dropC | exact S.t1.t1.dropG.dropC) ?_
            clear hK K
            refine Upto.ready (rs := [9, 11]) (by kernel_rfl) (by simp) ?_
            refine Nexts.cons rfl (by decide) (fun K hK => ?_) (Nexts.cons rfl (by decide) (fun K hK => ?_) (Nexts.nil))
            · go_simp
              go_wp2_with (go_at_call 9; refine (CRun.out s _ HS.out S.inv.1.1).mono ?_; rintro e w39 ⟨Ry, gy, cy, By, rfl, hRy, hevy, hby, hwy⟩)
              replace S := RunN.gain S hevy hby hwy
              clear hevy hby hwy
              refine hK.out _ _ (by with_reducible first | exact S | exact S.t1 | exact S.t1.t1 | exact S.dropC | exact S.t1.dropC | exact S.t1.t1.dropC | exact S.dropG.dropC | exact S.t1.dropG.dropC | exact S.t1.t1.dropG.dropC) ?_
              clear hK K
              refine Upto.ready (rs := [11]) (by kernel_rfl) (by simp) ?_
              refine Nexts.cons rfl (by decide) (fun K hK => ?_) Nexts.nil
              rw [if_pos (by rfl)]
              refine S.wpAlloc 32 rfl 15 rfl _ zeroRes ?_
              clear S
              intro b15 w15 S
              refine hK.out _ _ (by with_reducible first | exact S | exact S.t1 | exact S.t1.t1 | exact S.dropC | exact S.t1.dropC | exact S.t1.t1.dropC | exact S.dropG.dropC | exact S.t1.dropG.dropC | exact S.t1.t1.dropG.dropC) ?_
              simp only [Act.put, List.setIfInBounds_toArray, List.set_cons_zero, List.set_cons_succ]
              clear hK K
              refine Upto.ready (rs := [12]) (by kernel_rfl) (by simp) ?_
              refine Nexts.cons rfl (by decide) (fun K hK => ?_) Nexts.nil
              rw [if_pos (by rfl)]
              first
                | refine S.wpStoreAll 32 _ _ rfl _ (Cel.res Rx _ _ _) rfl rfl 0 _ rfl (by rw [res_length hRx, res_length (by simp)]) (one_res rfl) (by rw [res_length hRx]; exact szRes) ?_
                | refine S.wpStoreAll 32 _ _ rfl _ (Cel.res Rx _ _ _) rfl rfl 1 _ rfl (by rw [res_length hRx, res_length (by simp)]) (one_res rfl) (by rw [res_length hRx]; exact szRes) ?_
              clear S
              intro w212 S
              simp only [List.set_cons_zero, List.set_cons_succ] at S
              refine hK.out _ _ (by with_reducible first | exact S | exact S.t1 | exact S.t1.t1 | exact S.dropC | exact S.t1.dropC | exact S.t1.t1.dropC | exact S.dropG.dropC | exact S.t1.dropG.dropC | exact S.t1.t1.dropG.dropC) ?_
              clear hK K
              refine Upto.ready (rs := [13]) (by kernel_rfl) (by simp) ?_
              refine Nexts.last rfl (fun K hK => ?_)
              rw [if_pos (by rfl)]
              first
                | refine S.wpStoreAll 32 _ _ rfl _ (Cel.res Ry _ _ _) rfl rfl 0 _ rfl (by rw [res_length hRy, res_length (by simp)]) (one_res rfl) (by rw [res_length hRy]; exact szRes) ?_
                | refine S.wpStoreAll 32 _ _ rfl _ (Cel.res Ry _ _ _) rfl rfl 1 _ rfl (by rw [res_length hRy, res_length (by simp)]) (one_res rfl) (by rw [res_length hRy]; exact szRes) ?_
              clear S
              intro w213 S
              simp only [List.set_cons_zero, List.set_cons_succ] at S
              refine hK.out _ _ ?_
              simp only [Act.put, List.setIfInBounds_toArray, List.set_cons_zero, List.set_cons_succ]
              clear hK K
              refine Upto.done (by kernel_rfl) ?_ _
              go_wp2
              go_meet
              exact ⟨b14, b15, gx, cx, Bx, gy, cy, By, Rx, Ry, rfl, rfl, hRx, hRy, by first | exact S | exact S.swap⟩
            · rw [if_pos (by rfl)]
              refine S.wpAlloc 32 rfl 15 rfl _ zeroRes ?_
              clear S
              intro b15 w15 S
              refine hK.out _ _ (by with_reducible first | exact S | exact S.t1 | exact S.t1.t1 | exact S.dropC | exact S.t1.dropC | exact S.t1.t1.dropC | exact S.dropG.dropC | exact S.t1.dropG.dropC | exact S.t1.t1.dropG.dropC) ?_
              simp only [Act.put, List.setIfInBounds_toArray, List.set_cons_zero, List.set_cons_succ]
              clear hK K
              refine Upto.ready (rs := [9]) (by kernel_rfl) (by simp) ?_
              refine Nexts.cons rfl (by decide) (fun K hK => ?_) Nexts.nil
              go_simp
              go_wp2_with (go_at_call 9; refine (CRun.out s _ HS.out S.inv.1.1).mono ?_; rintro e w39 ⟨Ry, gy, cy, By, rfl, hRy, hevy, hby, hwy⟩)
              replace S := RunN.gain S hevy hby hwy
              clear hevy hby hwy
              refine hK.out _ _ (by with_reducible first | exact S | exact S.t1 | exact S.t1.t1 | exact S.dropC | exact S.t1.dropC | exact S.t1.t1.dropC | exact S.dropG.dropC | exact S.t1.dropG.dropC | exact S.t1.t1.dropG.dropC) ?_
              clear hK K
              refine Upto.ready (rs := [12]) (by kernel_rfl) (by simp) ?_
              refine Nexts.cons rfl (by decide) (fun K hK => ?_) Nexts.nil
              rw [if_pos (by rfl)]
              first
                | refine S.wpStoreAll 32 _ _ rfl _ (Cel.res Rx _ _ _) rfl rfl 0 _ rfl (by rw [res_length hRx, res_length (by simp)]) (one_res rfl) (by rw [res_length hRx]; exact szRes) ?_
                | refine S.wpStoreAll 32 _ _ rfl _ (Cel.res Rx _ _ _) rfl rfl 1 _ rfl (by rw [res_length hRx, res_length (by simp)]) (one_res rfl) (by rw [res_length hRx]; exact szRes) ?_
              clear S
              intro w212 S
              simp only [List.set_cons_zero, List.set_cons_succ] at S
              refine hK.out _ _ (by with_reducible first | exact S | exact S.t1 | exact S.t1.t1 | exact S.dropC | exact S.t1.dropC | exact S.t1.t1.dropC | exact S.dropG.dropC | exact S.t1.dropG.dropC | exact S.t1.t1.dropG.dropC) ?_
              clear hK K
              refine Upto.ready (rs := [13]) (by kernel_rfl) (by simp) ?_
              refine Nexts.last rfl (fun K hK => ?_)
              rw [if_pos (by rfl)]
              first
                | refine S.wpStoreAll 32 _ _ rfl _ (Cel.res Ry _ _ _) rfl rfl 0 _ rfl (by rw [res_length hRy, res_length (by simp)]) (one_res rfl) (by rw [res_length hRy]; exact szRes) ?_
                | refine S.wpStoreAll 32 _ _ rfl _ (Cel.res Ry _ _ _) rfl rfl 1 _ rfl (by rw [res_length hRy, res_length (by simp)]) (one_res rfl) (by rw [res_length hRy]; exact szRes) ?_
              clear S
              intro w213 S
              simp only [List.set_cons_zero, List.set_cons_succ] at S
              refine hK.out _ _ ?_
              simp only [Act.put, List.setIfInBounds_toArray, List.set_cons_zero, List.set_cons_succ]
              clear hK K
              refine Upto.done (by kernel_rfl) ?_ _
              go_wp2
              go_meet
              exact ⟨b14, b15, gx, cx, Bx, gy, cy, By, Rx, Ry, rfl, rfl, hRx, hRy, by first | exact S | exact S.swap⟩
          · rw [if_pos (by rfl)]
            refine S.wpAlloc 32 rfl 15 rfl _ zeroRes ?_
            clear S
            intro b15 w15 S
            refine hK.out _ _ (by with_reducible first | exact S | exact S.t1 | exact S.t1.t1 | exact S.dropC | exact S.t1.dropC | exact S.t1.t1.dropC | exact S.dropG.dropC | exact S.t1.dropG.dropC | exact S.t1.t1.dropG.dropC) ?_
            simp only [Act.put, List.setIfInBounds_toArray, List.set_cons_zero, List.set_cons_succ]
            clear hK K
            refine Upto.ready (rs := [4]) (by kernel_rfl) (by simp) ?_
            refine Nexts.cons rfl (by decide) (fun K hK => ?_) Nexts.nil
            go_simp
            go_wp2_with (go_at_call 9; refine (CRun.out r _ HR.out S.inv.1).mono ?_; rintro e w34 ⟨Rx, gx, cx, Bx, rfl, hRx, hevx, hbx, hwx⟩)
            replace S := RunN.gain S hevx hbx hwx
            clear hevx hbx hwx
            refine hK.out _ _ (by with_reducible first | exact S | exact S.t1 | exact S.t1.t1 | exact S.dropC | exact S.t1.dropC | exact S.t1.t1.dropC | exact S.dropG.dropC | exact S.t1.dropG.dropC | exact S.t1.t1.dropG.dropC) ?_
            clear hK K
            refine Upto.ready (rs := [9]) (by kernel_rfl) (by simp) ?_
            refine Nexts.cons rfl (by decide) (fun K hK => ?_) Nexts.nil
            go_simp
            go_wp2_with (go_at_call 9; refine (CRun.out s _ HS.out S.inv.1.1).mono ?_; rintro e w39 ⟨Ry, gy, cy, By, rfl, hRy, hevy, hby, hwy⟩)
            replace S := RunN.gain S hevy hby hwy
            clear hevy hby hwy
            refine hK.out _ _ (by with_reducible first | exact S | exact S.t1 | exact S.t1.t1 | exact S.dropC | exact S.t1.dropC | exact S.t1.t1.dropC | exact S.dropG.dropC | exact S.t1.dropG.dropC | exact S.t1.t1.dropG.dropC) ?_
            clear hK K
            refine Upto.ready (rs := [12]) (by kernel_rfl) (by simp) ?_
            refine Nexts.cons rfl (by decide) (fun K hK => ?_) Nexts.nil
            rw [if_pos (by rfl)]
            first
              | refine S.wpStoreAll 32 _ _ rfl _ (Cel.res Rx _ _ _) rfl rfl 0 _ rfl (by rw [res_length hRx, res_length (by simp)]) (one_res rfl) (by rw [res_length hRx]; exact szRes) ?_
              | refine S.wpStoreAll 32 _ _ rfl _ (Cel.res Rx _ _ _) rfl rfl 1 _ rfl (by rw [res_length hRx, res_length (by simp)]) (one_res rfl) (by rw [res_length hRx]; exact szRes) ?_
            clear S
            intro w212 S
            simp only [List.set_cons_zero, List.set_cons_succ] at S
            refine hK.out _ _ (by with_reducible first | exact S | exact S.t1 | exact S.t1.t1 | exact S.dropC | exact S.t1.dropC | exact S.t1.t1.dropC | exact S.dropG.dropC | exact S.t1.dropG.dropC | exact S.t1.t1.dropG.dropC) ?_
            clear hK K
            refine Upto.ready (rs := [13]) (by kernel_rfl) (by simp) ?_
            refine Nexts.last rfl (fun K hK => ?_)
            rw [if_pos (by rfl)]
            first
              | refine S.wpStoreAll 32 _ _ rfl _ (Cel.res Ry _ _ _) rfl rfl 0 _ rfl (by rw [res_length hRy, res_length (by simp)]) (one_res rfl) (by rw [res_length hRy]; exact szRes) ?_
              | refine S.wpStoreAll 32 _ _ rfl _ (Cel.res Ry _ _ _) rfl rfl 1 _ rfl (by rw [res_length hRy, res_length (by simp)]) (one_res rfl) (by rw [res_length hRy]; exact szRes) ?_
            clear S
            intro w213 S
            simp only [List.set_cons_zero, List.set_cons_succ] at S
            refine hK.out _ _ ?_
            simp only [Act.put, List.setIfInBounds_toArray, List.set_cons_zero, List.set_cons_succ]
            clear hK K
            refine Upto.done (by kernel_rfl) ?_ _
            go_wp2
            go_meet
            exact ⟨b14, b15, gx, cx, Bx, gy, cy, By, Rx, Ry, rfl, rfl, hRx, hRy, by first | exact S | exact S.swap⟩
        · rw [if_pos (by rfl)]
          refine S.wpAlloc 32 rfl 15 rfl _ zeroRes ?_
          clear S
          intro b15 w15 S
          refine hK.out _ _ (by with_reducible first | exact S | exact S.t1 | exact S.t1.t1 | exact S.dropC | exact S.t1.dropC | exact S.t1.t1.dropC | exact S.dropG.dropC | exact S.t1.dropG.dropC | exact S.t1.t1.dropG.dropC) ?_
          simp only [Act.put, List.setIfInBounds_toArray, List.set_cons_zero, List.set_cons_succ]
          clear hK K
          refine Upto.ready (rs := [4, 10]) (by kernel_rfl) (by simp) ?_
          refine Nexts.cons rfl (by decide) (fun K hK => ?_) (Nexts.cons rfl (by decide) (fun K hK => ?_) (Nexts.nil))
          · go_simp
            go_wp2_with (go_at_call 9; refine (CRun.out r _ HR.out S.inv.1).mono ?_; rintro e w34 ⟨Rx, gx, cx, Bx, rfl, hRx, hevx, hbx, hwx⟩)
            replace S := RunN.gain S hevx hbx hwx
            clear hevx hbx hwx
            refine hK.out _ _ (by with_reducible first | exact S | exact S.t1 | exact S.t1.t1 | exact S.dropC | exact S.t1.dropC | exact S.t1.t1.dropC | exact S.dropG.dropC | exact S.t1.dropG.dropC | exact S.t1.t1.dropG.dropC) ?_
            clear hK K
            refine Upto.ready (rs := [9, 10]) (by kernel_rfl) (by simp) ?_
            refine Nexts.cons rfl (by decide) (fun K hK => ?_) (Nexts.cons rfl (by decide) (fun K hK => ?_) (Nexts.nil))
            · go_simp
              go_wp2_with (go_at_call 9; refine (CRun.out s _ HS.out S.inv.1.1).mono ?_; rintro e w39 ⟨Ry, gy, cy, By, rfl, hRy, hevy, hby, hwy⟩)
              replace S := RunN.gain S hevy hby hwy
              clear hevy hby hwy
              refine hK.out _ _ (by with_reducible first | exact S | exact S.t1 | exact S.t1.t1 | exact S.dropC | exact S.t1.dropC | exact S.t1.t1.dropC | exact S.dropG.dropC | exact S.t1.dropG.dropC | exact S.t1.t1.dropG.dropC) ?_
              clear hK K
              refine Upto.ready (rs := [10]) (by kernel_rfl) (by simp) ?_
              refine Nexts.cons rfl (by decide) (fun K hK => ?_) Nexts.nil
              rw [if_pos (by rfl)]
              refine S.wpAlloc 32 rfl 14 rfl _ zeroRes ?_
              clear S
              intro b14 w14 S
              refine hK.out _ _ (by with_reducible first | exact S | exact S.t1 | exact S.t1.t1 | exact S.dropC | exact S.t1.dropC | exact S.t1.t1.dropC | exact S.dropG.dropC | exact S.t1.dropG.dropC | exact S.t1.t1.dropG.dropC) ?_
              simp only [Act.put, List.setIfInBounds_toArray, List.set_cons_zero, List.set_cons_succ]
              clear hK K
              refine Upto.ready (rs := [12]) (by kernel_rfl) (by simp) ?_
              refine Nexts.cons rfl (by decide) (fun K hK => ?_) Nexts.nil
              rw [if_pos (by rfl)]
              first
                | refine S.wpStoreAll 32 _ _ rfl _ (Cel.res Rx _ _ _) rfl rfl 0 _ rfl (by rw [res_length hRx, res_length (by simp)]) (one_res rfl) (by rw [res_length hRx]; exact szRes) ?_
                | refine S.wpStoreAll 32 _ _ rfl _ (Cel.res Rx _ _ _) rfl rfl 1 _ rfl (by rw [res_length hRx, res_length (by simp)]) (one_res rfl) (by rw [res_length hRx]; exact szRes) ?_
              clear S
              intro w212 S
              simp only [List.set_cons_zero, List.set_cons_succ] at S
              refine hK.out _ _ (by with_reducible first | exact S | exact S.t1 | exact S.t1.t1 | exact S.dropC | exact S.t1.dropC | exact S.t1.t1.dropC | exact S.dropG.dropC | exact S.t1.dropG.dropC | exact S.t1.t1.dropG.dropC) ?_
              clear hK K
              refine Upto.ready (rs := [13]) (by kernel_rfl) (by simp) ?_
              refine Nexts.last rfl (fun K hK => ?_)
              rw [if_pos (by rfl)]
              first
                | refine S.wpStoreAll 32 _ _ rfl _ (Cel.res Ry _ _ _) rfl rfl 0 _ rfl (by rw [res_length hRy, res_length (by simp)]) (one_res rfl) (by rw [res_length hRy]; exact szRes) ?_
                | refine S.wpStoreAll 32 _ _ rfl _ (Cel.res Ry _ _ _) rfl rfl 1 _ rfl (by rw [res_length hRy, res_length (by simp)]) (one_res rfl) (by rw [res_length hRy]; exact szRes) ?_
              clear S
              intro w213 S
              simp only [List.set_cons_zero, List.set_cons_succ] at S
              refine hK.out _ _ ?_
              simp only [Act.put, List.setIfInBounds_toArray, List.set_cons_zero, List.set_cons_succ]
              clear hK K
              refine Upto.done (by kernel_rfl) ?_ _
              go_wp2
              go_meet
              exact ⟨b14, b15, gx, cx, Bx, gy, cy, By, Rx, Ry, rfl, rfl, hRx, hRy, by first | exact S | exact S.swap⟩
            · rw [if_pos (by rfl)]
              refine S.wpAlloc 32 rfl 14 rfl _ zeroRes ?_
              clear S
              intro b14 w14 S
              refine hK.out _ _ (by with_reducible first | exact S | exact S.t1 | exact S.t1.t1 | exact S.dropC | exact S.t1.dropC | exact S.t1.t1.dropC | exact S.dropG.dropC | exact S.t1.dropG.dropC | exact S.t1.t1.dropG.dropC) ?_
              simp only [Act.put, List.setIfInBounds_toArray, List.set_cons_zero, List.set_cons_succ]
              clear hK K
              refine Upto.ready (rs := [9]) (by kernel_rfl) (by simp) ?_
              refine Nexts.cons rfl (by decide) (fun K hK => ?_) Nexts.nil
              go_simp
              go_wp2_with (go_at_call 9; refine (CRun.out s _ HS.out S.inv.1.1).mono ?_; rintro e w39 ⟨Ry, gy, cy, By, rfl, hRy, hevy, hby, hwy⟩)
              replace S := RunN.gain S hevy hby hwy
              clear hevy hby hwy
              refine hK.out _ _ (by with_reducible first | exact S | exact S.t1 | exact S.t1.t1 | exact S.dropC | exact S.t1.dropC | exact S.t1.t1.dropC | exact S.dropG.dropC | exact S.t1.dropG.dropC | exact S.t1.t1.dropG.dropC) ?_
              clear hK K
              refine Upto.ready (rs := [12]) (by kernel_rfl) (by simp) ?_
              refine Nexts.cons rfl (by decide) (fun K hK => ?_) Nexts.nil
              rw [if_pos (by rfl)]
              first
                | refine S.wpStoreAll 32 _ _ rfl _ (Cel.res Rx _ _ _) rfl rfl 0 _ rfl (by rw [res_length hRx, res_length (by simp)]) (one_res rfl) (by rw [res_length hRx]; exact szRes) ?_
                | refine S.wpStoreAll 32 _ _ rfl _ (Cel.res Rx _ _ _) rfl rfl 1 _ rfl (by rw [res_length hRx, res_length (by simp)]) (one_res rfl) (by rw [res_length hRx]; exact szRes) ?_
              clear S
              intro w212 S
              simp only [List.set_cons_zero, List.set_cons_succ] at S
              refine hK.out _ _ (by with_reducible first | exact S | exact S.t1 | exact S.t1.t1 | exact S.dropC | exact S.t1.dropC | exact S.t1.t1.dropC | exact S.dropG.dropC | exact S.t1.dropG.dropC | exact S.t1.t1.dropG.dropC) ?_
              clear hK K
              refine Upto.ready (rs := [13]) (by kernel_rfl) (by simp) ?_
              refine Nexts.last rfl (fun K hK => ?_)
              rw [if_pos (by rfl)]
              first
                | refine S.wpStoreAll 32 _ _ rfl _ (Cel.res Ry _ _ _) rfl rfl 0 _ rfl (by rw [res_length hRy, res_length (by simp)]) (one_res rfl) (by rw [res_length hRy]; exact szRes) ?_
                | refine S.wpStoreAll 32 _ _ rfl _ (Cel.res Ry _ _ _) rfl rfl 1 _ rfl (by rw [res_length hRy, res_length (by simp)]) (one_res rfl) (by rw [res_length hRy]; exact szRes) ?_
              clear S
              intro w213 S
              simp only [List.set_cons_zero, List.set_cons_succ] at S
              refine hK.out _ _ ?_
              simp only [Act.put, List.setIfInBounds_toArray, List.set_cons_zero, List.set_cons_succ]
              clear hK K
              refine Upto.done (by kernel_rfl) ?_ _
              go_wp2
              go_meet
              exact ⟨b14, b15, gx, cx, Bx, gy, cy, By, Rx, Ry, rfl, rfl, hRx, hRy, by first | exact S | exact S.swap⟩
          · rw [if_pos (by rfl)]
            refine S.wpAlloc 32 rfl 14 rfl _ zeroRes ?_
            clear S
            intro b14 w14 S
            refine hK.out _ _ (by with_reducible first | exact S | exact S.t1 | exact S.t1.t1 | exact S.dropC | exact S.t1.dropC | exact S.t1.t1.dropC | exact S.dropG.dropC | exact S.t1.dropG.dropC | exact S.t1.t1.dropG.dropC) ?_
            simp only [Act.put, List.setIfInBounds_toArray, List.set_cons_zero, List.set_cons_succ]
            clear hK K
            refine Upto.ready (rs := [4]) (by kernel_rfl) (by simp) ?_
            refine Nexts.cons rfl (by decide) (fun K hK => ?_) Nexts.nil
            go_simp
            go_wp2_with (go_at_call 9; refine (CRun.out r _ HR.out S.inv.1).mono ?_; rintro e w34 ⟨Rx, gx, cx, Bx, rfl, hRx, hevx, hbx, hwx⟩)
            replace S := RunN.gain S hevx hbx hwx
            clear hevx hbx hwx
            refine hK.out _ _ (by with_reducible first | exact S | exact S.t1 | exact S.t1.t1 | exact S.dropC | exact S.t1.dropC | exact S.t1.t1.dropC | exact S.dropG.dropC | exact S.t1.dropG.dropC | exact S.t1.t1.dropG.dropC) ?_
            clear hK K
            refine Upto.ready (rs := [9]) (by kernel_rfl) (by simp) ?_
            refine Nexts.cons rfl (by decide) (fun K hK => ?_) Nexts.nil
            go_simp
            go_wp2_with (go_at_call 9; refine (CRun.out s _ HS.out S.inv.1.1).mono ?_; rintro e w39 ⟨Ry, gy, cy, By, rfl, hRy, hevy, hby, hwy⟩)
            replace S := RunN.gain S hevy hby hwy
            clear hevy hby hwy
            refine hK.out _ _ (by with_reducible first | exact S | exact S.t1 | exact S.t1.t1 | exact S.dropC | exact S.t1.dropC | exact S.t1.t1.dropC | exact S.dropG.dropC | exact S.t1.dropG.dropC | exact S.t1.t1.dropG.dropC) ?_
            clear hK K
            refine Upto.ready (rs := [12]) (by kernel_rfl) (by simp) ?_
            refine Nexts.cons rfl (by decide) (fun K hK => ?_) Nexts.nil
            rw [if_pos (by rfl)]
            first
              | refine S.wpStoreAll 32 _ _ rfl _ (Cel.res Rx _ _ _) rfl rfl 0 _ rfl (by rw [res_length hRx, res_length (by simp)]) (one_res rfl) (by rw [res_length hRx]; exact szRes) ?_
              | refine S.wpStoreAll 32 _ _ rfl _ (Cel.res Rx _ _ _) rfl rfl 1 _ rfl (by rw [res_length hRx, res_length (by simp)]) (one_res rfl) (by rw [res_length hRx]; exact szRes) ?_
            clear S
            intro w212 S
            simp only [List.set_cons_zero, List.set_cons_succ] at S
            refine hK.out _ _ (by with_reducible first | exact S | exact S.t1 | exact S.t1.t1 | exact S.dropC | exact S.t1.dropC | exact S.t1.t1.dropC | exact S.dropG.dropC | exact S.t1.dropG.dropC | exact S.t1.t1.dropG.dropC) ?_
            clear hK K
            refine Upto.ready (rs := [13]) (by kernel_rfl) (by simp) ?_
            refine Nexts.last rfl (fun K hK => ?_)
            rw [if_pos (by rfl)]
            first
              | refine S.wpStoreAll 32 _ _ rfl _ (Cel.res Ry _ _ _) rfl rfl 0 _ rfl (by rw [res_length hRy, res_length (by simp)]) (one_res rfl) (by rw [res_length hRy]; exact szRes) ?_
              | refine S.wpStoreAll 32 _ _ rfl _ (Cel.res Ry _ _ _) rfl rfl 1 _ rfl (by rw [res_length hRy, res_length (by simp)]) (one_res rfl) (by rw [res_length hRy]; exact szRes) ?_
            clear S
            intro w213 S
            simp only [List.set_cons_zero, List.set_cons_succ] at S
            refine hK.out _ _ ?_
            simp only [Act.put, List.setIfInBounds_toArray, List.set_cons_zero, List.set_cons_succ]
            clear hK K
            refine Upto.done (by kernel_rfl) ?_ _
            go_wp2
            go_meet
            exact ⟨b14, b15, gx, cx, Bx, gy, cy, By, Rx, Ry, rfl, rfl, hRx, hRy, by first | exact S | exact S.swap⟩
      case rest =>
        obtain ⟨b14, b15, gx, cx, Bx, gy, cy, By, Rx, Ry, rfl, rfl, hRx, hRy, S⟩ := hcut
        clear CRun HR HS HREC
        have CC : Hid (∀ (o : Int) (w1 : World), Calls Try.prog 13 #[.int .i64 o] w1 fun e w' => e = .returned (.int .i64 (costS o)) ∧ w' = w1) := fun o w1 => rcost_c o w1
        have CS : Hid (∀ w1, EvAt w1 (some ⟨gx, 0, none⟩) (evs at' 0 D) → EvAt w1 (some ⟨gy, 0, none⟩) (evs at' 0 D) → Calls Try.prog 14 #[.slice (some ⟨gx, 0, none⟩) D.length cx, .slice (some ⟨gy, 0, none⟩) D.length cy] w1 fun e w' => e = .returned (.bool true) ∧ Below w1.heap.size w1 w') := fun w1 h1 h2 => by
          have q := sev_c (some ⟨gx, 0, none⟩) (some ⟨gy, 0, none⟩) cx cy (evs at' 0 D) w1 h1 h2 (by omega)
          rw [hEl] at q
          exact q
        have CT : Hid (∀ w1, EvAt w1 (some ⟨gx, 0, none⟩) (evs at' 0 D) → Calls Try.prog 15 #[.slice (some ⟨gx, 0, none⟩) D.length cx] w1 fun e w' => e = .returned (.int .i64 (sumC D)) ∧ Below w1.heap.size w1 w') := fun w1 h1 => by
          have q := total_c (some ⟨gx, 0, none⟩) cx (evs at' 0 D) w1 h1 (evs_ok _ _ _) (by omega)
          rw [hEl, evs_sum] at q
          exact q
        have HSS : Hid (SH (((codeZ base (.slice (some ⟨g, 0, none⟩) D.length cap) D).add (fun k => (Value.slice (some ⟨gx, 0, none⟩) D.length cx).ownBlock = some k) (fun w => EvRow w Bx (.slice (some ⟨gx, 0, none⟩) D.length cx) (evs at' 0 D))).add (fun k => (Value.slice (some ⟨gy, 0, none⟩) D.length cy).ownBlock = some k) (fun w => EvRow w By (.slice (some ⟨gy, 0, none⟩) D.length cy) (evs at' 0 D))) w wc [(b15, Cel.res Ry (.slice (some ⟨gy, 0, none⟩) D.length cy) 0 C.length), (b14, Cel.res Rx (.slice (some ⟨gx, 0, none⟩) D.length cx) 0 C.length), (b11, Cel.regs s), (b10, Cel.regs r)]) := S
        clear S
        go_wp2_with fail
        go_loopw [16, 17] (fun n i wr => ∃ j : Nat, j ≤ D.length ∧ n = .int .i64 (sumC (D.take j)) ∧ i = .int .i64 j ∧ wr = wc) (fun _ i _ => D.length - (intOf i).toNat)
        case atStart => exact ⟨0, Nat.zero_le _, rfl, rfl, rfl⟩
        case round =>
          obtain ⟨j, hjD, rfl, rfl, rfl⟩ := hrel
          by_cases hj : j < D.length
          · have hj' : (j : Int) < (D.length : Int) := by omega
            obtain ⟨d, hd⟩ : ∃ d, D[j]? = some d := ⟨D[j], by simp [hj]⟩
            have hcell : wr.cell? ⟨g, j * 6, none⟩ = some (.int .i64 d.op) := by
              have q := World.ownsRow.cellAt HSS.out.inv.1.1.1 (j * 6 + 0) (by omega)
              rw [codeC_at hd 0 (by decide)] at q
              simpa [Cel.cells] using q
            have HSM : Hid (sumC (D.take (j + 1)) = sumC (D.take j) + costS d.op) := by
              have e : D.take (j + 1) = D.take j ++ [d] := by rw [List.take_add_one, hd]; rfl
              have e2 : sumC (D.take (j + 1)) = sumC (D.take j ++ [d]) := by rw [e]
              exact e2.trans (sumC_snoc _ _)
            obtain ⟨s0, s1⟩ := sumC_b (D.take j)
            rw [List.length_take, Nat.min_eq_left hjD] at s1
            obtain ⟨q0, q1⟩ := cost_b d.op
            generalize hN : sumC (D.take j) = N at *
            go_wp2_with (first
              | (go_at_call 13; refine (CC.out d.op _).mono ?_; rintro e w8 ⟨rfl, rfl⟩))
            go_roundw
            case rel => exact ⟨j + 1, hj, by rw [HSM.out], by push_cast; rfl, by trivial⟩
            case measure =>
              simp only [intOf]
              omega
          · have hj' : ¬ (j : Int) < (D.length : Int) := by omega
            have hN : sumC (D.take j) = sumC D := by rw [show j = D.length by omega, List.take_length]
            rw [hN]
            have S := HSS.out
            clear HSS
            go_wp2_with (first
              | ((with_reducible refine wpl_isLoad ?_); first
                | (refine S.ld 30 _ rfl _ 33 rfl 1 (Cel.res _ _ _ _) rfl _ (res_33 hRx _ _ _) _ Try.underlying30 rfl rfl ?_)
                | (refine S.ld 30 _ rfl _ 33 rfl 0 (Cel.res _ _ _ _) rfl _ (res_33 hRy _ _ _) _ Try.underlying30 rfl rfl ?_)
                | (refine S.ld 29 _ rfl _ 32 rfl 1 (Cel.res _ _ _ _) rfl _ (res_32 hRx _ _ _) _ Try.underlying29 rfl rfl ?_)
                | (refine S.ld 29 _ rfl _ 32 rfl 0 (Cel.res _ _ _ _) rfl _ (res_32 hRy _ _ _) _ Try.underlying29 rfl rfl ?_))
              | (go_at_call 14; refine (CS.out _ S.inv.1.2.at S.inv.2.at).mono ?_; rintro e w8 ⟨rfl, hw8⟩; replace S := S.below hw8; clear hw8)
              | (go_at_call 15; refine (CT.out _ S.inv.1.2.at).mono ?_; rintro e w8 ⟨rfl, hw8⟩; replace S := S.below hw8; clear hw8))
            go_ret
            exact ⟨by simp, S.lowA ⟨rfl, rfl⟩⟩
end Go.Proofs.Yteflboidbogegaa
