/- refused, load, store, walked. -/
import Derived.Test.YteflboidbogegaaHv5
import Derived.Test.YteflboidbogegaaHst3r
namespace Go.Proofs.Yteflboidbogegaa
open Go.ChangeShapes Go.WideShapes Go.ChangeAt Go.RowKit
set_option linter.unusedVariables false
set_option linter.unusedSimpArgs false

/-- Code that lies behind a slice. -/
def CL (w : World) (A : Option Addr) (code : List HV) : Prop := (code.length : Int) ≤ 1000000 ∧ ∀ (i : Nat) (h : HV), code[i]? = some h → h.wf ∧ ∃ b o, A = some ⟨b, o, none⟩ ∧ At6 w b (o + i * 6) h
def okPc (code : List HV) (p : Int) : Bool := decide (0 ≤ p) && (match code[p.toNat]? with | some h => rightS h | none => false)
def refS (code : List HV) (p done most : Int) : Int := if okPc code p then (if most ≤ done then 35 else 0) else 31
theorem CL.kept {w w' : World} {A : Option Addr} {code : List HV} (h : CL w A code) (hb : ∀ b o, A = some ⟨b, o, none⟩ → b < w.heap.size → w'.heap[b]? = w.heap[b]?) : CL w' A code := by
  refine ⟨h.1, fun i x hx => ?_⟩
  obtain ⟨h1, b, o, h2, h3⟩ := h.2 i x hx
  have hk := hb b o h2 h3.lt
  have key : ∀ k, w'.cell? ⟨b, k, none⟩ = w.cell? ⟨b, k, none⟩ := fun k => World.cell?_of_block (w := w) (a := ⟨b, k, none⟩) hk
  obtain ⟨c0, c1, c2, c3, c4, c5⟩ := h3
  exact ⟨h1, b, o, h2, (key _).trans c0, (key _).trans c1, (key _).trans c2, (key _).trans c3, (key _).trans c4, (key _).trans c5⟩
theorem CL.below {w w' : World} {A : Option Addr} {code : List HV} (h : CL w A code) (hb : Below w.heap.size w w') : CL w' A code := h.kept fun b _ _ hl => hb.block b hl

set_option maxHeartbeats 1000000 in
theorem refused_c (A : Option Addr) (c : Nat) (code : List HV) (p done most : Int) (w : World) (hC : CL w A code) :
    Calls Try.prog 19 #[.slice A code.length c, .int .i64 p, .int .i64 done, .int .i64 most] w fun e w' => e = .returned (.int .i64 (refS code p done most)) ∧ Below w.heap.size w w' := by
  by_cases h0 : p < 0
  · have : refS code p done most = 31 := by simp [refS, okPc, show ¬ 0 ≤ p by omega]
    rw [this]
    clear hC
    go_enter Try.func19, Try.ntmps19
    go_wp2
    go_ret
    exact ⟨rfl, Below.refl _ _⟩
  · by_cases h1 : (code.length : Int) ≤ p
    · have hn : code[p.toNat]? = none := List.getElem?_eq_none (by omega)
      have : refS code p done most = 31 := by simp [refS, okPc, hn]
      rw [this]
      have hq : decide (p < 0) = false := by simpa using h0
      clear hC hn
      go_enter Try.func19, Try.ntmps19
      go_wp2
      go_ret
      exact ⟨rfl, Below.refl _ _⟩
    · obtain ⟨k, rfl⟩ : ∃ k : Nat, p = k := ⟨p.toNat, by omega⟩
      have hk : k < code.length := by omega
      have hk0 : (0 : Int) ≤ (k : Int) := by omega
      have hk1 : (k : Int) < (code.length : Int) := by omega
      obtain ⟨h, hh⟩ : ∃ h, code[k]? = some h := ⟨code[k], by simp [hk]⟩
      obtain ⟨hw, b, o, rfl, c0, c1, c2, c3, c4, c5⟩ := hC.2 k h hh
      have C : Hid (∀ w1, Calls Try.prog 60 #[.agg #[.int .i64 h.op, .int .i64 h.d, .int .i64 h.a, .int .i64 h.b, .int .i64 h.c, .int .u32 h.im]] w1 fun e w' => e = .returned (.bool (rightS h)) ∧ Below w1.heap.size w1 w') := fun w1 => right_c h w1
      have hr : refS code k done most = if rightS h then (if most ≤ done then 35 else 0) else 31 := by simp [refS, okPc, hh]
      rw [hr]
      have hq : decide ((k : Int) < 0) = false := by simp
      have hq2 : decide ((code.length : Int) ≤ (k : Int)) = false := by simp; omega
      clear hr hC hh hw h0 h1
      generalize rightS h = r at *
      generalize (code.length : Nat) = n at *
      cases r
      · go_enter Try.func19, Try.ntmps19
        go_wp2_with (refine (C.out _).mono ?_; rintro e w1 ⟨rfl, hw1⟩)
        go_ret
        exact ⟨rfl, hw1⟩
      · by_cases hm : most ≤ done
        · rw [if_pos rfl, if_pos hm]
          go_enter Try.func19, Try.ntmps19
          go_wp2_with (refine (C.out _).mono ?_; rintro e w1 ⟨rfl, hw1⟩)
          go_ret
          exact ⟨rfl, hw1⟩
        · rw [if_pos rfl, if_neg hm]
          go_enter Try.func19, Try.ntmps19
          go_wp2_with (refine (C.out _).mono ?_; rintro e w1 ⟨rfl, hw1⟩)
          go_ret
          exact ⟨rfl, hw1⟩

/-! ### With a memory -/
def memZ (p l0 lo hi : Nat) (Bs : List Reg) (G D : List (List Int)) (q : Nat → Nat) : Zn := ⟨Zone l0 lo hi, fun w => MemAt w p l0 lo hi Bs G D q, lo, hi⟩
theorem memZ_ok (p l0 lo hi : Nat) (Bs : List Reg) (G D : List (List Int)) (q : Nat → Nat) : (memZ p l0 lo hi Bs G D q).ok :=
  ⟨fun w w' h hs hk => MemAt.kept h hk hs, fun k h1 h2 => .inr ⟨h1, h2⟩⟩
def Zn.free (M : Zn) : Zn := ⟨M.Z, fun _ => True, M.lo, M.hi⟩
theorem free_ok {M : Zn} (h : M.ok) : M.free.ok := ⟨fun _ _ _ _ _ => trivial, h.zz⟩
theorem SH.toFree {M : Zn} {w0 w : World} {L : List (Nat × Cel)} (S : SH M w0 w L) : SH M.free w0 w L := ⟨free_ok S.ok, trivial, S.zb, S.mid, S.blk, S.out, S.nd⟩
theorem SH.join {M : Zn} {w0 w : World} {L : List (Nat × Cel)} (S : SH M.free w0 w L) (ok : M.ok) (h : M.J w) : SH M w0 w L := ⟨ok, h, S.zb, S.mid, S.blk, S.out, S.nd⟩
theorem SH.freeMid {M : Zn} {w0 w w1 : World} {L : List (Nat × Cel)} (S : SH M.free w0 w L) (hm : Mid M.lo M.hi w w1) : SH M.free w0 w1 L :=
  S.turn S.ok trivial (fun k hk => Nat.lt_of_lt_of_le (S.zb k hk) hm.size) (S.mid.trans hm) (fun p hp => hm.block _ (S.blk p hp).lt (by
    have h1 := (S.out p hp).2
    have h2 := S.ok.zz p.1
    have e1 : M.free.lo = M.lo := rfl
    have e2 : M.free.hi = M.hi := rfl
    rw [e1, e2] at h2
    rcases Nat.lt_or_ge p.1 M.lo with h | h
    · exact .inl h
    · rcases Nat.lt_or_ge p.1 M.hi with h' | h'
      · exact absurd (h2 h h') h1
      · exact .inr h')) (fun p hp => (S.out p hp).2)
theorem SH.mem {w : World} {p l0 lo hi : Nat} {Bs : List Reg} {G D : List (List Int)} {q : Nat → Nat} (h : MemAt w p l0 lo hi Bs G D q) (hl : l0 ≤ w.heap.size) : SH (memZ p l0 lo hi Bs G D q) w w [] :=
  ⟨memZ_ok _ _ _ _ _ _ _ _, h, fun k hk => by
    have := h.top
    rcases hk with hk | hk
    · omega
    · omega, Mid.refl _ _ _, fun p hp => (by cases hp), fun p hp => (by cases hp), fun i j p q h => (by simp at h)⟩

def ldErr (Bs : List Reg) (h : HV) (R : List Int) : Int := mayS (regAt Bs) Bs.length ((regv R h.a + h.im) % 4294967296) (loadsS h.op) false
def ldGot (Bs : List Reg) (D : List (List Int)) (h : HV) (R : List Int) : Int := gotS Bs D ((regv R h.a + h.im) % 4294967296) (loadsS h.op)
def stErr (Bs : List Reg) (h : HV) (R : List Int) : Int := mayS (regAt Bs) Bs.length ((regv R h.a + h.im) % 4294967296) (storesS h.op) true
def stDat (Bs : List Reg) (D : List (List Int)) (h : HV) (R : List Int) : List (List Int) := storeS Bs D ((regv R h.a + h.im) % 4294967296) (storesS h.op) (regv R h.b)

theorem loadsS_le (o : Int) : 0 ≤ loadsS o ∧ loadsS o ≤ 4 := by unfold loadsS; (repeat' split) <;> omega
theorem storesS_le (o : Int) : 0 ≤ storesS o ∧ storesS o ≤ 4 := by unfold storesS; (repeat' split) <;> omega

set_option maxHeartbeats 4000000 in
set_option maxRecDepth 100000 in
theorem hload_w (R : List Int) (v : Value) (p : Int) (h : HV) (ho : HOk h) (hR : okR R) (hv : v.oneCell' = true) (p0 : -4611686018427387904 ≤ p) (p1 : p ≤ 4611686018427387904)
    {pm l0 lo hi : Nat} {Bs : List Reg} {G D : List (List Int)} {q : Nat → Nat} (w : World) (hM : MemAt w pm l0 lo hi Bs G D q) (hl0 : l0 ≤ w.heap.size) (er : Int) (her : ldErr Bs h R = er) :
    Calls Try.prog 65 #[(Cel.res R v 0 p).val, (Cel.host h).val, .pointer (some ⟨pm, 0, none⟩)] w fun en w' =>
      en = .returned (.tuple #[if er = 0 then (Cel.res (R.set h.d.toNat (ldGot Bs D h R)) v 0 (p + 1)).val else (Cel.res R v er p).val, .bool (decide (er = 0))]) ∧ MemAt w' pm l0 lo hi Bs G D q ∧ Mid lo hi w w' := by
  have S := SH.mem hM hl0
  have hR32 := hR.1
  have ad0 : 0 ≤ (regv R h.a + h.im) % 4294967296 ∧ (regv R h.a + h.im) % 4294967296 ≤ 4294967295 := by omega
  have hl4 := loadsS_le h.op
  have C1 : Hid (∀ w1, Calls Try.prog 64 #[(Cel.host h).val, (Cel.regs R).val] w1 fun e w' => e = .returned (.int .u32 ((regv R h.a + h.im) % 4294967296)) ∧ Below w1.heap.size w1 w') := fun w1 => addr_c h R ho hR w1
  have C2 : Hid (∀ w1, Calls Try.prog 62 #[.int .i64 h.op] w1 fun e w' => e = .returned (.int .i64 (loadsS h.op)) ∧ w' = w1) := fun w1 => loads_c h.op w1
  have C3 : Hid (∀ w1, MemAt w1 pm l0 lo hi Bs G D q → Calls Try.prog 89 #[.pointer (some ⟨pm, 0, none⟩), .int .u32 ((regv R h.a + h.im) % 4294967296), .int .u32 (loadsS h.op)] w1 fun e w' => e = .returned (.tuple #[.int .u32 (ldGot Bs D h R), .int .i64 er]) ∧ Below w1.heap.size w1 w') :=
    fun w1 h1 => by
      have := load_c h1 ((regv R h.a + h.im) % 4294967296) (loadsS h.op) ad0.1 ad0.2
      rw [← her]
      exact this
  have C4 : Hid (∀ w1, Calls Try.prog 68 #[(Cel.res R v 0 p).val, .int .i64 er] w1 fun en w' => en = .returned (.tuple #[(Cel.res R v er p).val, .bool false]) ∧ Below w1.heap.size w1 w') := fun w1 => hend_c R v 0 p er hR32 hv w1
  have C5 : Hid (∀ x w1, Calls Try.prog 22 #[(Cel.res R v 0 p).val, .int .i64 h.d, .int .u32 x] w1 fun en w' => en = .returned (Cel.res (R.set h.d.toNat x) v 0 (p + 1)).val ∧ Below w1.heap.size w1 w') := fun x w1 => set_c R v 0 p h.d x hR32 hv ho.1.1 ho.1.2 p0 p1 w1
  have ew : IntKind.u32.wrap (loadsS h.op) = loadsS h.op := by rw [IntKind.wrap_u32]; omega
  clear ho hR hM ad0 hl4 her
  generalize (regv R h.a + h.im) % 4294967296 = ad at *
  generalize loadsS h.op = lw at *
  generalize ldGot Bs D h R = got at *
  have hlS : (R.set h.d.toNat got).length = 32 := by simp [hR32]
  go_enter Try.func65, Try.ntmps65
  go_wp2_with (first
    | (refine S.box rfl _ _ rfl (Cel.res R v 0 p) rfl ?_; clear S; intro b1 w1 S)
    | (refine S.box rfl _ _ rfl (Cel.host h) rfl ?_; clear S; intro b2 w2 S)
    | (refine S.alloc rfl 32 rfl _ zeroRes ?_; clear S; intro b3 w3 S))
  refine Upto.start (S := fun w' => SH (memZ pm l0 lo hi Bs G D q) w w' [(b3, Cel.res (List.replicate 32 0) (.slice none 0 0) 0 0), (b2, Cel.host h), (b1, Cel.res R v 0 p)]) 14 (by kernel_rfl) ?_
  replace S := S.drew
  refine Upto.take (i := 0) (oi := { dst := some 11, op := Op.move (Operand.tmp 2), type := 55, pos := "hvm.go:109", after := #[], guard := none }) (v := ?_) rfl (by kernel_rfl) (by kernel_rfl) (by kernel_rfl) (by kernel_rfl) (fun _ _ _ h => h) (Or.inl ⟨by rfl, ?_⟩) (by exact S) ?_
  rotate_left 1
  · intro w hSw
    clear hSw
    go_simp
    try with_reducible rfl
  simp only [Act.put, List.setIfInBounds_toArray, List.set_cons_zero, List.set_cons_succ]
  refine Upto.take (i := 1) (oi := { dst := some 12, op := Op.load 25 (Operand.tmp 4), type := 25, pos := "hvm.go:109", after := #[], guard := none }) (v := _) rfl (by kernel_rfl) (by kernel_rfl) (by kernel_rfl) (by kernel_rfl) (fun _ _ _ h => h) (y_loadAll (by rfl) _ _ rfl _ rfl 1 _ rfl _ Try.underlying25 rfl szHost) (by exact S) ?_
  simp only [Act.put, List.setIfInBounds_toArray, List.set_cons_zero, List.set_cons_succ]
  refine Upto.take (i := 2) (oi := { dst := some 13, op := Op.fieldAddr 32 (Operand.tmp 3) 0, type := 0, pos := "hvm.go:109", after := #[], guard := none }) (v := ?_) rfl (by kernel_rfl) (by kernel_rfl) (by kernel_rfl) (by kernel_rfl) (fun _ _ _ h => h) (Or.inl ⟨by rfl, ?_⟩) (by exact S) ?_
  rotate_left 1
  · intro w hSw
    clear hSw
    go_simp
    try with_reducible rfl
  simp only [Act.put, List.setIfInBounds_toArray, List.set_cons_zero, List.set_cons_succ]
  refine Upto.take (i := 3) (oi := { dst := some 14, op := Op.load 28 (Operand.tmp 13), type := 28, pos := "hvm.go:109", after := #[{ on := 2, ground := Ground.data }], guard := none }) (v := _) rfl (by kernel_rfl) (by kernel_rfl) (by kernel_rfl) (by kernel_rfl) (fun _ _ _ h => h) (y_loadRegs (by rfl) _ _ rfl _ rfl 2 _ _ _ _ rfl _ Try.underlying28 rfl (by rw [rc_length, hR32]; exact szRegs)) (by exact S) ?_
  simp only [Act.put, List.setIfInBounds_toArray, List.set_cons_zero, List.set_cons_succ]
  refine Upto.take (i := 5) (oi := { dst := some 16, op := Op.fieldAddr 25 (Operand.tmp 4) 0, type := 0, pos := "hvm.go:109", after := #[], guard := none }) (v := ?_) rfl (by kernel_rfl) (by kernel_rfl) (by kernel_rfl) (by kernel_rfl) (fun _ _ _ h => h) (Or.inl ⟨by rfl, ?_⟩) (by exact S) ?_
  rotate_left 1
  · intro w hSw
    clear hSw
    go_simp
    try with_reducible rfl
  simp only [Act.put, List.setIfInBounds_toArray, List.set_cons_zero, List.set_cons_succ]
  refine Upto.take (i := 6) (oi := { dst := some 17, op := Op.load 3 (Operand.tmp 16), type := 3, pos := "hvm.go:109", after := #[{ on := 5, ground := Ground.data }], guard := none }) (v := _) rfl (by kernel_rfl) (by kernel_rfl) (by kernel_rfl) (by kernel_rfl) (fun _ _ _ h => h) (y_load1 (by rfl) _ _ rfl _ _ rfl 1 _ rfl _ rfl _ Try.underlying3 rfl) (by exact S) ?_
  simp only [Act.put, List.setIfInBounds_toArray, List.set_cons_zero, List.set_cons_succ]
  refine Upto.ready (rs := [4]) (by kernel_rfl) (by simp) ?_
  refine Nexts.cons rfl (by decide) (fun K hK => ?_) Nexts.nil
  go_simp
  go_wp2_with (refine (C1.out _).mono ?_; rintro e w8 ⟨rfl, hw8⟩)
  replace S := S.below hw8
  clear hw8
  refine hK.out _ _ (by exact S) ?_
  clear hK K
  refine Upto.ready (rs := [7]) (by kernel_rfl) (by simp) ?_
  refine Nexts.cons rfl (by decide) (fun K hK => ?_) Nexts.nil
  go_simp
  go_wp2_with (refine (C2.out _).mono ?_; rintro e w9 ⟨rfl, rfl⟩)
  refine hK.out _ _ (by exact S) ?_
  clear hK K
  refine Upto.take (i := 8) (oi := { dst := some 19, op := Op.convert 3 22 (Operand.tmp 18), type := 22, pos := "hvm.go:109", after := #[{ on := 7, ground := Ground.data }], guard := none }) (v := ?_) rfl (by kernel_rfl) (by kernel_rfl) (by kernel_rfl) (by kernel_rfl) (fun _ _ _ h => h) (Or.inl ⟨by rfl, ?_⟩) (by exact S) ?_
  rotate_left 1
  · intro w hSw
    clear hSw
    go_simp
    try with_reducible rfl
  simp only [Act.put, List.setIfInBounds_toArray, List.set_cons_zero, List.set_cons_succ]
  refine Upto.ready (rs := [9]) (by kernel_rfl) (by simp) ?_
  refine Nexts.cons rfl (by decide) (fun K hK => ?_) Nexts.nil
  go_simp
  go_wp2_with (refine (C3.out _ S.inv).mono ?_; rintro e w9 ⟨rfl, hw8⟩)
  replace S := S.below hw8
  clear hw8
  refine hK.out _ _ (by exact S) ?_
  clear hK K
  refine Upto.take (i := 10) (oi := { dst := some 10, op := Op.move (Operand.tmp 20), type := 111, pos := "hvm.go:109", after := #[{ on := 9, ground := Ground.data }], guard := none }) (v := ?_) rfl (by kernel_rfl) (by kernel_rfl) (by kernel_rfl) (by kernel_rfl) (fun _ _ _ h => h) (Or.inl ⟨by rfl, ?_⟩) (by exact S) ?_
  rotate_left 1
  · intro w hSw
    clear hSw
    go_simp
    try with_reducible rfl
  simp only [Act.put, List.setIfInBounds_toArray, List.set_cons_zero, List.set_cons_succ]
  refine Upto.take (i := 11) (oi := { dst := some 21, op := Op.extract (Operand.tmp 10) 0, type := 22, pos := "hvm.go:109", after := #[{ on := 10, ground := Ground.data }], guard := none }) (v := ?_) rfl (by kernel_rfl) (by kernel_rfl) (by kernel_rfl) (by kernel_rfl) (fun _ _ _ h => h) (Or.inl ⟨by rfl, ?_⟩) (by exact S) ?_
  rotate_left 1
  · intro w hSw
    clear hSw
    go_simp
    try with_reducible rfl
  simp only [Act.put, List.setIfInBounds_toArray, List.set_cons_zero, List.set_cons_succ]
  refine Upto.take (i := 12) (oi := { dst := some 22, op := Op.extract (Operand.tmp 10) 1, type := 30, pos := "hvm.go:109", after := #[{ on := 10, ground := Ground.data }, { on := 13, ground := Ground.gcOnly Departure.lateStores }], guard := none }) (v := ?_) rfl (by kernel_rfl) (by kernel_rfl) (by kernel_rfl) (by kernel_rfl) (fun _ _ _ h => h) (Or.inl ⟨by rfl, ?_⟩) (by exact S) ?_
  rotate_left 1
  · intro w hSw
    clear hSw
    go_simp
    try with_reducible rfl
  simp only [Act.put, List.setIfInBounds_toArray, List.set_cons_zero, List.set_cons_succ]
  refine Upto.take (i := 13) (oi := { dst := some 8, op := Op.assign (Operand.tmp 21), type := 22, pos := "hvm.go:109", after := #[{ on := 11, ground := Ground.data }, { on := 9, ground := Ground.chain }, { on := 0, ground := Ground.phase }, { on := 1, ground := Ground.phase }, { on := 2, ground := Ground.phase }, { on := 3, ground := Ground.phase }, { on := 4, ground := Ground.phase }, { on := 5, ground := Ground.phase }, { on := 6, ground := Ground.phase }, { on := 7, ground := Ground.phase }, { on := 8, ground := Ground.phase }, { on := 9, ground := Ground.phase }, { on := 10, ground := Ground.phase }, { on := 11, ground := Ground.phase }, { on := 12, ground := Ground.textOnly Departure.lateStores }], guard := none }) (v := ?_) rfl (by kernel_rfl) (by kernel_rfl) (by kernel_rfl) (by kernel_rfl) (fun _ _ _ h => h) (Or.inl ⟨by rfl, ?_⟩) (by exact S) ?_
  rotate_left 1
  · intro w hSw
    clear hSw
    go_simp
    try with_reducible rfl
  simp only [Act.put, List.setIfInBounds_toArray, List.set_cons_zero, List.set_cons_succ]
  refine Upto.ready (rs := [14]) (by kernel_rfl) (by simp) ?_
  refine Nexts.last rfl (fun K hK => ?_)
  go_simp
  refine hK.out _ _ ?_
  clear hK K
  refine Upto.done (by kernel_rfl) ?_ _
  clear C1 C2 C3 ew
  by_cases h0 : er = 0
  · subst h0
    go_wp2_with (first
      | (refine S.loadAll rfl 32 _ rfl _ rfl 2 (Cel.res R v 0 p) rfl _ Try.underlying32 rfl (by rw [res_length hR32]; exact szRes) ?_)
      | (refine S.load1 rfl 3 _ rfl _ 1 rfl 1 (Cel.host h) rfl _ rfl _ Try.underlying3 rfl ?_)
      | (refine (C5.out _ _).mono ?_; rintro e w9 ⟨rfl, hw8⟩; replace S := S.below hw8; clear hw8)
      | (refine S.storeAll rfl 32 _ _ rfl _ (Cel.res _ _ _ _) rfl rfl 0 _ rfl (by rw [res_length hlS, res_length (by simp)]) (one_res hv) (by rw [res_length hlS]; exact szRes) ?_; clear S; intro w S; simp only [List.set_cons_zero, List.set_cons_succ] at S))
    refine bodyPost_ret (S.results2 rfl _ _ rfl 0 _ rfl _ Try.underlying32 rfl (by rw [res_length hlS]; exact szRes)) rfl ?_
    exact ⟨rfl, S.inv, S.mid⟩
  · have hne : (er != 0) = true := by simpa using h0
    go_wp2_with (first
      | (refine S.loadAll rfl 32 _ rfl _ rfl 2 (Cel.res R v 0 p) rfl _ Try.underlying32 rfl (by rw [res_length hR32]; exact szRes) ?_)
      | (refine (C4.out _).mono ?_; rintro e w9 ⟨rfl, hw8⟩; replace S := S.below hw8; clear hw8)
      | (refine S.storeAll rfl 32 _ _ rfl _ (Cel.res _ _ _ _) rfl rfl 0 _ rfl (by rw [res_length hR32, res_length (by simp)]) (one_res hv) (by rw [res_length hR32]; exact szRes) ?_; clear S; intro w S; simp only [List.set_cons_zero, List.set_cons_succ] at S))
    refine bodyPost_ret (S.results2 rfl _ _ rfl 0 _ rfl _ Try.underlying32 rfl (by rw [res_length hR32]; exact szRes)) rfl ?_
    exact ⟨by simp [h0], S.inv, S.mid⟩
end Go.Proofs.Yteflboidbogegaa
