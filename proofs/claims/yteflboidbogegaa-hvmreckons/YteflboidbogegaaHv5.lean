/- end, jump, event, refused, walked. -/
import Derived.Test.YteflboidbogegaaHv4
namespace Go.Proofs.Yteflboidbogegaa
open Go.ChangeShapes Go.WideShapes Go.ChangeAt Go.RowKit
set_option linter.unusedVariables false
set_option linter.unusedSimpArgs false

theorem szErr : (Try.prog.info? 30).map (·.size) = some 1 := by kernel_rfl
theorem zeroEv : (Try.prog.info? 61).map (fun i => i.zero) = some (some (Cel.ev 0 0 0).val) := by kernel_rfl
/-- Two results: a cell of many, a slot. -/
theorem SH.results2 {P : Program} {M : Zn} {w0 w : World} {L : List (Nat × Cel)} (S : SH M w0 w L) {fn : Func} {p u : Tmp} {ty : TypeId} (hfn : fn.results = #[.cell p ty, .tmp u]) (tmps : Array Value) (b : Nat) (hp : tmps.getD p undef = .pointer (some ⟨b, 0, none⟩)) (i : Nat) (c : Cel) (hL : L[i]? = some (b, c))
    (d : TypeDesc) (hu : P.underlying ty = some d) (hd : d.isRow = true) (hi : (P.info? ty).map (·.size) = some c.cells.length) : (Go.results fn tmps).run P w = .ok (.tuple #[c.val, tmps.getD u undef]) w := by
  obtain ⟨⟨t, hb⟩, _⟩ := S.at hL
  have hl := run_loadVar_mid (P := P) w b 0 ty c.cells d (S.at hL).1.range hu hd hi
  have hp' : tmps[p]?.getD undef = .pointer (some ⟨b, 0, none⟩) := by simpa using hp
  simp [Go.results, hfn, hp', asAddr, hl, Cel.val]

set_option maxHeartbeats 1000000 in
set_option maxRecDepth 100000 in
theorem hend_c (R : List Int) (v : Value) (e p x : Int) (hR : R.length = 32) (hv : v.oneCell' = true) (w : World) :
    Calls Try.prog 68 #[(Cel.res R v e p).val, .int .i64 x] w fun en w' => en = .returned (.tuple #[(Cel.res R v x p).val, .bool false]) ∧ Below w.heap.size w w' := by
  have S := SH.start w
  go_enter Try.func68, Try.ntmps68
  go_wp2_with (first
    | (refine S.box rfl _ _ rfl (Cel.res R v e p) rfl ?_; clear S; intro b1 w S)
    | (refine S.alloc rfl 32 rfl _ zeroRes ?_; clear S; intro b2 w S)
    | (refine S.store1 rfl 30 _ _ rfl _ 33 _ rfl rfl 1 _ rfl rfl (by rw [res_length hR]; omega) _ (set_33 hR _ _ _ _) szErr ?_; clear S; intro w S; simp only [List.set_cons_zero, List.set_cons_succ] at S)
    | (refine S.loadAll rfl 32 _ rfl _ rfl 1 _ rfl _ Try.underlying32 rfl (by rw [res_length hR]; exact szRes) ?_)
    | (refine S.storeAll rfl 32 _ _ rfl _ (Cel.res _ _ _ _) rfl rfl 0 _ rfl (by rw [res_length hR, res_length (by simp)]) (one_res hv) (by rw [res_length hR]; exact szRes) ?_; clear S; intro w S; simp only [List.set_cons_zero, List.set_cons_succ] at S))
  refine bodyPost_ret (S.results2 rfl _ _ rfl 0 _ rfl _ Try.underlying32 rfl (by rw [res_length hR]; exact szRes)) rfl ?_
  exact ⟨rfl, S.low⟩

set_option maxHeartbeats 2000000 in
set_option maxRecDepth 100000 in
theorem jump_t (R : List Int) (v : Value) (e p : Int) (h : HV) (hR : R.length = 32) (hv : v.oneCell' = true) (i0 : 0 ≤ h.im) (i1 : h.im < 4294967296) (p0 : -4611686018427387904 ≤ p) (p1 : p ≤ 4611686018427387904) (w : World) :
    Calls Try.prog 67 #[(Cel.res R v e p).val, (Cel.host h).val, .bool true] w fun en w' => en = .returned (Cel.res R v e (p + wrap32 h.im)).val ∧ Below w.heap.size w w' := by
  have S := SH.start w
  have e1 : IntKind.i32.wrap h.im = wrap32 h.im := by rw [IntKind.wrap_i32]; unfold wrap32; omega
  have hwi : -2147483648 ≤ wrap32 h.im ∧ wrap32 h.im ≤ 2147483647 := by unfold wrap32; omega
  have e2 : IntKind.i64.wrap (wrap32 h.im) = wrap32 h.im := by rw [IntKind.wrap_i64]; omega
  have e3 : IntKind.i64.wrap (p + wrap32 h.im) = p + wrap32 h.im := by rw [IntKind.wrap_i64]; omega
  generalize wrap32 h.im = k at *
  go_enter Try.func67, Try.ntmps67
  go_wp2_with (first
    | (refine S.box rfl _ _ rfl (Cel.res R v e p) rfl ?_; clear S; intro b1 w S)
    | (refine S.box rfl _ _ rfl (Cel.host h) rfl ?_; clear S; intro b3 w S)
    | (refine S.alloc rfl 32 rfl _ zeroRes ?_; clear S; intro b2 w S)
    | (refine S.load1 rfl 3 _ rfl _ 34 rfl 2 _ rfl _ (res_34 hR _ _ _) _ Try.underlying3 rfl ?_)
    | (refine S.load1 rfl 22 _ rfl _ 5 rfl 1 _ rfl _ rfl _ Try.underlying22 rfl ?_)
    | (refine S.store1 rfl 3 _ _ rfl _ 34 _ rfl rfl 2 _ rfl rfl (by rw [res_length hR]; omega) _ (set_34 hR _ _ _ _) szI ?_; clear S; intro w S; simp only [List.set_cons_zero, List.set_cons_succ] at S)
    | (refine S.loadAll rfl 32 _ rfl _ rfl 2 _ rfl _ Try.underlying32 rfl (by rw [res_length hR]; exact szRes) ?_)
    | (refine S.storeAll rfl 32 _ _ rfl _ (Cel.res _ _ _ _) rfl rfl 0 _ rfl (by rw [res_length hR, res_length (by simp)]) (one_res hv) (by rw [res_length hR]; exact szRes) ?_; clear S; intro w S; simp only [List.set_cons_zero, List.set_cons_succ] at S))
  refine bodyPost_ret (S.results rfl _ _ rfl 0 _ rfl _ Try.underlying32 rfl (by rw [res_length hR]; exact szRes)) rfl ?_
  exact ⟨rfl, S.low⟩
set_option maxHeartbeats 2000000 in
set_option maxRecDepth 100000 in
theorem jump_f (R : List Int) (v : Value) (e p : Int) (h : HV) (hR : R.length = 32) (hv : v.oneCell' = true) (p0 : -4611686018427387904 ≤ p) (p1 : p ≤ 4611686018427387904) (w : World) :
    Calls Try.prog 67 #[(Cel.res R v e p).val, (Cel.host h).val, .bool false] w fun en w' => en = .returned (Cel.res R v e (p + 1)).val ∧ Below w.heap.size w w' := by
  have S := SH.start w
  go_enter Try.func67, Try.ntmps67
  go_wp2_with (first
    | (refine S.box rfl _ _ rfl (Cel.res R v e p) rfl ?_; clear S; intro b1 w S)
    | (refine S.box rfl _ _ rfl (Cel.host h) rfl ?_; clear S; intro b3 w S)
    | (refine S.alloc rfl 32 rfl _ zeroRes ?_; clear S; intro b2 w S)
    | (refine S.load1 rfl 3 _ rfl _ 34 rfl 2 _ rfl _ (res_34 hR _ _ _) _ Try.underlying3 rfl ?_)
    | (refine S.store1 rfl 3 _ _ rfl _ 34 _ rfl rfl 2 _ rfl rfl (by rw [res_length hR]; omega) _ (set_34 hR _ _ _ _) szI ?_; clear S; intro w S; simp only [List.set_cons_zero, List.set_cons_succ] at S)
    | (refine S.loadAll rfl 32 _ rfl _ rfl 2 _ rfl _ Try.underlying32 rfl (by rw [res_length hR]; exact szRes) ?_)
    | (refine S.storeAll rfl 32 _ _ rfl _ (Cel.res _ _ _ _) rfl rfl 0 _ rfl (by rw [res_length hR, res_length (by simp)]) (one_res hv) (by rw [res_length hR]; exact szRes) ?_; clear S; intro w S; simp only [List.set_cons_zero, List.set_cons_succ] at S))
  refine bodyPost_ret (S.results rfl _ _ rfl 0 _ rfl _ Try.underlying32 rfl (by rw [res_length hR]; exact szRes)) rfl ?_
  exact ⟨rfl, S.low⟩

/-- What is seen as the address. -/
def addrS (h : HV) (R : List Int) : Int := if 0 < loadsS h.op ∨ 0 < storesS h.op then (regv R h.a + h.im) % 4294967296 else 0
set_option maxHeartbeats 4000000 in
set_option maxRecDepth 100000 in
theorem event_c (h : HV) (R : List Int) (pc : Int) (ho : HOk h) (hR : okR R) (w : World) :
    Calls Try.prog 20 #[(Cel.host h).val, .int .i64 pc, (Cel.regs R).val] w fun en w' => en = .returned (Cel.ev pc (addrS h R) (costS h.op)).val ∧ Below w.heap.size w w' := by
  have S := SH.start w
  have hl := hR.1
  have C1 : Hid (∀ w1, Calls Try.prog 61 #[.int .i64 h.op] w1 fun e w' => e = .returned (.int .i64 (costS h.op)) ∧ w' = w1) := fun w1 => cost_c h.op w1
  have C2 : Hid (∀ w1, Calls Try.prog 62 #[.int .i64 h.op] w1 fun e w' => e = .returned (.int .i64 (loadsS h.op)) ∧ w' = w1) := fun w1 => loads_c h.op w1
  have C3 : Hid (∀ w1, Calls Try.prog 63 #[.int .i64 h.op] w1 fun e w' => e = .returned (.int .i64 (storesS h.op)) ∧ w' = w1) := fun w1 => stores_c h.op w1
  have C4 : Hid (∀ w1, Calls Try.prog 64 #[(Cel.host h).val, (Cel.regs R).val] w1 fun e w' => e = .returned (.int .u32 ((regv R h.a + h.im) % 4294967296)) ∧ Below w1.heap.size w1 w') := fun w1 => addr_c h R ho hR w1
  clear ho hR
  have ha : addrS h R = if 0 < loadsS h.op ∨ 0 < storesS h.op then (regv R h.a + h.im) % 4294967296 else 0 := rfl
  have HAD : Hid (addrS h R = if 0 < loadsS h.op ∨ 0 < storesS h.op then (regv R h.a + h.im) % 4294967296 else 0) := ha
  clear ha
  generalize (regv R h.a + h.im) % 4294967296 = ad at *
  generalize addrS h R = adr at *
  generalize costS h.op = co at *
  generalize loadsS h.op = lo at *
  generalize storesS h.op = st at *
  by_cases h1 : 0 < lo
  · have : adr = ad := by rw [HAD.out, if_pos (.inl h1)]
    subst this
    clear HAD
    go_enter Try.func20, Try.ntmps20
    go_wp2_with (first
      | (refine S.box rfl _ _ rfl (Cel.host h) rfl ?_; clear S; intro b1 w S)
      | (refine S.box rfl _ _ rfl (Cel.regs R) rfl ?_; clear S; intro b3 w S)
      | (refine S.alloc rfl 61 rfl _ zeroEv ?_; clear S; intro b2 w S)
      | (refine S.load1 rfl 3 _ rfl _ 0 rfl 2 (Cel.host h) rfl _ rfl _ Try.underlying3 rfl ?_)
      | (refine S.load1 rfl 3 _ rfl _ 0 rfl 3 (Cel.host h) rfl _ rfl _ Try.underlying3 rfl ?_)
      | (refine (C1.out _).mono ?_; rintro e w1 ⟨rfl, rfl⟩)
      | (refine (C2.out _).mono ?_; rintro e w1 ⟨rfl, rfl⟩)
      | (refine (C3.out _).mono ?_; rintro e w1 ⟨rfl, rfl⟩)
      | (refine (C4.out _).mono ?_; rintro e w1 ⟨rfl, hw8⟩; replace S := S.below hw8; clear hw8)
      | (refine S.storeAll rfl 61 _ _ rfl _ (Cel.ev pc 0 co) rfl rfl 0 _ rfl rfl (by simp [Cel.cells, Value.oneCell']) szEv ?_; clear S; intro w S; simp only [List.set_cons_zero, List.set_cons_succ] at S)
      | (refine S.loadAll rfl 25 _ rfl _ rfl 3 (Cel.host h) rfl _ Try.underlying25 rfl szHost ?_)
      | (refine S.loadAll rfl 28 _ rfl _ rfl 2 (Cel.regs R) rfl _ Try.underlying28 rfl (by simp only [Cel.cells]; rw [rc_length, hl]; exact szRegs) ?_)
      | (refine S.store1 rfl 22 _ _ rfl _ 1 _ rfl rfl 0 _ rfl rfl (by simp [Cel.cells]) (Cel.ev pc adr co) rfl szU ?_; clear S; intro w S; simp only [List.set_cons_zero, List.set_cons_succ] at S)
      | (refine S.loadAll rfl 61 _ rfl _ rfl 0 (Cel.ev _ _ _) rfl _ Try.underlying61 rfl szEv ?_)
      | (refine S.storeAll rfl 61 _ _ rfl _ (Cel.ev pc adr co) rfl rfl 1 _ rfl rfl (by simp [Cel.cells, Value.oneCell']) szEv ?_; clear S; intro w S; simp only [List.set_cons_zero, List.set_cons_succ] at S))
    refine bodyPost_ret (S.results rfl _ _ rfl 1 _ rfl _ Try.underlying61 rfl szEv) rfl ?_
    exact ⟨rfl, S.low⟩
  · have hq1 : decide (0 < lo) = false := by simpa using h1
    by_cases h2 : 0 < st
    · have : adr = ad := by rw [HAD.out, if_pos (.inr h2)]
      subst this
      clear HAD h1
      go_enter Try.func20, Try.ntmps20
      go_wp2_with (first
        | (refine S.box rfl _ _ rfl (Cel.host h) rfl ?_; clear S; intro b1 w S)
        | (refine S.box rfl _ _ rfl (Cel.regs R) rfl ?_; clear S; intro b3 w S)
        | (refine S.alloc rfl 61 rfl _ zeroEv ?_; clear S; intro b2 w S)
        | (refine S.load1 rfl 3 _ rfl _ 0 rfl 2 (Cel.host h) rfl _ rfl _ Try.underlying3 rfl ?_)
        | (refine S.load1 rfl 3 _ rfl _ 0 rfl 3 (Cel.host h) rfl _ rfl _ Try.underlying3 rfl ?_)
        | (refine (C1.out _).mono ?_; rintro e w1 ⟨rfl, rfl⟩)
        | (refine (C2.out _).mono ?_; rintro e w1 ⟨rfl, rfl⟩)
        | (refine (C3.out _).mono ?_; rintro e w1 ⟨rfl, rfl⟩)
        | (refine (C4.out _).mono ?_; rintro e w1 ⟨rfl, hw8⟩; replace S := S.below hw8; clear hw8)
        | (refine S.storeAll rfl 61 _ _ rfl _ (Cel.ev pc 0 co) rfl rfl 0 _ rfl rfl (by simp [Cel.cells, Value.oneCell']) szEv ?_; clear S; intro w S; simp only [List.set_cons_zero, List.set_cons_succ] at S)
        | (refine S.loadAll rfl 25 _ rfl _ rfl 3 (Cel.host h) rfl _ Try.underlying25 rfl szHost ?_)
        | (refine S.loadAll rfl 28 _ rfl _ rfl 2 (Cel.regs R) rfl _ Try.underlying28 rfl (by simp only [Cel.cells]; rw [rc_length, hl]; exact szRegs) ?_)
        | (refine S.store1 rfl 22 _ _ rfl _ 1 _ rfl rfl 0 _ rfl rfl (by simp [Cel.cells]) (Cel.ev pc adr co) rfl szU ?_; clear S; intro w S; simp only [List.set_cons_zero, List.set_cons_succ] at S)
        | (refine S.loadAll rfl 61 _ rfl _ rfl 0 (Cel.ev _ _ _) rfl _ Try.underlying61 rfl szEv ?_)
        | (refine S.storeAll rfl 61 _ _ rfl _ (Cel.ev pc adr co) rfl rfl 1 _ rfl rfl (by simp [Cel.cells, Value.oneCell']) szEv ?_; clear S; intro w S; simp only [List.set_cons_zero, List.set_cons_succ] at S))
      refine bodyPost_ret (S.results rfl _ _ rfl 1 _ rfl _ Try.underlying61 rfl szEv) rfl ?_
      exact ⟨rfl, S.low⟩
    · have : adr = 0 := by rw [HAD.out, if_neg (by omega)]
      subst this
      have hq2 : decide (0 < st) = false := by simpa using h2
      clear HAD h1 h2
      go_enter Try.func20, Try.ntmps20
      go_wp2_with (first
        | (refine S.box rfl _ _ rfl (Cel.host h) rfl ?_; clear S; intro b1 w S)
        | (refine S.box rfl _ _ rfl (Cel.regs R) rfl ?_; clear S; intro b3 w S)
        | (refine S.alloc rfl 61 rfl _ zeroEv ?_; clear S; intro b2 w S)
        | (refine S.load1 rfl 3 _ rfl _ 0 rfl 2 (Cel.host h) rfl _ rfl _ Try.underlying3 rfl ?_)
        | (refine S.load1 rfl 3 _ rfl _ 0 rfl 3 (Cel.host h) rfl _ rfl _ Try.underlying3 rfl ?_)
        | (refine (C1.out _).mono ?_; rintro e w1 ⟨rfl, rfl⟩)
        | (refine (C2.out _).mono ?_; rintro e w1 ⟨rfl, rfl⟩)
        | (refine (C3.out _).mono ?_; rintro e w1 ⟨rfl, rfl⟩)
        | (refine (C4.out _).mono ?_; rintro e w1 ⟨rfl, hw8⟩; replace S := S.below hw8; clear hw8)
        | (refine S.storeAll rfl 61 _ _ rfl _ (Cel.ev pc 0 co) rfl rfl 0 _ rfl rfl (by simp [Cel.cells, Value.oneCell']) szEv ?_; clear S; intro w S; simp only [List.set_cons_zero, List.set_cons_succ] at S)
        | (refine S.loadAll rfl 25 _ rfl _ rfl 3 (Cel.host h) rfl _ Try.underlying25 rfl szHost ?_)
        | (refine S.loadAll rfl 28 _ rfl _ rfl 2 (Cel.regs R) rfl _ Try.underlying28 rfl (by simp only [Cel.cells]; rw [rc_length, hl]; exact szRegs) ?_)
        | (refine S.store1 rfl 22 _ _ rfl _ 1 _ rfl rfl 0 _ rfl rfl (by simp [Cel.cells]) (Cel.ev pc 0 co) rfl szU ?_; clear S; intro w S; simp only [List.set_cons_zero, List.set_cons_succ] at S)
        | (refine S.loadAll rfl 61 _ rfl _ rfl 0 (Cel.ev _ _ _) rfl _ Try.underlying61 rfl szEv ?_)
        | (refine S.storeAll rfl 61 _ _ rfl _ (Cel.ev pc 0 co) rfl rfl 1 _ rfl rfl (by simp [Cel.cells, Value.oneCell']) szEv ?_; clear S; intro w S; simp only [List.set_cons_zero, List.set_cons_succ] at S))
      refine bodyPost_ret (S.results rfl _ _ rfl 1 _ rfl _ Try.underlying61 rfl szEv) rfl ?_
      exact ⟨rfl, S.low⟩
end Go.Proofs.Yteflboidbogegaa
