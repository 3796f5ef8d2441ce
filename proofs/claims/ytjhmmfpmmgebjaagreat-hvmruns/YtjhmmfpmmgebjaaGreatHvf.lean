/- The statements' helper 'known', walked. -/
import Derived.Test.YtjhmmfpmmgebjaaGreatVh
namespace Go.Proofs.YtjhmmfpmmgebjaaGreat
open Go.ChangeShapes Go.WideShapes Go.ChangeAt Go.RowKit
set_option linter.unusedVariables false
set_option linter.unusedSimpArgs false

theorem RunN.gain {M : Zn} {w0 w w1 : World} {L : List (Nat × Cel)} {A : Option Addr} {n c base : Nat} {E : List HEv} (S : SH M w0 w L) (hev : EvRow w1 base (.slice A n c) E) (hb1 : w.heap.size ≤ base) (hb2 : Below w.heap.size w w1) :
    SH (M.add (fun k => (Value.slice A n c).ownBlock = some k) (fun w => EvRow w base (.slice A n c) E)) w0 w1 L :=
  S.gain hb2 (stb_ev base _ _) hev (fun k hk => ⟨Nat.le_trans hb1 (World.ownsRow.lt hev k hk).1, (World.ownsRow.lt hev k hk).2⟩)
theorem SH.lowA {M : Zn} {w0 w : World} {L : List (Nat × Cel)} (S : SH M w0 w L) (h : M.lo = 0 ∧ M.hi = 0) : Below w0.heap.size w0 w :=
  ⟨S.mid.os, S.mid.tape, S.mid.output, S.mid.size, fun k hk => S.mid.block k hk (.inr (by rw [h.2]; exact Nat.zero_le _))⟩
def kR : List Int := (zR.set 1 5).set 2 7
theorem kR_ok : okR kR := okR_set (okR_set zR_ok _ ⟨by decide, by decide⟩) _ ⟨by decide, by decide⟩
def kAdd : HV := ⟨3, 3, 1, 2, 0, 0⟩
def kExit : HV := ⟨30, 0, 0, 0, 0, 0⟩
theorem k_one : runS 10 [] [kAdd, kExit] 9 ⟨kR, [], 0, []⟩ = (⟨kR.set 3 12, [⟨10, 0, 1⟩, ⟨11, 0, 4⟩], 1, []⟩, 0) := by rfl
theorem k_two : runS 10 [] [kAdd, kExit] 1 ⟨kR, [], 0, []⟩ = (⟨kR.set 3 12, [⟨10, 0, 1⟩], 1, []⟩, 35) := by rfl
theorem k_three : runS 0 [] [] 1 ⟨kR, [], 0, []⟩ = (⟨kR, [], 0, []⟩, 31) := by rfl
theorem CL.nil (w : World) : CL w none [] := ⟨by decide, fun i h hi => by simp at hi⟩

theorem RunPostN.some {w w' : World} {fin : HSt × Int} {e : Ending} (h : RunPostN w fin e w') (hn : 0 < fin.1.E.length) :
    ∃ g c base, e = .returned (Cel.res fin.1.R (.slice (some ⟨g, 0, none⟩) fin.1.E.length c) fin.2 fin.1.p).val ∧ EvRow w' base (.slice (some ⟨g, 0, none⟩) fin.1.E.length c) fin.1.E ∧ w.heap.size ≤ base ∧ Below w.heap.size w w' ∧ okR fin.1.R := by
  obtain ⟨A, c, base, h1, h2, h3, h4, h5⟩ := h
  obtain ⟨g, cap, hf, _⟩ := World.ownsRow.form h2 hn
  simp only [Value.slice.injEq] at hf
  obtain ⟨rfl, _, rfl⟩ := hf
  exact ⟨g, c, base, h1, h2, h3, h4, h5⟩
theorem ev_cell {w : World} {base g n c : Nat} {E : List HEv} (h : EvRow w base (.slice (some ⟨g, 0, none⟩) n c) E) {i : Nat} {e : HEv} (he : E[i]? = some e) (j : Nat) (hj : j < 3) : w.cell? ⟨g, i * 3 + j, none⟩ = e.cells[j]? := by
  have hn : n = E.length := by
    rcases h.2 with ⟨h0, _⟩ | ⟨g', cap, cur, h0, _⟩
    · cases h0
    · simp only [Value.slice.injEq] at h0; exact h0.2.1
  subst hn
  rw [World.ownsRow.cellAt h (i * 3 + j) (by have := (List.getElem?_eq_some_iff.1 he).1; omega)]
  exact evC_at he j hj
theorem wpl_ev {P : Program} {w : World} {ops : Array Oper} {rest : List Oper} {o : Oper} {a : Act} {Q : Exit → Act → World → Prop} (hw : Region.wanted o (yielded ops a.tmps) = true) (ty : TypeId) (x : Operand) (ho : o.op = .load ty x) (g i : Nat) (hx : a.eval x = .pointer (some ⟨g, i * 3, none⟩)) {base n c : Nat} {E : List HEv} (e : HEv)
    (hev : EvRow w base (.slice (some ⟨g, 0, none⟩) n c) E) (he : E[i]? = some e) (d : TypeDesc) (hu : P.underlying ty = some d) (hd : d.isRow = true) (hi : (P.info? ty).map (·.size) = some 3)
    (h : wpList P ops Q rest (a.put o.dst (.agg #[.int .i64 e.pc, .int .u32 e.ad, .int .i64 e.co])) w) : wpList P ops Q (o :: rest) a w :=
  wpList_step fun K hK => by
    rw [if_pos hw]
    refine wp_load_mid ty x ho g (i * 3) hx e.cells d (fun j v hv => ?_) hu hd hi (hK _ _ h)
    have hj : j < 3 := (List.getElem?_eq_some_iff.1 hv).1
    rw [ev_cell hev he j hj]
    exact hv
def kE : List HEv := [⟨10, 0, 1⟩, ⟨11, 0, 4⟩]
theorem k_run1 (g : Nat) (w : World) (hC : CL w (some ⟨g, 0, none⟩) [kAdd, kExit]) (hg : g < w.heap.size) : Calls Tryz.prog 9 #[.slice (some ⟨g, 0, none⟩) 2 2, .int .i64 10, (Cel.regs kR).val, .pointer none, .int .i64 9] w fun e w' =>
    ∃ R g c base, e = .returned (Cel.res R (.slice (some ⟨g, 0, none⟩) 2 c) 0 1).val ∧ R.length = 32 ∧ R[3]? = some 12 ∧ EvRow w' base (.slice (some ⟨g, 0, none⟩) 2 c) kE ∧ w.heap.size ≤ base ∧ Below w.heap.size w w' :=
  (run_nil [kAdd, kExit] (some ⟨g, 0, none⟩) 2 10 9 kR w hC (fun b o h => by cases h; exact .inr hg) kR_ok (by decide) (by decide) (by decide) _ k_one).mono fun e w' h => by
    obtain ⟨g, c, base, h1, h2, h3, h4, _⟩ := h.some (by decide)
    exact ⟨_, g, c, base, h1, by simp [kR, zR], rfl, h2, h3, h4⟩
theorem k_run2 (g : Nat) (w : World) (hC : CL w (some ⟨g, 0, none⟩) [kAdd, kExit]) (hg : g < w.heap.size) : Calls Tryz.prog 9 #[.slice (some ⟨g, 0, none⟩) 2 2, .int .i64 10, (Cel.regs kR).val, .pointer none, .int .i64 1] w fun e w' =>
    ∃ R A c, e = .returned (Cel.res R (.slice A 1 c) 35 1).val ∧ R.length = 32 ∧ Below w.heap.size w w' :=
  (run_nil [kAdd, kExit] (some ⟨g, 0, none⟩) 2 10 1 kR w hC (fun b o h => by cases h; exact .inr hg) kR_ok (by decide) (by decide) (by decide) _ k_two).mono fun e w' h => by
    obtain ⟨A, c, base, h1, h2, h3, h4, _⟩ := h
    exact ⟨_, A, c, h1, by simp [kR, zR], h4⟩
theorem k_run3 (w : World) : Calls Tryz.prog 9 #[.slice none 0 0, .int .i64 0, (Cel.regs kR).val, .pointer none, .int .i64 1] w fun e w' =>
    ∃ R A c, e = .returned (Cel.res R (.slice A 0 c) 31 0).val ∧ R.length = 32 ∧ Below w.heap.size w w' :=
  (run_nil [] none 0 0 1 kR w (CL.nil w) (fun b o h => by cases h) kR_ok (by decide) (by decide) (by decide) _ k_three).mono fun e w' h => by
    obtain ⟨A, c, base, h1, h2, h3, h4, _⟩ := h
    exact ⟨_, A, c, h1, by simp [kR, zR], h4⟩

set_option maxHeartbeats 8000000 in
set_option maxRecDepth 100000 in
theorem known_c (w : World) : Calls Tryz.prog 4 #[] w fun e w' => e = .returned (.bool true) ∧ Below w.heap.size w w' := by
  have S := SH.start w
  obtain ⟨kk, hkk⟩ : ∃ kk, kk = kR := ⟨_, rfl⟩
  have hkb : kk.length = 32 := by rw [hkk]; simp [kR, zR]
  have C1 : Hid (∀ g w, CL w (some ⟨g, 0, none⟩) [kAdd, kExit] → g < w.heap.size → Calls Tryz.prog 9 #[.slice (some ⟨g, 0, none⟩) 2 2, .int .i64 10, (Cel.regs kk).val, .pointer none, .int .i64 9] w fun e w' =>
    ∃ R g c base, e = .returned (Cel.res R (.slice (some ⟨g, 0, none⟩) 2 c) 0 1).val ∧ R.length = 32 ∧ R[3]? = some 12 ∧ EvRow w' base (.slice (some ⟨g, 0, none⟩) 2 c) kE ∧ w.heap.size ≤ base ∧ Below w.heap.size w w') := by rw [hkk]; exact k_run1
  have C2 : Hid (∀ g w, CL w (some ⟨g, 0, none⟩) [kAdd, kExit] → g < w.heap.size → Calls Tryz.prog 9 #[.slice (some ⟨g, 0, none⟩) 2 2, .int .i64 10, (Cel.regs kk).val, .pointer none, .int .i64 1] w fun e w' =>
    ∃ R A c, e = .returned (Cel.res R (.slice A 1 c) 35 1).val ∧ R.length = 32 ∧ Below w.heap.size w w') := by rw [hkk]; exact k_run2
  have C3 : Hid (∀ w, Calls Tryz.prog 9 #[.slice none 0 0, .int .i64 0, (Cel.regs kk).val, .pointer none, .int .i64 1] w fun e w' =>
    ∃ R A c, e = .returned (Cel.res R (.slice A 0 c) 31 0).val ∧ R.length = 32 ∧ Below w.heap.size w w') := by rw [hkk]; exact k_run3
  have CT : Hid (∀ g c w, EvAt w (some ⟨g, 0, none⟩) kE → Calls Tryz.prog 12 #[.slice (some ⟨g, 0, none⟩) 2 c] w fun e w' => e = .returned (.int .i64 5) ∧ Below w.heap.size w w') := fun g c w h => total_c (some ⟨g, 0, none⟩) c kE w h (by unfold okE; decide) (by decide)
  have HKK : Hid (kk = kR) := hkk
  clear hkk
  go_enter Tryz.func4, Tryz.ntmps4
  go_wp2_with (first
    | (refine S.alloc rfl 27 rfl _ zeroRegs ?_; clear S; intro b1 w1 S)
    | (refine S.store1 rfl 26 _ _ rfl _ _ _ rfl rfl 0 (Cel.regs _) rfl rfl (by rw [regs_length (by simp [zR])]; decide) _ (set_regs _ _ _) szU ?_; clear S; intro w1 S; simp only [List.set_cons_zero, List.set_cons_succ] at S)
    | (refine S.code rfl 22 2 _ rfl [kAdd, kExit] 31 (by kernel_rfl) (by simp [HV.wf, kAdd, kExit]) (by decide) ?_; clear S; intro g w1 S; replace S : SH _ w w1 [(b1, Cel.regs kk)] := (by rw [HKK.out]; exact S))
    | (refine S.loadAll rfl 27 _ rfl _ rfl 0 (Cel.regs _) rfl _ Tryz.underlying27 rfl (by rw [regs_length hkb]; exact szRegs) ?_)
    | (refine S.loadAll rfl 27 _ rfl _ rfl 1 (Cel.regs _) rfl _ Tryz.underlying27 rfl (by rw [regs_length hkb]; exact szRegs) ?_)
    | (refine S.loadAll rfl 27 _ rfl _ rfl 2 (Cel.regs _) rfl _ Tryz.underlying27 rfl (by rw [regs_length hkb]; exact szRegs) ?_)
    | (refine (C1.out g _ S.inv.2 (S.zb _ (.inr rfl))).mono ?_; rintro e w2 ⟨R1, g1, c1, base1, rfl, hk1, hk12, hev, hb1, hb2⟩; replace S := RunN.gain S hev hb1 hb2; clear hb1 hb2 hev)
    | (refine S.alloc rfl 49 rfl _ zeroRes ?_; clear S; intro b3 w3 S)
    | (refine S.storeAll rfl 49 _ _ rfl _ (Cel.res R1 _ _ _) rfl rfl 0 _ rfl (by rw [res_length hk1, res_length (by simp)]) (one_res rfl) (by rw [res_length hk1]; exact szRes) ?_; clear S; intro w3 S; simp only [List.set_cons_zero, List.set_cons_succ] at S))
  refine (C2.out g _ S.inv.1.2 (S.zb _ (.inl (.inr rfl)))).mono ?_
  rintro e w2 ⟨R2, A2, c2, rfl, hk2, hb2⟩
  replace S := S.below hb2
  clear hb2 C1 C2
  go_wp2_with (first
    | (refine S.alloc rfl 49 rfl _ zeroRes ?_; clear S; intro b3 w3 S)
    | (refine S.storeAll rfl 49 _ _ rfl _ (Cel.res R2 _ _ _) rfl rfl 0 _ rfl (by rw [res_length hk2, res_length (by simp)]) (one_res rfl) (by rw [res_length hk2]; exact szRes) ?_; clear S; intro w3 S; simp only [List.set_cons_zero, List.set_cons_succ] at S)
    | (refine S.loadAll rfl 27 _ rfl _ rfl 0 (Cel.regs _) rfl _ Tryz.underlying27 rfl (by rw [regs_length hkb]; exact szRegs) ?_)
    | (refine S.loadAll rfl 27 _ rfl _ rfl 1 (Cel.regs _) rfl _ Tryz.underlying27 rfl (by rw [regs_length hkb]; exact szRegs) ?_)
    | (refine S.loadAll rfl 27 _ rfl _ rfl 2 (Cel.regs _) rfl _ Tryz.underlying27 rfl (by rw [regs_length hkb]; exact szRegs) ?_))
  refine (C3.out _).mono ?_
  rintro e w2 ⟨R3, A3, c3, rfl, hk3, hb2⟩
  replace S := S.below hb2
  clear hb2 C3
  go_wp2_with (first
    | (refine S.alloc rfl 49 rfl _ zeroRes ?_; clear S; intro b3 w3 S)
    | (refine S.storeAll rfl 49 _ _ rfl _ (Cel.res R3 _ _ _) rfl rfl 0 _ rfl (by rw [res_length hk3, res_length (by simp)]) (one_res rfl) (by rw [res_length hk3]; exact szRes) ?_; clear S; intro w3 S; simp only [List.set_cons_zero, List.set_cons_succ] at S)
    | (refine S.load1 rfl 26 _ rfl _ 3 rfl 2 (Cel.res _ _ _ _) rfl _ (res_reg hk12 _ _ _) _ Tryz.underlying26 rfl ?_)
    | (refine S.load1 rfl 35 _ rfl _ 33 rfl 2 (Cel.res _ _ _ _) rfl _ (res_33 hk1 _ _ _) _ Tryz.underlying35 rfl ?_)
    | (refine S.load1 rfl 35 _ rfl _ 33 rfl 1 (Cel.res _ _ _ _) rfl _ (res_33 hk2 _ _ _) _ Tryz.underlying35 rfl ?_)
    | (refine S.load1 rfl 35 _ rfl _ 33 rfl 0 (Cel.res _ _ _ _) rfl _ (res_33 hk3 _ _ _) _ Tryz.underlying35 rfl ?_)
    | (refine S.load1 rfl 47 _ rfl _ 32 rfl 2 (Cel.res _ _ _ _) rfl _ (res_32 hk1 _ _ _) _ Tryz.underlying47 rfl ?_)
    | (refine S.load1 rfl 3 _ rfl _ 34 rfl 2 (Cel.res _ _ _ _) rfl _ (res_34 hk1 _ _ _) _ Tryz.underlying3 rfl ?_)
    | (refine wpl_cell rfl 3 _ rfl g1 3 rfl (.int .i64 11) (ev_cell S.inv.2 (i := 1) (e := ⟨11, 0, 4⟩) rfl 0 (by decide)) _ Tryz.underlying3 rfl ?_)
    | (refine wpl_cell rfl 3 _ rfl g1 5 rfl (.int .i64 4) (ev_cell S.inv.2 (i := 1) (e := ⟨11, 0, 4⟩) rfl 2 (by decide)) _ Tryz.underlying3 rfl ?_)
    | (refine (CT.out _ _ _ S.inv.2.at).mono ?_; rintro e w2 ⟨rfl, hb2⟩; replace S := S.below hb2; clear hb2))
  go_ret
  exact ⟨rfl, S.lowA ⟨rfl, rfl⟩⟩
end Go.Proofs.YtjhmmfpmmgebjaaGreat
