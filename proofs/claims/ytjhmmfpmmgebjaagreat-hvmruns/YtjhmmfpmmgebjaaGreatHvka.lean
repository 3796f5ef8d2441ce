/- The document's Run, walked. -/
import Derived.Test.YtjhmmfpmmgebjaaGreatHvj
import Derived.Test.YtjhmmfpmmgebjaaGreatVm
import Derived.Deep.Cut
import Derived.Test.YtjhmmfpmmgebjaaGreatVh
namespace Go.Proofs.YtjhmmfpmmgebjaaGreat
open Go.ChangeShapes Go.WideShapes Go.ChangeAt Go.RowKit
set_option linter.unusedVariables false
set_option linter.unusedSimpArgs false

theorem szRef : (Tryz.prog.info? 52).map (·.size) = some 35 := by kernel_rfl
theorem zeroRef : (Tryz.prog.info? 52).map (fun i => i.zero) = some (some (Cel.res (List.replicate 32 0) (.slice none 0 0) 0 0).val) := by kernel_rfl
theorem rbuild_raw {R : List Int} (hR : R.length = 32) (w : World) : (Instr.build 52 #[(0, (Cel.regs R).val)]).run Tryz.prog w = .ok (Cel.res R (.slice none 0 0) 0 0).val w := by
  have hz := (zero_of_info (P := Tryz.prog) (t := 52) (v := (Cel.res (List.replicate 32 0) (.slice none 0 0) 0 0).val) (n := 35) (by kernel_rfl)).1
  unfold Instr.build
  rw [Sem.run_bind, hz]
  simp only [Result.andThen_ok, Sem.run_bind, run_underlying Tryz.underlying52]
  have hX : (Array.mapM (fun (f : Field) => do
              let n ← sizeOf f.type
              pure (f.offset, n)) (#[{ name := "R", type := 27, offset := 0, embedded := false, tag := "", pkgPath := "", byteOffset := 0 }, { name := "Events", type := 47, offset := 32, embedded := false, tag := "", pkgPath := "", byteOffset := 128 }, { name := "Err", type := 3, offset := 33, embedded := false, tag := "", pkgPath := "", byteOffset := 152 }, { name := "At", type := 3, offset := 34, embedded := false, tag := "", pkgPath := "", byteOffset := 160 }] : Array Field)).run Tryz.prog w = .ok #[(0, 32), (32, 1), (33, 1), (34, 1)] w := by kernel_rfl
  rw [hX]
  simp only [Result.andThen_ok]
  rw [fill_res hR]
  rfl
theorem rbuild_res {R : List Int} (hR : R.length = 32) {a : Act} {w : World} (h : a.eval (.tmp 21) = (Cel.regs R).val) : (execOp a.eval { dst := some 22, op := Op.build 52 #[(0, Operand.tmp 21)], type := 52, pos := "sourdineref5.go:203", after := #[{ on := 0, ground := Ground.data }], guard := none }).run Tryz.prog w = .ok (.value (Cel.res R (.slice none 0 0) 0 0).val) w := by
  unfold execOp
  simp only [List.map_toArray, List.map_cons, List.map_nil, h, Sem.run_bind, rbuild_raw hR, Result.andThen_ok, Sem.run_pure]

theorem wpl_codeg {P : Program} {w : World} {ops : Array Oper} {rest : List Oper} {o : Oper} {a : Act} {Q : Exit → Act → World → Prop} (ty : TypeId) (x : Operand) (ho : o.op = .load ty x) (b j : Nat) (hx : a.eval x = .pointer (some ⟨b, j, none⟩)) (h : HV)
    (hr : w.rangeAt b j (Cel.host h).cells) (d : TypeDesc) (hu : P.underlying ty = some d) (hd : d.isRow = true) (hi : (P.info? ty).map (·.size) = some 6) (hw : Region.wanted o (yielded ops a.tmps) = true)
    (hn : wpList P ops Q rest (a.put o.dst (Cel.host h).val) w) : wpList P ops Q (o :: rest) a w :=
  wpList_step fun K hK => by
    rw [if_pos hw]
    exact wp_load_mid ty x ho b j hx (Cel.host h).cells d hr hu hd hi (hK _ _ hn)
/-- One event, as a slice of its own. -/
theorem SH.slice1 {M : Zn} {w0 w : World} {L : List (Nat × Cel)} {ops : Array Oper} {rest : List Oper} {o : Oper} {a : Act} {Q : Exit → Act → World → Prop} (S : SH M w0 w L) (hgd : o.guard = none) (x : Operand) (ho : o.op = .buildSlice 47 1 #[(0, x)]) (pc ad co : Int) (hx : a.eval x = (Cel.ev pc ad co).val)
    (h : ∀ w1, SH (M.add (fun k => k = w.heap.size) (fun w2 => ∀ j u, (HEv.cells ⟨pc, ad, co⟩)[j]? = some u → w2.cell? ((⟨w.heap.size, 0, none⟩ : Addr).add j) = some u)) w0 w1 L → wpList Tryz.prog ops Q rest (a.put o.dst (.slice (some ⟨w.heap.size, 0, none⟩) 1 1)) w1) : wpList Tryz.prog ops Q (o :: rest) a w :=
  wpList_plain hgd fun K hK => by
    have hr : (Instr.buildSlice 47 1 #[(0, .agg #[.int .i64 pc, .int .u32 ad, .int .i64 co])]).run Tryz.prog w = .ok (.slice (some ⟨w.heap.size, 0, none⟩) 1 1) (w.alloc (Obj.cells #[.int .i64 pc, .int .u32 ad, .int .i64 co] 59)) := by kernel_rfl
    unfold Oper.wp execOp
    have hx' : a.eval x = .agg #[.int .i64 pc, .int .u32 ad, .int .i64 co] := hx
    simp only [ho, List.map_toArray, List.map_cons, List.map_nil, hx', Sem.run_bind, hr, Result.andThen_ok, Sem.run_pure]
    refine hK _ _ (h _ (S.gain ((Below.refl _ _).alloc (Nat.le_refl _) _) (fun w1 w2 hj hs hk j u hu => ?_) (new_ev w pc ad co _) (fun k hk => ?_)))
    · have q := hj j u hu
      rw [Addr.add_mid] at q ⊢
      exact (World.cell?_of_block (w := w1) (a := ⟨w.heap.size, 0 + j, none⟩) (hk _ rfl (World.block_lt_of_cell? w1 _ q))).trans q
    · subst hk
      exact ⟨Nat.le_refl _, by rw [alloc_size']; omega⟩
/-- What was added is forgotten. -/
theorem SH.dropA {M : Zn} {w0 w : World} {L : List (Nat × Cel)} {Z : Nat → Prop} {J : World → Prop} (S : SH (M.add Z J) w0 w L) (hM : M.ok := by exact runZ_ok _ _ _ _ _ _ _ _ _ _ _) : SH M w0 w L :=
  S.turn hM S.inv.1 (fun k hk => S.zb k (.inl hk)) S.mid (fun _ _ => rfl) (fun p hp h => (S.out p hp).2 (.inl h))
def rrunRel (w0 : World) (pm l0 lo hi : Nat) (Bs : List Reg) (G : List (List Int)) (q : Nat → Nat) (base b7 b10 b11 : Nat) (R0 : List Int) (code : List HV) (at' : Int) (N : Nat) (fin : HSt × Int) (g : Value) (wr : World) : Prop :=
  ∃ (s : HSt) (p' : Int) (A : Option Addr) (c k : Nat), g = .int .i64 s.p ∧
    SH (runZ pm l0 lo hi Bs G q base (.slice A s.E.length c) s.E s.D) w0 wr [(b11, Cel.res s.R (.slice A s.E.length c) 0 p'), (b10, Cel.res (List.replicate 32 0) (.slice none 0 0) 0 0), (b7, Cel.regs R0)] ∧
    okR s.R ∧ (-8589934592 ≤ s.p ∧ s.p ≤ 8589934592) ∧ s.E.length + k = N ∧ runS at' Bs code k s = fin
def rrunMeas (N b : Nat) (w : World) : Nat := N + 1 - evLen w b

set_option maxHeartbeats 16000000 in
set_option maxRecDepth 100000 in
theorem rrunA_c (code : List HV) (A0 : Option Addr) (c0 : Nat) (at' most : Int) (R0 : List Int) {pm l0 lo hi : Nat} {Bs : List Reg} {G D : List (List Int)} {q : Nat → Nat} (w : World) (hM : MemAt w pm l0 lo hi Bs G D q) (hl0 : l0 ≤ w.heap.size) (hBs : Bs.length ≤ 10)
    (hC : CL w A0 code) (hA : ∀ b o, A0 = some ⟨b, o, none⟩ → code = [] ∨ b < lo ∨ hi ≤ b) (hR : okR R0) (t0 : -1000000 ≤ at') (t1 : at' ≤ 1000000) (m1 : most ≤ 1000) (fin : HSt × Int) (hfin : runS at' Bs code most.toNat ⟨R0, [], 0, D⟩ = fin) :
    Calls Tryz.prog 10 #[.slice A0 code.length c0, .int .i64 at', (Cel.regs R0).val, .pointer (some ⟨pm, 0, none⟩), .int .i64 most] w fun e w' => RunPost w pm l0 lo hi Bs G q fin e w' := by
  have S := SH.mem hM hl0
  have HC : Hid (CL w A0 code) := hC
  have HA : Hid (∀ b o, A0 = some ⟨b, o, none⟩ → code = [] ∨ b < lo ∨ hi ≤ b) := hA
  have hR32 := hR.1
  have HR : Hid (okR R0) := hR
  have HF : Hid (runS at' Bs code most.toNat ⟨R0, [], 0, D⟩ = fin) := hfin
  have hlen : (code.length : Int) ≤ 1000000 := hC.1
  obtain ⟨i0, hi0, hz0, hz1, hz2⟩ := ev_info
  have HI : Hid (Tryz.prog.info? 59 = some i0 ∧ i0.zero = some (.agg #[.int .i64 0, .int .u32 0, .int .i64 0]) ∧ i0.size = 3 ∧ i0.bytes = 24) := ⟨hi0, hz0, hz1, hz2⟩
  clear hM hC hA hR hfin hi0 hz0 hz1 hz2
  go_enter Tryz.func10, Tryz.ntmps10
  go_wp2_with (first
    | ((with_reducible refine wpl_isLoad ?_); first
      | (refine S.ldAll 27 _ rfl _ rfl 1 (Cel.regs R0) rfl _ Tryz.underlying27 rfl (by simp only [Cel.cells]; rw [rc_length, hR32]; exact szRegs) rfl ?_))
    | ((with_reducible refine wpl_isStore ?_); first
      | (refine S.storeAll rfl 52 _ _ rfl _ (Cel.res R0 (.slice none 0 0) 0 0) rfl rfl 0 _ rfl (by rw [res_length hR32, res_length (by simp)]) (one_res rfl) (by rw [res_length hR32]; exact szRef) ?_; clear S; intro w12 S; simp only [List.set_cons_zero, List.set_cons_succ] at S))
    | ((with_reducible refine wpl_is ?_); first
      | (refine S.box rfl _ _ rfl (Cel.regs R0) rfl ?_; clear S; intro b7 w7 S)
      | (refine SH.alloc (L := [_, _]) S rfl 52 rfl _ zeroRef ?_; clear S; intro b11 w11 S)
      | (refine S.alloc rfl 52 rfl _ zeroRef ?_; clear S; intro b10 w10 S)
      | (refine wpl_build rfl 52 _ rfl (Cel.res R0 (.slice none 0 0) 0 0).val ?_ ?_; exact rbuild_res hR32 rfl)))
  replace S := S.toRun (base := w12.heap.size) (Nat.le_refl _)
  obtain ⟨base, hbase⟩ : ∃ b, b = w12.heap.size := ⟨_, rfl⟩
  have HB : Hid (hi ≤ base ∧ l0 ≤ base ∧ w.heap.size ≤ base) := by
    rw [hbase]
    exact ⟨S.inv.1.top, S.runL0, S.mid.size⟩
  rw [← hbase] at S
  have ST : Hid (rrunRel w pm l0 lo hi Bs G q base b7 b10 b11 R0 code at' most.toNat fin (.int .i64 0) w12) := ⟨⟨R0, [], 0, D⟩, 0, none, 0, most.toNat, rfl, S, HR.out, ⟨by simp, by simp⟩, by simp, HF.out⟩
  clear S HF hbase HR
  go_loopw [12] (fun g wr => rrunRel w pm l0 lo hi Bs G q base b7 b10 b11 R0 code at' most.toNat fin g wr) (fun g wr => rrunMeas most.toNat b11 wr)
  case atStart => exact ST.out
  case round =>
    clear ST
    obtain ⟨s, pp, A, c, k, rfl, S, hRs, ⟨p0, p1⟩, hk, hrun⟩ := hrel
    have HRS : Hid (okR s.R) := hRs
    have hR32 := hRs.1
    clear hRs
    have HOLD : Hid (evLen wr b11 = s.E.length) := evLen_of (i := 0) S rfl hR32
    have HRUN : Hid (runS at' Bs code k s = fin) := hrun
    clear hrun
    by_cases hneg : s.p < 0
    · have HFI : Hid (fin = (s, 31)) := by
        have h1 : okPc code s.p = false := by simp [okPc, show ¬ 0 ≤ s.p by omega]
        have h2 : runS at' Bs code k s = (s, 31) := by cases k <;> simp [runS, h1]
        exact HRUN.out.symm.trans h2
      go_wp2_with (first
      | ((with_reducible refine wpl_isLoad ?_); first
        | (refine S.ld 47 _ rfl _ 32 rfl 0 _ rfl _ (res_32 hR32 _ _ _) _ Tryz.underlying47 rfl rfl ?_)
        | (refine S.ldAll 52 _ rfl _ rfl 0 (Cel.res _ _ _ _) rfl _ Tryz.underlying52 rfl (by rw [res_length hR32]; exact szRef) rfl ?_))
      | ((with_reducible refine wpl_isStore ?_); first
        | (refine S.store1 rfl 3 _ _ rfl _ 34 _ rfl rfl 0 _ rfl rfl (by rw [res_length hR32]; omega) _ (set_34 hR32 _ _ _ _) szI ?_; clear S; intro w9 S; simp only [List.set_cons_zero, List.set_cons_succ] at S)
        | (refine S.store1 rfl 3 _ _ rfl _ 33 _ rfl rfl 0 _ rfl rfl (by rw [res_length hR32]; omega) _ (set_33 hR32 _ _ _ _) szI ?_; clear S; intro w9 S; simp only [List.set_cons_zero, List.set_cons_succ] at S)
        | (refine S.storeAll rfl 52 _ _ rfl _ (Cel.res _ _ _ _) rfl rfl 1 _ rfl (by rw [res_length hR32, res_length (by simp)]) (one_res rfl) (by rw [res_length hR32]; exact szRef) ?_; clear S; intro w9 S; simp only [List.set_cons_zero, List.set_cons_succ] at S)))
      refine bodyPost_ret (S.results rfl _ _ rfl 1 _ rfl _ Tryz.underlying52 rfl (by rw [res_length hR32]; exact szRef)) rfl ?_
      rw [HFI.out]
      exact ⟨A, c, base, rfl, S.inv.2.1, HB.out.2.2, HB.out.1, S.inv.1, S.mid, HRS.out⟩
    have hq1 : decide (s.p < 0) = false := by simpa using hneg
    by_cases hout : (code.length : Int) ≤ s.p
    · have HFI : Hid (fin = (s, 31)) := by
        have h0 : code[s.p.toNat]? = none := List.getElem?_eq_none (by omega)
        have h1 : okPc code s.p = false := by simp [okPc, h0]
        have h2 : runS at' Bs code k s = (s, 31) := by cases k <;> simp [runS, h1]
        exact HRUN.out.symm.trans h2
      go_wp2_with (first
      | ((with_reducible refine wpl_isLoad ?_); first
        | (refine S.ld 47 _ rfl _ 32 rfl 0 _ rfl _ (res_32 hR32 _ _ _) _ Tryz.underlying47 rfl rfl ?_)
        | (refine S.ldAll 52 _ rfl _ rfl 0 (Cel.res _ _ _ _) rfl _ Tryz.underlying52 rfl (by rw [res_length hR32]; exact szRef) rfl ?_))
      | ((with_reducible refine wpl_isStore ?_); first
        | (refine S.store1 rfl 3 _ _ rfl _ 34 _ rfl rfl 0 _ rfl rfl (by rw [res_length hR32]; omega) _ (set_34 hR32 _ _ _ _) szI ?_; clear S; intro w9 S; simp only [List.set_cons_zero, List.set_cons_succ] at S)
        | (refine S.store1 rfl 3 _ _ rfl _ 33 _ rfl rfl 0 _ rfl rfl (by rw [res_length hR32]; omega) _ (set_33 hR32 _ _ _ _) szI ?_; clear S; intro w9 S; simp only [List.set_cons_zero, List.set_cons_succ] at S)
        | (refine S.storeAll rfl 52 _ _ rfl _ (Cel.res _ _ _ _) rfl rfl 1 _ rfl (by rw [res_length hR32, res_length (by simp)]) (one_res rfl) (by rw [res_length hR32]; exact szRef) ?_; clear S; intro w9 S; simp only [List.set_cons_zero, List.set_cons_succ] at S)))
      refine bodyPost_ret (S.results rfl _ _ rfl 1 _ rfl _ Tryz.underlying52 rfl (by rw [res_length hR32]; exact szRef)) rfl ?_
      rw [HFI.out]
      exact ⟨A, c, base, rfl, S.inv.2.1, HB.out.2.2, HB.out.1, S.inv.1, S.mid, HRS.out⟩
    have hq2 : decide ((code.length : Int) ≤ s.p) = false := by simp; omega
    have hcode : code[s.p.toNat]? = some (codeAt code s.p) := by
      have : s.p.toNat < code.length := by omega
      simp [codeAt, List.getD, this]
    obtain ⟨hwf, bc, oc, hA0, _⟩ := HC.out.2 s.p.toNat _ hcode
    subst hA0
    have CR : Hid (∀ w1, Calls Tryz.prog 26 #[(Cel.host (codeAt code s.p)).val] w1 fun e w' => e = .returned (.bool (rightS (codeAt code s.p))) ∧ Below w1.heap.size w1 w') := fun w1 => rright_c (codeAt code s.p) w1
    have HCD : Hid (code[s.p.toNat]? = some (codeAt code s.p)) := hcode
    have hq0 : 0 ≤ s.p := by omega
    have hplt : s.p < (code.length : Int) := by omega
    cases hright : rightS (codeAt code s.p)
    · have HFI : Hid (fin = (s, 31)) := by
        have h1 : okPc code s.p = false := by simp [okPc, hcode, hright]
        have h2 : runS at' Bs code k s = (s, 31) := by cases k <;> simp [runS, h1]
        exact HRUN.out.symm.trans h2
      rw [hright] at CR
      clear hneg hout hcode hwf
      go_wp2_with (first
      | ((with_reducible refine wpl_isLoad ?_); first
        | (refine wpl_codeg 31 _ rfl bc (oc + s.p.toNat * 6) rfl (codeAt code s.p) (code_range HC.out HA.out S.mid HCD.out) _ Tryz.underlying31 rfl szHost rfl ?_)
        | (refine S.ld 47 _ rfl _ 32 rfl 0 _ rfl _ (res_32 hR32 _ _ _) _ Tryz.underlying47 rfl rfl ?_)
        | (refine S.ldAll 52 _ rfl _ rfl 0 (Cel.res _ _ _ _) rfl _ Tryz.underlying52 rfl (by rw [res_length hR32]; exact szRef) rfl ?_))
      | ((with_reducible refine wpl_isStore ?_); first
        | (refine S.store1 rfl 3 _ _ rfl _ 34 _ rfl rfl 0 _ rfl rfl (by rw [res_length hR32]; omega) _ (set_34 hR32 _ _ _ _) szI ?_; clear S; intro w9 S; simp only [List.set_cons_zero, List.set_cons_succ] at S)
        | (refine S.store1 rfl 3 _ _ rfl _ 33 _ rfl rfl 0 _ rfl rfl (by rw [res_length hR32]; omega) _ (set_33 hR32 _ _ _ _) szI ?_; clear S; intro w9 S; simp only [List.set_cons_zero, List.set_cons_succ] at S)
        | (refine S.storeAll rfl 52 _ _ rfl _ (Cel.res _ _ _ _) rfl rfl 1 _ rfl (by rw [res_length hR32, res_length (by simp)]) (one_res rfl) (by rw [res_length hR32]; exact szRef) ?_; clear S; intro w9 S; simp only [List.set_cons_zero, List.set_cons_succ] at S))
      | (go_at_call 26; refine (CR.out _).mono ?_; rintro e w8 ⟨rfl, hw8⟩; replace S := S.below hw8; clear hw8))
      refine bodyPost_ret (S.results rfl _ _ rfl 1 _ rfl _ Tryz.underlying52 rfl (by rw [res_length hR32]; exact szRef)) rfl ?_
      rw [HFI.out]
      exact ⟨A, c, base, rfl, S.inv.2.1, HB.out.2.2, HB.out.1, S.inv.1, S.mid, HRS.out⟩
    have hok : okPc code s.p = true := by simp [okPc, hcode, hright]; omega
    rw [hright] at CR
    by_cases hk0 : k = 0
    · subst hk0
      have HFI : Hid (fin = (s, 35)) := by
        have h2 : runS at' Bs code 0 s = (s, 35) := by simp [runS, hok]
        exact HRUN.out.symm.trans h2
      clear hneg hout hcode hwf
      go_wp2_with (first
      | ((with_reducible refine wpl_isLoad ?_); first
        | (refine wpl_codeg 31 _ rfl bc (oc + s.p.toNat * 6) rfl (codeAt code s.p) (code_range HC.out HA.out S.mid HCD.out) _ Tryz.underlying31 rfl szHost rfl ?_)
        | (refine S.ld 47 _ rfl _ 32 rfl 0 _ rfl _ (res_32 hR32 _ _ _) _ Tryz.underlying47 rfl rfl ?_)
        | (refine S.ldAll 52 _ rfl _ rfl 0 (Cel.res _ _ _ _) rfl _ Tryz.underlying52 rfl (by rw [res_length hR32]; exact szRef) rfl ?_))
      | ((with_reducible refine wpl_isStore ?_); first
        | (refine S.store1 rfl 3 _ _ rfl _ 34 _ rfl rfl 0 _ rfl rfl (by rw [res_length hR32]; omega) _ (set_34 hR32 _ _ _ _) szI ?_; clear S; intro w9 S; simp only [List.set_cons_zero, List.set_cons_succ] at S)
        | (refine S.store1 rfl 3 _ _ rfl _ 33 _ rfl rfl 0 _ rfl rfl (by rw [res_length hR32]; omega) _ (set_33 hR32 _ _ _ _) szI ?_; clear S; intro w9 S; simp only [List.set_cons_zero, List.set_cons_succ] at S)
        | (refine S.storeAll rfl 52 _ _ rfl _ (Cel.res _ _ _ _) rfl rfl 1 _ rfl (by rw [res_length hR32, res_length (by simp)]) (one_res rfl) (by rw [res_length hR32]; exact szRef) ?_; clear S; intro w9 S; simp only [List.set_cons_zero, List.set_cons_succ] at S))
      | (go_at_call 26; refine (CR.out _).mono ?_; rintro e w8 ⟨rfl, hw8⟩; replace S := S.below hw8; clear hw8))
      all_goals
        refine bodyPost_ret (S.results rfl _ _ rfl 1 _ rfl _ Tryz.underlying52 rfl (by rw [res_length hR32]; exact szRef)) rfl ?_
        rw [HFI.out]
        exact ⟨A, c, base, rfl, S.inv.2.1, HB.out.2.2, HB.out.1, S.inv.1, S.mid, HRS.out⟩
    obtain ⟨k, rfl⟩ : ∃ j, k = j + 1 := ⟨k - 1, by omega⟩
    have hrun2 : fin = if (stepS at' Bs (codeAt code s.p) s).2.2 then runS at' Bs code k (stepS at' Bs (codeAt code s.p) s).1 else ((stepS at' Bs (codeAt code s.p) s).1, (stepS at' Bs (codeAt code s.p) s).2.1) := by
      rw [← HRUN.out]
      simp only [runS, hok, if_true]
    have HRUN2 : Hid (fin = if (stepS at' Bs (codeAt code s.p) s).2.2 then runS at' Bs code k (stepS at' Bs (codeAt code s.p) s).1 else ((stepS at' Bs (codeAt code s.p) s).1, (stepS at' Bs (codeAt code s.p) s).2.1)) := hrun2
    clear hrun2 HRUN hok hneg hout hk0
    generalize codeAt code s.p = h at *
    obtain ⟨ho, o1, o2⟩ := right_ok hwf hright
    have HO : Hid (HOk h) := ho
    have CCO : Hid (∀ w1, Calls Tryz.prog 27 #[.int .i64 h.op] w1 fun e w' => e = .returned (.int .i64 (costS h.op)) ∧ w' = w1) := fun w1 => rcost_c h.op w1
    have CLD : Hid (∀ w1, Calls Tryz.prog 28 #[.int .i64 h.op] w1 fun e w' => e = .returned (.int .i64 (loadsS h.op)) ∧ w' = w1) := fun w1 => rloads_c h.op w1
    have CST : Hid (∀ w1, Calls Tryz.prog 30 #[.int .i64 h.op] w1 fun e w' => e = .returned (.int .i64 (storesS h.op)) ∧ w' = w1) := fun w1 => rstores_c h.op w1
    obtain ⟨hA2, ua, va⟩ := regv_at HRS.out ho.2.1.1 ho.2.1.2
    have HAA : Hid (s.R[h.a.toNat]? = some (regv s.R h.a)) := hA2
    obtain ⟨a0, a1⟩ := ho.2.1
    obtain ⟨d0, d1⟩ := ho.1
    obtain ⟨b0, b1'⟩ := ho.2.2.1
    obtain ⟨i0', i1'⟩ := ho.2.2.2.2
    have eat : IntKind.i64.wrap (at' + s.p) = at' + s.p := by rw [IntKind.wrap_i64]; omega
    have hmx1 : (s.E.length : Int) < most := by omega
    have hmx2 : 0 < most := by omega
    obtain ⟨ad, had⟩ : ∃ ad, (regv s.R h.a + h.im) % 4294967296 = ad := ⟨_, rfl⟩
    have ead : IntKind.u32.wrap (regv s.R h.a + h.im) = ad := by rw [IntKind.wrap_u32]; exact had
    have had0 : 0 ≤ ad ∧ ad ≤ 4294967295 := by omega
    have HAD : Hid ((regv s.R h.a + h.im) % 4294967296 = ad) := had
    clear hwf hright ho hcode hA2
    go_wp2_with (first
      | ((with_reducible refine wpl_isLoad ?_); first
        | (refine wpl_codeg 31 _ rfl bc (oc + s.p.toNat * 6) rfl h (code_range HC.out HA.out S.mid HCD.out) _ Tryz.underlying31 rfl szHost rfl ?_)
        | (refine S.ld 47 _ rfl _ 32 rfl 0 _ rfl _ (res_32 hR32 _ _ _) _ Tryz.underlying47 rfl rfl ?_)
        | (refine S.ldAll 52 _ rfl _ rfl 0 (Cel.res _ _ _ _) rfl _ Tryz.underlying52 rfl (by rw [res_length hR32]; exact szRef) rfl ?_)
        | (refine S.ld 3 _ rfl _ 0 rfl 0 (Cel.host h) rfl _ rfl _ Tryz.underlying3 rfl rfl ?_))
      | ((with_reducible refine wpl_isStore ?_); first
        | (refine S.store1 rfl 3 _ _ rfl _ 34 _ rfl rfl 0 _ rfl rfl (by rw [res_length hR32]; omega) _ (set_34 hR32 _ _ _ _) szI ?_; clear S; intro w9 S; simp only [List.set_cons_zero, List.set_cons_succ] at S)
        | (refine S.store1 rfl 3 _ _ rfl _ 33 _ rfl rfl 0 _ rfl rfl (by rw [res_length hR32]; omega) _ (set_33 hR32 _ _ _ _) szI ?_; clear S; intro w9 S; simp only [List.set_cons_zero, List.set_cons_succ] at S)
        | (refine S.storeAll rfl 52 _ _ rfl _ (Cel.res _ _ _ _) rfl rfl 1 _ rfl (by rw [res_length hR32, res_length (by simp)]) (one_res rfl) (by rw [res_length hR32]; exact szRef) ?_; clear S; intro w9 S; simp only [List.set_cons_zero, List.set_cons_succ] at S)
        | (refine S.storeAll rfl 31 _ _ rfl _ (Cel.host h) rfl rfl 0 _ rfl rfl (one_host h) szHost ?_; clear S; intro w13 S; simp only [List.set_cons_zero, List.set_cons_succ] at S)
        | (refine S.storeAll rfl 59 _ _ rfl _ (Cel.ev (at' + s.p) 0 (costS h.op)) rfl rfl 0 _ rfl rfl (by simp [Cel.cells, Value.oneCell']) szEv ?_; clear S; intro w14 S; simp only [List.set_cons_zero, List.set_cons_succ] at S))
      | ((with_reducible refine wpl_is ?_); first
        | (refine S.alloc rfl 31 rfl _ zeroHost ?_; clear S; intro b13 w13 S)
        | (refine S.alloc rfl 59 rfl _ zeroEv ?_; clear S; intro b14 w14 S))
      | (go_at_call 26; refine (CR.out _).mono ?_; rintro e w8 ⟨rfl, hw8⟩; replace S := S.below hw8; clear hw8)
      | (go_at_call 27; refine (CCO.out _).mono ?_; rintro e w8 ⟨rfl, rfl⟩))
    refine Upto.start (S := fun w' => SH (runZ pm l0 lo hi Bs G q base (.slice A s.E.length c) s.E s.D) w w' [(b14, Cel.ev (at' + s.p) 0 (costS h.op)), (b13, Cel.host h), (b11, Cel.res s.R (.slice A s.E.length c) 0 s.p), (b10, Cel.res (List.replicate 32 0) (.slice none 0 0) 0 0), (b7, Cel.regs R0)]) 8 (by kernel_rfl) ?_
    replace S := S.drew
    refine Upto.take (i := 0) (oi := { dst := some 64, op := Op.fieldAddr 31 (Operand.tmp 13) 2, type := 0, pos := "sourdineref5.go:219", after := #[], guard := none }) (v := ?_) rfl (by kernel_rfl) (by kernel_rfl) (by kernel_rfl) (by kernel_rfl) (fun _ _ _ h => h) (Or.inl ⟨by rfl, ?_⟩) (by exact S) ?_
    rotate_left 1
    · intro w hSw
      clear hSw
      go_simp
      try with_reducible rfl
    simp only [Act.put, List.setIfInBounds_toArray, List.set_cons_zero, List.set_cons_succ]
    refine Upto.take (i := 1) (oi := { dst := some 65, op := Op.load 3 (Operand.tmp 64), type := 3, pos := "sourdineref5.go:219", after := #[{ on := 0, ground := Ground.data }], guard := none }) (v := _) rfl (by kernel_rfl) (by kernel_rfl) (by kernel_rfl) (by kernel_rfl) (fun _ _ _ h => h) (y_load1 (by rfl) _ _ rfl _ _ rfl 1 _ rfl _ rfl _ Tryz.underlying3 rfl) (by exact S) ?_
    simp only [Act.put, List.setIfInBounds_toArray, List.set_cons_zero, List.set_cons_succ]
    refine Upto.take (i := 2) (oi := { dst := some 66, op := Op.fieldAddr 52 (Operand.tmp 11) 0, type := 0, pos := "sourdineref5.go:219", after := #[], guard := none }) (v := ?_) rfl (by kernel_rfl) (by kernel_rfl) (by kernel_rfl) (by kernel_rfl) (fun _ _ _ h => h) (Or.inl ⟨by rfl, ?_⟩) (by exact S) ?_
    rotate_left 1
    · intro w hSw
      clear hSw
      go_simp
      try with_reducible rfl
    simp only [Act.put, List.setIfInBounds_toArray, List.set_cons_zero, List.set_cons_succ]
    refine Upto.take (i := 3) (oi := { dst := some 67, op := Op.indexAddr 27 (Operand.tmp 66) (Operand.tmp 65), type := 0, pos := "sourdineref5.go:219", after := #[{ on := 2, ground := Ground.data }, { on := 1, ground := Ground.data }], guard := none }) (v := ?_) rfl (by kernel_rfl) (by kernel_rfl) (by kernel_rfl) (by kernel_rfl) (fun _ _ _ h => h) (Or.inl ⟨by rfl, ?_⟩) (by exact S) ?_
    rotate_left 1
    · intro w hSw
      clear hSw
      go_simp
      try with_reducible rfl
    simp only [Act.put, List.setIfInBounds_toArray, List.set_cons_zero, List.set_cons_succ]
    refine Upto.take (i := 4) (oi := { dst := some 68, op := Op.load 26 (Operand.tmp 67), type := 26, pos := "sourdineref5.go:219", after := #[{ on := 3, ground := Ground.data }], guard := none }) (v := _) rfl (by kernel_rfl) (by kernel_rfl) (by kernel_rfl) (by kernel_rfl) (fun _ _ _ h => h) (y_load1 (by rfl) _ _ rfl _ _ rfl 2 _ rfl _ (res_reg HAA.out _ _ _) _ Tryz.underlying26 rfl) (by exact S) ?_
    simp only [Act.put, List.setIfInBounds_toArray, List.set_cons_zero, List.set_cons_succ]
    refine Upto.take (i := 5) (oi := { dst := some 69, op := Op.fieldAddr 31 (Operand.tmp 13) 5, type := 0, pos := "sourdineref5.go:219", after := #[], guard := none }) (v := ?_) rfl (by kernel_rfl) (by kernel_rfl) (by kernel_rfl) (by kernel_rfl) (fun _ _ _ h => h) (Or.inl ⟨by rfl, ?_⟩) (by exact S) ?_
    rotate_left 1
    · intro w hSw
      clear hSw
      go_simp
      try with_reducible rfl
    simp only [Act.put, List.setIfInBounds_toArray, List.set_cons_zero, List.set_cons_succ]
    refine Upto.take (i := 6) (oi := { dst := some 70, op := Op.load 26 (Operand.tmp 69), type := 26, pos := "sourdineref5.go:219", after := #[{ on := 5, ground := Ground.data }], guard := none }) (v := _) rfl (by kernel_rfl) (by kernel_rfl) (by kernel_rfl) (by kernel_rfl) (fun _ _ _ h => h) (y_load1 (by rfl) _ _ rfl _ _ rfl 1 _ rfl _ rfl _ Tryz.underlying26 rfl) (by exact S) ?_
    simp only [Act.put, List.setIfInBounds_toArray, List.set_cons_zero, List.set_cons_succ]
    refine Upto.take (i := 7) (oi := { dst := some 71, op := Op.binOp BinOp.add 26 (Operand.tmp 68) (Operand.tmp 70) 26, type := 26, pos := "sourdineref5.go:219", after := #[{ on := 4, ground := Ground.data }, { on := 6, ground := Ground.data }], guard := none }) (v := ?_) rfl (by kernel_rfl) (by kernel_rfl) (by kernel_rfl) (by kernel_rfl) (fun _ _ _ h => h) (Or.inl ⟨by rfl, ?_⟩) (by exact S) ?_
    rotate_left 1
    · intro w hSw
      clear hSw
      go_simp
      try with_reducible rfl
    simp only [Act.put, List.setIfInBounds_toArray, List.set_cons_zero, List.set_cons_succ]
    refine Upto.ready (rs := [8]) (by kernel_rfl) (by simp) ?_
    refine Nexts.last rfl (fun K hK => ?_)
    go_simp
    refine hK.out _ _ ?_
    clear hK K
    refine Upto.done (by kernel_rfl) ?_ _
    by_cases h21 : h.op ≤ 21
    · have hld : loadsS h.op = 0 := by unfold loadsS; rw [if_neg (by omega), if_neg (by omega), if_neg (by omega)]
      have hst : storesS h.op = 0 := by unfold storesS; rw [if_neg (by omega), if_neg (by omega), if_neg (by omega)]
      have HST : Hid (stepS at' Bs h s = (⟨s.R.set h.d.toNat (reckS h.op (regv s.R h.a) (regv s.R h.b) (regv s.R h.c) h.im), s.E ++ [⟨at' + s.p, 0, costS h.op⟩], s.p + 1, s.D⟩, 0, true)) := by
        have hst : stepS at' Bs h s = (⟨s.R.set h.d.toNat (reckS h.op (regv s.R h.a) (regv s.R h.b) (regv s.R h.c) h.im), s.E ++ [⟨at' + s.p, 0, costS h.op⟩], s.p + 1, s.D⟩, 0, true) := by
          have had : addrS h s.R = 0 := by simp [addrS, hld, hst]
          simp only [stepS, evS, had]
          simp only [actS, h21, if_true]
        exact hst
      have HOK2 : Hid (okR (s.R.set h.d.toNat (reckS h.op (regv s.R h.a) (regv s.R h.b) (regv s.R h.c) h.im))) := by
        have q := actS_R (Bs := Bs) (s := ⟨s.R, s.E ++ [evS at' h s], s.p, s.D⟩) (h := h) S.inv.1 HO.out HRS.out
        have e : actS Bs h ⟨s.R, s.E ++ [evS at' h s], s.p, s.D⟩ = stepS at' Bs h s := rfl
        rw [e, HST.out] at q
        exact q
      have HP2 : Hid (-8589934592 ≤ s.p + 1 ∧ s.p + 1 ≤ 8589934592) := by
        have q := actS_p (Bs := Bs) (s := ⟨s.R, s.E ++ [evS at' h s], s.p, s.D⟩) (h := h) hq0 (by simp only []; omega)
        have e : actS Bs h ⟨s.R, s.E ++ [evS at' h s], s.p, s.D⟩ = stepS at' Bs h s := rfl
        rw [e, HST.out] at q
        exact q
      rw [hld] at CLD
      rw [hst] at CST
      have CRK : Hid (∀ w1, Calls Tryz.prog 32 #[(Cel.host h).val, (Cel.regs s.R).val] w1 fun e w' => e = .returned (.int .u32 (reckS h.op (regv s.R h.a) (regv s.R h.b) (regv s.R h.c) h.im)) ∧ Below w1.heap.size w1 w') := fun w1 => rreckon_c h s.R HO.out HRS.out o1 h21 w1
      have q28 : (h.op == 28) = false := by simp; omega
      have q29 : (h.op == 29) = false := by simp; omega
      have q30 : (h.op == 30) = false := by simp; omega
      have q31 : (h.op == 31) = false := by simp; omega
      generalize reckS h.op (regv s.R h.a) (regv s.R h.b) (regv s.R h.c) h.im = rv at *
      go_wp2_with (first
        | ((with_reducible refine wpl_isLoad ?_); first
          | (refine S.ld 3 _ rfl _ 0 rfl 1 (Cel.host h) rfl _ rfl _ Tryz.underlying3 rfl rfl ?_)
          | (refine S.ld 3 _ rfl _ 1 rfl 1 (Cel.host h) rfl _ rfl _ Tryz.underlying3 rfl rfl ?_)
          | (refine S.ld 3 _ rfl _ 2 rfl 1 (Cel.host h) rfl _ rfl _ Tryz.underlying3 rfl rfl ?_)
          | (refine S.ld 26 _ rfl _ 5 rfl 1 (Cel.host h) rfl _ rfl _ Tryz.underlying26 rfl rfl ?_))
        | ((with_reducible refine wpl_isStore ?_); first
          | (refine S.store1 rfl 26 _ _ rfl _ 1 _ rfl rfl 0 (Cel.ev _ _ _) rfl rfl (by simp [Cel.cells]) (Cel.ev _ _ _) rfl szU ?_; clear S; intro w9 S; simp only [List.set_cons_zero, List.set_cons_succ] at S)
          | (refine S.store1 rfl 3 _ _ rfl _ 33 _ rfl rfl 2 (Cel.res _ _ _ _) rfl rfl (by rw [res_length hR32]; omega) _ (set_33 hR32 _ _ _ _) szI ?_; clear S; intro w9 S; simp only [List.set_cons_zero, List.set_cons_succ] at S))
        | ((with_reducible refine wpl_isDst 132 ?_); refine wpl_dst 132 rfl (.bool false) (by go_simp; try simp only [q28]) rfl ?_)
        | ((with_reducible refine wpl_isDst 135 ?_); refine wpl_dst 135 rfl (.bool false) (by go_simp; try simp only [q29]) rfl ?_)
        | ((with_reducible refine wpl_isDst 153 ?_); refine wpl_dst 153 rfl (.bool false) (by go_simp; try simp only [q29]) rfl ?_)
        | ((with_reducible refine wpl_isDst 157 ?_); refine wpl_dst 157 rfl (.bool false) (by go_simp; try simp only [q30]) rfl ?_)
        | ((with_reducible refine wpl_isDst 161 ?_); refine wpl_dst 161 rfl (.bool false) (by go_simp; try simp only [q31]) rfl ?_)
        | (go_at_call 28; refine (CLD.out _).mono ?_; rintro e w8 ⟨rfl, rfl⟩)
        | (go_at_call 30; refine (CST.out _).mono ?_; rintro e w8 ⟨rfl, rfl⟩))
      refine Upto.start (S := fun w' => SH (runZ pm l0 lo hi Bs G q base (.slice A s.E.length c) s.E s.D) w w' [(b14, Cel.ev (at' + s.p) 0 (costS h.op)), (b13, Cel.host h), (b11, Cel.res s.R (.slice A s.E.length c) 0 s.p), (b10, Cel.res (List.replicate 32 0) (.slice none 0 0) 0 0), (b7, Cel.regs R0)]) 8 (by kernel_rfl) ?_
      replace S := S.drew
      refine Upto.take (i := 0) (oi := { dst := some 72, op := Op.fieldAddr 31 (Operand.tmp 13) 1, type := 0, pos := "sourdineref5.go:242", after := #[], guard := none }) (v := ?_) rfl (by kernel_rfl) (by kernel_rfl) (by kernel_rfl) (by kernel_rfl) (fun _ _ _ h => h) (Or.inl ⟨by rfl, ?_⟩) (by exact S) ?_
      rotate_left 1
      · intro w hSw
        clear hSw
        go_simp
        try with_reducible rfl
      simp only [Act.put, List.setIfInBounds_toArray, List.set_cons_zero, List.set_cons_succ]
      refine Upto.take (i := 1) (oi := { dst := some 73, op := Op.load 3 (Operand.tmp 72), type := 3, pos := "sourdineref5.go:242", after := #[{ on := 0, ground := Ground.data }], guard := none }) (v := _) rfl (by kernel_rfl) (by kernel_rfl) (by kernel_rfl) (by kernel_rfl) (fun _ _ _ h => h) (y_load1 (by rfl) _ _ rfl _ _ rfl 1 _ rfl _ rfl _ Tryz.underlying3 rfl) (by exact S) ?_
      simp only [Act.put, List.setIfInBounds_toArray, List.set_cons_zero, List.set_cons_succ]
      refine Upto.take (i := 2) (oi := { dst := some 74, op := Op.load 31 (Operand.tmp 13), type := 31, pos := "sourdineref5.go:242", after := #[], guard := none }) (v := _) rfl (by kernel_rfl) (by kernel_rfl) (by kernel_rfl) (by kernel_rfl) (fun _ _ _ h => h) (y_loadAll (by rfl) _ _ rfl _ rfl 1 _ rfl _ Tryz.underlying31 rfl szHost) (by exact S) ?_
      simp only [Act.put, List.setIfInBounds_toArray, List.set_cons_zero, List.set_cons_succ]
      refine Upto.take (i := 3) (oi := { dst := some 75, op := Op.fieldAddr 52 (Operand.tmp 11) 0, type := 0, pos := "sourdineref5.go:242", after := #[], guard := none }) (v := ?_) rfl (by kernel_rfl) (by kernel_rfl) (by kernel_rfl) (by kernel_rfl) (fun _ _ _ h => h) (Or.inl ⟨by rfl, ?_⟩) (by exact S) ?_
      rotate_left 1
      · intro w hSw
        clear hSw
        go_simp
        try with_reducible rfl
      simp only [Act.put, List.setIfInBounds_toArray, List.set_cons_zero, List.set_cons_succ]
      refine Upto.take (i := 4) (oi := { dst := some 76, op := Op.load 27 (Operand.tmp 75), type := 27, pos := "sourdineref5.go:242", after := #[{ on := 3, ground := Ground.data }], guard := none }) (v := _) rfl (by kernel_rfl) (by kernel_rfl) (by kernel_rfl) (by kernel_rfl) (fun _ _ _ h => h) (y_loadRegs (by rfl) _ _ rfl _ rfl 2 _ _ _ _ rfl _ Tryz.underlying27 rfl (by rw [rc_length, hR32]; exact szRegs)) (by exact S) ?_
      simp only [Act.put, List.setIfInBounds_toArray, List.set_cons_zero, List.set_cons_succ]
      refine Upto.ready (rs := [5, 6]) (by kernel_rfl) (by simp) ?_
      refine Nexts.cons rfl (by decide) (fun K hK => ?_) (Nexts.cons rfl (by decide) (fun K hK => ?_) (Nexts.nil))
      · go_simp
        go_wp2_with (refine (CRK.out _).mono ?_; rintro e w15 ⟨rfl, hw15⟩)
        replace S := S.below hw15
        clear hw15
        refine hK.out _ _ (by exact S) ?_
        clear hK K
        refine Upto.ready (rs := [6]) (by kernel_rfl) (by simp) ?_
        refine Nexts.cons rfl (by decide) (fun K hK => ?_) Nexts.nil
        go_simp
        refine hK.out _ _ (by exact S) ?_
        clear hK K
        refine Upto.take (i := 7) (oi := { dst := some 79, op := Op.indexAddr 27 (Operand.tmp 78) (Operand.tmp 73), type := 0, pos := "sourdineref5.go:242", after := #[{ on := 6, ground := Ground.data }, { on := 1, ground := Ground.data }, { on := 0, ground := Ground.phase }, { on := 1, ground := Ground.phase }, { on := 2, ground := Ground.phase }, { on := 3, ground := Ground.phase }, { on := 4, ground := Ground.phase }, { on := 5, ground := Ground.phase }], guard := none }) (v := ?_) rfl (by kernel_rfl) (by kernel_rfl) (by kernel_rfl) (by kernel_rfl) (fun _ _ _ h => h) (Or.inl ⟨by rfl, ?_⟩) (by exact S) ?_
        rotate_left 1
        · intro w hSw
          clear hSw
          go_simp
          try with_reducible rfl
        simp only [Act.put, List.setIfInBounds_toArray, List.set_cons_zero, List.set_cons_succ]
        refine Upto.ready (rs := [8]) (by kernel_rfl) (by simp) ?_
        refine Nexts.last rfl (fun K hK => ?_)
        rw [if_pos (by rfl)]
        refine S.wpStore1 26 _ _ rfl _ h.d.toNat _ rfl rfl 2 _ rfl rfl (by rw [res_length hR32]; omega) _ (set_reg (by omega) _ _ _ _) szU ?_
        clear S
        intro w16 S
        simp only [List.set_cons_zero, List.set_cons_succ] at S
        refine hK.out _ _ ?_
        simp only [Act.put, List.setIfInBounds_toArray, List.set_cons_zero, List.set_cons_succ]
        clear hK K
        refine Upto.done (by kernel_rfl) ?_ _
        have hRX : (s.R.set h.d.toNat rv).length = 32 := HOK2.out.1
        go_wp2_with (first
          | ((with_reducible refine wpl_isLoad ?_); first
            | (refine S.ld 47 _ rfl _ 32 rfl 2 (Cel.res _ _ _ _) rfl _ (res_32 hRX _ _ _) _ Tryz.underlying47 rfl rfl ?_)
            | (refine S.ldAll 59 _ rfl _ rfl 0 (Cel.ev _ _ _) rfl _ Tryz.underlying59 rfl szEv rfl ?_)
            | (refine S.ldAll 52 _ rfl _ rfl 2 (Cel.res _ _ _ _) rfl _ Tryz.underlying52 rfl (by rw [res_length hRX]; exact szRef) rfl ?_))
          | ((with_reducible refine wpl_isStore ?_); first
            | (refine S.store1 rfl 47 _ _ rfl _ 32 _ rfl rfl 2 (Cel.res _ _ _ _) rfl rfl (by rw [res_length hRX]; omega) _ (set_32 hRX _ _ _ _) szEvs ?_; clear S; intro w22 S; simp only [List.set_cons_zero, List.set_cons_succ] at S)
            | (refine S.storeAll rfl 52 _ _ rfl _ (Cel.res _ _ _ _) rfl rfl 3 _ rfl (by rw [res_length hRX, res_length (by simp)]) (one_res rfl) (by rw [res_length hRX]; exact szRef) ?_; clear S; intro w9 S; simp only [List.set_cons_zero, List.set_cons_succ] at S))
          | ((with_reducible refine wpl_is ?_); first
            | (refine S.slice1 rfl _ rfl _ _ _ rfl ?_; clear S; intro w20 S)
            | (refine wpList_append_lies _ rfl _ _ 47 rfl base 59 i0 _ 3 24 Tryz.underlying47 HI.out.1 HI.out.2.1 HI.out.2.2.1 HI.out.2.2.2 rfl (by decide) (.slice A s.E.length c) s.E.length (evC s.E) rfl S.inv.1.2.1 ⟨_, 0, none⟩ 1 1 (HEv.cells ⟨at' + s.p, 0, costS h.op⟩) rfl rfl S.inv.2 (one_ev _) (by decide) (by simp only [maxLen]; omega) (by omega) S.inv.1.2.2 _ rfl ?_; intro g cap w21 hown hgrow hat hlt; have S2 := (S.dropA.appended (v' := .slice (some ⟨g, 0, none⟩) (s.E.length + 1) cap) (E' := s.E ++ [⟨at' + s.p, 0, costS h.op⟩]) HB.out.1 HB.out.2.1 HB.out.2.2 (by unfold EvRow; rw [evC_snoc, List.length_append]; exact hown) hgrow (fun g' hg' => by simp only [Value.ownBlock, Option.some.injEq] at hg'; subst hg'; exact hat)).1; clear hown hgrow hat hlt S; have S := S2; clear S2)))
        go_roundw
        case rel =>
          refine ⟨⟨s.R.set h.d.toNat rv, s.E ++ [⟨at' + s.p, 0, costS h.op⟩], s.p + 1, s.D⟩, s.p, some ⟨g, 0, none⟩, cap, k, rfl, ?_, HOK2.out, HP2.out, by simp only [List.length_append, List.length_cons, List.length_nil]; omega, ?_⟩
          · simp only [List.length_append, List.length_cons, List.length_nil, Nat.zero_add]
            exact S.fewer 2
          · rw [HRUN2.out, HST.out]
            rfl
        case measure =>
          have h1 := HOLD.out
          have h2 : evLen w22 b11 = s.E.length + 1 := evLen_of (i := 2) S rfl hRX
          simp only [rrunMeas, h1, h2]
          omega
      · go_simp
        refine hK.out _ _ (by exact S) ?_
        clear hK K
        refine Upto.ready (rs := [5]) (by kernel_rfl) (by simp) ?_
        refine Nexts.cons rfl (by decide) (fun K hK => ?_) Nexts.nil
        go_simp
        go_wp2_with (refine (CRK.out _).mono ?_; rintro e w15 ⟨rfl, hw15⟩)
        replace S := S.below hw15
        clear hw15
        refine hK.out _ _ (by exact S) ?_
        clear hK K
        refine Upto.take (i := 7) (oi := { dst := some 79, op := Op.indexAddr 27 (Operand.tmp 78) (Operand.tmp 73), type := 0, pos := "sourdineref5.go:242", after := #[{ on := 6, ground := Ground.data }, { on := 1, ground := Ground.data }, { on := 0, ground := Ground.phase }, { on := 1, ground := Ground.phase }, { on := 2, ground := Ground.phase }, { on := 3, ground := Ground.phase }, { on := 4, ground := Ground.phase }, { on := 5, ground := Ground.phase }], guard := none }) (v := ?_) rfl (by kernel_rfl) (by kernel_rfl) (by kernel_rfl) (by kernel_rfl) (fun _ _ _ h => h) (Or.inl ⟨by rfl, ?_⟩) (by exact S) ?_
        rotate_left 1
        · intro w hSw
          clear hSw
          go_simp
          try with_reducible rfl
        simp only [Act.put, List.setIfInBounds_toArray, List.set_cons_zero, List.set_cons_succ]
        refine Upto.ready (rs := [8]) (by kernel_rfl) (by simp) ?_
        refine Nexts.last rfl (fun K hK => ?_)
        rw [if_pos (by rfl)]
        refine S.wpStore1 26 _ _ rfl _ h.d.toNat _ rfl rfl 2 _ rfl rfl (by rw [res_length hR32]; omega) _ (set_reg (by omega) _ _ _ _) szU ?_
        clear S
        intro w16 S
        simp only [List.set_cons_zero, List.set_cons_succ] at S
        refine hK.out _ _ ?_
        simp only [Act.put, List.setIfInBounds_toArray, List.set_cons_zero, List.set_cons_succ]
        clear hK K
        refine Upto.done (by kernel_rfl) ?_ _
        have hRX : (s.R.set h.d.toNat rv).length = 32 := HOK2.out.1
        go_wp2_with (first
          | ((with_reducible refine wpl_isLoad ?_); first
            | (refine S.ld 47 _ rfl _ 32 rfl 2 (Cel.res _ _ _ _) rfl _ (res_32 hRX _ _ _) _ Tryz.underlying47 rfl rfl ?_)
            | (refine S.ldAll 59 _ rfl _ rfl 0 (Cel.ev _ _ _) rfl _ Tryz.underlying59 rfl szEv rfl ?_)
            | (refine S.ldAll 52 _ rfl _ rfl 2 (Cel.res _ _ _ _) rfl _ Tryz.underlying52 rfl (by rw [res_length hRX]; exact szRef) rfl ?_))
          | ((with_reducible refine wpl_isStore ?_); first
            | (refine S.store1 rfl 47 _ _ rfl _ 32 _ rfl rfl 2 (Cel.res _ _ _ _) rfl rfl (by rw [res_length hRX]; omega) _ (set_32 hRX _ _ _ _) szEvs ?_; clear S; intro w22 S; simp only [List.set_cons_zero, List.set_cons_succ] at S)
            | (refine S.storeAll rfl 52 _ _ rfl _ (Cel.res _ _ _ _) rfl rfl 3 _ rfl (by rw [res_length hRX, res_length (by simp)]) (one_res rfl) (by rw [res_length hRX]; exact szRef) ?_; clear S; intro w9 S; simp only [List.set_cons_zero, List.set_cons_succ] at S))
          | ((with_reducible refine wpl_is ?_); first
            | (refine S.slice1 rfl _ rfl _ _ _ rfl ?_; clear S; intro w20 S)
            | (refine wpList_append_lies _ rfl _ _ 47 rfl base 59 i0 _ 3 24 Tryz.underlying47 HI.out.1 HI.out.2.1 HI.out.2.2.1 HI.out.2.2.2 rfl (by decide) (.slice A s.E.length c) s.E.length (evC s.E) rfl S.inv.1.2.1 ⟨_, 0, none⟩ 1 1 (HEv.cells ⟨at' + s.p, 0, costS h.op⟩) rfl rfl S.inv.2 (one_ev _) (by decide) (by simp only [maxLen]; omega) (by omega) S.inv.1.2.2 _ rfl ?_; intro g cap w21 hown hgrow hat hlt; have S2 := (S.dropA.appended (v' := .slice (some ⟨g, 0, none⟩) (s.E.length + 1) cap) (E' := s.E ++ [⟨at' + s.p, 0, costS h.op⟩]) HB.out.1 HB.out.2.1 HB.out.2.2 (by unfold EvRow; rw [evC_snoc, List.length_append]; exact hown) hgrow (fun g' hg' => by simp only [Value.ownBlock, Option.some.injEq] at hg'; subst hg'; exact hat)).1; clear hown hgrow hat hlt S; have S := S2; clear S2)))
        go_roundw
        case rel =>
          refine ⟨⟨s.R.set h.d.toNat rv, s.E ++ [⟨at' + s.p, 0, costS h.op⟩], s.p + 1, s.D⟩, s.p, some ⟨g, 0, none⟩, cap, k, rfl, ?_, HOK2.out, HP2.out, by simp only [List.length_append, List.length_cons, List.length_nil]; omega, ?_⟩
          · simp only [List.length_append, List.length_cons, List.length_nil, Nat.zero_add]
            exact S.fewer 2
          · rw [HRUN2.out, HST.out]
            rfl
        case measure =>
          have h1 := HOLD.out
          have h2 : evLen w22 b11 = s.E.length + 1 := evLen_of (i := 2) S rfl hRX
          simp only [rrunMeas, h1, h2]
          omega
    by_cases h24 : h.op ≤ 24
    · have hls0 : 1 ≤ loadsS h.op ∧ loadsS h.op ≤ 4 := by unfold loadsS; (repeat' split) <;> omega
      obtain ⟨got, hgot⟩ : ∃ x, ldGot Bs s.D h s.R = x := ⟨_, rfl⟩
      obtain ⟨er, her⟩ : ∃ x, ldErr Bs h s.R = x := ⟨_, rfl⟩
      have CLO : Hid (∀ w1, MemAt w1 pm l0 lo hi Bs G s.D q → Calls Tryz.prog 29 #[.pointer (some ⟨pm, 0, none⟩), .int .u32 ad, .int .u32 (loadsS h.op)] w1 fun e w' => e = .returned (.tuple #[.int .u32 got, .int .i64 er]) ∧ Below w1.heap.size w1 w') := fun w1 hm => by
        have q := rload_c hm hBs ad (loadsS h.op) had0.1 had0.2
        rw [← hgot, ← her]
        unfold ldGot ldErr
        rw [HAD.out]
        exact q
      have had2 : addrS h s.R = ad := by unfold addrS; rw [if_pos (.inl (by omega))]; exact HAD.out
      have HER : Hid (ldErr Bs h s.R = er ∧ ldGot Bs s.D h s.R = got) := ⟨her, hgot⟩
      clear her hgot
      have els : IntKind.u32.wrap (loadsS h.op) = loadsS h.op := by rw [IntKind.wrap_u32]; omega
      by_cases her0 : er = 0
      · subst her0
        have HST : Hid (stepS at' Bs h s = (⟨s.R.set h.d.toNat got, s.E ++ [⟨at' + s.p, ad, costS h.op⟩], s.p + 1, s.D⟩, 0, true)) := by
          have hst : stepS at' Bs h s = (⟨s.R.set h.d.toNat got, s.E ++ [⟨at' + s.p, ad, costS h.op⟩], s.p + 1, s.D⟩, 0, true) := by
            have had : addrS h s.R = ad := by exact had2
            simp only [stepS, evS, had]
            simp only [actS]; rw [if_neg (by omega), if_pos (by omega), if_pos HER.out.1, HER.out.2]
          exact hst
        have HOK2 : Hid (okR (s.R.set h.d.toNat got)) := by
          have q := actS_R (Bs := Bs) (s := ⟨s.R, s.E ++ [evS at' h s], s.p, s.D⟩) (h := h) S.inv.1 HO.out HRS.out
          have e : actS Bs h ⟨s.R, s.E ++ [evS at' h s], s.p, s.D⟩ = stepS at' Bs h s := rfl
          rw [e, HST.out] at q
          exact q
        have HP2 : Hid (-8589934592 ≤ s.p + 1 ∧ s.p + 1 ≤ 8589934592) := by
          have q := actS_p (Bs := Bs) (s := ⟨s.R, s.E ++ [evS at' h s], s.p, s.D⟩) (h := h) hq0 (by simp only []; omega)
          have e : actS Bs h ⟨s.R, s.E ++ [evS at' h s], s.p, s.D⟩ = stepS at' Bs h s := rfl
          rw [e, HST.out] at q
          exact q
        generalize loadsS h.op = ls at *
        have hRX : (s.R.set h.d.toNat got).length = 32 := HOK2.out.1
        go_wp2_with (first
          | ((with_reducible refine wpl_isLoad ?_); first
            | (refine S.ld 3 _ rfl _ 0 rfl 1 (Cel.host h) rfl _ rfl _ Tryz.underlying3 rfl rfl ?_)
            | (refine S.ld 3 _ rfl _ 1 rfl 1 (Cel.host h) rfl _ rfl _ Tryz.underlying3 rfl rfl ?_)
            | (refine S.ld 3 _ rfl _ 2 rfl 1 (Cel.host h) rfl _ rfl _ Tryz.underlying3 rfl rfl ?_)
            | (refine S.ld 26 _ rfl _ 5 rfl 1 (Cel.host h) rfl _ rfl _ Tryz.underlying26 rfl rfl ?_)
            | (refine S.ld 26 _ rfl _ _ rfl 2 (Cel.res _ _ _ _) rfl _ (res_reg HAA.out _ _ _) _ Tryz.underlying26 rfl rfl ?_)
            | (refine S.ld 47 _ rfl _ 32 rfl 2 (Cel.res _ _ _ _) rfl _ (res_32 hRX _ _ _) _ Tryz.underlying47 rfl rfl ?_)
            | (refine S.ldAll 59 _ rfl _ rfl 0 (Cel.ev _ _ _) rfl _ Tryz.underlying59 rfl szEv rfl ?_)
            | (refine S.ldAll 52 _ rfl _ rfl 2 (Cel.res _ _ _ _) rfl _ Tryz.underlying52 rfl (by rw [res_length hRX]; exact szRef) rfl ?_))
          | ((with_reducible refine wpl_isStore ?_); first
            | (refine S.store1 rfl 26 _ _ rfl _ 1 _ rfl rfl 0 (Cel.ev _ _ _) rfl rfl (by simp [Cel.cells]) (Cel.ev _ _ _) rfl szU ?_; clear S; intro w9 S; simp only [List.set_cons_zero, List.set_cons_succ] at S)
            | (refine S.store1 rfl 3 _ _ rfl _ 33 _ rfl rfl 2 (Cel.res _ _ _ _) rfl rfl (by rw [res_length hR32]; omega) _ (set_33 hR32 _ _ _ _) szI ?_; clear S; intro w9 S; simp only [List.set_cons_zero, List.set_cons_succ] at S)
            | (refine S.store1 rfl 26 _ _ rfl _ h.d.toNat _ rfl rfl 2 (Cel.res _ _ _ _) rfl rfl (by rw [res_length hR32]; omega) _ (set_reg (by omega) _ _ _ _) szU ?_; clear S; intro w9 S; simp only [List.set_cons_zero, List.set_cons_succ] at S)
            | (refine S.store1 rfl 47 _ _ rfl _ 32 _ rfl rfl 2 (Cel.res _ _ _ _) rfl rfl (by rw [res_length hRX]; omega) _ (set_32 hRX _ _ _ _) szEvs ?_; clear S; intro w22 S; simp only [List.set_cons_zero, List.set_cons_succ] at S)
            | (refine S.storeAll rfl 52 _ _ rfl _ (Cel.res _ _ _ _) rfl rfl 3 _ rfl (by rw [res_length hRX, res_length (by simp)]) (one_res rfl) (by rw [res_length hRX]; exact szRef) ?_; clear S; intro w9 S; simp only [List.set_cons_zero, List.set_cons_succ] at S))
          | ((with_reducible refine wpl_is ?_); first
            | (refine S.slice1 rfl _ rfl _ _ _ rfl ?_; clear S; intro w20 S)
            | (refine wpList_append_lies _ rfl _ _ 47 rfl base 59 i0 _ 3 24 Tryz.underlying47 HI.out.1 HI.out.2.1 HI.out.2.2.1 HI.out.2.2.2 rfl (by decide) (.slice A s.E.length c) s.E.length (evC s.E) rfl S.inv.1.2.1 ⟨_, 0, none⟩ 1 1 (HEv.cells ⟨at' + s.p, ad, costS h.op⟩) rfl rfl S.inv.2 (one_ev _) (by decide) (by simp only [maxLen]; omega) (by omega) S.inv.1.2.2 _ rfl ?_; intro g cap w21 hown hgrow hat hlt; have S2 := (S.dropA.appended (v' := .slice (some ⟨g, 0, none⟩) (s.E.length + 1) cap) (E' := s.E ++ [⟨at' + s.p, ad, costS h.op⟩]) HB.out.1 HB.out.2.1 HB.out.2.2 (by unfold EvRow; rw [evC_snoc, List.length_append]; exact hown) hgrow (fun g' hg' => by simp only [Value.ownBlock, Option.some.injEq] at hg'; subst hg'; exact hat)).1; clear hown hgrow hat hlt S; have S := S2; clear S2))
          | (go_at_call 28; refine (CLD.out _).mono ?_; rintro e w8 ⟨rfl, rfl⟩)
          | (go_at_call 30; refine (CST.out _).mono ?_; rintro e w8 ⟨rfl, rfl⟩)
          | (go_at_call 29; refine (CLO.out _ S.inv.1).mono ?_; rintro e w8 ⟨rfl, hw8⟩; replace S := S.below hw8; clear hw8))
        go_roundw
        case rel =>
          refine ⟨⟨s.R.set h.d.toNat got, s.E ++ [⟨at' + s.p, ad, costS h.op⟩], s.p + 1, s.D⟩, s.p, some ⟨g, 0, none⟩, cap, k, rfl, ?_, HOK2.out, HP2.out, by simp only [List.length_append, List.length_cons, List.length_nil]; omega, ?_⟩
          · simp only [List.length_append, List.length_cons, List.length_nil, Nat.zero_add]
            exact S.fewer 2
          · rw [HRUN2.out, HST.out]
            rfl
        case measure =>
          have h1 := HOLD.out
          have h2 : evLen w22 b11 = s.E.length + 1 := evLen_of (i := 2) S rfl hRX
          simp only [rrunMeas, h1, h2]
          omega
      · have HST : Hid (stepS at' Bs h s = (⟨s.R, s.E ++ [⟨at' + s.p, ad, costS h.op⟩], s.p, s.D⟩, er, false)) := by
          have hst : stepS at' Bs h s = (⟨s.R, s.E ++ [⟨at' + s.p, ad, costS h.op⟩], s.p, s.D⟩, er, false) := by
            have had : addrS h s.R = ad := by exact had2
            simp only [stepS, evS, had]
            simp only [actS]; rw [if_neg (by omega), if_pos (by omega), if_neg (by rw [HER.out.1]; exact her0), HER.out.1]
          exact hst
        have HOK2 : Hid (okR (s.R)) := by
          have q := actS_R (Bs := Bs) (s := ⟨s.R, s.E ++ [evS at' h s], s.p, s.D⟩) (h := h) S.inv.1 HO.out HRS.out
          have e : actS Bs h ⟨s.R, s.E ++ [evS at' h s], s.p, s.D⟩ = stepS at' Bs h s := rfl
          rw [e, HST.out] at q
          exact q
        have HP2 : Hid (-8589934592 ≤ s.p ∧ s.p ≤ 8589934592) := by
          have q := actS_p (Bs := Bs) (s := ⟨s.R, s.E ++ [evS at' h s], s.p, s.D⟩) (h := h) hq0 (by simp only []; omega)
          have e : actS Bs h ⟨s.R, s.E ++ [evS at' h s], s.p, s.D⟩ = stepS at' Bs h s := rfl
          rw [e, HST.out] at q
          exact q
        have her1 : (er != 0) = true := by simpa using her0
        generalize loadsS h.op = ls at *
        have hRX : s.R.length = 32 := HOK2.out.1
        go_wp2_with (first
          | ((with_reducible refine wpl_isLoad ?_); first
            | (refine S.ld 3 _ rfl _ 0 rfl 1 (Cel.host h) rfl _ rfl _ Tryz.underlying3 rfl rfl ?_)
            | (refine S.ld 3 _ rfl _ 1 rfl 1 (Cel.host h) rfl _ rfl _ Tryz.underlying3 rfl rfl ?_)
            | (refine S.ld 3 _ rfl _ 2 rfl 1 (Cel.host h) rfl _ rfl _ Tryz.underlying3 rfl rfl ?_)
            | (refine S.ld 26 _ rfl _ 5 rfl 1 (Cel.host h) rfl _ rfl _ Tryz.underlying26 rfl rfl ?_)
            | (refine S.ld 26 _ rfl _ _ rfl 2 (Cel.res _ _ _ _) rfl _ (res_reg HAA.out _ _ _) _ Tryz.underlying26 rfl rfl ?_)
            | (refine S.ld 47 _ rfl _ 32 rfl 2 (Cel.res _ _ _ _) rfl _ (res_32 hRX _ _ _) _ Tryz.underlying47 rfl rfl ?_)
            | (refine S.ldAll 59 _ rfl _ rfl 0 (Cel.ev _ _ _) rfl _ Tryz.underlying59 rfl szEv rfl ?_)
            | (refine S.ldAll 52 _ rfl _ rfl 2 (Cel.res _ _ _ _) rfl _ Tryz.underlying52 rfl (by rw [res_length hRX]; exact szRef) rfl ?_))
          | ((with_reducible refine wpl_isStore ?_); first
            | (refine S.store1 rfl 26 _ _ rfl _ 1 _ rfl rfl 0 (Cel.ev _ _ _) rfl rfl (by simp [Cel.cells]) (Cel.ev _ _ _) rfl szU ?_; clear S; intro w9 S; simp only [List.set_cons_zero, List.set_cons_succ] at S)
            | (refine S.store1 rfl 3 _ _ rfl _ 33 _ rfl rfl 2 (Cel.res _ _ _ _) rfl rfl (by rw [res_length hR32]; omega) _ (set_33 hR32 _ _ _ _) szI ?_; clear S; intro w9 S; simp only [List.set_cons_zero, List.set_cons_succ] at S)
            | (refine S.store1 rfl 26 _ _ rfl _ h.d.toNat _ rfl rfl 2 (Cel.res _ _ _ _) rfl rfl (by rw [res_length hR32]; omega) _ (set_reg (by omega) _ _ _ _) szU ?_; clear S; intro w9 S; simp only [List.set_cons_zero, List.set_cons_succ] at S)
            | (refine S.store1 rfl 47 _ _ rfl _ 32 _ rfl rfl 2 (Cel.res _ _ _ _) rfl rfl (by rw [res_length hRX]; omega) _ (set_32 hRX _ _ _ _) szEvs ?_; clear S; intro w22 S; simp only [List.set_cons_zero, List.set_cons_succ] at S)
            | (refine S.storeAll rfl 52 _ _ rfl _ (Cel.res _ _ _ _) rfl rfl 3 _ rfl (by rw [res_length hRX, res_length (by simp)]) (one_res rfl) (by rw [res_length hRX]; exact szRef) ?_; clear S; intro w9 S; simp only [List.set_cons_zero, List.set_cons_succ] at S))
          | ((with_reducible refine wpl_is ?_); first
            | (refine S.slice1 rfl _ rfl _ _ _ rfl ?_; clear S; intro w20 S)
            | (refine wpList_append_lies _ rfl _ _ 47 rfl base 59 i0 _ 3 24 Tryz.underlying47 HI.out.1 HI.out.2.1 HI.out.2.2.1 HI.out.2.2.2 rfl (by decide) (.slice A s.E.length c) s.E.length (evC s.E) rfl S.inv.1.2.1 ⟨_, 0, none⟩ 1 1 (HEv.cells ⟨at' + s.p, ad, costS h.op⟩) rfl rfl S.inv.2 (one_ev _) (by decide) (by simp only [maxLen]; omega) (by omega) S.inv.1.2.2 _ rfl ?_; intro g cap w21 hown hgrow hat hlt; have S2 := (S.dropA.appended (v' := .slice (some ⟨g, 0, none⟩) (s.E.length + 1) cap) (E' := s.E ++ [⟨at' + s.p, ad, costS h.op⟩]) HB.out.1 HB.out.2.1 HB.out.2.2 (by unfold EvRow; rw [evC_snoc, List.length_append]; exact hown) hgrow (fun g' hg' => by simp only [Value.ownBlock, Option.some.injEq] at hg'; subst hg'; exact hat)).1; clear hown hgrow hat hlt S; have S := S2; clear S2))
          | (go_at_call 28; refine (CLD.out _).mono ?_; rintro e w8 ⟨rfl, rfl⟩)
          | (go_at_call 30; refine (CST.out _).mono ?_; rintro e w8 ⟨rfl, rfl⟩)
          | (go_at_call 29; refine (CLO.out _ S.inv.1).mono ?_; rintro e w8 ⟨rfl, hw8⟩; replace S := S.below hw8; clear hw8))
        refine bodyPost_ret (S.results rfl _ _ rfl 3 _ rfl _ Tryz.underlying52 rfl (by rw [res_length hRX]; exact szRef)) rfl ?_
        have HF : fin = (⟨s.R, s.E ++ [⟨at' + s.p, ad, costS h.op⟩], s.p, s.D⟩, er) := by
          rw [HRUN2.out, HST.out]
          rfl
        rw [HF]
        refine ⟨some ⟨g, 0, none⟩, cap, base, ?_, ?_, HB.out.2.2, HB.out.1, S.inv.1, S.mid, HOK2.out⟩
        · simp only [List.length_append, List.length_cons, List.length_nil, Nat.zero_add]
          rfl
        · simp only [List.length_append, List.length_cons, List.length_nil, Nat.zero_add]
          exact S.inv.2.1
    by_cases h27 : h.op ≤ 27
    · have hst1 : 1 ≤ storesS h.op ∧ storesS h.op ≤ 4 := by unfold storesS; (repeat' split) <;> omega
      have hld : loadsS h.op = 0 := by unfold loadsS; rw [if_neg (by omega), if_neg (by omega), if_neg (by omega)]
      rw [hld] at CLD
      obtain ⟨hB2, ub, vb⟩ := regv_at HRS.out b0 b1'
      have HBV : Hid (s.R[h.b.toNat]? = some (regv s.R h.b)) := hB2
      clear hB2
      obtain ⟨D', hD'⟩ : ∃ x, stDat Bs s.D h s.R = x := ⟨_, rfl⟩
      obtain ⟨er, her⟩ : ∃ x, stErr Bs h s.R = x := ⟨_, rfl⟩
      have CSO : Hid (∀ w1, MemAt w1 pm l0 lo hi Bs G s.D q → Calls Tryz.prog 31 #[.pointer (some ⟨pm, 0, none⟩), .int .u32 ad, .int .u32 (storesS h.op), .int .u32 (regv s.R h.b)] w1 fun e w' => e = .returned (.int .i64 er) ∧ MemAt w' pm l0 lo hi Bs G D' q ∧ Mid lo hi w1 w') := fun w1 hm => by
        have q := rstore_c hm hBs ad (storesS h.op) (regv s.R h.b) had0.1 had0.2 (by omega) (by omega)
        rw [← hD', ← her]
        unfold stDat stErr
        rw [HAD.out]
        exact q
      have had2 : addrS h s.R = ad := by unfold addrS; rw [if_pos (.inr (by omega))]; exact HAD.out
      have HER : Hid (stErr Bs h s.R = er ∧ stDat Bs s.D h s.R = D') := ⟨her, hD'⟩
      clear her hD'
      have ess : IntKind.u32.wrap (storesS h.op) = storesS h.op := by rw [IntKind.wrap_u32]; omega
      by_cases her0 : er = 0
      · subst her0
        have HST : Hid (stepS at' Bs h s = (⟨s.R, s.E ++ [⟨at' + s.p, ad, costS h.op⟩], s.p + 1, D'⟩, 0, true)) := by
          have hst : stepS at' Bs h s = (⟨s.R, s.E ++ [⟨at' + s.p, ad, costS h.op⟩], s.p + 1, D'⟩, 0, true) := by
            have had : addrS h s.R = ad := by exact had2
            simp only [stepS, evS, had]
            simp only [actS]; rw [if_neg (by omega), if_neg (by omega), if_pos (by omega), if_pos HER.out.1, HER.out.2]
          exact hst
        have HOK2 : Hid (okR (s.R)) := by
          have q := actS_R (Bs := Bs) (s := ⟨s.R, s.E ++ [evS at' h s], s.p, s.D⟩) (h := h) S.inv.1 HO.out HRS.out
          have e : actS Bs h ⟨s.R, s.E ++ [evS at' h s], s.p, s.D⟩ = stepS at' Bs h s := rfl
          rw [e, HST.out] at q
          exact q
        have HP2 : Hid (-8589934592 ≤ s.p + 1 ∧ s.p + 1 ≤ 8589934592) := by
          have q := actS_p (Bs := Bs) (s := ⟨s.R, s.E ++ [evS at' h s], s.p, s.D⟩) (h := h) hq0 (by simp only []; omega)
          have e : actS Bs h ⟨s.R, s.E ++ [evS at' h s], s.p, s.D⟩ = stepS at' Bs h s := rfl
          rw [e, HST.out] at q
          exact q
        generalize storesS h.op = ss at *
        have hRX : s.R.length = 32 := HOK2.out.1
        go_wp2_with (first
          | ((with_reducible refine wpl_isLoad ?_); first
            | (refine S.ld 3 _ rfl _ 0 rfl 1 (Cel.host h) rfl _ rfl _ Tryz.underlying3 rfl rfl ?_)
            | (refine S.ld 3 _ rfl _ 1 rfl 1 (Cel.host h) rfl _ rfl _ Tryz.underlying3 rfl rfl ?_)
            | (refine S.ld 3 _ rfl _ 2 rfl 1 (Cel.host h) rfl _ rfl _ Tryz.underlying3 rfl rfl ?_)
            | (refine S.ld 26 _ rfl _ 5 rfl 1 (Cel.host h) rfl _ rfl _ Tryz.underlying26 rfl rfl ?_)
            | (refine S.ld 26 _ rfl _ _ rfl 2 (Cel.res _ _ _ _) rfl _ (res_reg HAA.out _ _ _) _ Tryz.underlying26 rfl rfl ?_))
          | ((with_reducible refine wpl_isStore ?_); first
            | (refine S.store1 rfl 26 _ _ rfl _ 1 _ rfl rfl 0 (Cel.ev _ _ _) rfl rfl (by simp [Cel.cells]) (Cel.ev _ _ _) rfl szU ?_; clear S; intro w9 S; simp only [List.set_cons_zero, List.set_cons_succ] at S)
            | (refine S.store1 rfl 3 _ _ rfl _ 33 _ rfl rfl 2 (Cel.res _ _ _ _) rfl rfl (by rw [res_length hR32]; omega) _ (set_33 hR32 _ _ _ _) szI ?_; clear S; intro w9 S; simp only [List.set_cons_zero, List.set_cons_succ] at S))
          | (go_at_call 28; refine (CLD.out _).mono ?_; rintro e w8 ⟨rfl, rfl⟩)
          | (go_at_call 30; refine (CST.out _).mono ?_; rintro e w8 ⟨rfl, rfl⟩))
        refine Upto.start (S := fun w' => SH (runZ pm l0 lo hi Bs G q base (.slice A s.E.length c) s.E s.D).free w w' [(b14, Cel.ev (at' + s.p) ad (costS h.op)), (b13, Cel.host h), (b11, Cel.res s.R (.slice A s.E.length c) 0 s.p), (b10, Cel.res (List.replicate 32 0) (.slice none 0 0) 0 0), (b7, Cel.regs R0)]) 12 (by kernel_rfl) ?_
        replace S := S.drew
        refine Upto.take (i := 0) (oi := { dst := some 113, op := Op.move (Operand.tmp 3), type := 41, pos := "sourdineref5.go:231", after := #[], guard := none }) (v := ?_) rfl (by kernel_rfl) (by kernel_rfl) (by kernel_rfl) (by kernel_rfl) (fun _ _ _ h => h) (Or.inl ⟨by rfl, ?_⟩) (by exact S.toFree) ?_
        rotate_left 1
        · intro w hSw
          clear hSw
          go_simp
          try with_reducible rfl
        simp only [Act.put, List.setIfInBounds_toArray, List.set_cons_zero, List.set_cons_succ]
        refine Upto.take (i := 1) (oi := { dst := some 114, op := Op.move (Operand.tmp 17), type := 26, pos := "sourdineref5.go:231", after := #[], guard := none }) (v := ?_) rfl (by kernel_rfl) (by kernel_rfl) (by kernel_rfl) (by kernel_rfl) (fun _ _ _ h => h) (Or.inl ⟨by rfl, ?_⟩) (by exact S.toFree) ?_
        rotate_left 1
        · intro w hSw
          clear hSw
          go_simp
          try with_reducible rfl
        simp only [Act.put, List.setIfInBounds_toArray, List.set_cons_zero, List.set_cons_succ]
        refine Upto.take (i := 2) (oi := { dst := some 115, op := Op.fieldAddr 31 (Operand.tmp 13) 0, type := 0, pos := "sourdineref5.go:231", after := #[], guard := none }) (v := ?_) rfl (by kernel_rfl) (by kernel_rfl) (by kernel_rfl) (by kernel_rfl) (fun _ _ _ h => h) (Or.inl ⟨by rfl, ?_⟩) (by exact S.toFree) ?_
        rotate_left 1
        · intro w hSw
          clear hSw
          go_simp
          try with_reducible rfl
        simp only [Act.put, List.setIfInBounds_toArray, List.set_cons_zero, List.set_cons_succ]
        refine Upto.take (i := 3) (oi := { dst := some 116, op := Op.load 3 (Operand.tmp 115), type := 3, pos := "sourdineref5.go:231", after := #[{ on := 2, ground := Ground.data }], guard := none }) (v := _) rfl (by kernel_rfl) (by kernel_rfl) (by kernel_rfl) (by kernel_rfl) (fun _ _ _ h => h) (y_load1 (by rfl) _ _ rfl _ _ rfl 1 _ rfl _ rfl _ Tryz.underlying3 rfl) (by exact S.toFree) ?_
        simp only [Act.put, List.setIfInBounds_toArray, List.set_cons_zero, List.set_cons_succ]
        refine Upto.take (i := 6) (oi := { dst := some 119, op := Op.fieldAddr 31 (Operand.tmp 13) 3, type := 0, pos := "sourdineref5.go:231", after := #[], guard := none }) (v := ?_) rfl (by kernel_rfl) (by kernel_rfl) (by kernel_rfl) (by kernel_rfl) (fun _ _ _ h => h) (Or.inl ⟨by rfl, ?_⟩) (by exact S.toFree) ?_
        rotate_left 1
        · intro w hSw
          clear hSw
          go_simp
          try with_reducible rfl
        simp only [Act.put, List.setIfInBounds_toArray, List.set_cons_zero, List.set_cons_succ]
        refine Upto.take (i := 7) (oi := { dst := some 120, op := Op.load 3 (Operand.tmp 119), type := 3, pos := "sourdineref5.go:231", after := #[{ on := 6, ground := Ground.data }], guard := none }) (v := _) rfl (by kernel_rfl) (by kernel_rfl) (by kernel_rfl) (by kernel_rfl) (fun _ _ _ h => h) (y_load1 (by rfl) _ _ rfl _ _ rfl 1 _ rfl _ rfl _ Tryz.underlying3 rfl) (by exact S.toFree) ?_
        simp only [Act.put, List.setIfInBounds_toArray, List.set_cons_zero, List.set_cons_succ]
        refine Upto.take (i := 8) (oi := { dst := some 121, op := Op.fieldAddr 52 (Operand.tmp 11) 0, type := 0, pos := "sourdineref5.go:231", after := #[], guard := none }) (v := ?_) rfl (by kernel_rfl) (by kernel_rfl) (by kernel_rfl) (by kernel_rfl) (fun _ _ _ h => h) (Or.inl ⟨by rfl, ?_⟩) (by exact S.toFree) ?_
        rotate_left 1
        · intro w hSw
          clear hSw
          go_simp
          try with_reducible rfl
        simp only [Act.put, List.setIfInBounds_toArray, List.set_cons_zero, List.set_cons_succ]
        refine Upto.take (i := 9) (oi := { dst := some 122, op := Op.indexAddr 27 (Operand.tmp 121) (Operand.tmp 120), type := 0, pos := "sourdineref5.go:231", after := #[{ on := 8, ground := Ground.data }, { on := 7, ground := Ground.data }], guard := none }) (v := ?_) rfl (by kernel_rfl) (by kernel_rfl) (by kernel_rfl) (by kernel_rfl) (fun _ _ _ h => h) (Or.inl ⟨by rfl, ?_⟩) (by exact S.toFree) ?_
        rotate_left 1
        · intro w hSw
          clear hSw
          go_simp
          try with_reducible rfl
        simp only [Act.put, List.setIfInBounds_toArray, List.set_cons_zero, List.set_cons_succ]
        refine Upto.take (i := 10) (oi := { dst := some 123, op := Op.load 26 (Operand.tmp 122), type := 26, pos := "sourdineref5.go:231", after := #[{ on := 9, ground := Ground.data }], guard := none }) (v := _) rfl (by kernel_rfl) (by kernel_rfl) (by kernel_rfl) (by kernel_rfl) (fun _ _ _ h => h) (y_load1 (by rfl) _ _ rfl _ _ rfl 2 _ rfl _ (res_reg HBV.out _ _ _) _ Tryz.underlying26 rfl) (by exact S.toFree) ?_
        simp only [Act.put, List.setIfInBounds_toArray, List.set_cons_zero, List.set_cons_succ]
        refine Upto.ready (rs := [4]) (by kernel_rfl) (by simp) ?_
        refine Nexts.cons rfl (by decide) (fun K hK => ?_) Nexts.nil
        go_simp
        go_wp2_with (go_at_call 30; refine (CST.out _).mono ?_; rintro e w15 ⟨rfl, rfl⟩)
        refine hK.out _ _ (by exact S.toFree) ?_
        clear hK K
        refine Upto.take (i := 5) (oi := { dst := some 118, op := Op.convert 3 26 (Operand.tmp 117), type := 26, pos := "sourdineref5.go:231", after := #[{ on := 4, ground := Ground.data }], guard := none }) (v := ?_) rfl (by kernel_rfl) (by kernel_rfl) (by kernel_rfl) (by kernel_rfl) (fun _ _ _ h => h) (Or.inl ⟨by rfl, ?_⟩) (by exact S.toFree) ?_
        rotate_left 1
        · intro w hSw
          clear hSw
          go_simp
          try simp only [ess]
          try with_reducible rfl
        simp only [Act.put, List.setIfInBounds_toArray, List.set_cons_zero, List.set_cons_succ]
        refine Upto.ready (rs := [11]) (by kernel_rfl) (by simp) ?_
        refine Nexts.cons rfl (by decide) (fun K hK => ?_) Nexts.nil
        go_simp
        go_wp2_with (go_at_call 31; refine (CSO.out _ S.inv.1).mono ?_; rintro e w16 ⟨rfl, hm16, hw16⟩)
        replace S := S.touched HB.out.1 hm16 hw16
        clear hm16 hw16
        refine hK.out _ _ (by exact S.toFree) ?_
        clear hK K
        refine Upto.ready (rs := [12]) (by kernel_rfl) (by simp) ?_
        refine Nexts.last rfl (fun K hK => ?_)
        go_simp
        refine hK.out _ _ ?_
        clear hK K
        refine Upto.done (by kernel_rfl) ?_ _
        go_wp2_with (first
          | ((with_reducible refine wpl_isLoad ?_); first
            | (refine S.ld 3 _ rfl _ 0 rfl 1 (Cel.host h) rfl _ rfl _ Tryz.underlying3 rfl rfl ?_)
            | (refine S.ld 3 _ rfl _ 1 rfl 1 (Cel.host h) rfl _ rfl _ Tryz.underlying3 rfl rfl ?_)
            | (refine S.ld 3 _ rfl _ 2 rfl 1 (Cel.host h) rfl _ rfl _ Tryz.underlying3 rfl rfl ?_)
            | (refine S.ld 26 _ rfl _ 5 rfl 1 (Cel.host h) rfl _ rfl _ Tryz.underlying26 rfl rfl ?_)
            | (refine S.ld 26 _ rfl _ _ rfl 2 (Cel.res _ _ _ _) rfl _ (res_reg HAA.out _ _ _) _ Tryz.underlying26 rfl rfl ?_)
            | (refine S.ld 47 _ rfl _ 32 rfl 2 (Cel.res _ _ _ _) rfl _ (res_32 hRX _ _ _) _ Tryz.underlying47 rfl rfl ?_)
            | (refine S.ldAll 59 _ rfl _ rfl 0 (Cel.ev _ _ _) rfl _ Tryz.underlying59 rfl szEv rfl ?_)
            | (refine S.ldAll 52 _ rfl _ rfl 2 (Cel.res _ _ _ _) rfl _ Tryz.underlying52 rfl (by rw [res_length hRX]; exact szRef) rfl ?_))
          | ((with_reducible refine wpl_isStore ?_); first
            | (refine S.store1 rfl 26 _ _ rfl _ 1 _ rfl rfl 0 (Cel.ev _ _ _) rfl rfl (by simp [Cel.cells]) (Cel.ev _ _ _) rfl szU ?_; clear S; intro w9 S; simp only [List.set_cons_zero, List.set_cons_succ] at S)
            | (refine S.store1 rfl 3 _ _ rfl _ 33 _ rfl rfl 2 (Cel.res _ _ _ _) rfl rfl (by rw [res_length hR32]; omega) _ (set_33 hR32 _ _ _ _) szI ?_; clear S; intro w9 S; simp only [List.set_cons_zero, List.set_cons_succ] at S)
            | (refine S.store1 rfl 47 _ _ rfl _ 32 _ rfl rfl 2 (Cel.res _ _ _ _) rfl rfl (by rw [res_length hRX]; omega) _ (set_32 hRX _ _ _ _) szEvs ?_; clear S; intro w22 S; simp only [List.set_cons_zero, List.set_cons_succ] at S)
            | (refine S.storeAll rfl 52 _ _ rfl _ (Cel.res _ _ _ _) rfl rfl 3 _ rfl (by rw [res_length hRX, res_length (by simp)]) (one_res rfl) (by rw [res_length hRX]; exact szRef) ?_; clear S; intro w9 S; simp only [List.set_cons_zero, List.set_cons_succ] at S))
          | ((with_reducible refine wpl_is ?_); first
            | (refine S.slice1 rfl _ rfl _ _ _ rfl ?_; clear S; intro w20 S)
            | (refine wpList_append_lies _ rfl _ _ 47 rfl base 59 i0 _ 3 24 Tryz.underlying47 HI.out.1 HI.out.2.1 HI.out.2.2.1 HI.out.2.2.2 rfl (by decide) (.slice A s.E.length c) s.E.length (evC s.E) rfl S.inv.1.2.1 ⟨_, 0, none⟩ 1 1 (HEv.cells ⟨at' + s.p, ad, costS h.op⟩) rfl rfl S.inv.2 (one_ev _) (by decide) (by simp only [maxLen]; omega) (by omega) S.inv.1.2.2 _ rfl ?_; intro g cap w21 hown hgrow hat hlt; have S2 := (S.dropA.appended (v' := .slice (some ⟨g, 0, none⟩) (s.E.length + 1) cap) (E' := s.E ++ [⟨at' + s.p, ad, costS h.op⟩]) HB.out.1 HB.out.2.1 HB.out.2.2 (by unfold EvRow; rw [evC_snoc, List.length_append]; exact hown) hgrow (fun g' hg' => by simp only [Value.ownBlock, Option.some.injEq] at hg'; subst hg'; exact hat)).1; clear hown hgrow hat hlt S; have S := S2; clear S2))
          | (go_at_call 28; refine (CLD.out _).mono ?_; rintro e w8 ⟨rfl, rfl⟩)
          | (go_at_call 30; refine (CST.out _).mono ?_; rintro e w8 ⟨rfl, rfl⟩))
        go_roundw
        case rel =>
          refine ⟨⟨s.R, s.E ++ [⟨at' + s.p, ad, costS h.op⟩], s.p + 1, D'⟩, s.p, some ⟨g, 0, none⟩, cap, k, rfl, ?_, HOK2.out, HP2.out, by simp only [List.length_append, List.length_cons, List.length_nil]; omega, ?_⟩
          · simp only [List.length_append, List.length_cons, List.length_nil, Nat.zero_add]
            exact S.fewer 2
          · rw [HRUN2.out, HST.out]
            rfl
        case measure =>
          have h1 := HOLD.out
          have h2 : evLen w22 b11 = s.E.length + 1 := evLen_of (i := 2) S rfl hRX
          simp only [rrunMeas, h1, h2]
          omega
      · have HST : Hid (stepS at' Bs h s = (⟨s.R, s.E ++ [⟨at' + s.p, ad, costS h.op⟩], s.p, D'⟩, er, false)) := by
          have hst : stepS at' Bs h s = (⟨s.R, s.E ++ [⟨at' + s.p, ad, costS h.op⟩], s.p, D'⟩, er, false) := by
            have had : addrS h s.R = ad := by exact had2
            simp only [stepS, evS, had]
            simp only [actS]; rw [if_neg (by omega), if_neg (by omega), if_pos (by omega), if_neg (by rw [HER.out.1]; exact her0), HER.out.1, HER.out.2]
          exact hst
        have HOK2 : Hid (okR (s.R)) := by
          have q := actS_R (Bs := Bs) (s := ⟨s.R, s.E ++ [evS at' h s], s.p, s.D⟩) (h := h) S.inv.1 HO.out HRS.out
          have e : actS Bs h ⟨s.R, s.E ++ [evS at' h s], s.p, s.D⟩ = stepS at' Bs h s := rfl
          rw [e, HST.out] at q
          exact q
        have HP2 : Hid (-8589934592 ≤ s.p ∧ s.p ≤ 8589934592) := by
          have q := actS_p (Bs := Bs) (s := ⟨s.R, s.E ++ [evS at' h s], s.p, s.D⟩) (h := h) hq0 (by simp only []; omega)
          have e : actS Bs h ⟨s.R, s.E ++ [evS at' h s], s.p, s.D⟩ = stepS at' Bs h s := rfl
          rw [e, HST.out] at q
          exact q
        have her1 : (er != 0) = true := by simpa using her0
        generalize storesS h.op = ss at *
        have hRX : s.R.length = 32 := HOK2.out.1
        go_wp2_with (first
          | ((with_reducible refine wpl_isLoad ?_); first
            | (refine S.ld 3 _ rfl _ 0 rfl 1 (Cel.host h) rfl _ rfl _ Tryz.underlying3 rfl rfl ?_)
            | (refine S.ld 3 _ rfl _ 1 rfl 1 (Cel.host h) rfl _ rfl _ Tryz.underlying3 rfl rfl ?_)
            | (refine S.ld 3 _ rfl _ 2 rfl 1 (Cel.host h) rfl _ rfl _ Tryz.underlying3 rfl rfl ?_)
            | (refine S.ld 26 _ rfl _ 5 rfl 1 (Cel.host h) rfl _ rfl _ Tryz.underlying26 rfl rfl ?_)
            | (refine S.ld 26 _ rfl _ _ rfl 2 (Cel.res _ _ _ _) rfl _ (res_reg HAA.out _ _ _) _ Tryz.underlying26 rfl rfl ?_))
          | ((with_reducible refine wpl_isStore ?_); first
            | (refine S.store1 rfl 26 _ _ rfl _ 1 _ rfl rfl 0 (Cel.ev _ _ _) rfl rfl (by simp [Cel.cells]) (Cel.ev _ _ _) rfl szU ?_; clear S; intro w9 S; simp only [List.set_cons_zero, List.set_cons_succ] at S)
            | (refine S.store1 rfl 3 _ _ rfl _ 33 _ rfl rfl 2 (Cel.res _ _ _ _) rfl rfl (by rw [res_length hR32]; omega) _ (set_33 hR32 _ _ _ _) szI ?_; clear S; intro w9 S; simp only [List.set_cons_zero, List.set_cons_succ] at S))
          | (go_at_call 28; refine (CLD.out _).mono ?_; rintro e w8 ⟨rfl, rfl⟩)
          | (go_at_call 30; refine (CST.out _).mono ?_; rintro e w8 ⟨rfl, rfl⟩))
        refine Upto.start (S := fun w' => SH (runZ pm l0 lo hi Bs G q base (.slice A s.E.length c) s.E s.D).free w w' [(b14, Cel.ev (at' + s.p) ad (costS h.op)), (b13, Cel.host h), (b11, Cel.res s.R (.slice A s.E.length c) 0 s.p), (b10, Cel.res (List.replicate 32 0) (.slice none 0 0) 0 0), (b7, Cel.regs R0)]) 12 (by kernel_rfl) ?_
        replace S := S.drew
        refine Upto.take (i := 0) (oi := { dst := some 113, op := Op.move (Operand.tmp 3), type := 41, pos := "sourdineref5.go:231", after := #[], guard := none }) (v := ?_) rfl (by kernel_rfl) (by kernel_rfl) (by kernel_rfl) (by kernel_rfl) (fun _ _ _ h => h) (Or.inl ⟨by rfl, ?_⟩) (by exact S.toFree) ?_
        rotate_left 1
        · intro w hSw
          clear hSw
          go_simp
          try with_reducible rfl
        simp only [Act.put, List.setIfInBounds_toArray, List.set_cons_zero, List.set_cons_succ]
        refine Upto.take (i := 1) (oi := { dst := some 114, op := Op.move (Operand.tmp 17), type := 26, pos := "sourdineref5.go:231", after := #[], guard := none }) (v := ?_) rfl (by kernel_rfl) (by kernel_rfl) (by kernel_rfl) (by kernel_rfl) (fun _ _ _ h => h) (Or.inl ⟨by rfl, ?_⟩) (by exact S.toFree) ?_
        rotate_left 1
        · intro w hSw
          clear hSw
          go_simp
          try with_reducible rfl
        simp only [Act.put, List.setIfInBounds_toArray, List.set_cons_zero, List.set_cons_succ]
        refine Upto.take (i := 2) (oi := { dst := some 115, op := Op.fieldAddr 31 (Operand.tmp 13) 0, type := 0, pos := "sourdineref5.go:231", after := #[], guard := none }) (v := ?_) rfl (by kernel_rfl) (by kernel_rfl) (by kernel_rfl) (by kernel_rfl) (fun _ _ _ h => h) (Or.inl ⟨by rfl, ?_⟩) (by exact S.toFree) ?_
        rotate_left 1
        · intro w hSw
          clear hSw
          go_simp
          try with_reducible rfl
        simp only [Act.put, List.setIfInBounds_toArray, List.set_cons_zero, List.set_cons_succ]
        refine Upto.take (i := 3) (oi := { dst := some 116, op := Op.load 3 (Operand.tmp 115), type := 3, pos := "sourdineref5.go:231", after := #[{ on := 2, ground := Ground.data }], guard := none }) (v := _) rfl (by kernel_rfl) (by kernel_rfl) (by kernel_rfl) (by kernel_rfl) (fun _ _ _ h => h) (y_load1 (by rfl) _ _ rfl _ _ rfl 1 _ rfl _ rfl _ Tryz.underlying3 rfl) (by exact S.toFree) ?_
        simp only [Act.put, List.setIfInBounds_toArray, List.set_cons_zero, List.set_cons_succ]
        refine Upto.take (i := 6) (oi := { dst := some 119, op := Op.fieldAddr 31 (Operand.tmp 13) 3, type := 0, pos := "sourdineref5.go:231", after := #[], guard := none }) (v := ?_) rfl (by kernel_rfl) (by kernel_rfl) (by kernel_rfl) (by kernel_rfl) (fun _ _ _ h => h) (Or.inl ⟨by rfl, ?_⟩) (by exact S.toFree) ?_
        rotate_left 1
        · intro w hSw
          clear hSw
          go_simp
          try with_reducible rfl
        simp only [Act.put, List.setIfInBounds_toArray, List.set_cons_zero, List.set_cons_succ]
        refine Upto.take (i := 7) (oi := { dst := some 120, op := Op.load 3 (Operand.tmp 119), type := 3, pos := "sourdineref5.go:231", after := #[{ on := 6, ground := Ground.data }], guard := none }) (v := _) rfl (by kernel_rfl) (by kernel_rfl) (by kernel_rfl) (by kernel_rfl) (fun _ _ _ h => h) (y_load1 (by rfl) _ _ rfl _ _ rfl 1 _ rfl _ rfl _ Tryz.underlying3 rfl) (by exact S.toFree) ?_
        simp only [Act.put, List.setIfInBounds_toArray, List.set_cons_zero, List.set_cons_succ]
        refine Upto.take (i := 8) (oi := { dst := some 121, op := Op.fieldAddr 52 (Operand.tmp 11) 0, type := 0, pos := "sourdineref5.go:231", after := #[], guard := none }) (v := ?_) rfl (by kernel_rfl) (by kernel_rfl) (by kernel_rfl) (by kernel_rfl) (fun _ _ _ h => h) (Or.inl ⟨by rfl, ?_⟩) (by exact S.toFree) ?_
        rotate_left 1
        · intro w hSw
          clear hSw
          go_simp
          try with_reducible rfl
        simp only [Act.put, List.setIfInBounds_toArray, List.set_cons_zero, List.set_cons_succ]
        refine Upto.take (i := 9) (oi := { dst := some 122, op := Op.indexAddr 27 (Operand.tmp 121) (Operand.tmp 120), type := 0, pos := "sourdineref5.go:231", after := #[{ on := 8, ground := Ground.data }, { on := 7, ground := Ground.data }], guard := none }) (v := ?_) rfl (by kernel_rfl) (by kernel_rfl) (by kernel_rfl) (by kernel_rfl) (fun _ _ _ h => h) (Or.inl ⟨by rfl, ?_⟩) (by exact S.toFree) ?_
        rotate_left 1
        · intro w hSw
          clear hSw
          go_simp
          try with_reducible rfl
        simp only [Act.put, List.setIfInBounds_toArray, List.set_cons_zero, List.set_cons_succ]
        refine Upto.take (i := 10) (oi := { dst := some 123, op := Op.load 26 (Operand.tmp 122), type := 26, pos := "sourdineref5.go:231", after := #[{ on := 9, ground := Ground.data }], guard := none }) (v := _) rfl (by kernel_rfl) (by kernel_rfl) (by kernel_rfl) (by kernel_rfl) (fun _ _ _ h => h) (y_load1 (by rfl) _ _ rfl _ _ rfl 2 _ rfl _ (res_reg HBV.out _ _ _) _ Tryz.underlying26 rfl) (by exact S.toFree) ?_
        simp only [Act.put, List.setIfInBounds_toArray, List.set_cons_zero, List.set_cons_succ]
        refine Upto.ready (rs := [4]) (by kernel_rfl) (by simp) ?_
        refine Nexts.cons rfl (by decide) (fun K hK => ?_) Nexts.nil
        go_simp
        go_wp2_with (go_at_call 30; refine (CST.out _).mono ?_; rintro e w15 ⟨rfl, rfl⟩)
        refine hK.out _ _ (by exact S.toFree) ?_
        clear hK K
        refine Upto.take (i := 5) (oi := { dst := some 118, op := Op.convert 3 26 (Operand.tmp 117), type := 26, pos := "sourdineref5.go:231", after := #[{ on := 4, ground := Ground.data }], guard := none }) (v := ?_) rfl (by kernel_rfl) (by kernel_rfl) (by kernel_rfl) (by kernel_rfl) (fun _ _ _ h => h) (Or.inl ⟨by rfl, ?_⟩) (by exact S.toFree) ?_
        rotate_left 1
        · intro w hSw
          clear hSw
          go_simp
          try simp only [ess]
          try with_reducible rfl
        simp only [Act.put, List.setIfInBounds_toArray, List.set_cons_zero, List.set_cons_succ]
        refine Upto.ready (rs := [11]) (by kernel_rfl) (by simp) ?_
        refine Nexts.cons rfl (by decide) (fun K hK => ?_) Nexts.nil
        go_simp
        go_wp2_with (go_at_call 31; refine (CSO.out _ S.inv.1).mono ?_; rintro e w16 ⟨rfl, hm16, hw16⟩)
        replace S := S.touched HB.out.1 hm16 hw16
        clear hm16 hw16
        refine hK.out _ _ (by exact S.toFree) ?_
        clear hK K
        refine Upto.ready (rs := [12]) (by kernel_rfl) (by simp) ?_
        refine Nexts.last rfl (fun K hK => ?_)
        go_simp
        refine hK.out _ _ ?_
        clear hK K
        refine Upto.done (by kernel_rfl) ?_ _
        go_wp2_with (first
          | ((with_reducible refine wpl_isLoad ?_); first
            | (refine S.ld 3 _ rfl _ 0 rfl 1 (Cel.host h) rfl _ rfl _ Tryz.underlying3 rfl rfl ?_)
            | (refine S.ld 3 _ rfl _ 1 rfl 1 (Cel.host h) rfl _ rfl _ Tryz.underlying3 rfl rfl ?_)
            | (refine S.ld 3 _ rfl _ 2 rfl 1 (Cel.host h) rfl _ rfl _ Tryz.underlying3 rfl rfl ?_)
            | (refine S.ld 26 _ rfl _ 5 rfl 1 (Cel.host h) rfl _ rfl _ Tryz.underlying26 rfl rfl ?_)
            | (refine S.ld 26 _ rfl _ _ rfl 2 (Cel.res _ _ _ _) rfl _ (res_reg HAA.out _ _ _) _ Tryz.underlying26 rfl rfl ?_)
            | (refine S.ld 47 _ rfl _ 32 rfl 2 (Cel.res _ _ _ _) rfl _ (res_32 hRX _ _ _) _ Tryz.underlying47 rfl rfl ?_)
            | (refine S.ldAll 59 _ rfl _ rfl 0 (Cel.ev _ _ _) rfl _ Tryz.underlying59 rfl szEv rfl ?_)
            | (refine S.ldAll 52 _ rfl _ rfl 2 (Cel.res _ _ _ _) rfl _ Tryz.underlying52 rfl (by rw [res_length hRX]; exact szRef) rfl ?_))
          | ((with_reducible refine wpl_isStore ?_); first
            | (refine S.store1 rfl 26 _ _ rfl _ 1 _ rfl rfl 0 (Cel.ev _ _ _) rfl rfl (by simp [Cel.cells]) (Cel.ev _ _ _) rfl szU ?_; clear S; intro w9 S; simp only [List.set_cons_zero, List.set_cons_succ] at S)
            | (refine S.store1 rfl 3 _ _ rfl _ 33 _ rfl rfl 2 (Cel.res _ _ _ _) rfl rfl (by rw [res_length hR32]; omega) _ (set_33 hR32 _ _ _ _) szI ?_; clear S; intro w9 S; simp only [List.set_cons_zero, List.set_cons_succ] at S)
            | (refine S.store1 rfl 47 _ _ rfl _ 32 _ rfl rfl 2 (Cel.res _ _ _ _) rfl rfl (by rw [res_length hRX]; omega) _ (set_32 hRX _ _ _ _) szEvs ?_; clear S; intro w22 S; simp only [List.set_cons_zero, List.set_cons_succ] at S)
            | (refine S.storeAll rfl 52 _ _ rfl _ (Cel.res _ _ _ _) rfl rfl 3 _ rfl (by rw [res_length hRX, res_length (by simp)]) (one_res rfl) (by rw [res_length hRX]; exact szRef) ?_; clear S; intro w9 S; simp only [List.set_cons_zero, List.set_cons_succ] at S))
          | ((with_reducible refine wpl_is ?_); first
            | (refine S.slice1 rfl _ rfl _ _ _ rfl ?_; clear S; intro w20 S)
            | (refine wpList_append_lies _ rfl _ _ 47 rfl base 59 i0 _ 3 24 Tryz.underlying47 HI.out.1 HI.out.2.1 HI.out.2.2.1 HI.out.2.2.2 rfl (by decide) (.slice A s.E.length c) s.E.length (evC s.E) rfl S.inv.1.2.1 ⟨_, 0, none⟩ 1 1 (HEv.cells ⟨at' + s.p, ad, costS h.op⟩) rfl rfl S.inv.2 (one_ev _) (by decide) (by simp only [maxLen]; omega) (by omega) S.inv.1.2.2 _ rfl ?_; intro g cap w21 hown hgrow hat hlt; have S2 := (S.dropA.appended (v' := .slice (some ⟨g, 0, none⟩) (s.E.length + 1) cap) (E' := s.E ++ [⟨at' + s.p, ad, costS h.op⟩]) HB.out.1 HB.out.2.1 HB.out.2.2 (by unfold EvRow; rw [evC_snoc, List.length_append]; exact hown) hgrow (fun g' hg' => by simp only [Value.ownBlock, Option.some.injEq] at hg'; subst hg'; exact hat)).1; clear hown hgrow hat hlt S; have S := S2; clear S2))
          | (go_at_call 28; refine (CLD.out _).mono ?_; rintro e w8 ⟨rfl, rfl⟩)
          | (go_at_call 30; refine (CST.out _).mono ?_; rintro e w8 ⟨rfl, rfl⟩))
        refine bodyPost_ret (S.results rfl _ _ rfl 3 _ rfl _ Tryz.underlying52 rfl (by rw [res_length hRX]; exact szRef)) rfl ?_
        have HF : fin = (⟨s.R, s.E ++ [⟨at' + s.p, ad, costS h.op⟩], s.p, D'⟩, er) := by
          rw [HRUN2.out, HST.out]
          rfl
        rw [HF]
        refine ⟨some ⟨g, 0, none⟩, cap, base, ?_, ?_, HB.out.2.2, HB.out.1, S.inv.1, S.mid, HOK2.out⟩
        · simp only [List.length_append, List.length_cons, List.length_nil, Nat.zero_add]
          rfl
        · simp only [List.length_append, List.length_cons, List.length_nil, Nat.zero_add]
          exact S.inv.2.1
    rcases (show h.op = 28 ∨ h.op = 29 ∨ h.op = 30 ∨ h.op = 31 by omega) with hn | hn | hn | hn
    · have HN : Hid (h.op = 28) := hn
      clear hn
      have hld : loadsS h.op = 0 := by rw [HN.out]; rfl
      have hst : storesS h.op = 0 := by rw [HN.out]; rfl
      have HST : Hid (stepS at' Bs h s = (⟨s.R, s.E ++ [⟨at' + s.p, 0, costS h.op⟩], s.p + wrap32 h.im, s.D⟩, 0, true)) := by
        have hst : stepS at' Bs h s = (⟨s.R, s.E ++ [⟨at' + s.p, 0, costS h.op⟩], s.p + wrap32 h.im, s.D⟩, 0, true) := by
          have had : addrS h s.R = 0 := by simp [addrS, hld, hst]
          simp only [stepS, evS, had]
          simp [actS, HN.out]
        exact hst
      have HOK2 : Hid (okR (s.R)) := by
        have q := actS_R (Bs := Bs) (s := ⟨s.R, s.E ++ [evS at' h s], s.p, s.D⟩) (h := h) S.inv.1 HO.out HRS.out
        have e : actS Bs h ⟨s.R, s.E ++ [evS at' h s], s.p, s.D⟩ = stepS at' Bs h s := rfl
        rw [e, HST.out] at q
        exact q
      have HP2 : Hid (-8589934592 ≤ s.p + wrap32 h.im ∧ s.p + wrap32 h.im ≤ 8589934592) := by
        have q := actS_p (Bs := Bs) (s := ⟨s.R, s.E ++ [evS at' h s], s.p, s.D⟩) (h := h) hq0 (by simp only []; omega)
        have e : actS Bs h ⟨s.R, s.E ++ [evS at' h s], s.p, s.D⟩ = stepS at' Bs h s := rfl
        rw [e, HST.out] at q
        exact q
      rw [hld] at CLD
      rw [hst] at CST
      have q28 : (h.op == 28) = true := by rw [HN.out]; rfl
      have q29 : (h.op == 29) = false := by rw [HN.out]; rfl
      have q30 : (h.op == 30) = false := by rw [HN.out]; rfl
      have q31 : (h.op == 31) = false := by rw [HN.out]; rfl
      have ew : IntKind.i32.wrap h.im = wrap32 h.im := by rw [IntKind.wrap_i32]; unfold wrap32; omega
      have hwi : -2147483648 ≤ wrap32 h.im ∧ wrap32 h.im ≤ 2147483647 := by unfold wrap32; omega
      have ew1 : IntKind.i64.wrap (wrap32 h.im) = wrap32 h.im := by rw [IntKind.wrap_i64]; omega
      have ew2 : IntKind.i64.wrap (s.p + wrap32 h.im) = s.p + wrap32 h.im := by rw [IntKind.wrap_i64]; omega
      generalize wrap32 h.im = jm at *
      have hRX : s.R.length = 32 := HOK2.out.1
      go_wp2_with (first
        | ((with_reducible refine wpl_isLoad ?_); first
          | (refine S.ld 3 _ rfl _ 0 rfl 1 (Cel.host h) rfl _ rfl _ Tryz.underlying3 rfl rfl ?_)
          | (refine S.ld 3 _ rfl _ 1 rfl 1 (Cel.host h) rfl _ rfl _ Tryz.underlying3 rfl rfl ?_)
          | (refine S.ld 3 _ rfl _ 2 rfl 1 (Cel.host h) rfl _ rfl _ Tryz.underlying3 rfl rfl ?_)
          | (refine S.ld 26 _ rfl _ 5 rfl 1 (Cel.host h) rfl _ rfl _ Tryz.underlying26 rfl rfl ?_)
          | (refine S.ld 26 _ rfl _ _ rfl 2 (Cel.res _ _ _ _) rfl _ (res_reg HAA.out _ _ _) _ Tryz.underlying26 rfl rfl ?_)
          | (refine S.ld 47 _ rfl _ 32 rfl 2 (Cel.res _ _ _ _) rfl _ (res_32 hRX _ _ _) _ Tryz.underlying47 rfl rfl ?_)
          | (refine S.ldAll 59 _ rfl _ rfl 0 (Cel.ev _ _ _) rfl _ Tryz.underlying59 rfl szEv rfl ?_)
          | (refine S.ldAll 52 _ rfl _ rfl 2 (Cel.res _ _ _ _) rfl _ Tryz.underlying52 rfl (by rw [res_length hRX]; exact szRef) rfl ?_))
        | ((with_reducible refine wpl_isStore ?_); first
          | (refine S.store1 rfl 26 _ _ rfl _ 1 _ rfl rfl 0 (Cel.ev _ _ _) rfl rfl (by simp [Cel.cells]) (Cel.ev _ _ _) rfl szU ?_; clear S; intro w9 S; simp only [List.set_cons_zero, List.set_cons_succ] at S)
          | (refine S.store1 rfl 3 _ _ rfl _ 33 _ rfl rfl 2 (Cel.res _ _ _ _) rfl rfl (by rw [res_length hR32]; omega) _ (set_33 hR32 _ _ _ _) szI ?_; clear S; intro w9 S; simp only [List.set_cons_zero, List.set_cons_succ] at S)
          | (refine S.store1 rfl 47 _ _ rfl _ 32 _ rfl rfl 2 (Cel.res _ _ _ _) rfl rfl (by rw [res_length hRX]; omega) _ (set_32 hRX _ _ _ _) szEvs ?_; clear S; intro w22 S; simp only [List.set_cons_zero, List.set_cons_succ] at S)
          | (refine S.storeAll rfl 52 _ _ rfl _ (Cel.res _ _ _ _) rfl rfl 3 _ rfl (by rw [res_length hRX, res_length (by simp)]) (one_res rfl) (by rw [res_length hRX]; exact szRef) ?_; clear S; intro w9 S; simp only [List.set_cons_zero, List.set_cons_succ] at S))
        | ((with_reducible refine wpl_isDst 132 ?_); refine wpl_dst 132 rfl (.bool true) (by go_simp; try simp only [q28]) rfl ?_)
        | ((with_reducible refine wpl_isDst 135 ?_); refine wpl_dst 135 rfl (.bool false) (by go_simp; try simp only [q29]) rfl ?_)
        | ((with_reducible refine wpl_isDst 153 ?_); refine wpl_dst 153 rfl (.bool false) (by go_simp; try simp only [q29]) rfl ?_)
        | ((with_reducible refine wpl_isDst 157 ?_); refine wpl_dst 157 rfl (.bool false) (by go_simp; try simp only [q30]) rfl ?_)
        | ((with_reducible refine wpl_isDst 161 ?_); refine wpl_dst 161 rfl (.bool false) (by go_simp; try simp only [q31]) rfl ?_)
        | ((with_reducible refine wpl_is ?_); first
          | (refine S.slice1 rfl _ rfl _ _ _ rfl ?_; clear S; intro w20 S)
          | (refine wpList_append_lies _ rfl _ _ 47 rfl base 59 i0 _ 3 24 Tryz.underlying47 HI.out.1 HI.out.2.1 HI.out.2.2.1 HI.out.2.2.2 rfl (by decide) (.slice A s.E.length c) s.E.length (evC s.E) rfl S.inv.1.2.1 ⟨_, 0, none⟩ 1 1 (HEv.cells ⟨at' + s.p, 0, costS h.op⟩) rfl rfl S.inv.2 (one_ev _) (by decide) (by simp only [maxLen]; omega) (by omega) S.inv.1.2.2 _ rfl ?_; intro g cap w21 hown hgrow hat hlt; have S2 := (S.dropA.appended (v' := .slice (some ⟨g, 0, none⟩) (s.E.length + 1) cap) (E' := s.E ++ [⟨at' + s.p, 0, costS h.op⟩]) HB.out.1 HB.out.2.1 HB.out.2.2 (by unfold EvRow; rw [evC_snoc, List.length_append]; exact hown) hgrow (fun g' hg' => by simp only [Value.ownBlock, Option.some.injEq] at hg'; subst hg'; exact hat)).1; clear hown hgrow hat hlt S; have S := S2; clear S2))
        | (go_at_call 28; refine (CLD.out _).mono ?_; rintro e w8 ⟨rfl, rfl⟩)
        | (go_at_call 30; refine (CST.out _).mono ?_; rintro e w8 ⟨rfl, rfl⟩))
      go_roundw
      case rel =>
        refine ⟨⟨s.R, s.E ++ [⟨at' + s.p, 0, costS h.op⟩], s.p + jm, s.D⟩, s.p, some ⟨g, 0, none⟩, cap, k, rfl, ?_, HOK2.out, HP2.out, by simp only [List.length_append, List.length_cons, List.length_nil]; omega, ?_⟩
        · simp only [List.length_append, List.length_cons, List.length_nil, Nat.zero_add]
          exact S.fewer 2
        · rw [HRUN2.out, HST.out]
          rfl
      case measure =>
        have h1 := HOLD.out
        have h2 : evLen w22 b11 = s.E.length + 1 := evLen_of (i := 2) S rfl hRX
        simp only [rrunMeas, h1, h2]
        omega
    · by_cases hz : regv s.R h.a = 0
      · have HZ : Hid (regv s.R h.a = 0) := hz
        have HN : Hid (h.op = 29) := hn
        clear hn
        have hld : loadsS h.op = 0 := by rw [HN.out]; rfl
        have hst : storesS h.op = 0 := by rw [HN.out]; rfl
        have HST : Hid (stepS at' Bs h s = (⟨s.R, s.E ++ [⟨at' + s.p, 0, costS h.op⟩], s.p + wrap32 h.im, s.D⟩, 0, true)) := by
          have hst : stepS at' Bs h s = (⟨s.R, s.E ++ [⟨at' + s.p, 0, costS h.op⟩], s.p + wrap32 h.im, s.D⟩, 0, true) := by
            have had : addrS h s.R = 0 := by simp [addrS, hld, hst]
            simp only [stepS, evS, had]
            simp [actS, HN.out, HZ.out]
          exact hst
        have HOK2 : Hid (okR (s.R)) := by
          have q := actS_R (Bs := Bs) (s := ⟨s.R, s.E ++ [evS at' h s], s.p, s.D⟩) (h := h) S.inv.1 HO.out HRS.out
          have e : actS Bs h ⟨s.R, s.E ++ [evS at' h s], s.p, s.D⟩ = stepS at' Bs h s := rfl
          rw [e, HST.out] at q
          exact q
        have HP2 : Hid (-8589934592 ≤ s.p + wrap32 h.im ∧ s.p + wrap32 h.im ≤ 8589934592) := by
          have q := actS_p (Bs := Bs) (s := ⟨s.R, s.E ++ [evS at' h s], s.p, s.D⟩) (h := h) hq0 (by simp only []; omega)
          have e : actS Bs h ⟨s.R, s.E ++ [evS at' h s], s.p, s.D⟩ = stepS at' Bs h s := rfl
          rw [e, HST.out] at q
          exact q
        rw [hld] at CLD
        rw [hst] at CST
        have q28 : (h.op == 28) = false := by rw [HN.out]; rfl
        have q29 : (h.op == 29) = true := by rw [HN.out]; rfl
        have q30 : (h.op == 30) = false := by rw [HN.out]; rfl
        have q31 : (h.op == 31) = false := by rw [HN.out]; rfl
        have ew : IntKind.i32.wrap h.im = wrap32 h.im := by rw [IntKind.wrap_i32]; unfold wrap32; omega
        have hwi : -2147483648 ≤ wrap32 h.im ∧ wrap32 h.im ≤ 2147483647 := by unfold wrap32; omega
        have ew1 : IntKind.i64.wrap (wrap32 h.im) = wrap32 h.im := by rw [IntKind.wrap_i64]; omega
        have ew2 : IntKind.i64.wrap (s.p + wrap32 h.im) = s.p + wrap32 h.im := by rw [IntKind.wrap_i64]; omega
        generalize wrap32 h.im = jm at *
        have hRX : s.R.length = 32 := HOK2.out.1
        go_wp2_with (first
          | ((with_reducible refine wpl_isLoad ?_); first
            | (refine S.ld 3 _ rfl _ 0 rfl 1 (Cel.host h) rfl _ rfl _ Tryz.underlying3 rfl rfl ?_)
            | (refine S.ld 3 _ rfl _ 1 rfl 1 (Cel.host h) rfl _ rfl _ Tryz.underlying3 rfl rfl ?_)
            | (refine S.ld 3 _ rfl _ 2 rfl 1 (Cel.host h) rfl _ rfl _ Tryz.underlying3 rfl rfl ?_)
            | (refine S.ld 26 _ rfl _ 5 rfl 1 (Cel.host h) rfl _ rfl _ Tryz.underlying26 rfl rfl ?_)
            | (refine S.ld 26 _ rfl _ _ rfl 2 (Cel.res _ _ _ _) rfl _ (res_reg HAA.out _ _ _) _ Tryz.underlying26 rfl rfl ?_)
            | (refine S.ld 47 _ rfl _ 32 rfl 2 (Cel.res _ _ _ _) rfl _ (res_32 hRX _ _ _) _ Tryz.underlying47 rfl rfl ?_)
            | (refine S.ldAll 59 _ rfl _ rfl 0 (Cel.ev _ _ _) rfl _ Tryz.underlying59 rfl szEv rfl ?_)
            | (refine S.ldAll 52 _ rfl _ rfl 2 (Cel.res _ _ _ _) rfl _ Tryz.underlying52 rfl (by rw [res_length hRX]; exact szRef) rfl ?_))
          | ((with_reducible refine wpl_isStore ?_); first
            | (refine S.store1 rfl 26 _ _ rfl _ 1 _ rfl rfl 0 (Cel.ev _ _ _) rfl rfl (by simp [Cel.cells]) (Cel.ev _ _ _) rfl szU ?_; clear S; intro w9 S; simp only [List.set_cons_zero, List.set_cons_succ] at S)
            | (refine S.store1 rfl 3 _ _ rfl _ 33 _ rfl rfl 2 (Cel.res _ _ _ _) rfl rfl (by rw [res_length hR32]; omega) _ (set_33 hR32 _ _ _ _) szI ?_; clear S; intro w9 S; simp only [List.set_cons_zero, List.set_cons_succ] at S)
            | (refine S.store1 rfl 47 _ _ rfl _ 32 _ rfl rfl 2 (Cel.res _ _ _ _) rfl rfl (by rw [res_length hRX]; omega) _ (set_32 hRX _ _ _ _) szEvs ?_; clear S; intro w22 S; simp only [List.set_cons_zero, List.set_cons_succ] at S)
            | (refine S.storeAll rfl 52 _ _ rfl _ (Cel.res _ _ _ _) rfl rfl 3 _ rfl (by rw [res_length hRX, res_length (by simp)]) (one_res rfl) (by rw [res_length hRX]; exact szRef) ?_; clear S; intro w9 S; simp only [List.set_cons_zero, List.set_cons_succ] at S))
          | ((with_reducible refine wpl_isDst 132 ?_); refine wpl_dst 132 rfl (.bool false) (by go_simp; try simp only [q28]) rfl ?_)
          | ((with_reducible refine wpl_isDst 135 ?_); refine wpl_dst 135 rfl (.bool true) (by go_simp; try simp only [q29]) rfl ?_)
          | ((with_reducible refine wpl_isDst 153 ?_); refine wpl_dst 153 rfl (.bool true) (by go_simp; try simp only [q29]) rfl ?_)
          | ((with_reducible refine wpl_isDst 157 ?_); refine wpl_dst 157 rfl (.bool false) (by go_simp; try simp only [q30]) rfl ?_)
          | ((with_reducible refine wpl_isDst 161 ?_); refine wpl_dst 161 rfl (.bool false) (by go_simp; try simp only [q31]) rfl ?_)
          | ((with_reducible refine wpl_is ?_); first
            | (refine S.slice1 rfl _ rfl _ _ _ rfl ?_; clear S; intro w20 S)
            | (refine wpList_append_lies _ rfl _ _ 47 rfl base 59 i0 _ 3 24 Tryz.underlying47 HI.out.1 HI.out.2.1 HI.out.2.2.1 HI.out.2.2.2 rfl (by decide) (.slice A s.E.length c) s.E.length (evC s.E) rfl S.inv.1.2.1 ⟨_, 0, none⟩ 1 1 (HEv.cells ⟨at' + s.p, 0, costS h.op⟩) rfl rfl S.inv.2 (one_ev _) (by decide) (by simp only [maxLen]; omega) (by omega) S.inv.1.2.2 _ rfl ?_; intro g cap w21 hown hgrow hat hlt; have S2 := (S.dropA.appended (v' := .slice (some ⟨g, 0, none⟩) (s.E.length + 1) cap) (E' := s.E ++ [⟨at' + s.p, 0, costS h.op⟩]) HB.out.1 HB.out.2.1 HB.out.2.2 (by unfold EvRow; rw [evC_snoc, List.length_append]; exact hown) hgrow (fun g' hg' => by simp only [Value.ownBlock, Option.some.injEq] at hg'; subst hg'; exact hat)).1; clear hown hgrow hat hlt S; have S := S2; clear S2))
          | (go_at_call 28; refine (CLD.out _).mono ?_; rintro e w8 ⟨rfl, rfl⟩)
          | (go_at_call 30; refine (CST.out _).mono ?_; rintro e w8 ⟨rfl, rfl⟩))
        go_roundw
        case rel =>
          refine ⟨⟨s.R, s.E ++ [⟨at' + s.p, 0, costS h.op⟩], s.p + jm, s.D⟩, s.p, some ⟨g, 0, none⟩, cap, k, rfl, ?_, HOK2.out, HP2.out, by simp only [List.length_append, List.length_cons, List.length_nil]; omega, ?_⟩
          · simp only [List.length_append, List.length_cons, List.length_nil, Nat.zero_add]
            exact S.fewer 2
          · rw [HRUN2.out, HST.out]
            rfl
        case measure =>
          have h1 := HOLD.out
          have h2 : evLen w22 b11 = s.E.length + 1 := evLen_of (i := 2) S rfl hRX
          simp only [rrunMeas, h1, h2]
          omega
      · have HZ : Hid (¬ regv s.R h.a = 0) := hz
        have HN : Hid (h.op = 29) := hn
        clear hn
        have hld : loadsS h.op = 0 := by rw [HN.out]; rfl
        have hst : storesS h.op = 0 := by rw [HN.out]; rfl
        have HST : Hid (stepS at' Bs h s = (⟨s.R, s.E ++ [⟨at' + s.p, 0, costS h.op⟩], s.p + 1, s.D⟩, 0, true)) := by
          have hst : stepS at' Bs h s = (⟨s.R, s.E ++ [⟨at' + s.p, 0, costS h.op⟩], s.p + 1, s.D⟩, 0, true) := by
            have had : addrS h s.R = 0 := by simp [addrS, hld, hst]
            simp only [stepS, evS, had]
            simp [actS, HN.out, HZ.out]
          exact hst
        have HOK2 : Hid (okR (s.R)) := by
          have q := actS_R (Bs := Bs) (s := ⟨s.R, s.E ++ [evS at' h s], s.p, s.D⟩) (h := h) S.inv.1 HO.out HRS.out
          have e : actS Bs h ⟨s.R, s.E ++ [evS at' h s], s.p, s.D⟩ = stepS at' Bs h s := rfl
          rw [e, HST.out] at q
          exact q
        have HP2 : Hid (-8589934592 ≤ s.p + 1 ∧ s.p + 1 ≤ 8589934592) := by
          have q := actS_p (Bs := Bs) (s := ⟨s.R, s.E ++ [evS at' h s], s.p, s.D⟩) (h := h) hq0 (by simp only []; omega)
          have e : actS Bs h ⟨s.R, s.E ++ [evS at' h s], s.p, s.D⟩ = stepS at' Bs h s := rfl
          rw [e, HST.out] at q
          exact q
        rw [hld] at CLD
        rw [hst] at CST
        have q28 : (h.op == 28) = false := by rw [HN.out]; rfl
        have q29 : (h.op == 29) = true := by rw [HN.out]; rfl
        have q30 : (h.op == 30) = false := by rw [HN.out]; rfl
        have q31 : (h.op == 31) = false := by rw [HN.out]; rfl
        have hz2 : (regv s.R h.a == 0) = false := by simpa using hz
        have hRX : s.R.length = 32 := HOK2.out.1
        go_wp2_with (first
          | ((with_reducible refine wpl_isLoad ?_); first
            | (refine S.ld 3 _ rfl _ 0 rfl 1 (Cel.host h) rfl _ rfl _ Tryz.underlying3 rfl rfl ?_)
            | (refine S.ld 3 _ rfl _ 1 rfl 1 (Cel.host h) rfl _ rfl _ Tryz.underlying3 rfl rfl ?_)
            | (refine S.ld 3 _ rfl _ 2 rfl 1 (Cel.host h) rfl _ rfl _ Tryz.underlying3 rfl rfl ?_)
            | (refine S.ld 26 _ rfl _ 5 rfl 1 (Cel.host h) rfl _ rfl _ Tryz.underlying26 rfl rfl ?_)
            | (refine S.ld 26 _ rfl _ _ rfl 2 (Cel.res _ _ _ _) rfl _ (res_reg HAA.out _ _ _) _ Tryz.underlying26 rfl rfl ?_)
            | (refine S.ld 47 _ rfl _ 32 rfl 2 (Cel.res _ _ _ _) rfl _ (res_32 hRX _ _ _) _ Tryz.underlying47 rfl rfl ?_)
            | (refine S.ldAll 59 _ rfl _ rfl 0 (Cel.ev _ _ _) rfl _ Tryz.underlying59 rfl szEv rfl ?_)
            | (refine S.ldAll 52 _ rfl _ rfl 2 (Cel.res _ _ _ _) rfl _ Tryz.underlying52 rfl (by rw [res_length hRX]; exact szRef) rfl ?_))
          | ((with_reducible refine wpl_isStore ?_); first
            | (refine S.store1 rfl 26 _ _ rfl _ 1 _ rfl rfl 0 (Cel.ev _ _ _) rfl rfl (by simp [Cel.cells]) (Cel.ev _ _ _) rfl szU ?_; clear S; intro w9 S; simp only [List.set_cons_zero, List.set_cons_succ] at S)
            | (refine S.store1 rfl 3 _ _ rfl _ 33 _ rfl rfl 2 (Cel.res _ _ _ _) rfl rfl (by rw [res_length hR32]; omega) _ (set_33 hR32 _ _ _ _) szI ?_; clear S; intro w9 S; simp only [List.set_cons_zero, List.set_cons_succ] at S)
            | (refine S.store1 rfl 47 _ _ rfl _ 32 _ rfl rfl 2 (Cel.res _ _ _ _) rfl rfl (by rw [res_length hRX]; omega) _ (set_32 hRX _ _ _ _) szEvs ?_; clear S; intro w22 S; simp only [List.set_cons_zero, List.set_cons_succ] at S)
            | (refine S.storeAll rfl 52 _ _ rfl _ (Cel.res _ _ _ _) rfl rfl 3 _ rfl (by rw [res_length hRX, res_length (by simp)]) (one_res rfl) (by rw [res_length hRX]; exact szRef) ?_; clear S; intro w9 S; simp only [List.set_cons_zero, List.set_cons_succ] at S))
          | ((with_reducible refine wpl_isDst 132 ?_); refine wpl_dst 132 rfl (.bool false) (by go_simp; try simp only [q28]) rfl ?_)
          | ((with_reducible refine wpl_isDst 135 ?_); refine wpl_dst 135 rfl (.bool true) (by go_simp; try simp only [q29]) rfl ?_)
          | ((with_reducible refine wpl_isDst 153 ?_); refine wpl_dst 153 rfl (.bool true) (by go_simp; try simp only [q29]) rfl ?_)
          | ((with_reducible refine wpl_isDst 157 ?_); refine wpl_dst 157 rfl (.bool false) (by go_simp; try simp only [q30]) rfl ?_)
          | ((with_reducible refine wpl_isDst 161 ?_); refine wpl_dst 161 rfl (.bool false) (by go_simp; try simp only [q31]) rfl ?_)
          | ((with_reducible refine wpl_is ?_); first
            | (refine S.slice1 rfl _ rfl _ _ _ rfl ?_; clear S; intro w20 S)
            | (refine wpList_append_lies _ rfl _ _ 47 rfl base 59 i0 _ 3 24 Tryz.underlying47 HI.out.1 HI.out.2.1 HI.out.2.2.1 HI.out.2.2.2 rfl (by decide) (.slice A s.E.length c) s.E.length (evC s.E) rfl S.inv.1.2.1 ⟨_, 0, none⟩ 1 1 (HEv.cells ⟨at' + s.p, 0, costS h.op⟩) rfl rfl S.inv.2 (one_ev _) (by decide) (by simp only [maxLen]; omega) (by omega) S.inv.1.2.2 _ rfl ?_; intro g cap w21 hown hgrow hat hlt; have S2 := (S.dropA.appended (v' := .slice (some ⟨g, 0, none⟩) (s.E.length + 1) cap) (E' := s.E ++ [⟨at' + s.p, 0, costS h.op⟩]) HB.out.1 HB.out.2.1 HB.out.2.2 (by unfold EvRow; rw [evC_snoc, List.length_append]; exact hown) hgrow (fun g' hg' => by simp only [Value.ownBlock, Option.some.injEq] at hg'; subst hg'; exact hat)).1; clear hown hgrow hat hlt S; have S := S2; clear S2))
          | (go_at_call 28; refine (CLD.out _).mono ?_; rintro e w8 ⟨rfl, rfl⟩)
          | (go_at_call 30; refine (CST.out _).mono ?_; rintro e w8 ⟨rfl, rfl⟩))
        go_roundw
        case rel =>
          refine ⟨⟨s.R, s.E ++ [⟨at' + s.p, 0, costS h.op⟩], s.p + 1, s.D⟩, s.p, some ⟨g, 0, none⟩, cap, k, rfl, ?_, HOK2.out, HP2.out, by simp only [List.length_append, List.length_cons, List.length_nil]; omega, ?_⟩
          · simp only [List.length_append, List.length_cons, List.length_nil, Nat.zero_add]
            exact S.fewer 2
          · rw [HRUN2.out, HST.out]
            rfl
        case measure =>
          have h1 := HOLD.out
          have h2 : evLen w22 b11 = s.E.length + 1 := evLen_of (i := 2) S rfl hRX
          simp only [rrunMeas, h1, h2]
          omega
    · have HN : Hid (h.op = 30) := hn
      clear hn
      have hld : loadsS h.op = 0 := by rw [HN.out]; rfl
      have hst : storesS h.op = 0 := by rw [HN.out]; rfl
      have HST : Hid (stepS at' Bs h s = (⟨s.R, s.E ++ [⟨at' + s.p, 0, costS h.op⟩], s.p, s.D⟩, 0, false)) := by
        have hst : stepS at' Bs h s = (⟨s.R, s.E ++ [⟨at' + s.p, 0, costS h.op⟩], s.p, s.D⟩, 0, false) := by
          have had : addrS h s.R = 0 := by simp [addrS, hld, hst]
          simp only [stepS, evS, had]
          simp [actS, HN.out]
        exact hst
      have HOK2 : Hid (okR (s.R)) := by
        have q := actS_R (Bs := Bs) (s := ⟨s.R, s.E ++ [evS at' h s], s.p, s.D⟩) (h := h) S.inv.1 HO.out HRS.out
        have e : actS Bs h ⟨s.R, s.E ++ [evS at' h s], s.p, s.D⟩ = stepS at' Bs h s := rfl
        rw [e, HST.out] at q
        exact q
      have HP2 : Hid (-8589934592 ≤ s.p ∧ s.p ≤ 8589934592) := by
        have q := actS_p (Bs := Bs) (s := ⟨s.R, s.E ++ [evS at' h s], s.p, s.D⟩) (h := h) hq0 (by simp only []; omega)
        have e : actS Bs h ⟨s.R, s.E ++ [evS at' h s], s.p, s.D⟩ = stepS at' Bs h s := rfl
        rw [e, HST.out] at q
        exact q
      rw [hld] at CLD
      rw [hst] at CST
      have q28 : (h.op == 28) = false := by rw [HN.out]; rfl
      have q29 : (h.op == 29) = false := by rw [HN.out]; rfl
      have q30 : (h.op == 30) = true := by rw [HN.out]; rfl
      have q31 : (h.op == 31) = false := by rw [HN.out]; rfl
      have hRX : s.R.length = 32 := HOK2.out.1
      go_wp2_with (first
        | ((with_reducible refine wpl_isLoad ?_); first
          | (refine S.ld 3 _ rfl _ 0 rfl 1 (Cel.host h) rfl _ rfl _ Tryz.underlying3 rfl rfl ?_)
          | (refine S.ld 3 _ rfl _ 1 rfl 1 (Cel.host h) rfl _ rfl _ Tryz.underlying3 rfl rfl ?_)
          | (refine S.ld 3 _ rfl _ 2 rfl 1 (Cel.host h) rfl _ rfl _ Tryz.underlying3 rfl rfl ?_)
          | (refine S.ld 26 _ rfl _ 5 rfl 1 (Cel.host h) rfl _ rfl _ Tryz.underlying26 rfl rfl ?_)
          | (refine S.ld 26 _ rfl _ _ rfl 2 (Cel.res _ _ _ _) rfl _ (res_reg HAA.out _ _ _) _ Tryz.underlying26 rfl rfl ?_)
          | (refine S.ld 47 _ rfl _ 32 rfl 2 (Cel.res _ _ _ _) rfl _ (res_32 hRX _ _ _) _ Tryz.underlying47 rfl rfl ?_)
          | (refine S.ldAll 59 _ rfl _ rfl 0 (Cel.ev _ _ _) rfl _ Tryz.underlying59 rfl szEv rfl ?_)
          | (refine S.ldAll 52 _ rfl _ rfl 2 (Cel.res _ _ _ _) rfl _ Tryz.underlying52 rfl (by rw [res_length hRX]; exact szRef) rfl ?_))
        | ((with_reducible refine wpl_isStore ?_); first
          | (refine S.store1 rfl 26 _ _ rfl _ 1 _ rfl rfl 0 (Cel.ev _ _ _) rfl rfl (by simp [Cel.cells]) (Cel.ev _ _ _) rfl szU ?_; clear S; intro w9 S; simp only [List.set_cons_zero, List.set_cons_succ] at S)
          | (refine S.store1 rfl 3 _ _ rfl _ 33 _ rfl rfl 2 (Cel.res _ _ _ _) rfl rfl (by rw [res_length hR32]; omega) _ (set_33 hR32 _ _ _ _) szI ?_; clear S; intro w9 S; simp only [List.set_cons_zero, List.set_cons_succ] at S)
          | (refine S.store1 rfl 47 _ _ rfl _ 32 _ rfl rfl 2 (Cel.res _ _ _ _) rfl rfl (by rw [res_length hRX]; omega) _ (set_32 hRX _ _ _ _) szEvs ?_; clear S; intro w22 S; simp only [List.set_cons_zero, List.set_cons_succ] at S)
          | (refine S.storeAll rfl 52 _ _ rfl _ (Cel.res _ _ _ _) rfl rfl 3 _ rfl (by rw [res_length hRX, res_length (by simp)]) (one_res rfl) (by rw [res_length hRX]; exact szRef) ?_; clear S; intro w9 S; simp only [List.set_cons_zero, List.set_cons_succ] at S))
        | ((with_reducible refine wpl_isDst 132 ?_); refine wpl_dst 132 rfl (.bool false) (by go_simp; try simp only [q28]) rfl ?_)
        | ((with_reducible refine wpl_isDst 135 ?_); refine wpl_dst 135 rfl (.bool false) (by go_simp; try simp only [q29]) rfl ?_)
        | ((with_reducible refine wpl_isDst 153 ?_); refine wpl_dst 153 rfl (.bool false) (by go_simp; try simp only [q29]) rfl ?_)
        | ((with_reducible refine wpl_isDst 157 ?_); refine wpl_dst 157 rfl (.bool true) (by go_simp; try simp only [q30]) rfl ?_)
        | ((with_reducible refine wpl_isDst 161 ?_); refine wpl_dst 161 rfl (.bool false) (by go_simp; try simp only [q31]) rfl ?_)
        | ((with_reducible refine wpl_is ?_); first
          | (refine S.slice1 rfl _ rfl _ _ _ rfl ?_; clear S; intro w20 S)
          | (refine wpList_append_lies _ rfl _ _ 47 rfl base 59 i0 _ 3 24 Tryz.underlying47 HI.out.1 HI.out.2.1 HI.out.2.2.1 HI.out.2.2.2 rfl (by decide) (.slice A s.E.length c) s.E.length (evC s.E) rfl S.inv.1.2.1 ⟨_, 0, none⟩ 1 1 (HEv.cells ⟨at' + s.p, 0, costS h.op⟩) rfl rfl S.inv.2 (one_ev _) (by decide) (by simp only [maxLen]; omega) (by omega) S.inv.1.2.2 _ rfl ?_; intro g cap w21 hown hgrow hat hlt; have S2 := (S.dropA.appended (v' := .slice (some ⟨g, 0, none⟩) (s.E.length + 1) cap) (E' := s.E ++ [⟨at' + s.p, 0, costS h.op⟩]) HB.out.1 HB.out.2.1 HB.out.2.2 (by unfold EvRow; rw [evC_snoc, List.length_append]; exact hown) hgrow (fun g' hg' => by simp only [Value.ownBlock, Option.some.injEq] at hg'; subst hg'; exact hat)).1; clear hown hgrow hat hlt S; have S := S2; clear S2))
        | (go_at_call 28; refine (CLD.out _).mono ?_; rintro e w8 ⟨rfl, rfl⟩)
        | (go_at_call 30; refine (CST.out _).mono ?_; rintro e w8 ⟨rfl, rfl⟩))
      refine bodyPost_ret (S.results rfl _ _ rfl 3 _ rfl _ Tryz.underlying52 rfl (by rw [res_length hRX]; exact szRef)) rfl ?_
      have HF : fin = (⟨s.R, s.E ++ [⟨at' + s.p, 0, costS h.op⟩], s.p, s.D⟩, 0) := by
        rw [HRUN2.out, HST.out]
        rfl
      rw [HF]
      refine ⟨some ⟨g, 0, none⟩, cap, base, ?_, ?_, HB.out.2.2, HB.out.1, S.inv.1, S.mid, HOK2.out⟩
      · simp only [List.length_append, List.length_cons, List.length_nil, Nat.zero_add]
        rfl
      · simp only [List.length_append, List.length_cons, List.length_nil, Nat.zero_add]
        exact S.inv.2.1
    · have HN : Hid (h.op = 31) := hn
      clear hn
      have hld : loadsS h.op = 0 := by rw [HN.out]; rfl
      have hst : storesS h.op = 0 := by rw [HN.out]; rfl
      have HST : Hid (stepS at' Bs h s = (⟨s.R, s.E ++ [⟨at' + s.p, 0, costS h.op⟩], s.p, s.D⟩, h.im, false)) := by
        have hst : stepS at' Bs h s = (⟨s.R, s.E ++ [⟨at' + s.p, 0, costS h.op⟩], s.p, s.D⟩, h.im, false) := by
          have had : addrS h s.R = 0 := by simp [addrS, hld, hst]
          simp only [stepS, evS, had]
          simp [actS, HN.out]
        exact hst
      have HOK2 : Hid (okR (s.R)) := by
        have q := actS_R (Bs := Bs) (s := ⟨s.R, s.E ++ [evS at' h s], s.p, s.D⟩) (h := h) S.inv.1 HO.out HRS.out
        have e : actS Bs h ⟨s.R, s.E ++ [evS at' h s], s.p, s.D⟩ = stepS at' Bs h s := rfl
        rw [e, HST.out] at q
        exact q
      have HP2 : Hid (-8589934592 ≤ s.p ∧ s.p ≤ 8589934592) := by
        have q := actS_p (Bs := Bs) (s := ⟨s.R, s.E ++ [evS at' h s], s.p, s.D⟩) (h := h) hq0 (by simp only []; omega)
        have e : actS Bs h ⟨s.R, s.E ++ [evS at' h s], s.p, s.D⟩ = stepS at' Bs h s := rfl
        rw [e, HST.out] at q
        exact q
      rw [hld] at CLD
      rw [hst] at CST
      have q28 : (h.op == 28) = false := by rw [HN.out]; rfl
      have q29 : (h.op == 29) = false := by rw [HN.out]; rfl
      have q30 : (h.op == 30) = false := by rw [HN.out]; rfl
      have q31 : (h.op == 31) = true := by rw [HN.out]; rfl
      have eim : IntKind.i64.wrap h.im = h.im := by rw [IntKind.wrap_i64]; omega
      have hRX : s.R.length = 32 := HOK2.out.1
      go_wp2_with (first
        | ((with_reducible refine wpl_isLoad ?_); first
          | (refine S.ld 3 _ rfl _ 0 rfl 1 (Cel.host h) rfl _ rfl _ Tryz.underlying3 rfl rfl ?_)
          | (refine S.ld 3 _ rfl _ 1 rfl 1 (Cel.host h) rfl _ rfl _ Tryz.underlying3 rfl rfl ?_)
          | (refine S.ld 3 _ rfl _ 2 rfl 1 (Cel.host h) rfl _ rfl _ Tryz.underlying3 rfl rfl ?_)
          | (refine S.ld 26 _ rfl _ 5 rfl 1 (Cel.host h) rfl _ rfl _ Tryz.underlying26 rfl rfl ?_)
          | (refine S.ld 26 _ rfl _ _ rfl 2 (Cel.res _ _ _ _) rfl _ (res_reg HAA.out _ _ _) _ Tryz.underlying26 rfl rfl ?_)
          | (refine S.ld 47 _ rfl _ 32 rfl 2 (Cel.res _ _ _ _) rfl _ (res_32 hRX _ _ _) _ Tryz.underlying47 rfl rfl ?_)
          | (refine S.ldAll 59 _ rfl _ rfl 0 (Cel.ev _ _ _) rfl _ Tryz.underlying59 rfl szEv rfl ?_)
          | (refine S.ldAll 52 _ rfl _ rfl 2 (Cel.res _ _ _ _) rfl _ Tryz.underlying52 rfl (by rw [res_length hRX]; exact szRef) rfl ?_))
        | ((with_reducible refine wpl_isStore ?_); first
          | (refine S.store1 rfl 26 _ _ rfl _ 1 _ rfl rfl 0 (Cel.ev _ _ _) rfl rfl (by simp [Cel.cells]) (Cel.ev _ _ _) rfl szU ?_; clear S; intro w9 S; simp only [List.set_cons_zero, List.set_cons_succ] at S)
          | (refine S.store1 rfl 3 _ _ rfl _ 33 _ rfl rfl 2 (Cel.res _ _ _ _) rfl rfl (by rw [res_length hR32]; omega) _ (set_33 hR32 _ _ _ _) szI ?_; clear S; intro w9 S; simp only [List.set_cons_zero, List.set_cons_succ] at S)
          | (refine S.store1 rfl 47 _ _ rfl _ 32 _ rfl rfl 2 (Cel.res _ _ _ _) rfl rfl (by rw [res_length hRX]; omega) _ (set_32 hRX _ _ _ _) szEvs ?_; clear S; intro w22 S; simp only [List.set_cons_zero, List.set_cons_succ] at S)
          | (refine S.storeAll rfl 52 _ _ rfl _ (Cel.res _ _ _ _) rfl rfl 3 _ rfl (by rw [res_length hRX, res_length (by simp)]) (one_res rfl) (by rw [res_length hRX]; exact szRef) ?_; clear S; intro w9 S; simp only [List.set_cons_zero, List.set_cons_succ] at S))
        | ((with_reducible refine wpl_isDst 132 ?_); refine wpl_dst 132 rfl (.bool false) (by go_simp; try simp only [q28]) rfl ?_)
        | ((with_reducible refine wpl_isDst 135 ?_); refine wpl_dst 135 rfl (.bool false) (by go_simp; try simp only [q29]) rfl ?_)
        | ((with_reducible refine wpl_isDst 153 ?_); refine wpl_dst 153 rfl (.bool false) (by go_simp; try simp only [q29]) rfl ?_)
        | ((with_reducible refine wpl_isDst 157 ?_); refine wpl_dst 157 rfl (.bool false) (by go_simp; try simp only [q30]) rfl ?_)
        | ((with_reducible refine wpl_isDst 161 ?_); refine wpl_dst 161 rfl (.bool true) (by go_simp; try simp only [q31]) rfl ?_)
        | ((with_reducible refine wpl_is ?_); first
          | (refine S.slice1 rfl _ rfl _ _ _ rfl ?_; clear S; intro w20 S)
          | (refine wpList_append_lies _ rfl _ _ 47 rfl base 59 i0 _ 3 24 Tryz.underlying47 HI.out.1 HI.out.2.1 HI.out.2.2.1 HI.out.2.2.2 rfl (by decide) (.slice A s.E.length c) s.E.length (evC s.E) rfl S.inv.1.2.1 ⟨_, 0, none⟩ 1 1 (HEv.cells ⟨at' + s.p, 0, costS h.op⟩) rfl rfl S.inv.2 (one_ev _) (by decide) (by simp only [maxLen]; omega) (by omega) S.inv.1.2.2 _ rfl ?_; intro g cap w21 hown hgrow hat hlt; have S2 := (S.dropA.appended (v' := .slice (some ⟨g, 0, none⟩) (s.E.length + 1) cap) (E' := s.E ++ [⟨at' + s.p, 0, costS h.op⟩]) HB.out.1 HB.out.2.1 HB.out.2.2 (by unfold EvRow; rw [evC_snoc, List.length_append]; exact hown) hgrow (fun g' hg' => by simp only [Value.ownBlock, Option.some.injEq] at hg'; subst hg'; exact hat)).1; clear hown hgrow hat hlt S; have S := S2; clear S2))
        | (go_at_call 28; refine (CLD.out _).mono ?_; rintro e w8 ⟨rfl, rfl⟩)
        | (go_at_call 30; refine (CST.out _).mono ?_; rintro e w8 ⟨rfl, rfl⟩))
      refine bodyPost_ret (S.results rfl _ _ rfl 3 _ rfl _ Tryz.underlying52 rfl (by rw [res_length hRX]; exact szRef)) rfl ?_
      have HF : fin = (⟨s.R, s.E ++ [⟨at' + s.p, 0, costS h.op⟩], s.p, s.D⟩, h.im) := by
        rw [HRUN2.out, HST.out]
        rfl
      rw [HF]
      refine ⟨some ⟨g, 0, none⟩, cap, base, ?_, ?_, HB.out.2.2, HB.out.1, S.inv.1, S.mid, HOK2.out⟩
      · simp only [List.length_append, List.length_cons, List.length_nil, Nat.zero_add]
        rfl
      · simp only [List.length_append, List.length_cons, List.length_nil, Nat.zero_add]
        exact S.inv.2.1
end Go.Proofs.YtjhmmfpmmgebjaaGreat
