/- Run, walked without a memory. -/
import Derived.Test.YtjhmmfpmmgebjaaGreatHvc
import Derived.Deep.WholeRow
namespace Go.Proofs.YtjhmmfpmmgebjaaGreat
open Go.ChangeShapes Go.WideShapes Go.ChangeAt Go.RowKit
set_option linter.unusedVariables false
set_option linter.unusedSimpArgs false

def RunPostN (w : World) (fin : HSt × Int) (e : Ending) (w' : World) : Prop :=
  ∃ A c base, e = .returned (Cel.res fin.1.R (.slice A fin.1.E.length c) fin.2 fin.1.p).val ∧ EvRow w' base (.slice A fin.1.E.length c) fin.1.E ∧ w.heap.size ≤ base ∧ Below w.heap.size w w' ∧ okR fin.1.R
theorem SH.newMem {w0 w w1 : World} {L : List (Nat × Cel)} {pm lo hi : Nat} {q : Nat → Nat} (S : SH noZ w0 w L) (hb : Below w.heap.size w w1) (hm : MemAt w1 pm 0 lo hi [] [] [] q) (hlo : lo = w.heap.size) : SH (memZ pm 0 lo hi [] [] [] q) w0 w1 L := by
  have S1 := S.below hb
  refine S1.turn (memZ_ok _ _ _ _ _ _ _ _) hm (fun k hk => ?_) ⟨S1.mid.os, S1.mid.tape, S1.mid.output, S1.mid.size, fun k hk _ => S1.mid.block k hk (.inr (Nat.zero_le _))⟩ (fun _ _ => rfl) (fun p hp hz => ?_)
  · have := hm.top
    rcases hk with hk | hk <;> omega
  · have := (S.blk p hp).lt
    rcases hz with hz | hz <;> omega
theorem new_none (w : World) : Calls Tryz.prog 6 #[.slice none 0 0] w fun e w' => ∃ pm q lo hi, e = .returned (.tuple #[.pointer (some ⟨pm, 0, none⟩), .int .i64 0]) ∧ MemAt w' pm 0 lo hi [] [] [] q ∧ lo = w.heap.size ∧ Below w.heap.size w w' := by
  have hR : RL w (fun _ => False) (.slice none 0 0) [] [] := ⟨[], rfl, rfl, none, 0, rfl, fun _ => ⟨rfl, rfl⟩, fun b o h => (by cases h), ⟨by decide, fun i hi => absurd hi (Nat.not_lt_zero _)⟩, fun i r g hr => (by simp at hr)⟩
  refine (new_ok (.slice none 0 0) [] [] (fun _ => False) w hR (fun b h => h.elim) (by decide) (fun g hg => by cases hg)).mono ?_
  rintro e w' ⟨p, q, rfl, h1, h2⟩
  exact ⟨p, q, _, _, rfl, h1, rfl, h2⟩
set_option maxHeartbeats 16000000 in
set_option maxRecDepth 100000 in
theorem run_nil (code : List HV) (A0 : Option Addr) (c0 : Nat) (at' most : Int) (R0 : List Int) (w : World)
    (hC : CL w A0 code) (hA : ∀ b o, A0 = some ⟨b, o, none⟩ → code = [] ∨ b < w.heap.size) (hR : okR R0) (t0 : -1000000 ≤ at') (t1 : at' ≤ 1000000) (m1 : most ≤ 1000) (fin : HSt × Int) (hfin : runS at' [] code most.toNat ⟨R0, [], 0, []⟩ = fin) :
    Calls Tryz.prog 9 #[.slice A0 code.length c0, .int .i64 at', (Cel.regs R0).val, .pointer none, .int .i64 most] w fun e w' => RunPostN w fin e w' := by
  have S := SH.start w
  have HC : Hid (CL w A0 code) := hC
  have HA0 : Hid (∀ b o, A0 = some ⟨b, o, none⟩ → code = [] ∨ b < w.heap.size) := hA
  have hR32 := hR.1
  have HR : Hid (okR R0) := hR
  have HF : Hid (runS at' [] code most.toNat ⟨R0, [], 0, []⟩ = fin) := hfin
  have hlen : (code.length : Int) ≤ 1000000 := hC.1
  have HN : Hid (∀ w1, Calls Tryz.prog 6 #[.slice none 0 0] w1 fun e w' => ∃ pm q lo hi, e = .returned (.tuple #[.pointer (some ⟨pm, 0, none⟩), .int .i64 0]) ∧ MemAt w' pm 0 lo hi [] [] [] q ∧ lo = w1.heap.size ∧ Below w1.heap.size w1 w') := fun w1 => new_none w1
  have HT : Hid (∀ w1, Calls Tryz.prog 20 #[] w1 fun e w' => e = .returned (Cel.any tabC).val ∧ Below w1.heap.size w1 w') := fun w1 => reckoners_c w1
  obtain ⟨i0, hi0, hz0, hz1, hz2⟩ := ev_info
  have HI : Hid (Tryz.prog.info? 59 = some i0 ∧ i0.zero = some (.agg #[.int .i64 0, .int .u32 0, .int .i64 0]) ∧ i0.size = 3 ∧ i0.bytes = 24) := ⟨hi0, hz0, hz1, hz2⟩
  clear hC hA hR hfin hi0 hz0 hz1 hz2
  go_enter Tryz.func9, Tryz.ntmps9
  go_wp2_with (first
    | (refine S.box rfl _ _ rfl (Cel.regs R0) rfl ?_; clear S; intro b7 w7 S)
    | (refine SH.alloc (L := [(_, Cel.any tabC), _, _]) S rfl 49 rfl _ zeroRes ?_; clear S; intro b12 w12 S)
    | (refine S.alloc rfl 49 rfl _ zeroRes ?_; clear S; intro b10 w10 S)
    | (refine (HN.out _).mono ?_; rintro e wn ⟨pm, q, lo, hi, rfl, hm, hlo, hwn⟩; have hlw : Hid (w.heap.size ≤ lo) := (by rw [hlo]; exact S.mid.size); replace S := S.newMem hwn hm hlo; clear hwn hm hlo)
    | (refine (HT.out _).mono ?_; rintro e w8 ⟨rfl, hw8⟩; replace S := S.below hw8; clear hw8)
    | (refine S.alloc rfl 72 rfl _ zeroTab ?_; clear S; intro b11 w11 S)
    | (refine S.storeAll rfl 72 _ _ rfl _ (Cel.any tabC) rfl rfl 0 _ rfl rfl one_tab szTab ?_; clear S; intro w11 S; simp only [List.set_cons_zero, List.set_cons_succ] at S)
    | (refine S.loadAll rfl 27 _ rfl _ rfl 2 (Cel.regs R0) rfl _ Tryz.underlying27 rfl (by simp only [Cel.cells]; rw [rc_length, hR32]; exact szRegs) ?_)
    | (refine wpl_build rfl 49 _ rfl (Cel.res R0 (.slice none 0 0) 0 0).val ?_ ?_; exact build_res hR32 rfl)
    | (refine S.storeAll rfl 49 _ _ rfl _ (Cel.res R0 (.slice none 0 0) 0 0) rfl rfl 0 _ rfl (by rw [res_length hR32, res_length (by simp)]) (one_res rfl) (by rw [res_length hR32]; exact szRes) ?_; clear S; intro w12 S; simp only [List.set_cons_zero, List.set_cons_succ] at S))
  have HA : Hid (∀ b o, A0 = some ⟨b, o, none⟩ → code = [] ∨ b < lo ∨ hi ≤ b) := fun b o h => (HA0.out b o h).imp id fun q => .inl (Nat.lt_of_lt_of_le q hlw.out)
  have HLOW : Hid (∀ w', Mid lo hi w w' → Below w.heap.size w w') := fun w' h => ⟨h.os, h.tape, h.output, h.size, fun k hk => h.block k hk (.inl (Nat.lt_of_lt_of_le hk hlw.out))⟩
  obtain ⟨l0, hl0⟩ : ∃ x : Nat, x = 0 := ⟨_, rfl⟩
  obtain ⟨Bs, hBs⟩ : ∃ x : List Reg, x = [] := ⟨_, rfl⟩
  obtain ⟨G, hG⟩ : ∃ x : List (List Int), x = [] := ⟨_, rfl⟩
  obtain ⟨D, hD⟩ : ∃ x : List (List Int), x = [] := ⟨_, rfl⟩
  have S3 : SH (memZ pm l0 lo hi Bs G D q) w w12 [(b12, Cel.res R0 (.slice none 0 0) 0 0), (b11, Cel.any tabC), (b10, Cel.res (List.replicate 32 0) (.slice none 0 0) 0 0), (b7, Cel.regs R0)] := by
    subst hl0 hBs hG hD
    exact S
  have HF2 : Hid (runS at' Bs code most.toNat ⟨R0, [], 0, D⟩ = fin) := by
    subst hBs hD
    exact HF.out
  clear S HF HA0 HN hlw hl0 hBs hG hD
  have S := S3
  have HF := HF2
  clear S3 HF2
  replace S := S.toRun (base := w12.heap.size) (Nat.le_refl _)
  obtain ⟨base, hbase⟩ : ∃ b, b = w12.heap.size := ⟨_, rfl⟩
  have HB : Hid (hi ≤ base ∧ l0 ≤ base ∧ w.heap.size ≤ base) := by
    rw [hbase]
    exact ⟨S.inv.1.top, S.runL0, S.mid.size⟩
  rw [← hbase] at S
  have ST : Hid (runRel w pm l0 lo hi Bs G q base b7 b10 b11 b12 R0 code at' most.toNat fin (.bool true) w12) := ⟨⟨R0, [], 0, D⟩, 0, true, none, 0, most.toNat, rfl, S, HR.out, ⟨by simp, by simp⟩, by simp, rfl, HF.out⟩
  clear S HF HT hbase HR
  go_loopw [13] (fun g wr => runRel w pm l0 lo hi Bs G q base b7 b10 b11 b12 R0 code at' most.toNat fin g wr) (fun g wr => runMeas most.toNat b12 g wr)
  case atStart => exact ST.out
  case round =>
    clear ST
    obtain ⟨s, er, go, A, c, k, rfl, S, hRs, ⟨p0, p1⟩, hk, hgo⟩ := hrel
    have HRS : Hid (okR s.R) := hRs
    have hR32 := hRs.1
    clear hRs
    have HOLD : Hid (evLen wr b12 = s.E.length) := evLen_of (i := 0) S rfl hR32
    cases go
    · have HFI : Hid (fin = (s, er)) := hgo
      clear hgo
      go_wp2_with (first
        | (refine S.loadAll rfl 49 _ rfl _ rfl 0 (Cel.res _ _ _ _) rfl _ Tryz.underlying49 rfl (by rw [res_length hR32]; exact szRes) ?_)
        | (refine S.storeAll rfl 49 _ _ rfl _ (Cel.res _ _ _ _) rfl rfl 2 _ rfl (by rw [res_length hR32, res_length (by simp)]) (one_res rfl) (by rw [res_length hR32]; exact szRes) ?_; clear S; intro w9 S; simp only [List.set_cons_zero, List.set_cons_succ] at S))
      refine bodyPost_ret (S.results rfl _ _ rfl 2 _ rfl _ Tryz.underlying49 rfl (by rw [res_length hR32]; exact szRes)) rfl ?_
      rw [HFI.out]
      exact ⟨A, c, base, rfl, S.inv.2.1, HB.out.2.2, HLOW.out _ S.mid, HRS.out⟩
    · obtain ⟨rfl, hrun⟩ := hgo
      have HRUN : Hid (runS at' Bs code k s = fin) := hrun
      clear hrun
      have CR : Hid (∀ w1, CL w1 A0 code → Calls Tryz.prog 21 #[.slice A0 code.length c0, .int .i64 s.p, .int .i64 s.E.length, .int .i64 most] w1 fun e w' => e = .returned (.int .i64 (refS code s.p s.E.length most)) ∧ Below w1.heap.size w1 w') := fun w1 h1 => refused_c A0 c0 code s.p s.E.length most w1 h1
      by_cases hbad : okPc code s.p = true ∧ k ≠ 0
      · obtain ⟨hok, hk0⟩ := hbad
        obtain ⟨k, rfl⟩ : ∃ j, k = j + 1 := ⟨k - 1, by omega⟩
        clear hk0
        obtain ⟨q0, qlt, hcode, hright⟩ := okPc_at hok
        have hr0 : refS code s.p s.E.length most = 0 := by
          simp only [refS, hok, if_true]
          rw [if_neg (by omega)]
        rw [hr0] at CR
        have hrun2 : fin = if (stepS at' Bs (codeAt code s.p) s).2.2 then runS at' Bs code k (stepS at' Bs (codeAt code s.p) s).1 else ((stepS at' Bs (codeAt code s.p) s).1, (stepS at' Bs (codeAt code s.p) s).2.1) := by
          rw [← HRUN.out]
          simp only [runS, hok, if_true]
        have HRUN2 : Hid (fin = if (stepS at' Bs (codeAt code s.p) s).2.2 then runS at' Bs code k (stepS at' Bs (codeAt code s.p) s).1 else ((stepS at' Bs (codeAt code s.p) s).1, (stepS at' Bs (codeAt code s.p) s).2.1)) := hrun2
        clear hrun2
        clear HRUN hr0 hok
        generalize codeAt code s.p = h at *
        obtain ⟨hwf, bc, oc, hA0, _⟩ := HC.out.2 s.p.toNat h hcode
        subst hA0
        obtain ⟨ho, o1, o2⟩ := right_ok hwf hright
        have HO : Hid (HOk h) := ho
        have HCD : Hid (code[s.p.toNat]? = some h) := hcode
        have hplt : s.p < (code.length : Int) := by omega
        have hop0 : 0 ≤ h.op := by omega
        have hop1 : h.op < 32 := by omega
        clear hwf hright ho hcode
        go_wp2_with (first
          | (refine S.load1 rfl 3 _ rfl _ 34 rfl 0 _ rfl _ (res_34 hR32 _ _ _) _ Tryz.underlying3 rfl ?_)
          | (refine S.load1 rfl 47 _ rfl _ 32 rfl 0 _ rfl _ (res_32 hR32 _ _ _) _ Tryz.underlying47 rfl ?_)
          | (refine (CR.out _ (HC.out.mid HA.out S.mid)).mono ?_; rintro e w9 ⟨rfl, hw9⟩; replace S := S.below hw9; clear hw9)
          | (refine wpList_load_mid rfl 31 _ rfl bc (oc + s.p.toNat * 6) rfl (Cel.host h).cells _ (code_range HC.out HA.out S.mid HCD.out) Tryz.underlying31 rfl szHost ?_)
          | (refine S.alloc rfl 31 rfl _ zeroHost ?_; clear S; intro b15 w15 S)
          | (refine S.storeAll rfl 31 _ _ rfl _ (Cel.host h) rfl rfl 0 _ rfl rfl (one_host h) szHost ?_; clear S; intro w15 S; simp only [List.set_cons_zero, List.set_cons_succ] at S))
        have CSUM : Hid (∀ w1, Calls Tryz.prog 23 #[.int .i64 at', .int .i64 s.p] w1 fun e w' => e = .returned (.int .i64 (at' + s.p)) ∧ w' = w1) := fun w1 => sum_c at' s.p (by omega) (by omega) q0 (by omega) w1
        have CEV : Hid (∀ w1, Calls Tryz.prog 22 #[(Cel.host h).val, .int .i64 (at' + s.p), (Cel.regs s.R).val] w1 fun e w' => e = .returned (.agg #[.int .i64 (at' + s.p), .int .u32 (addrS h s.R), .int .i64 (costS h.op)]) ∧ Below w1.heap.size w1 w') := fun w1 => event_c h s.R (at' + s.p) HO.out HRS.out w1
        refine Upto.start (S := fun w' => SH (runZ pm l0 lo hi Bs G q base (.slice A s.E.length c) s.E s.D).free w w' [(b15, Cel.host h), (b12, Cel.res s.R (.slice A s.E.length c) 0 s.p), (b11, Cel.any tabC), (b10, Cel.res (List.replicate 32 0) (.slice none 0 0) 0 0), (b7, Cel.regs R0)]) 13 (by kernel_rfl) ?_
        replace S := S.drew
        have O := S.toFree
        refine Upto.take (i := 0) (oi := { dst := some 45, op := Op.fieldAddr 49 (Operand.tmp 12) 1, type := 0, pos := "hvm.go:36", after := #[], guard := none }) (v := ?_) rfl (by kernel_rfl) (by kernel_rfl) (by kernel_rfl) (by kernel_rfl) (fun _ _ _ h => h) (Or.inl ⟨by rfl, ?_⟩) (by exact O) ?_
        rotate_left 1
        · intro w hSw
          clear hSw
          go_simp
          try with_reducible rfl
        simp only [Act.put, List.setIfInBounds_toArray, List.set_cons_zero, List.set_cons_succ]
        refine Upto.take (i := 1) (oi := { dst := some 46, op := Op.load 47 (Operand.tmp 45), type := 47, pos := "hvm.go:36", after := #[{ on := 0, ground := Ground.data }], guard := none }) (v := _) rfl (by kernel_rfl) (by kernel_rfl) (by kernel_rfl) (by kernel_rfl) (fun _ _ _ h => h) (y_load1 (by rfl) _ _ rfl _ _ rfl 1 _ rfl _ (res_32 hR32 _ _ _) _ Tryz.underlying47 rfl) (by exact O) ?_
        simp only [Act.put, List.setIfInBounds_toArray, List.set_cons_zero, List.set_cons_succ]
        refine Upto.take (i := 2) (oi := { dst := some 47, op := Op.load 31 (Operand.tmp 15), type := 31, pos := "hvm.go:36", after := #[], guard := none }) (v := _) rfl (by kernel_rfl) (by kernel_rfl) (by kernel_rfl) (by kernel_rfl) (fun _ _ _ h => h) (y_loadAll (by rfl) _ _ rfl _ rfl 0 _ rfl _ Tryz.underlying31 rfl szHost) (by exact O) ?_
        simp only [Act.put, List.setIfInBounds_toArray, List.set_cons_zero, List.set_cons_succ]
        refine Upto.take (i := 3) (oi := { dst := some 48, op := Op.move (Operand.tmp 1), type := 3, pos := "hvm.go:36", after := #[], guard := none }) (v := ?_) rfl (by kernel_rfl) (by kernel_rfl) (by kernel_rfl) (by kernel_rfl) (fun _ _ _ h => h) (Or.inl ⟨by rfl, ?_⟩) (by exact O) ?_
        rotate_left 1
        · intro w hSw
          clear hSw
          go_simp
          try with_reducible rfl
        simp only [Act.put, List.setIfInBounds_toArray, List.set_cons_zero, List.set_cons_succ]
        refine Upto.take (i := 4) (oi := { dst := some 49, op := Op.fieldAddr 49 (Operand.tmp 12) 3, type := 0, pos := "hvm.go:36", after := #[], guard := none }) (v := ?_) rfl (by kernel_rfl) (by kernel_rfl) (by kernel_rfl) (by kernel_rfl) (fun _ _ _ h => h) (Or.inl ⟨by rfl, ?_⟩) (by exact O) ?_
        rotate_left 1
        · intro w hSw
          clear hSw
          go_simp
          try with_reducible rfl
        simp only [Act.put, List.setIfInBounds_toArray, List.set_cons_zero, List.set_cons_succ]
        refine Upto.take (i := 5) (oi := { dst := some 50, op := Op.load 3 (Operand.tmp 49), type := 3, pos := "hvm.go:36", after := #[{ on := 4, ground := Ground.data }], guard := none }) (v := _) rfl (by kernel_rfl) (by kernel_rfl) (by kernel_rfl) (by kernel_rfl) (fun _ _ _ h => h) (y_load1 (by rfl) _ _ rfl _ _ rfl 1 _ rfl _ (res_34 hR32 _ _ _) _ Tryz.underlying3 rfl) (by exact O) ?_
        simp only [Act.put, List.setIfInBounds_toArray, List.set_cons_zero, List.set_cons_succ]
        refine Upto.take (i := 7) (oi := { dst := some 52, op := Op.fieldAddr 49 (Operand.tmp 12) 0, type := 0, pos := "hvm.go:36", after := #[], guard := none }) (v := ?_) rfl (by kernel_rfl) (by kernel_rfl) (by kernel_rfl) (by kernel_rfl) (fun _ _ _ h => h) (Or.inl ⟨by rfl, ?_⟩) (by exact O) ?_
        rotate_left 1
        · intro w hSw
          clear hSw
          go_simp
          try with_reducible rfl
        simp only [Act.put, List.setIfInBounds_toArray, List.set_cons_zero, List.set_cons_succ]
        refine Upto.take (i := 8) (oi := { dst := some 53, op := Op.load 27 (Operand.tmp 52), type := 27, pos := "hvm.go:36", after := #[{ on := 7, ground := Ground.data }], guard := none }) (v := _) rfl (by kernel_rfl) (by kernel_rfl) (by kernel_rfl) (by kernel_rfl) (fun _ _ _ h => h) (y_loadRegs (by rfl) _ _ rfl _ rfl 1 _ _ _ _ rfl _ Tryz.underlying27 rfl (by rw [rc_length, hR32]; exact szRegs)) (by exact O) ?_
        simp only [Act.put, List.setIfInBounds_toArray, List.set_cons_zero, List.set_cons_succ]
        refine Upto.ready (rs := [6]) (by kernel_rfl) (by simp) ?_
        refine Nexts.cons rfl (by decide) (fun K hK => ?_) Nexts.nil
        go_simp
        go_wp2_with (refine (CSUM.out _).mono ?_; rintro e w8 ⟨rfl, rfl⟩)
        refine hK.out _ _ (by exact O) ?_
        clear hK K
        refine Upto.ready (rs := [9]) (by kernel_rfl) (by simp) ?_
        refine Nexts.cons rfl (by decide) (fun K hK => ?_) Nexts.nil
        go_simp
        go_wp2_with (refine (CEV.out _).mono ?_; rintro e w8 ⟨rfl, hw8⟩)
        replace S := S.below hw8
        replace O := S.toFree
        clear hw8
        refine hK.out _ _ (by exact O) ?_
        clear hK K
        refine Upto.ready (rs := [10]) (by kernel_rfl) (by simp) ?_
        refine Nexts.cons rfl (by decide) (fun K hK => ?_) Nexts.nil
        go_simp
        replace S := S.below ((Below.refl w8.heap.size w8).alloc (Nat.le_refl _) (Obj.cells #[.int .i64 (at' + s.p), .int .u32 (addrS h s.R), .int .i64 (costS h.op)] 59))
        replace O := S.toFree
        refine hK.out _ _ (by exact O) ?_
        clear hK K
        refine Upto.ready (rs := [11]) (by kernel_rfl) (by simp) ?_
        refine Nexts.cons rfl (by decide) (fun K hK => ?_) Nexts.nil
        rw [if_pos (by rfl)]
        refine wp_append_lies _ _ _ 47 rfl base 59 i0 _ 3 24 Tryz.underlying47 HI.out.1 HI.out.2.1 HI.out.2.2.1 HI.out.2.2.2 rfl (by decide) (.slice A s.E.length c) s.E.length (evC s.E) rfl S.inv.2.1 ⟨w8.heap.size, 0, none⟩ 1 1 (HEv.cells ⟨at' + s.p, addrS h s.R, costS h.op⟩) rfl rfl (new_ev w8 _ _ _ _) (one_ev _) (by decide) (by simp only [maxLen]; omega) (by omega) S.inv.2.2 _ rfl ?_
        intro g cap w11 hown hgrow hat hlt
        obtain ⟨S2, O2⟩ := S.appended (v' := .slice (some ⟨g, 0, none⟩) (s.E.length + 1) cap) (E' := s.E ++ [⟨at' + s.p, addrS h s.R, costS h.op⟩]) HB.out.1 HB.out.2.1 HB.out.2.2 (by unfold EvRow; rw [evC_snoc, List.length_append]; exact hown) hgrow (fun g' hg' => by simp only [Value.ownBlock, Option.some.injEq] at hg'; subst hg'; exact hat)
        clear hown hgrow hat hlt S O
        refine hK.out _ _ (by exact O2) ?_
        have S := S2
        have O := O2
        clear S2 O2
        simp only [Act.put, List.setIfInBounds_toArray, List.set_cons_zero, List.set_cons_succ]
        clear hK K
        refine Upto.take (i := 12) (oi := { dst := some 57, op := Op.fieldAddr 49 (Operand.tmp 12) 1, type := 0, pos := "hvm.go:36", after := #[{ on := 0, ground := Ground.phase }, { on := 1, ground := Ground.phase }, { on := 2, ground := Ground.phase }, { on := 3, ground := Ground.phase }, { on := 4, ground := Ground.phase }, { on := 5, ground := Ground.phase }, { on := 6, ground := Ground.phase }, { on := 7, ground := Ground.phase }, { on := 8, ground := Ground.phase }, { on := 9, ground := Ground.phase }, { on := 10, ground := Ground.phase }, { on := 11, ground := Ground.phase }], guard := none }) (v := ?_) rfl (by kernel_rfl) (by kernel_rfl) (by kernel_rfl) (by kernel_rfl) (fun _ _ _ h => h) (Or.inl ⟨by rfl, ?_⟩) (by exact O) ?_
        rotate_left 1
        · intro w hSw
          clear hSw
          go_simp
          try with_reducible rfl
        simp only [Act.put, List.setIfInBounds_toArray, List.set_cons_zero, List.set_cons_succ]
        refine Upto.ready (rs := [13]) (by kernel_rfl) (by simp) ?_
        refine Nexts.last rfl (fun K hK => ?_)
        rw [if_pos (by rfl)]
        refine S.wpStore1 47 _ _ rfl _ 32 _ rfl rfl 1 _ rfl rfl (by rw [res_length hR32]; omega) _ (set_32 hR32 _ _ _ _) szEvs ?_
        clear S O
        intro w13 S
        simp only [List.set_cons_zero, List.set_cons_succ] at S
        refine hK.out _ _ ?_
        simp only [Act.put, List.setIfInBounds_toArray, List.set_cons_zero, List.set_cons_succ]
        clear hK K
        refine Upto.done (by kernel_rfl) ?_ _
        clear CSUM CEV CR
        by_cases h21 : h.op ≤ 21
        · obtain ⟨f, hf, hcall⟩ := rk_call h s.R HO.out HRS.out o1 h21
          have HCALL : Hid _ := hcall
          have HTAB : Hid (tabC[h.op.toNat]? = some (.func (.func f) #[] #[])) := hf
          clear hcall hf
          have CSET : Hid (∀ x w1, Calls Tryz.prog 24 #[(Cel.res s.R (.slice (some ⟨g, 0, none⟩) (s.E.length + 1) cap) 0 s.p).val, .int .i64 h.d, .int .u32 x] w1 fun en w' => en = .returned (Cel.res (s.R.set h.d.toNat x) (.slice (some ⟨g, 0, none⟩) (s.E.length + 1) cap) 0 (s.p + 1)).val ∧ Below w1.heap.size w1 w') := fun x w1 => set_c s.R _ 0 s.p h.d x hR32 rfl HO.out.1.1 HO.out.1.2 (by omega) (by omega) w1
          have hfn : ∀ w1, (binOp .neq 71 (.func (.func f) #[] #[]) .nilFunc).run Tryz.prog w1 = .ok (.bool true) w1 := fun w1 => by kernel_rfl
          have hlS : ∀ x, (s.R.set h.d.toNat x).length = 32 := fun x => by simp [hR32]
          go_wp2_with (first
            | (refine S.load1 rfl 3 _ rfl _ 0 rfl 0 (Cel.host h) rfl _ rfl _ Tryz.underlying3 rfl ?_)
            | (refine S.load1 rfl 71 _ rfl _ _ rfl 2 (Cel.any tabC) rfl _ HTAB.out _ Tryz.underlying71 rfl ?_))
          refine Upto.start (S := fun w' => SH (runZ pm l0 lo hi Bs G q base (.slice (some ⟨g, 0, none⟩) (s.E.length + 1) cap) (s.E ++ [⟨at' + s.p, addrS h s.R, costS h.op⟩]) s.D) w w' [(b15, Cel.host h), (b12, Cel.res s.R (.slice (some ⟨g, 0, none⟩) (s.E.length + 1) cap) 0 s.p), (b11, Cel.any tabC), (b10, Cel.res (List.replicate 32 0) (.slice none 0 0) 0 0), (b7, Cel.regs R0)]) 9 (by kernel_rfl) ?_
          replace S := S.drew
          refine Upto.take (i := 0) (oi := { dst := some 64, op := Op.load 49 (Operand.tmp 12), type := 49, pos := "hvm.go:38", after := #[], guard := none }) (v := _) rfl (by kernel_rfl) (by kernel_rfl) (by kernel_rfl) (by kernel_rfl) (fun _ _ _ h => h) (y_loadAll (by rfl) _ _ rfl _ rfl 1 _ rfl _ Tryz.underlying49 rfl (by rw [res_length hR32]; exact szRes)) (by exact S) ?_
          simp only [Act.put, List.setIfInBounds_toArray, List.set_cons_zero, List.set_cons_succ]
          refine Upto.take (i := 1) (oi := { dst := some 65, op := Op.fieldAddr 31 (Operand.tmp 15) 1, type := 0, pos := "hvm.go:38", after := #[], guard := none }) (v := ?_) rfl (by kernel_rfl) (by kernel_rfl) (by kernel_rfl) (by kernel_rfl) (fun _ _ _ h => h) (Or.inl ⟨by rfl, ?_⟩) (by exact S) ?_
          rotate_left 1
          · intro w hSw
            clear hSw
            go_simp
            try with_reducible rfl
          simp only [Act.put, List.setIfInBounds_toArray, List.set_cons_zero, List.set_cons_succ]
          refine Upto.take (i := 2) (oi := { dst := some 66, op := Op.load 3 (Operand.tmp 65), type := 3, pos := "hvm.go:38", after := #[{ on := 1, ground := Ground.data }], guard := none }) (v := _) rfl (by kernel_rfl) (by kernel_rfl) (by kernel_rfl) (by kernel_rfl) (fun _ _ _ h => h) (y_load1 (by rfl) _ _ rfl _ _ rfl 0 _ rfl _ rfl _ Tryz.underlying3 rfl) (by exact S) ?_
          simp only [Act.put, List.setIfInBounds_toArray, List.set_cons_zero, List.set_cons_succ]
          refine Upto.take (i := 3) (oi := { dst := some 67, op := Op.move (Operand.tmp 16), type := 71, pos := "hvm.go:38", after := #[], guard := none }) (v := ?_) rfl (by kernel_rfl) (by kernel_rfl) (by kernel_rfl) (by kernel_rfl) (fun _ _ _ h => h) (Or.inl ⟨by rfl, ?_⟩) (by exact S) ?_
          rotate_left 1
          · intro w hSw
            clear hSw
            go_simp
            try with_reducible rfl
          simp only [Act.put, List.setIfInBounds_toArray, List.set_cons_zero, List.set_cons_succ]
          refine Upto.take (i := 4) (oi := { dst := some 68, op := Op.load 31 (Operand.tmp 15), type := 31, pos := "hvm.go:38", after := #[], guard := none }) (v := _) rfl (by kernel_rfl) (by kernel_rfl) (by kernel_rfl) (by kernel_rfl) (fun _ _ _ h => h) (y_loadAll (by rfl) _ _ rfl _ rfl 0 _ rfl _ Tryz.underlying31 rfl szHost) (by exact S) ?_
          simp only [Act.put, List.setIfInBounds_toArray, List.set_cons_zero, List.set_cons_succ]
          refine Upto.take (i := 5) (oi := { dst := some 69, op := Op.fieldAddr 49 (Operand.tmp 12) 0, type := 0, pos := "hvm.go:38", after := #[], guard := none }) (v := ?_) rfl (by kernel_rfl) (by kernel_rfl) (by kernel_rfl) (by kernel_rfl) (fun _ _ _ h => h) (Or.inl ⟨by rfl, ?_⟩) (by exact S) ?_
          rotate_left 1
          · intro w hSw
            clear hSw
            go_simp
            try with_reducible rfl
          simp only [Act.put, List.setIfInBounds_toArray, List.set_cons_zero, List.set_cons_succ]
          refine Upto.take (i := 6) (oi := { dst := some 70, op := Op.load 27 (Operand.tmp 69), type := 27, pos := "hvm.go:38", after := #[{ on := 5, ground := Ground.data }], guard := none }) (v := _) rfl (by kernel_rfl) (by kernel_rfl) (by kernel_rfl) (by kernel_rfl) (fun _ _ _ h => h) (y_loadRegs (by rfl) _ _ rfl _ rfl 1 _ _ _ _ rfl _ Tryz.underlying27 rfl (by rw [rc_length, hR32]; exact szRegs)) (by exact S) ?_
          simp only [Act.put, List.setIfInBounds_toArray, List.set_cons_zero, List.set_cons_succ]
          refine Upto.ready (rs := [7]) (by kernel_rfl) (by simp) ?_
          refine Nexts.cons rfl (by decide) (fun K hK => ?_) Nexts.nil
          rw [if_pos (by rfl)]
          refine HCALL.out _ _ _ _ rfl rfl rfl ?_
          intro w14 hw14
          replace S := S.below hw14
          clear hw14
          refine hK.out _ _ (by exact S) ?_
          simp only [Act.put, List.setIfInBounds_toArray, List.set_cons_zero, List.set_cons_succ]
          clear hK K
          refine Upto.ready (rs := [8]) (by kernel_rfl) (by simp) ?_
          refine Nexts.cons rfl (by decide) (fun K hK => ?_) Nexts.nil
          go_simp
          go_wp2_with (refine (CSET.out _ _).mono ?_; rintro e w8 ⟨rfl, hw8⟩)
          replace S := S.below hw8
          clear hw8
          refine hK.out _ _ (by exact S) ?_
          clear hK K
          refine Upto.ready (rs := [9]) (by kernel_rfl) (by simp) ?_
          refine Nexts.last rfl (fun K hK => ?_)
          rw [if_pos (by rfl)]
          refine S.wpStoreAll 49 _ _ rfl _ (Cel.res (s.R.set h.d.toNat (reckS h.op (regv s.R h.a) (regv s.R h.b) (regv s.R h.c) h.im)) (.slice (some ⟨g, 0, none⟩) (s.E.length + 1) cap) 0 (s.p + 1)) rfl rfl 1 _ rfl (by rw [res_length (hlS _), res_length hR32]) (one_res rfl) (by rw [res_length (hlS _)]; exact szRes) ?_
          clear S
          intro w16 S
          simp only [List.set_cons_zero, List.set_cons_succ] at S
          refine hK.out _ _ ?_
          simp only [Act.put, List.setIfInBounds_toArray, List.set_cons_zero, List.set_cons_succ]
          clear hK K
          refine Upto.done (by kernel_rfl) ?_ _
          have HST : Hid (stepS at' Bs h s = (⟨s.R.set h.d.toNat (reckS h.op (regv s.R h.a) (regv s.R h.b) (regv s.R h.c) h.im), s.E ++ [⟨at' + s.p, addrS h s.R, costS h.op⟩], s.p + 1, s.D⟩, 0, true)) := by
            have hst : stepS at' Bs h s = (⟨s.R.set h.d.toNat (reckS h.op (regv s.R h.a) (regv s.R h.b) (regv s.R h.c) h.im), s.E ++ [⟨at' + s.p, addrS h s.R, costS h.op⟩], s.p + 1, s.D⟩, 0, true) := by simp only [stepS, actS, h21, if_true, evS]
            exact hst
          have HOK2 : Hid (okR (s.R.set h.d.toNat (reckS h.op (regv s.R h.a) (regv s.R h.b) (regv s.R h.c) h.im))) := okR_set HRS.out _ (reckS_ok (regv_at HRS.out HO.out.2.1.1 HO.out.2.1.2).2 (regv_at HRS.out HO.out.2.2.1.1 HO.out.2.2.1.2).2 (regv_at HRS.out HO.out.2.2.2.1.1 HO.out.2.2.2.1.2).2 HO.out.2.2.2.2)
          generalize s.R.set h.d.toNat (reckS h.op (regv s.R h.a) (regv s.R h.b) (regv s.R h.c) h.im) = R2 at *
          clear HCALL CSET hlS
          go_wp2
          go_roundw
          case rel =>
            refine ⟨⟨R2, s.E ++ [⟨at' + s.p, addrS h s.R, costS h.op⟩], s.p + 1, s.D⟩, 0, true, some ⟨g, 0, none⟩, cap, k, rfl, ?_, HOK2.out, ⟨by simp only []; omega, by simp only []; omega⟩, by simp only [List.length_append, List.length_cons, List.length_nil]; omega, rfl, ?_⟩
            · simp only [List.length_append, List.length_cons, List.length_nil, Nat.zero_add]
              exact S.fewer 1
            · rw [HRUN2.out, HST.out]
              rfl
          case measure =>
            have h1 := HOLD.out
            have h2 : evLen w16 b12 = s.E.length + 1 := evLen_of (i := 1) S rfl HOK2.out.1
            simp only [runMeas, h1, h2]
            omega
        · have hge : 22 ≤ h.op := by omega
          have HTAB : Hid (tabC[h.op.toNat]? = some .nilFunc) := tab_none h.op hge (by omega)
          have hnn : ∀ w1, (binOp .neq 71 .nilFunc .nilFunc).run Tryz.prog w1 = .ok (.bool false) w1 := fun w1 => by kernel_rfl
          obtain ⟨E2, hE2⟩ : ∃ E2, E2 = s.E ++ [(⟨at' + s.p, addrS h s.R, costS h.op⟩ : HEv)] := ⟨_, rfl⟩
          have hlE : E2.length = s.E.length + 1 := by rw [hE2]; simp
          rw [← hE2] at S
          have CT : Hid (∀ w1, MemAt w1 pm l0 lo hi Bs G s.D q → l0 ≤ w1.heap.size → Calls Tryz.prog 25 #[(Cel.res s.R (.slice (some ⟨g, 0, none⟩) (s.E.length + 1) cap) 0 s.p).val, (Cel.host h).val, .pointer (some ⟨pm, 0, none⟩)] w1 fun en w' =>
              en = .returned (.tuple #[(Cel.res (actS Bs h ⟨s.R, E2, s.p, s.D⟩).1.R (.slice (some ⟨g, 0, none⟩) (s.E.length + 1) cap) (actS Bs h ⟨s.R, E2, s.p, s.D⟩).2.1 (actS Bs h ⟨s.R, E2, s.p, s.D⟩).1.p).val, .bool (actS Bs h ⟨s.R, E2, s.p, s.D⟩).2.2]) ∧ MemAt w' pm l0 lo hi Bs G (actS Bs h ⟨s.R, E2, s.p, s.D⟩).1.D q ∧ Mid lo hi w1 w') :=
            fun w1 m1 m2 => touch_c ⟨s.R, E2, s.p, s.D⟩ (.slice (some ⟨g, 0, none⟩) (s.E.length + 1) cap) h hge o2 HO.out HRS.out rfl (by simp only []; omega) (by simp only []; omega) w1 m1 m2
          have HST : Hid (stepS at' Bs h s = actS Bs h ⟨s.R, E2, s.p, s.D⟩) := by
            have hst : stepS at' Bs h s = actS Bs h ⟨s.R, E2, s.p, s.D⟩ := by rw [hE2]; rfl
            exact hst
          have HE : Hid ((actS Bs h ⟨s.R, E2, s.p, s.D⟩).1.E = E2) := actS_E _ _ _
          have HG : Hid ((actS Bs h ⟨s.R, E2, s.p, s.D⟩).2.2 = true → (actS Bs h ⟨s.R, E2, s.p, s.D⟩).2.1 = 0) := actS_go _ _ _
          have HR2 : Hid (okR (actS Bs h ⟨s.R, E2, s.p, s.D⟩).1.R) := actS_R (s := ⟨s.R, E2, s.p, s.D⟩) S.inv.1 HO.out HRS.out
          have HP2 : Hid (-8589934592 ≤ (actS Bs h ⟨s.R, E2, s.p, s.D⟩).1.p ∧ (actS Bs h ⟨s.R, E2, s.p, s.D⟩).1.p ≤ 8589934592) := actS_p (s := ⟨s.R, E2, s.p, s.D⟩) q0 (by simp only []; omega)
          clear hE2
          generalize actS Bs h ⟨s.R, E2, s.p, s.D⟩ = o at *
          obtain ⟨⟨R2, E3, p2, D2⟩, er2, go2⟩ := o
          have hR2 : R2.length = 32 := HR2.out.1
          simp only [] at CT
          go_wp2_with (first
            | (refine S.load1 rfl 3 _ rfl _ 0 rfl 0 (Cel.host h) rfl _ rfl _ Tryz.underlying3 rfl ?_)
            | (refine S.load1 rfl 71 _ rfl _ _ rfl 2 (Cel.any tabC) rfl _ HTAB.out _ Tryz.underlying71 rfl ?_)
            | (refine S.loadAll rfl 49 _ rfl _ rfl 1 (Cel.res _ _ _ _) rfl _ Tryz.underlying49 rfl (by rw [res_length hR32]; exact szRes) ?_)
            | (refine S.loadAll rfl 31 _ rfl _ rfl 0 (Cel.host h) rfl _ Tryz.underlying31 rfl szHost ?_)
            | (refine (CT.out _ S.inv.1 S.runL0).mono ?_; rintro e w14 ⟨rfl, hm9, hw9⟩; replace S := S.touched HB.out.1 hm9 hw9; clear hm9 hw9)
            | (refine S.storeAll rfl 49 _ _ rfl _ (Cel.res R2 _ er2 p2) rfl rfl 1 _ rfl (by rw [res_length hR2, res_length hR32]) (one_res rfl) (by rw [res_length hR2]; exact szRes) ?_; clear S; intro w16 S; simp only [List.set_cons_zero, List.set_cons_succ] at S))
          go_roundw
          case rel =>
            have hE3 : E3 = E2 := HE.out
            subst hE3
            refine ⟨⟨R2, E3, p2, D2⟩, er2, go2, some ⟨g, 0, none⟩, cap, k, rfl, ?_, HR2.out, HP2.out, by simp only [hlE]; omega, ?_⟩
            · simp only [hlE]
              exact S.fewer 1
            · have h1 := HRUN2.out
              rw [HST.out] at h1
              have h2 := HG.out
              cases go2
              · exact h1
              · exact ⟨h2 rfl, h1.symm⟩
          case measure =>
            have h1 := HOLD.out
            have h2 : evLen w16 b12 = s.E.length + 1 := evLen_of (i := 1) S rfl hR2
            cases go2
            · simp only [runMeas, h1]
              omega
            · simp only [runMeas, h1, h2]
              omega
      · obtain ⟨x, hx, hfx, hne⟩ : ∃ x, refS code s.p s.E.length most = x ∧ fin = (s, x) ∧ (x != 0) = true := by
          by_cases hok : okPc code s.p = true
          · have hk0 : k = 0 := Classical.byContradiction fun h => hbad ⟨hok, h⟩
            subst hk0
            refine ⟨35, ?_, ?_, rfl⟩
            · simp only [refS, hok, if_true]
              rw [if_pos (by omega)]
            · rw [← HRUN.out]
              simp [runS, hok]
          · refine ⟨31, ?_, ?_, rfl⟩
            · simp [refS, hok]
            · rw [← HRUN.out]
              cases k <;> simp [runS, hok]
        rw [hx] at CR
        have HFI : Hid (fin = (s, x)) := hfx
        clear hbad hx hfx HRUN
        go_wp2_with (first
          | (refine S.load1 rfl 3 _ rfl _ 34 rfl 0 _ rfl _ (res_34 hR32 _ _ _) _ Tryz.underlying3 rfl ?_)
          | (refine S.load1 rfl 47 _ rfl _ 32 rfl 0 _ rfl _ (res_32 hR32 _ _ _) _ Tryz.underlying47 rfl ?_)
          | (refine (CR.out _ (HC.out.mid HA.out S.mid)).mono ?_; rintro e w9 ⟨rfl, hw9⟩; replace S := S.below hw9; clear hw9)
          | (refine S.store1 rfl 35 _ _ rfl _ 33 _ rfl rfl 0 _ rfl rfl (by rw [res_length hR32]; omega) _ (set_33 hR32 _ _ _ _) szErr ?_; clear S; intro w9 S; simp only [List.set_cons_zero, List.set_cons_succ] at S)
          | (refine S.loadAll rfl 49 _ rfl _ rfl 0 (Cel.res _ _ _ _) rfl _ Tryz.underlying49 rfl (by rw [res_length hR32]; exact szRes) ?_)
          | (refine S.storeAll rfl 49 _ _ rfl _ (Cel.res _ _ _ _) rfl rfl 2 _ rfl (by rw [res_length hR32, res_length (by simp)]) (one_res rfl) (by rw [res_length hR32]; exact szRes) ?_; clear S; intro w9 S; simp only [List.set_cons_zero, List.set_cons_succ] at S))
        refine bodyPost_ret (S.results rfl _ _ rfl 2 _ rfl _ Tryz.underlying49 rfl (by rw [res_length hR32]; exact szRes)) rfl ?_
        rw [HFI.out]
        exact ⟨A, c, base, rfl, S.inv.2.1, HB.out.2.2, HLOW.out _ S.mid, HRS.out⟩
end Go.Proofs.YtjhmmfpmmgebjaaGreat
