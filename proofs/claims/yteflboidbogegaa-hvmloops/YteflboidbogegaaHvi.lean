/- HvmLoops, walked: the statement. -/
import Derived.Test.YteflboidbogegaaHvh
namespace Go.Proofs.Yteflboidbogegaa
open Go.ChangeShapes Go.WideShapes Go.ChangeAt Go.RowKit
set_option linter.unusedVariables false
set_option linter.unusedSimpArgs false

set_option maxHeartbeats 8000000 in
set_option maxRecDepth 100000 in
theorem loops_c (n most : Int) (n0 : 0 ≤ n) (n1 : n ≤ 255) (s0 : 0 ≤ most) (s1 : most ≤ 65535) (w : World) :
    Calls Try.prog 5 #[.int .u8 n, .int .u16 most] w fun e w' => e = .returned (.bool true) ∧ Below w.heap.size w w' := by
  have S := SH.start w
  have CK : Hid (∀ w1, Calls Try.prog 8 #[] w1 fun e w' => e = .returned (.bool true) ∧ Below w1.heap.size w1 w') := fun w1 => known_c w1
  obtain ⟨kn, hkn⟩ : ∃ kn : Nat, n % 20 + 1 = (kn : Int) := ⟨(n % 20 + 1).toNat, by omega⟩
  obtain ⟨mn, hmn⟩ : ∃ mn : Nat, most % 120 = (mn : Int) := ⟨(most % 120).toNat, by omega⟩
  have k0 : 1 ≤ kn := by omega
  have k1 : kn ≤ 20 := by omega
  have m1 : mn ≤ 119 := by omega
  have C1 : Hid (∀ (g : Nat) (w : World), CL w (some ⟨g, 0, none⟩) lCode → g < w.heap.size → Calls Try.prog 9 #[.slice (some ⟨g, 0, none⟩) 4 4, .int .i64 0, (Cel.regs (LR kn)).val, .pointer none, .int .i64 mn] w fun e w' =>
    ∃ f A c base, e = .returned (Cel.res f.1.R (.slice A f.1.E.length c) f.2 f.1.p).val ∧ f.1.R.length = 32 ∧ LoopIs mn kn [] f ∧ EvRow w' base (.slice A f.1.E.length c) f.1.E ∧ w.heap.size ≤ base ∧ Below w.heap.size w w') := l_run kn mn k0 k1 m1
  have hzl : zR.length = 32 := by simp [zR]
  have hLR : (LR kn).length = 32 := LR_len _
  have ht : n.tmod 20 = n % 20 := Int.tmod_eq_emod_of_nonneg n0
  have ht2 : most.tmod 120 = most % 120 := Int.tmod_eq_emod_of_nonneg s0
  have ek : IntKind.u32.wrap (kn : Int) = (kn : Int) := by rw [IntKind.wrap_u32]; omega
  have hkw : (kn : Int) % 4294967296 = (kn : Int) := by omega
  have em : IntKind.i64.wrap (mn : Int) = (mn : Int) := by rw [IntKind.wrap_i64]; omega
  go_enter Try.func5, Try.ntmps5
  go_wp2_with (first
    | (refine (CK.out _).mono ?_; rintro e w2 ⟨rfl, hb2⟩; replace S := S.below hb2; clear hb2)
    | (refine S.alloc rfl 28 rfl _ zeroRegs ?_; clear S; intro b1 w1 S)
    | (refine S.store1 rfl 22 _ _ rfl _ _ _ rfl rfl 0 (Cel.regs _) rfl rfl (by rw [regs_length (by simp [zR])]; decide) _ (set_regs _ _ _) szU ?_; clear S; intro w1 S; simp only [List.set_cons_zero, List.set_cons_succ] at S)
    | (refine S.code rfl 34 4 _ rfl lCode 25 (by kernel_rfl) (by simp [HV.wf, lCode, lSub, lJz, lJmp, lExit]) (by decide) ?_; clear S; intro g w1 S; replace S : SH _ w w1 [(b1, Cel.regs (LR kn))] := S)
    | (refine S.loadAll rfl 28 _ rfl _ rfl 0 (Cel.regs (LR kn)) rfl _ Try.underlying28 rfl (by rw [regs_length hLR]; exact szRegs) ?_))
  refine (C1.out g _ S.inv.2 (S.zb _ (.inr rfl))).mono ?_
  rintro e w2 ⟨⟨⟨R1, E1, p1, D1⟩, er1⟩, A1, c1, base1, rfl, hk1, his, hev, hb1, hb2⟩
  simp only [] at hk1 hev
  replace S := RunN.gain S hev hb1 hb2
  clear hb1 hb2 hev C1 CK
  obtain ⟨hokE, hif⟩ := his
  simp only [List.length_nil, Nat.zero_add, sumCo] at hif hokE
  have HOK : Hid (okE E1) := hokE
  clear hokE
  by_cases hlt : mn < 3 * kn
  · rw [if_pos hlt] at hif
    obtain ⟨he, hl⟩ := hif
    have hlt' : (mn : Int) < 3 * (kn : Int) - 1 + 1 := by omega
    subst he
    subst hl
    go_wp2_with (first
      | (refine S.alloc rfl 32 rfl _ zeroRes ?_; clear S; intro b3 w3 S)
      | (refine S.storeAll rfl 32 _ _ rfl _ (Cel.res R1 _ _ _) rfl rfl 0 _ rfl (by rw [res_length hk1, res_length (by simp)]) (one_res rfl) (by rw [res_length hk1]; exact szRes) ?_; clear S; intro w3 S; simp only [List.set_cons_zero, List.set_cons_succ] at S)
      | (refine S.load1 rfl 30 _ rfl _ 33 rfl 0 (Cel.res _ _ _ _) rfl _ (res_33 hk1 _ _ _) _ Try.underlying30 rfl ?_)
      | (refine S.load1 rfl 29 _ rfl _ 32 rfl 0 (Cel.res _ _ _ _) rfl _ (res_32 hk1 _ _ _) _ Try.underlying29 rfl ?_))
    go_ret
    exact ⟨by simp, S.lowA ⟨rfl, rfl⟩⟩
  · rw [if_neg hlt] at hif
    obtain ⟨he, hl, hr, hp, hs⟩ := hif
    have hlt' : ¬ (mn : Int) < 3 * (kn : Int) - 1 + 1 := by omega
    have hlE : (E1.length : Int) = 3 * (kn : Int) - 1 + 1 := by omega
    have hsE : sumCo E1 = (kn : Int) + 2 * (kn : Int) + 2 * ((kn : Int) - 1) + 4 := by rw [hs]; push_cast; omega
    have CT : Hid (∀ w1, EvAt w1 A1 E1 → Calls Try.prog 15 #[.slice A1 E1.length c1] w1 fun e w' => e = .returned (.int .i64 ((kn : Int) + 2 * (kn : Int) + 2 * ((kn : Int) - 1) + 4)) ∧ Below w1.heap.size w1 w') := fun w1 h => by
      rw [← hsE]
      exact total_c A1 c1 E1 w1 h HOK.out (by omega)
    have HR : Hid (R1[1]? = some 0) := hr
    subst he hp
    clear hs hsE hr hl hlt
    go_wp2_with (first
      | (refine S.alloc rfl 32 rfl _ zeroRes ?_; clear S; intro b3 w3 S)
      | (refine S.storeAll rfl 32 _ _ rfl _ (Cel.res R1 _ _ _) rfl rfl 0 _ rfl (by rw [res_length hk1, res_length (by simp)]) (one_res rfl) (by rw [res_length hk1]; exact szRes) ?_; clear S; intro w3 S; simp only [List.set_cons_zero, List.set_cons_succ] at S)
      | (refine S.load1 rfl 30 _ rfl _ 33 rfl 0 (Cel.res _ _ _ _) rfl _ (res_33 hk1 _ _ _) _ Try.underlying30 rfl ?_)
      | (refine S.load1 rfl 29 _ rfl _ 32 rfl 0 (Cel.res _ _ _ _) rfl _ (res_32 hk1 _ _ _) _ Try.underlying29 rfl ?_)
      | (refine S.load1 rfl 22 _ rfl _ 1 rfl 0 (Cel.res _ _ _ _) rfl _ (res_reg HR.out _ _ _) _ Try.underlying22 rfl ?_)
      | (refine S.load1 rfl 3 _ rfl _ 34 rfl 0 (Cel.res _ _ _ _) rfl _ (res_34 hk1 _ _ _) _ Try.underlying3 rfl ?_)
      | (refine (CT.out _ S.inv.2.at).mono ?_; rintro e w2 ⟨rfl, hb2⟩; replace S := S.below hb2; clear hb2))
    go_ret
    exact ⟨by simp, S.lowA ⟨rfl, rfl⟩⟩
end Go.Proofs.Yteflboidbogegaa
