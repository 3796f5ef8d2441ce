/- HvmTraps, walked. -/
import Derived.Test.YteflboidbogegaaHvf
namespace Go.Proofs.Yteflboidbogegaa
open Go.ChangeShapes Go.WideShapes Go.ChangeAt Go.RowKit
set_option linter.unusedVariables false
set_option linter.unusedSimpArgs false

def tTrap (k : Int) : HV := ⟨31, 0, 0, 0, 0, k⟩
def tMov : HV := ⟨1, 0, 0, 0, 0, 0⟩
def tJmp (im : Int) : HV := ⟨28, 0, 0, 0, 0, im⟩
def tExit : HV := ⟨30, 0, 0, 0, 0, 0⟩
theorem trap_one (at' k : Int) (k0 : 1 ≤ k) (k1 : k ≤ 99) : runS at' [] [tTrap k] 9 ⟨zR, [], 0, []⟩ = (⟨zR, [⟨at' + 0, 0, 4⟩], 0, []⟩, k) := by
  have hr : rightS (tTrap k) = true := by
    have h1 : decide (1 ≤ k) = true := by simpa using k0
    have h2 : decide (k ≤ 99) = true := by simpa using k1
    have h3 : rightS (tTrap k) = (decide (1 ≤ k) && decide (k ≤ 99)) := by kernel_rfl
    rw [h3, h1, h2]
    rfl
  have hp : okPc [tTrap k] 0 = true := by
    show (true && rightS (tTrap k)) = true
    rw [hr]
    rfl
  show (if okPc [tTrap k] 0 then _ else _) = _
  rw [if_pos hp]
  rfl
def wantS (d : Int) : Int := if d < -2 ∨ 1 < d then 31 else if d < 1 then 35 else 0
theorem jump_err (at' d : Int) (d0 : -4 ≤ d) (d1 : d ≤ 4) : (runS at' [] [tMov, tMov, tJmp (d % 4294967296), tExit] 30 ⟨zR, [], 0, []⟩).2 = wantS d := by
  have hc : d = -4 ∨ d = -3 ∨ d = -2 ∨ d = -1 ∨ d = 0 ∨ d = 1 ∨ d = 2 ∨ d = 3 ∨ d = 4 := by omega
  rcases hc with rfl | rfl | rfl | rfl | rfl | rfl | rfl | rfl | rfl <;> (clear d0 d1; show _ = _; kernel_rfl)
theorem t_run1 (at' k : Int) (k0 : 1 ≤ k) (k1 : k ≤ 99) (t0 : 0 ≤ at') (t1 : at' ≤ 65535) (g : Nat) (w : World) (hC : CL w (some ⟨g, 0, none⟩) [tTrap k]) (hg : g < w.heap.size) : Calls Try.prog 9 #[.slice (some ⟨g, 0, none⟩) 1 1, .int .i64 at', (Cel.regs zR).val, .pointer none, .int .i64 9] w fun e w' =>
    ∃ R g c base, e = .returned (Cel.res R (.slice (some ⟨g, 0, none⟩) 1 c) k 0).val ∧ R.length = 32 ∧ EvRow w' base (.slice (some ⟨g, 0, none⟩) 1 c) [⟨at', 0, 4⟩] ∧ w.heap.size ≤ base ∧ Below w.heap.size w w' :=
  (run_nil [tTrap k] (some ⟨g, 0, none⟩) 1 at' 9 zR w hC (fun b o h => by cases h; exact hg) zR_ok (by omega) (by omega) (by decide) _ (trap_one at' k k0 k1)).mono fun e w' h => by
    obtain ⟨g, c, base, h1, h2, h3, h4, _⟩ := h.some (by simp)
    rw [Int.add_zero] at h2
    exact ⟨_, g, c, base, h1, by simp [zR], h2, h3, h4⟩
theorem t_run2 (at' d : Int) (d0 : -4 ≤ d) (d1 : d ≤ 4) (t0 : 0 ≤ at') (t1 : at' ≤ 65535) (g : Nat) (w : World) (hC : CL w (some ⟨g, 0, none⟩) [tMov, tMov, tJmp (d % 4294967296), tExit]) (hg : g < w.heap.size) : Calls Try.prog 9 #[.slice (some ⟨g, 0, none⟩) 4 4, .int .i64 at', (Cel.regs zR).val, .pointer none, .int .i64 30] w fun e w' =>
    ∃ R A n c p, e = .returned (Cel.res R (.slice A n c) (wantS d) p).val ∧ R.length = 32 ∧ Below w.heap.size w w' :=
  (run_nil [tMov, tMov, tJmp (d % 4294967296), tExit] (some ⟨g, 0, none⟩) 4 at' 30 zR w hC (fun b o h => by cases h; exact hg) zR_ok (by omega) (by omega) (by decide) (runS at' [] [tMov, tMov, tJmp (d % 4294967296), tExit] 30 ⟨zR, [], 0, []⟩) rfl).mono fun e w' h => by
    obtain ⟨A, c, base, h1, h2, h3, h4, h5⟩ := h
    rw [jump_err at' d d0 d1] at h1
    exact ⟨_, A, _, c, _, h1, h5.1, h4⟩

set_option maxHeartbeats 4000000 in
set_option maxRecDepth 100000 in
theorem traps_c (n to at' : Int) (n0 : 0 ≤ n) (n1 : n ≤ 4294967295) (s0 : 0 ≤ to) (s1 : to ≤ 255) (t0 : 0 ≤ at') (t1 : at' ≤ 65535) (w : World) :
    Calls Try.prog 7 #[.int .u32 n, .int .u8 to, .int .u16 at'] w fun e w' => e = .returned (.bool true) ∧ Below w.heap.size w w' := by
  have S := SH.start w
  have CK : Hid (∀ w1, Calls Try.prog 8 #[] w1 fun e w' => e = .returned (.bool true) ∧ Below w1.heap.size w1 w') := fun w1 => known_c w1
  obtain ⟨k, hk⟩ : ∃ k, n % 99 + 1 = k := ⟨_, rfl⟩
  obtain ⟨d, hd⟩ : ∃ d, to % 9 - 4 = d := ⟨_, rfl⟩
  have k0 : 1 ≤ k := by omega
  have k1 : k ≤ 99 := by omega
  have d0 : -4 ≤ d := by omega
  have d1 : d ≤ 4 := by omega
  have C1 : Hid (∀ (g : Nat) (w : World), CL w (some ⟨g, 0, none⟩) [tTrap k] → g < w.heap.size → Calls Try.prog 9 #[.slice (some ⟨g, 0, none⟩) 1 1, .int .i64 at', (Cel.regs zR).val, .pointer none, .int .i64 9] w fun e w' =>
    ∃ R g c base, e = .returned (Cel.res R (.slice (some ⟨g, 0, none⟩) 1 c) k 0).val ∧ R.length = 32 ∧ EvRow w' base (.slice (some ⟨g, 0, none⟩) 1 c) [⟨at', 0, 4⟩] ∧ w.heap.size ≤ base ∧ Below w.heap.size w w') := t_run1 at' k k0 k1 t0 t1
  have C2 : Hid (∀ (g : Nat) (w : World), CL w (some ⟨g, 0, none⟩) [tMov, tMov, tJmp (d % 4294967296), tExit] → g < w.heap.size → Calls Try.prog 9 #[.slice (some ⟨g, 0, none⟩) 4 4, .int .i64 at', (Cel.regs zR).val, .pointer none, .int .i64 30] w fun e w' =>
    ∃ R A n c p, e = .returned (Cel.res R (.slice A n c) (wantS d) p).val ∧ R.length = 32 ∧ Below w.heap.size w w') := t_run2 at' d d0 d1 t0 t1
  have hzl : zR.length = 32 := by simp [zR]
  have ht : n.tmod 99 = n % 99 := Int.tmod_eq_emod_of_nonneg n0
  have ht2 : to.tmod 9 = to % 9 := Int.tmod_eq_emod_of_nonneg s0
  have ea : IntKind.i64.wrap at' = at' := by rw [IntKind.wrap_i64]; omega
  have ek : IntKind.u32.wrap k = k := by rw [IntKind.wrap_u32]; omega
  have hkw : k % 4294967296 = k := by omega
  go_enter Try.func7, Try.ntmps7
  go_wp2_with (first
    | (refine (CK.out _).mono ?_; rintro e w2 ⟨rfl, hb2⟩; replace S := S.below hb2; clear hb2)
    | (refine S.alloc rfl 28 rfl _ zeroRegs ?_; clear S; intro b1 w1 S)
    | (refine S.code rfl 34 1 _ rfl [tTrap k] 25 (by kernel_rfl) (by simp only [List.mem_singleton, forall_eq, HV.wf, tTrap]; omega) (by simp) ?_; clear S; intro g w1 S)
    | (refine S.loadAll rfl 28 _ rfl _ rfl 0 (Cel.regs _) rfl _ Try.underlying28 rfl (by rw [regs_length hzl]; exact szRegs) ?_))
  refine (C1.out g _ S.inv.2 (S.zb _ (.inr rfl))).mono ?_
  rintro e w2 ⟨R1, g1, c1, base1, rfl, hk1, hev, hb1, hb2⟩
  replace S := RunN.gain S hev hb1 hb2
  clear hb1 hb2 hev C1 CK
  go_wp2_with (first
    | (refine S.alloc rfl 32 rfl _ zeroRes ?_; clear S; intro b3 w3 S)
    | (refine S.storeAll rfl 32 _ _ rfl _ (Cel.res R1 _ _ _) rfl rfl 0 _ rfl (by rw [res_length hk1, res_length (by simp)]) (one_res rfl) (by rw [res_length hk1]; exact szRes) ?_; clear S; intro w3 S; simp only [List.set_cons_zero, List.set_cons_succ] at S)
    | (refine S.code rfl 34 4 _ rfl [tMov, tMov, tJmp (d % 4294967296), tExit] 25 (by kernel_rfl) (by simp only [List.mem_cons, List.not_mem_nil, or_false, forall_eq_or_imp, forall_eq, HV.wf, tMov, tJmp, tExit]; omega) (by simp) ?_; clear S; intro g2 w1 S)
    | (refine S.loadAll rfl 28 _ rfl _ rfl 1 (Cel.regs _) rfl _ Try.underlying28 rfl (by rw [regs_length hzl]; exact szRegs) ?_))
  refine (C2.out g2 _ S.inv.2 (S.zb _ (.inr rfl))).mono ?_
  rintro e w2 ⟨R2, A2, n2, c2, p2, rfl, hk2, hb2⟩
  replace S := S.below hb2
  clear hb2 C2
  have hw : wantS d = if d < -2 ∨ 1 < d then 31 else if d < 1 then 35 else 0 := rfl
  generalize wantS d = wd at *
  rcases (show (d < -2) ∨ (-2 ≤ d ∧ 1 < d) ∨ (-2 ≤ d ∧ d ≤ 1 ∧ d < 1) ∨ (d = 1) by omega) with h1 | ⟨h1, h2⟩ | ⟨h1, h2, h3⟩ | h1
  · rw [if_pos (by omega)] at hw
    subst hw
    go_wp2_with (first
      | (refine S.alloc rfl 32 rfl _ zeroRes ?_; clear S; intro b4 w3 S)
      | (refine S.storeAll rfl 32 _ _ rfl _ (Cel.res R2 _ _ _) rfl rfl 0 _ rfl (by rw [res_length hk2, res_length (by simp)]) (one_res rfl) (by rw [res_length hk2]; exact szRes) ?_; clear S; intro w3 S; simp only [List.set_cons_zero, List.set_cons_succ] at S)
      | (refine S.load1 rfl 30 _ rfl _ 33 rfl 1 (Cel.res _ _ _ _) rfl _ (res_33 hk1 _ _ _) _ Try.underlying30 rfl ?_)
      | (refine S.load1 rfl 29 _ rfl _ 32 rfl 1 (Cel.res _ _ _ _) rfl _ (res_32 hk1 _ _ _) _ Try.underlying29 rfl ?_)
      | (refine S.load1 rfl 30 _ rfl _ 33 rfl 0 (Cel.res _ _ _ _) rfl _ (res_33 hk2 _ _ _) _ Try.underlying30 rfl ?_)
      | (refine wpl_ev rfl 61 _ rfl g1 0 rfl ⟨at', 0, 4⟩ S.inv.1.2 rfl _ Try.underlying61 rfl szEv ?_))
    go_ret
    exact ⟨rfl, S.lowA ⟨rfl, rfl⟩⟩
  · rw [if_pos (by omega)] at hw
    subst hw
    have q1 : decide (d < -2) = false := by simp; omega
    go_wp2_with (first
      | (refine S.alloc rfl 32 rfl _ zeroRes ?_; clear S; intro b4 w3 S)
      | (refine S.storeAll rfl 32 _ _ rfl _ (Cel.res R2 _ _ _) rfl rfl 0 _ rfl (by rw [res_length hk2, res_length (by simp)]) (one_res rfl) (by rw [res_length hk2]; exact szRes) ?_; clear S; intro w3 S; simp only [List.set_cons_zero, List.set_cons_succ] at S)
      | (refine S.load1 rfl 30 _ rfl _ 33 rfl 1 (Cel.res _ _ _ _) rfl _ (res_33 hk1 _ _ _) _ Try.underlying30 rfl ?_)
      | (refine S.load1 rfl 29 _ rfl _ 32 rfl 1 (Cel.res _ _ _ _) rfl _ (res_32 hk1 _ _ _) _ Try.underlying29 rfl ?_)
      | (refine S.load1 rfl 30 _ rfl _ 33 rfl 0 (Cel.res _ _ _ _) rfl _ (res_33 hk2 _ _ _) _ Try.underlying30 rfl ?_)
      | (refine wpl_ev rfl 61 _ rfl g1 0 rfl ⟨at', 0, 4⟩ S.inv.1.2 rfl _ Try.underlying61 rfl szEv ?_))
    go_ret
    exact ⟨rfl, S.lowA ⟨rfl, rfl⟩⟩
  · rw [if_neg (by omega), if_pos (by omega)] at hw
    subst hw
    have q1 : decide (d < -2) = false := by simp; omega
    have q2 : decide (1 < d) = false := by simp; omega
    go_wp2_with (first
      | (refine S.alloc rfl 32 rfl _ zeroRes ?_; clear S; intro b4 w3 S)
      | (refine S.storeAll rfl 32 _ _ rfl _ (Cel.res R2 _ _ _) rfl rfl 0 _ rfl (by rw [res_length hk2, res_length (by simp)]) (one_res rfl) (by rw [res_length hk2]; exact szRes) ?_; clear S; intro w3 S; simp only [List.set_cons_zero, List.set_cons_succ] at S)
      | (refine S.load1 rfl 30 _ rfl _ 33 rfl 1 (Cel.res _ _ _ _) rfl _ (res_33 hk1 _ _ _) _ Try.underlying30 rfl ?_)
      | (refine S.load1 rfl 29 _ rfl _ 32 rfl 1 (Cel.res _ _ _ _) rfl _ (res_32 hk1 _ _ _) _ Try.underlying29 rfl ?_)
      | (refine S.load1 rfl 30 _ rfl _ 33 rfl 0 (Cel.res _ _ _ _) rfl _ (res_33 hk2 _ _ _) _ Try.underlying30 rfl ?_)
      | (refine wpl_ev rfl 61 _ rfl g1 0 rfl ⟨at', 0, 4⟩ S.inv.1.2 rfl _ Try.underlying61 rfl szEv ?_))
    go_ret
    exact ⟨rfl, S.lowA ⟨rfl, rfl⟩⟩
  · rw [if_neg (by omega), if_neg (by omega)] at hw
    subst hw
    clear hd
    subst h1
    go_wp2_with (first
      | (refine S.alloc rfl 32 rfl _ zeroRes ?_; clear S; intro b4 w3 S)
      | (refine S.storeAll rfl 32 _ _ rfl _ (Cel.res R2 _ _ _) rfl rfl 0 _ rfl (by rw [res_length hk2, res_length (by simp)]) (one_res rfl) (by rw [res_length hk2]; exact szRes) ?_; clear S; intro w3 S; simp only [List.set_cons_zero, List.set_cons_succ] at S)
      | (refine S.load1 rfl 30 _ rfl _ 33 rfl 1 (Cel.res _ _ _ _) rfl _ (res_33 hk1 _ _ _) _ Try.underlying30 rfl ?_)
      | (refine S.load1 rfl 29 _ rfl _ 32 rfl 1 (Cel.res _ _ _ _) rfl _ (res_32 hk1 _ _ _) _ Try.underlying29 rfl ?_)
      | (refine S.load1 rfl 30 _ rfl _ 33 rfl 0 (Cel.res _ _ _ _) rfl _ (res_33 hk2 _ _ _) _ Try.underlying30 rfl ?_)
      | (refine wpl_ev rfl 61 _ rfl g1 0 rfl ⟨at', 0, 4⟩ S.inv.1.2 rfl _ Try.underlying61 rfl szEv ?_))
    go_ret
    exact ⟨rfl, S.lowA ⟨rfl, rfl⟩⟩
end Go.Proofs.Yteflboidbogegaa
