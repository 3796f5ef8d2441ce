/- HvmMemory, walked. -/
import Derived.Test.YteflboidbogegaaHvm
import Derived.Test.YteflboidbogegaaHvq
import Derived.Deep.QuietTactic
import Derived.BigQuiet
import Derived.Deep.Cut
namespace Go.Proofs.Yteflboidbogegaa
open Go.ChangeShapes Go.WideShapes Go.ChangeAt Go.RowKit
set_option linter.unusedVariables false
set_option linter.unusedSimpArgs false

theorem nat_clear (a k n : Nat) (h : a < 2 ^ (n + k)) : a &&& ((2 ^ n - 1) <<< k) = (a >>> k) <<< k := by
  apply Nat.eq_of_testBit_eq
  intro i
  simp only [Nat.testBit_and, Nat.testBit_shiftLeft, Nat.testBit_two_pow_sub_one, Nat.testBit_shiftRight]
  by_cases h1 : k ≤ i
  · have e : k + (i - k) = i := by omega
    rw [e]
    by_cases h2 : i - k < n
    · simp [h1, h2]
    · have h3 : a.testBit i = false := Nat.testBit_lt_two_pow (Nat.lt_of_lt_of_le h (Nat.pow_le_pow_right (by decide) (by omega)))
      simp [h3]
  · have h2 : decide (i ≥ k) = false := by simp; omega
    simp [h2]
theorem andNot255 (v : Int) (v0 : 0 ≤ v) (v1 : v ≤ 4294967295) : bits .andNot .u32 v 255 = v / 256 * 256 := by
  rw [u32_andNot _ _ v0 (by omega) (by omega) (by omega)]
  have h := nat_clear v.toNat 8 24 (by simp; omega)
  rw [show (4294967295 - (255 : Int).toNat : Nat) = (2 ^ 24 - 1) <<< 8 from rfl, h, Nat.shiftLeft_eq, Nat.shiftRight_eq_div_pow]
  omega
theorem andNot3 (v : Int) (v0 : 0 ≤ v) (v1 : v ≤ 4294967295) : bits .andNot .u32 v 3 = v / 4 * 4 := by
  rw [u32_andNot _ _ v0 (by omega) (by omega) (by omega)]
  have h := nat_clear v.toNat 2 30 (by simp; omega)
  rw [show (4294967295 - (3 : Int).toNat : Nat) = (2 ^ 30 - 1) <<< 2 from rfl, h, Nat.shiftLeft_eq, Nat.shiftRight_eq_div_pow]
  omega
theorem RunPost.some {w w' : World} {pm l0 lo hi : Nat} {Bs : List Reg} {G : List (List Int)} {q : Nat → Nat} {fin : HSt × Int} {e : Ending} (h : RunPost w pm l0 lo hi Bs G q fin e w') (hn : 0 < fin.1.E.length) :
    ∃ g c base, e = .returned (Cel.res fin.1.R (.slice (some ⟨g, 0, none⟩) fin.1.E.length c) fin.2 fin.1.p).val ∧ EvRow w' base (.slice (some ⟨g, 0, none⟩) fin.1.E.length c) fin.1.E ∧ w.heap.size ≤ base ∧ MemAt w' pm l0 lo hi Bs G fin.1.D q ∧ Mid lo hi w w' ∧ okR fin.1.R := by
  obtain ⟨A, c, base, h1, h2, h3, _, h4, h5, h6⟩ := h
  obtain ⟨g, cap, hf, _⟩ := World.ownsRow.form h2 hn
  simp only [Value.slice.injEq] at hf
  obtain ⟨rfl, _, rfl⟩ := hf
  exact ⟨g, c, base, h1, h2, h3, h4, h5, h6⟩
theorem nR_ok {b v : Int} (b0 : 0 ≤ b) (b1 : b < 4294967296) (v0 : 0 ≤ v) (v1 : v < 4294967296) : okR (nR b v) := okR_set (okR_set zR_ok _ ⟨by omega, by omega⟩) _ ⟨by omega, by omega⟩
def mEv (f : Nat) : List HEv := [⟨7, 536870912 + f, 2⟩, ⟨8, 536870912 + f + 1, 2⟩, ⟨9, 536870912 + f + 2, 2⟩, ⟨10, 536870912 + f, 2⟩, ⟨11, 536870912 + f, 2⟩, ⟨12, 0, 4⟩]
theorem m_run1 (f : Nat) (v : Int) (v0 : 0 ≤ v) (v1 : v < 4294967296) (hf : f ≤ 236) (hf4 : (f : Int) % 4 = 0) {pm lo hi : Nat} {G D : List (List Int)} {q : Nat → Nat} (g : Nat) (w : World) (hM : MemAt w pm 0 lo hi (seatBs 0 0 0 0) G D q)
    (hC : CL w (some ⟨g, 0, none⟩) mCode) (hg : g < lo ∨ hi ≤ g) : Calls Try.prog 9 #[.slice (some ⟨g, 0, none⟩) 6 6, .int .i64 7, (Cel.regs (nR (536870912 + f) v)).val, .pointer (some ⟨pm, 0, none⟩), .int .i64 50] w fun e w' =>
    ∃ R g c base D2, e = .returned (Cel.res R (.slice (some ⟨g, 0, none⟩) 6 c) 0 5).val ∧ R.length = 32 ∧ (R[3]? = some (v / 256 % 256) ∧ R[4]? = some (v / 65536) ∧ R[5]? = some (v / 256 * 256 + v / 256 % 256)) ∧ EvRow w' base (.slice (some ⟨g, 0, none⟩) 6 c) (mEv f) ∧ w.heap.size ≤ base ∧ MemAt w' pm 0 lo hi (seatBs 0 0 0 0) G D2 q ∧ Mid lo hi w w' := by
  obtain ⟨d, hd, hdl⟩ : ∃ d, D[1]? = some d ∧ d.length = 256 := by
    have hl : D.length = 4 := hM.len
    obtain ⟨A, nb, c, h1, h2, h3, h4⟩ := hM.now
    have hd : D[1]? = some (D[1]'(by omega)) := List.getElem?_eq_getElem (by omega)
    refine ⟨_, hd, ?_⟩
    have h5 := (h4 1 _ ⟨536870912, 256, true, true, false, false, none, 0, 0⟩ hd rfl).2.1
    simp only [] at h5
    omega
  obtain ⟨D2, h⟩ := mem_run1 f v v0 v1 hf hf4 D d hd hdl
  refine (run_given mCode (some ⟨g, 0, none⟩) 6 7 50 (nR (536870912 + f) v) w hM (Nat.zero_le _) hC (fun b o hb => by cases hb; exact hg) (nR_ok (by omega) (by omega) v0 v1) (by decide) (by decide) (by decide) _ h).mono ?_
  intro e w' hp
  obtain ⟨g, c, base, h1, h2, h3, h4, h5, h6⟩ := hp.some (by simp)
  exact ⟨_, g, c, base, D2, h1, h6.1, ⟨rfl, rfl, rfl⟩, h2, h3, h4, h5⟩
def nEv (b : Int) : List HEv := [⟨0, 0, 1⟩, ⟨1, b, 2⟩]
theorem m_run2 (b v : Int) (b0 : 0 ≤ b) (b1 : b < 4294967296) (hb : b % 4 = 1) (v0 : 0 ≤ v) (v1 : v < 4294967296) {pm lo hi : Nat} {G D : List (List Int)} {q : Nat → Nat} (g : Nat) (w : World) (hM : MemAt w pm 0 lo hi (seatBs 0 0 0 0) G D q)
    (hC : CL w (some ⟨g, 0, none⟩) nCode) (hg : g < lo ∨ hi ≤ g) : Calls Try.prog 9 #[.slice (some ⟨g, 0, none⟩) 3 3, .int .i64 0, (Cel.regs (nR b v)).val, .pointer (some ⟨pm, 0, none⟩), .int .i64 50] w fun e w' =>
    ∃ R g c base D2, e = .returned (Cel.res R (.slice (some ⟨g, 0, none⟩) 2 c) 25 1).val ∧ R.length = 32 ∧ (R[3]? = some 0 ∧ R[9]? = some 3) ∧ EvRow w' base (.slice (some ⟨g, 0, none⟩) 2 c) (nEv b) ∧ w.heap.size ≤ base ∧ MemAt w' pm 0 lo hi (seatBs 0 0 0 0) G D2 q ∧ Mid lo hi w w' := by
  refine (run_given nCode (some ⟨g, 0, none⟩) 3 0 50 (nR b v) w hM (Nat.zero_le _) hC (fun b o hb => by cases hb; exact hg) (nR_ok b0 b1 v0 v1) (by decide) (by decide) (by decide) _ (mem_run2 b v b0 b1 hb D)).mono ?_
  intro e w' hp
  obtain ⟨g, c, base, h1, h2, h3, h4, h5, h6⟩ := hp.some (by simp)
  exact ⟨_, g, c, base, D, h1, h6.1, ⟨rfl, rfl⟩, h2, h3, h4, h5⟩

theorem nR_set (a b v : Int) : (nR a v).set 1 b = nR b v := by simp [nR, zR, List.replicate, List.set]
theorem ev_ad1 {w : World} {base g c f : Nat} (h : EvRow w base (.slice (some ⟨g, 0, none⟩) 6 c) (mEv f)) : w.cell? ⟨g, 4, none⟩ = some (.int .u32 (536870912 + f + 1)) :=
  ev_cell h (i := 1) (e := ⟨8, 536870912 + f + 1, 2⟩) rfl 1 (by decide)
theorem ev_ad5 {w : World} {base g c f : Nat} (h : EvRow w base (.slice (some ⟨g, 0, none⟩) 6 c) (mEv f)) : w.cell? ⟨g, 16, none⟩ = some (.int .u32 0) :=
  ev_cell h (i := 5) (e := ⟨12, 0, 4⟩) rfl 1 (by decide)
theorem ev_bad {w : World} {base g c : Nat} {b : Int} (h : EvRow w base (.slice (some ⟨g, 0, none⟩) 2 c) (nEv b)) : w.cell? ⟨g, 4, none⟩ = some (.int .u32 b) :=
  ev_cell h (i := 1) (e := ⟨1, b, 2⟩) rfl 1 (by decide)

set_option maxHeartbeats 3000000 in
set_option maxRecDepth 100000 in
theorem memory_c (v at' bad : Int) (v0 : 0 ≤ v) (v1 : v ≤ 4294967295) (s0 : 0 ≤ at') (s1 : at' ≤ 255) (t0 : 0 ≤ bad) (t1 : bad ≤ 4294967295) (w : World) :
    Calls Try.prog 6 #[.int .u32 v, .int .u8 at', .int .u32 bad] w fun e w' => e = .returned (.bool true) ∧ Below w.heap.size w w' := by
  have S := SH.start w
  have CK : Hid (∀ w1, Calls Try.prog 8 #[] w1 fun e w' => e = .returned (.bool true) ∧ Below w1.heap.size w1 w') := fun w1 => known_c w1
  have CS : Hid (∀ w1, Calls Try.prog 17 #[.slice none 0 0, .slice none 0 0, .slice none 0 0, .slice none 0 0] w1 fun e w' => SeatPost w1 [] [] [] [] e w') := fun w1 => seat_c (.slice none 0 0) (.slice none 0 0) (.slice none 0 0) (.slice none 0 0) [] [] [] [] w1 (bl_nil _ _) (bl_nil _ _) (bl_nil _ _) (bl_nil _ _) (by decide) (by decide) (by decide) (by decide)
  obtain ⟨f, hf⟩ : ∃ f : Nat, at' % 60 * 4 = (f : Int) := ⟨(at' % 60 * 4).toNat, by omega⟩
  have hf1 : f ≤ 236 := by omega
  have hf4 : (f : Int) % 4 = 0 := by omega
  obtain ⟨b, hb⟩ : ∃ b, bad / 4 * 4 + 1 = b := ⟨_, rfl⟩
  have b0 : 0 ≤ b := by omega
  have b1 : b < 4294967296 := by omega
  have hb4 : b % 4 = 1 := by omega
  have ht : at'.tmod 60 = at' % 60 := Int.tmod_eq_emod_of_nonneg s0
  have hzl : zR.length = 32 := by simp [zR]
  have hnl : ∀ x y, (nR x y).length = 32 := fun x y => by simp [nR, zR]
  go_enter Try.func6, Try.ntmps6
  go_wp2_with (first
    | ((with_reducible refine wpl_is ?_); first
      | (refine S.alloc rfl 28 rfl _ zeroRegs ?_; clear S; intro b1' w1 S)
      | (refine S.store1 rfl 22 _ _ rfl _ _ _ rfl rfl 0 (Cel.regs _) rfl rfl (by rw [regs_length (by simp [zR])]; decide) _ (set_regs _ _ _) szU ?_; clear S; intro w1 S; simp only [List.set_cons_zero, List.set_cons_succ] at S))
    | (go_at_call 8; refine (CK.out _).mono ?_; rintro e w2 ⟨rfl, hb2⟩; replace S := S.below hb2; clear hb2)
    | (go_at_call 17; refine (CS.out _).mono ?_; rintro e w2 ⟨rfl, hRL, hb2⟩; replace S := S.below hb2; clear hb2))
  have hlo0 : w.heap.size ≤ w2.heap.size := S.mid.size
  refine (new_ok _ (seatBs 0 0 0 0) [[], [], [], []] _ _ hRL (fun b h => h) (seat_check (by decide) (by decide) (by decide) (by decide)) (by simp)).mono ?_
  rintro e w3 ⟨pm, q, rfl, hM, hb3⟩
  replace S := S.newMemB hb3 hM
  clear hb3 hM hRL CS CK
  generalize initD (seatBs 0 0 0 0) [[], [], [], []] = D0 at S
  generalize ([[], [], [], []] : List (List Int)) = G0 at S
  generalize w2.heap.size = lo at S hlo0
  generalize w3.heap.size = hi at S
  generalize w1.heap.size = sb at *
  have C1 : Hid (∀ (g : Nat) (w : World) (D : List (List Int)), MemAt w pm 0 lo hi (seatBs 0 0 0 0) G0 D q → CL w (some ⟨g, 0, none⟩) mCode → (g < lo ∨ hi ≤ g) → Calls Try.prog 9 #[.slice (some ⟨g, 0, none⟩) 6 6, .int .i64 7, (Cel.regs (nR (536870912 + f) v)).val, .pointer (some ⟨pm, 0, none⟩), .int .i64 50] w fun e w' =>
    ∃ R g c base D2, e = .returned (Cel.res R (.slice (some ⟨g, 0, none⟩) 6 c) 0 5).val ∧ R.length = 32 ∧ (R[3]? = some (v / 256 % 256) ∧ R[4]? = some (v / 65536) ∧ R[5]? = some (v / 256 * 256 + v / 256 % 256)) ∧ EvRow w' base (.slice (some ⟨g, 0, none⟩) 6 c) (mEv f) ∧ w.heap.size ≤ base ∧ MemAt w' pm 0 lo hi (seatBs 0 0 0 0) G0 D2 q ∧ Mid lo hi w w') := fun g w D h1 h2 h3 => m_run1 f v v0 (by omega) hf1 hf4 g w h1 h2 h3
  have C2 : Hid (∀ (g : Nat) (w : World) (D : List (List Int)), MemAt w pm 0 lo hi (seatBs 0 0 0 0) G0 D q → CL w (some ⟨g, 0, none⟩) nCode → (g < lo ∨ hi ≤ g) → Calls Try.prog 9 #[.slice (some ⟨g, 0, none⟩) 3 3, .int .i64 0, (Cel.regs (nR b v)).val, .pointer (some ⟨pm, 0, none⟩), .int .i64 50] w fun e w' =>
    ∃ R g c base D2, e = .returned (Cel.res R (.slice (some ⟨g, 0, none⟩) 2 c) 25 1).val ∧ R.length = 32 ∧ (R[3]? = some 0 ∧ R[9]? = some 3) ∧ EvRow w' base (.slice (some ⟨g, 0, none⟩) 2 c) (nEv b) ∧ w.heap.size ≤ base ∧ MemAt w' pm 0 lo hi (seatBs 0 0 0 0) G0 D2 q ∧ Mid lo hi w w') := fun g w D h1 h2 h3 => m_run2 b v b0 b1 hb4 v0 (by omega) g w h1 h2 h3
  have hm : ∀ z : World, (memZ pm 0 lo hi (seatBs 0 0 0 0) G0 D0 q).J z → hi ≤ z.heap.size := fun z h => MemAt.top h
  go_wp2_with (first
    | ((with_reducible refine wpl_is ?_); first
      | (refine S.codeM rfl 34 6 _ rfl mCode 25 (by kernel_rfl) (by simp [HV.wf, mCode, mSt4, mLd1, mLd2, mSt1, mLd4, mExit]) (by decide) ?_; replace hm := hm _ S.inv; clear S; intro g w1 hg S; replace hg := Nat.le_trans hm hg; replace S : SH _ w w1 [(b1', Cel.regs (nR (536870912 + f) v))] := S)
      | (refine S.ldAll 28 _ rfl _ rfl 0 (Cel.regs _) rfl _ Try.underlying28 rfl (by rw [regs_length (hnl _ _)]; exact szRegs) rfl ?_)))
  refine (C1.out g _ _ S.inv.1 S.inv.2 (.inr hg)).mono ?_
  rintro e w2 ⟨R1, g1, c1, base1, D2, rfl, hk1, ⟨e3, e4, e5⟩, hev, hb1, hM, hmid⟩
  replace S := S.ran (lo := lo) (hi := hi) rfl rfl hev hb1 hM hmid
  have hhi2 := hM.top
  clear hb1 hM hmid hev C1 hm
  have HR3 : Hid (R1[3]? = some (v / 256 % 256)) := e3
  have HR4 : Hid (R1[4]? = some (v / 65536)) := e4
  have HR5 : Hid (R1[5]? = some (v / 256 * 256 + v / 256 % 256)) := e5
  clear e3 e4 e5
  have hA : bits .and .u32 (v / 256) 255 = v / 256 % 256 := and255 _ (by omega) (by omega)
  have hN : bits .andNot .u32 v 255 = v / 256 * 256 := andNot255 v v0 v1
  have hO : bits .or .u32 (v / 256 * 256) (v / 256 % 256) = v / 256 * 256 + v / 256 % 256 := or_join32 8 _ _ (by omega) (by omega) (by omega) (by omega) (by omega) (by omega)
  have hN3 : bits .andNot .u32 bad 3 = bad / 4 * 4 := andNot3 bad t0 t1
  have hO1 : bits .or .u32 (bad / 4 * 4) 1 = b := (or_join32 2 _ _ (by omega) (by omega) (by decide) (by omega) (by decide) (by decide)).trans hb
  go_upto_region 11 with (first
    | ((with_reducible refine wpl_is ?_); first
      | (refine wpl_dst 56 rfl (.int .u32 (v / 256 % 256)) (by go_simp; try simp only [hA]) rfl ?_)
      | (refine wpl_dst 72 rfl (.int .u32 (v / 256 * 256)) (by go_simp; try simp only [hN]) rfl ?_)
      | (refine wpl_dst 75 rfl (.int .u32 (v / 256 % 256)) (by go_simp; try simp only [hA]) rfl ?_)
      | (refine wpl_dst 76 rfl (.int .u32 (v / 256 * 256 + v / 256 % 256)) (by go_simp; try simp only [hO]) rfl ?_)
      | (refine S.alloc rfl 32 rfl _ zeroRes ?_; clear S; intro b3 w3 S)
      | (refine S.storeAll rfl 32 _ _ rfl _ (Cel.res R1 _ _ _) rfl rfl 0 _ rfl (by rw [res_length hk1, res_length (by simp)]) (one_res rfl) (by rw [res_length hk1]; exact szRes) ?_; clear S; intro w3 S; simp only [List.set_cons_zero, List.set_cons_succ] at S)
      | (refine S.ld 30 _ rfl _ 33 rfl 0 (Cel.res _ _ _ _) rfl _ (res_33 hk1 _ _ _) _ Try.underlying30 rfl rfl ?_)
      | (refine S.ld 29 _ rfl _ 32 rfl 0 (Cel.res _ _ _ _) rfl _ (res_32 hk1 _ _ _) _ Try.underlying29 rfl rfl ?_)
      | (refine S.ld 22 _ rfl _ 3 rfl 0 (Cel.res _ _ _ _) rfl _ (res_reg HR3.out _ _ _) _ Try.underlying22 rfl rfl ?_)
      | (refine S.ld 22 _ rfl _ 4 rfl 0 (Cel.res _ _ _ _) rfl _ (res_reg HR4.out _ _ _) _ Try.underlying22 rfl rfl ?_)
      | (refine S.ld 22 _ rfl _ 5 rfl 0 (Cel.res _ _ _ _) rfl _ (res_reg HR5.out _ _ _) _ Try.underlying22 rfl rfl ?_)
      | (refine wpl_cl 22 _ rfl g1 4 rfl _ (ev_ad1 S.inv.2.2) _ Try.underlying22 rfl rfl ?_)
      | (refine wpl_cl 22 _ rfl g1 16 rfl _ (ev_ad5 S.inv.2.2) _ Try.underlying22 rfl rfl ?_)))
  go_wp2_with (first
    | ((with_reducible refine wpl_is ?_); first
      | (refine wpl_dst 98 rfl (.int .u32 (bad / 4 * 4)) (by go_simp; try simp only [hN3]) rfl ?_)
      | (refine wpl_dst 99 rfl (.int .u32 b) (by go_simp; try simp only [hO1]) rfl ?_)
      | (refine S.store1 rfl 22 _ _ rfl _ 1 _ rfl rfl 1 (Cel.regs _) rfl rfl (by rw [regs_length (hnl _ _)]; decide) _ (set_regs _ _ _) szU ?_; clear S; intro w4 S; simp only [List.set_cons_zero, List.set_cons_succ, nR_set] at S)
      | (refine S.codeM rfl 34 3 _ rfl nCode 25 (by kernel_rfl) (by simp [HV.wf, nCode, nMov, nLd4, mExit]) (by decide) ?_; have hm2 := MemAt.top S.inv.2.1; clear S; intro g2 w5 hg2 S; replace hg2 := Nat.le_trans hm2 hg2; clear hm2)
      | (refine S.ldAll 28 _ rfl _ rfl 1 (Cel.regs _) rfl _ Try.underlying28 rfl (by rw [regs_length (hnl _ _)]; exact szRegs) rfl ?_)))
  refine (C2.out g2 _ _ S.inv.1.2.1 S.inv.2 (.inr hg2)).mono ?_
  rintro e w6 ⟨R2, g3, c2, base2, D3, rfl, hk2, ⟨e3, e9⟩, hev, hb2, hM, hmid⟩
  replace S := S.ran (lo := lo) (hi := hi) rfl rfl hev hb2 hM hmid
  clear hb2 hM hmid hev C2
  go_upto_region 13 with (first
    | ((with_reducible refine wpl_is ?_); first
      | (refine SH.alloc (L := [_, _]) S rfl 32 rfl _ zeroRes ?_; clear S; intro b5 w7 S)
      | (refine S.storeAll rfl 32 _ _ rfl _ (Cel.res R2 _ _ _) rfl rfl 0 _ rfl (by rw [res_length hk2, res_length (by simp)]) (one_res rfl) (by rw [res_length hk2]; exact szRes) ?_; clear S; intro w8 S; simp only [List.set_cons_zero, List.set_cons_succ] at S)))
  have f33 := ((S.at (i := 0) rfl).1.cell 33).trans (res_33 hk2 _ _ _)
  have f34 := ((S.at (i := 0) rfl).1.cell 34).trans (res_34 hk2 _ _ _)
  have f32 := ((S.at (i := 0) rfl).1.cell 32).trans (res_32 hk2 _ _ _)
  have f3 := ((S.at (i := 0) rfl).1.cell 3).trans (res_reg e3 _ _ _)
  have f9 := ((S.at (i := 0) rfl).1.cell 9).trans (res_reg e9 _ _ _)
  have fr := ((S.at (i := 2) rfl).1.cell 1).trans (regs_at (R := nR b v) (j := 1) rfl)
  have fe := ev_bad S.inv.2.2
  have SL : Hid (Below w.heap.size w w8) := S.lowB hlo0
  clear S e3 e9
  go_quiet (fail)
  go_wp2
  go_ret
  exact ⟨rfl, ⟨SL.out.os, SL.out.tape, SL.out.output, SL.out.size, SL.out.block⟩⟩
end Go.Proofs.Yteflboidbogegaa
