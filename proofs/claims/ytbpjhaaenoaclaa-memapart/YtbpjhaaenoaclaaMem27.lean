/- MemApart, walked. -/
import Derived.Test.YtbpjhaaenoaclaaMem26
import Derived.Test.YtbpjhaaenoaclaaMem28
namespace Go.Proofs.Ytbpjhaaenoaclaa
open Go.ChangeShapes Go.WideShapes Go.ChangeAt Go.RowKit
set_option linter.unusedVariables false
set_option linter.unusedSimpArgs false
attribute [local go_sem ↓] Go.wp_at_zero Go.wp_at_succ

theorem seat_out {l1 l2 l3 l4 : Nat} {f : Nat} (hf : 256 ≤ f) (hf2 : f < 300) :
    findS (regAt (seatBs l1 l2 l3 l4)) (seatBs l1 l2 l3 l4).length (536870912 + f) 1 = none := by
  unfold findS
  split
  · show firstS (regAt (seatBs l1 l2 l3 l4)) (536870912 + f) 1 4 = none
    have h0 : hitS (regAt (seatBs l1 l2 l3 l4) 0) (536870912 + f) 1 = false := by
      simp only [hitS, regAt, seatBs, List.getD]
      simp
      omega
    have h1 : hitS (regAt (seatBs l1 l2 l3 l4) 1) (536870912 + f) 1 = false := by
      simp only [hitS, regAt, seatBs, List.getD]
      simp
      omega
    have h2 : hitS (regAt (seatBs l1 l2 l3 l4) 2) (536870912 + f) 1 = false := by
      simp only [hitS, regAt, seatBs, List.getD]
      simp
      omega
    have h3 : hitS (regAt (seatBs l1 l2 l3 l4) 3) (536870912 + f) 1 = false := by
      simp only [hitS, regAt, seatBs, List.getD]
      simp
      omega
    simp [firstS, h0, h1, h2, h3]
  · rfl

theorem store_ram_off {l1 l2 l3 l4 : Nat} (hc : checkS (regAt (seatBs l1 l2 l3 l4)) (seatBs l1 l2 l3 l4).length = 0) {D : List (List Int)} {a v : Int} (ha : 536870912 ≤ a) (ha2 : a < 536870912 + 300) (hD : D.length = 4) :
    ∀ j : Nat, j ≠ 1 → (storeS (seatBs l1 l2 l3 l4) D a 1 v)[j]? = D[j]? := by
  intro j hj
  obtain ⟨f, hf⟩ : ∃ f : Nat, a = 536870912 + (f : Int) := ⟨(a - 536870912).toNat, by omega⟩
  subst hf
  obtain ⟨d, hd⟩ : ∃ d, D[1]? = some d := ⟨D[1]'(by omega), by simp⟩
  by_cases h : f < 256
  · rw [storeS_ram hc hd (by show (f : Int) + 1 ≤ 256; omega) (by show (f : Int) % 1 = 0; omega), List.getElem?_set_ne (by omega)]
  · unfold storeS
    rw [seat_out (by omega) (by omega)]
    simp

theorem seat_code {l1 l2 l3 l4 : Nat} (hc : checkS (regAt (seatBs l1 l2 l3 l4)) (seatBs l1 l2 l3 l4).length = 0) {a : Int} (ha : 32768 ≤ a) (ha2 : a < 32768 + 1024) :
    mayS (regAt (seatBs l1 l2 l3 l4)) (seatBs l1 l2 l3 l4).length a 1 true = 24 := by
  have hf : findS (regAt (seatBs l1 l2 l3 l4)) (seatBs l1 l2 l3 l4).length a 1 = some 0 := by
    unfold findS
    rw [if_pos hc]
    refine firstS_hit _ _ _ (k := 0) (by simp [seatBs]) rfl ?_
    simp only [hitS, regAt, seatBs, List.getD]
    simp
    have : widthS 1 = 1 := by decide
    omega
  unfold mayS
  rw [hf]
  have hw : widthS 1 = 1 := by decide
  simp [hc, hw, regS, regAt, seatBs]

def apRel (w : World) (p lo hi : Nat) (Bs : List Reg) (G D0 : List (List Int)) (q : Nat → Nat) (v : Value) (n : Nat) (i : Value) (wr : World) : Prop :=
  ∃ (k : Nat) (D : List (List Int)), k ≤ n ∧ i = .int .i64 k ∧ MemAt wr p 0 lo hi Bs G D q ∧ (∀ j : Nat, j ≠ 1 → D[j]? = D0[j]?) ∧ RL wr (fun b => b < lo) v Bs G ∧ Below w.heap.size w wr

set_option maxHeartbeats 32000000 in
set_option maxRecDepth 100000 in
theorem memapart_main (A1 A2 A3 : Option Addr) (n1 c1 n2 c2 n3 c3 : Nat) (b1 b2 : List Int) (X : Nat → ActS) (w : World) (h1 : BL w (fun b => b < w.heap.size) (.slice A1 n1 c1) b1) (h2 : BL w (fun b => b < w.heap.size) (.slice A2 n2 c2) b2) (h3 : AL w A3 n3 X)
    (hc1 : n1 ≤ c1) (hc2 : n2 ≤ c2) (hn1 : n1 ≤ 300) (hn2 : n2 ≤ 200) (hn3 : n3 ≤ 30) :
    Calls Try.prog 7 #[.slice A1 n1 c1, .slice A2 n2 c2, .slice A3 n3 c3] w fun e w' => e = .returned (.bool true) ∧ Below w.heap.size w w' := by
  have K : Hid _ := known_c w
  have hd1 : decide ((300 : Int) < n1) = false := by simp; omega
  have hd2 : decide ((200 : Int) < n2) = false := by simp; omega
  have hd3 : decide ((30 : Int) < n3) = false := by simp; omega
  obtain ⟨m1, hmm1⟩ : ∃ m : Nat, (¬ (256 : Int) < n1 ∧ m = n1) ∨ ((256 : Int) < n1 ∧ m = 256) := by
    by_cases h : n1 ≤ 256
    · exact ⟨n1, .inl ⟨by omega, rfl⟩⟩
    · exact ⟨256, .inr ⟨by omega, rfl⟩⟩
  obtain ⟨m2, hmm2⟩ : ∃ m : Nat, (¬ (128 : Int) < n2 ∧ m = n2) ∨ ((128 : Int) < n2 ∧ m = 128) := by
    by_cases h : n2 ≤ 128
    · exact ⟨n2, .inl ⟨by omega, rfl⟩⟩
    · exact ⟨128, .inr ⟨by omega, rfl⟩⟩
  obtain ⟨p1, l1⟩ := h1.pre m1 (by omega)
  obtain ⟨p2, l2⟩ := h2.pre m2 (by omega)
  obtain ⟨d1, hd1e⟩ : ∃ d, d = b1.take m1 := ⟨_, rfl⟩
  obtain ⟨d2, hd2e⟩ : ∃ d, d = b2.take m2 := ⟨_, rfl⟩
  rw [← hd1e] at p1 l1
  rw [← hd2e] at p2 l2
  have HC : Hid (checkS (regAt (seatBs 4 d1.length d2.length 0)) (seatBs 4 d1.length d2.length 0).length = 0) := seat_check (by decide) (by omega) (by omega) (by decide)
  have HG : Hid (∀ g ∈ [[1, 2, 3, 4], d1, d2, []], g.length ≤ 65536) := by
    intro g hg
    simp only [List.mem_cons, List.not_mem_nil, or_false] at hg
    rcases hg with rfl | rfl | rfl | rfl
    · decide
    · omega
    · omega
    · decide
  have S0 : Hid (∀ w1, Below w.heap.size w w1 → ∀ wx, wx = (w1.alloc lay4).drew → Calls Try.prog 9 #[.slice (some ⟨w1.heap.size, 0, none⟩) 4 4, .slice A1 m1 c1, .slice A2 m2 c2, .slice none 0 0] wx fun e w' => SeatPost wx [1, 2, 3, 4] d1 d2 [] e w' ∧ Below w.heap.size w wx) := fun w1 hw wx hx => by
    have hwx : Below w.heap.size w wx := by rw [hx]; exact (hw.alloc hw.size _).drew
    have h3' := four_laid w1
    rw [← hx] at h3'
    exact (seat_c _ _ _ _ [1, 2, 3, 4] d1 d2 [] wx h3' ((BL.below p1 hwx).mono fun b h => Nat.lt_of_lt_of_le h hwx.size) ((BL.below p2 hwx).mono fun b h => Nat.lt_of_lt_of_le h hwx.size) (bl_nil _ _) (by decide) (by omega) (by omega) (by decide)).mono fun e w' h => ⟨h, hwx⟩
  obtain ⟨Bs, hBs⟩ : ∃ Bs, Bs = seatBs 4 d1.length d2.length 0 := ⟨_, rfl⟩
  obtain ⟨G, hGe⟩ : ∃ G : List (List Int), G = [[1, 2, 3, 4], d1, d2, []] := ⟨_, rfl⟩
  have HBs : Hid (Bs = seatBs 4 d1.length d2.length 0 ∧ G = [[1, 2, 3, 4], d1, d2, []]) := ⟨hBs, hGe⟩
  rw [← hBs] at HC
  rw [← hGe] at HG
  have HX : Hid _ := h3
  have HM : Hid _ := And.intro hmm1 hmm2
  clear hBs hGe l1 l2 p1 p2 hd1e hd2e h1 h2 h3 hmm1 hmm2
  go_enter Try.func7, Try.ntmps7
  go_wp2_with fail
  refine Calls.mono K.out ?_
  rintro e w1 ⟨rfl, hb1⟩
  have HB1 : Hid _ := hb1
  clear hb1 K
  go_upto_region 5 with fail
  refine lay_reg4 A1 A2 n1 c1 n2 c2 m1 m2 w w1 Bs G d1 d2 _ _ _ _ _ _ _ _ _ _ _ _ _ _ _ _ _ _ _ _ _ _ _ _ _ _ _ _ _ _ _ _ _ _ _ _ _ _ _ _ _ _ _ _ _ _ _ _ _ _ _ _ _ _ _ _ _ _ _ _ _ _ _ _ _ _ _ _ _ _ _ _ _ _ _ _ _ _ _ _ _ _ _ _ _ _ _ _ _ _ _ _ _ _ _ _ _ _ _ _ _ _ _ _ _ _ _ _ _ _ _ _ _ _ _ _ _ _ _ _ _ _ _ _ _ _ _ _ _ _ _ _ _ _ _ _ (by have h := HM.out.1; omega) (by have h := HM.out.2; omega) hc1 hc2 (S0.out w1 HB1.out) HBs ?_
  unfold Hid
  intro u28 u29 u30 u31 u32 u33 u34 u35 u36 u37 u38 u39 vL wc hcut
  obtain ⟨L, rfl, hrl, hbc⟩ := hcut
  have HR2 : Hid _ := hrl
  have HB2 : Hid _ := hbc
  clear hrl hbc HB1 S0 HM
  go_wp2_with fail
  refine (new_ok _ Bs G _ wc HR2.out (fun b h => h) HC.out HG.out).mono ?_
  rintro e w3 ⟨p, q, rfl, hm3, hb3⟩
  have HM3 : Hid _ := hm3
  have HR3 : Hid _ := RL.below HR2.out hb3
  have HB3 : Hid (Below w.heap.size w w3) := HB2.out.trans (hb3.mono HB2.out.size)
  obtain ⟨lo, hlo⟩ : ∃ lo, lo = wc.heap.size := ⟨_, rfl⟩
  obtain ⟨hi, hhi⟩ : ∃ hi, hi = w3.heap.size := ⟨_, rfl⟩
  have HL : Hid (w.heap.size ≤ lo ∧ lo ≤ hi) := by
    rw [hlo, hhi]
    exact ⟨HB2.out.size, hb3.size⟩
  rw [← hlo, ← hhi] at HM3
  rw [← hlo] at HR3
  clear hm3 hb3 HB2 HR2 hlo hhi
  have HN : Hid (Bs.length = 4) := by rw [HBs.out.1]; rfl
  go_wp2_with fail
  go_loopw [10] (fun i wr => apRel w p lo hi Bs G (initD Bs G) q (.slice (some ⟨L, 0, none⟩) 4 4) n3 i wr) (fun i _ => n3 - (intOf i).toNat)
  case atStart => exact ⟨0, _, Nat.zero_le _, rfl, HM3.out, fun _ _ => rfl, HR3.out, HB3.out⟩
  case round =>
    obtain ⟨k, D, hk, rfl, hM, hD, hR, hB⟩ := hrel
    have HMk : Hid _ := hM
    have HDk : Hid _ := hD
    have HRk : Hid _ := hR
    have HBk : Hid _ := hB
    clear hM hD hR hB HM3 HR3 HB3
    by_cases hkn : k < n3
    · have hkn' : (k : Int) < n3 := by omega
      have hk0 : (0 : Int) ≤ (k : Int) := by omega
      obtain ⟨hwf, b9, o9, rfl, hb9, x0, x1, x2, x3⟩ := HX.out.2 k hkn
      obtain ⟨w0, w1', wh0, wh1, xa0, xa1, xv0, xv1⟩ := hwf
      have y2 : wr.cell? ⟨b9, o9 + k * 4 + 2, none⟩ = _ := (HBk.out.cell hb9).trans x2
      have y3 : wr.cell? ⟨b9, o9 + k * 4 + 3, none⟩ = _ := (HBk.out.cell hb9).trans x3
      obtain ⟨aa, haa⟩ : ∃ aa, aa = (X k).a := ⟨_, rfl⟩
      obtain ⟨vv, hvv⟩ : ∃ vv, vv = (X k).v := ⟨_, rfl⟩
      rw [← haa] at x2 y2 xa0 xa1
      rw [← hvv] at x3 y3 xv0 xv1
      have HSTO : Hid (∀ w5, Below w.heap.size w w5 → MemAt w5 p 0 lo hi Bs G D q → RL w5 (fun b => b < lo) (.slice (some ⟨L, 0, none⟩) 4 4) Bs G → Calls Try.prog 12 #[.pointer (some ⟨p, 0, none⟩), .int .u32 (536870912 + aa % 300), .int .u32 1, .int .u32 vv] w5 fun e w' =>
          (∃ c, e = .returned (.int .i64 c)) ∧ (∃ D', MemAt w' p 0 lo hi Bs G D' q ∧ ∀ j : Nat, j ≠ 1 → D'[j]? = (initD Bs G)[j]?) ∧ RL w' (fun b => b < lo) (.slice (some ⟨L, 0, none⟩) 4 4) Bs G ∧ Below w.heap.size w w') := fun w5 hb hm hr =>
        (store_c hm (536870912 + aa % 300) 1 vv (by omega) (by omega) xv0 xv1).mono fun e w' ⟨he, hm', hmid⟩ => by
          refine ⟨⟨_, he⟩, ⟨_, hm', fun j hj => ?_⟩, RL.kept hr fun b hb1 hb2 => hmid.block b hb2 (.inl hb1), hmid.low hb HL.out.1 (by have h1 := hm.pin; have h2 := hm.top; omega)⟩
          have hc := HC.out
          have hl := hm.len
          rw [HN.out] at hl
          rw [HBs.out.1] at hc
          have := store_ram_off hc (D := D) (a := 536870912 + aa % 300) (v := vv) (by omega) (by omega) hl j hj
          rw [← HBs.out.1] at this
          exact this.trans (HDk.out j hj)
      have HSTC : Hid (∀ w5 D', Below w.heap.size w w5 → MemAt w5 p 0 lo hi Bs G D' q → (∀ j : Nat, j ≠ 1 → D'[j]? = (initD Bs G)[j]?) → RL w5 (fun b => b < lo) (.slice (some ⟨L, 0, none⟩) 4 4) Bs G → Calls Try.prog 12 #[.pointer (some ⟨p, 0, none⟩), .int .u32 (32768 + aa % 1024), .int .u32 1, .int .u32 vv] w5 fun e w' =>
          e = .returned (.int .i64 24) ∧ apRel w p lo hi Bs G (initD Bs G) q (.slice (some ⟨L, 0, none⟩) 4 4) n3 (.int .i64 ((k : Int) + 1)) w' ∧ Below w.heap.size w w') := fun w5 D' hb hm hD hr => by
        have hc := HC.out
        rw [HBs.out.1] at hc
        have hmay := seat_code hc (a := 32768 + aa % 1024) (by omega) (by omega)
        rw [← HBs.out.1] at hmay
        have hsto : storeS Bs D' (32768 + aa % 1024) 1 vv = D' := by simp [storeS, hmay]
        have := store_c hm (32768 + aa % 1024) 1 vv (by omega) (by omega) xv0 xv1
        rw [hmay, hsto] at this
        refine this.mono fun e w' ⟨he, hm', hmid⟩ => ?_
        have hb' : Below w.heap.size w w' := hmid.low hb HL.out.1 (by have h1 := hm.pin; have h2 := hm.top; omega)
        exact ⟨he, ⟨k + 1, D', hkn, by push_cast; rfl, hm', hD, RL.kept hr fun b hb1 hb2 => hmid.block b hb2 (.inl hb1), hb'⟩, hb'⟩
      have tm1 : aa.tmod 300 = aa % 300 := Int.tmod_eq_emod_of_nonneg xa0
      have tm2 : aa.tmod 1024 = aa % 1024 := Int.tmod_eq_emod_of_nonneg xa0
      have tw1 : IntKind.u32.wrap (aa % 300) = aa % 300 := by rw [IntKind.wrap_u32]; omega
      have tw2 : IntKind.u32.wrap (aa % 1024) = aa % 1024 := by rw [IntKind.wrap_u32]; omega
      have tw3 : IntKind.u32.wrap (536870912 + aa % 300) = 536870912 + aa % 300 := by rw [IntKind.wrap_u32]; omega
      have tw4 : IntKind.u32.wrap (32768 + aa % 1024) = 32768 + aa % 1024 := by rw [IntKind.wrap_u32]; omega
      clear haa hvv x0 x1
      go_wp2_with fail
      go_region_held3 (fun w' => w'.cell? ⟨b9, o9 + k * 4 + 2, none⟩ = some (.int .u32 aa) ∧ w'.cell? ⟨b9, o9 + k * 4 + 3, none⟩ = some (.int .u32 vv))
        (first
          | go_keep
          | (go_split_ands; exact ⟨(hb5.cell hb9).trans x2, (hb5.cell hb9).trans x3⟩))
        (first
          | (go_at_call 12; refine (HSTO.out _ HBk.out.drew (MemAt.drew HMk.out) (RL.kept HRk.out fun _ _ _ => rfl)).mono ?_; rintro e w5 ⟨⟨cc, rfl⟩, ⟨D', hm5, hD5⟩, hr5, hb5⟩))
      have HM5 : Hid _ := hm5
      have HD5 : Hid _ := hD5
      have HR5 : Hid _ := hr5
      have HB5 : Hid _ := hb5
      have z2 : w5.cell? ⟨b9, o9 + k * 4 + 2, none⟩ = _ := (hb5.cell hb9).trans x2
      have z3 : w5.cell? ⟨b9, o9 + k * 4 + 3, none⟩ = _ := (hb5.cell hb9).trans x3
      clear hm5 hD5 hr5 hb5 y2 y3 HMk HDk HRk HBk HSTO
      go_wp2_with fail
      go_region_held3 (fun w' => w'.cell? ⟨b9, o9 + k * 4 + 2, none⟩ = some (.int .u32 aa) ∧ w'.cell? ⟨b9, o9 + k * 4 + 3, none⟩ = some (.int .u32 vv))
        (first
          | go_keep
          | (go_split_ands; exact ⟨(hb6.cell hb9).trans x2, (hb6.cell hb9).trans x3⟩))
        (first
          | (go_at_call 12; refine (HSTC.out _ _ HB5.out.drew (MemAt.drew HM5.out) HD5.out (RL.kept HR5.out fun _ _ _ => rfl)).mono ?_; rintro e w6 ⟨rfl, hp6, hb6⟩))
      have HP6 : Hid _ := hp6
      clear hp6 hb6 HM5 HD5 HR5 HB5 HSTC
      go_wp2
      go_roundw
      case rel => exact HP6.out
      case measure =>
        simp only [intOf]
        omega
    · have kn' : ¬ (k : Int) < n3 := by omega
      clear HX
      go_wp2_with fail
      refine Calls.mono (rnew_ok _ Bs G lo wr HRk.out (by have h1 := (MemAt.pin HMk.out); have h2 := (MemAt.top HMk.out); omega) HC.out) ?_
      rintro e w5 ⟨p5, q5, rfl, hm5, hb5⟩
      have HM5 : Hid _ := MemAt.below HMk.out hb5
      have HR5 : Hid _ := RL.below HRk.out hb5
      have HB5 : Hid (Below w.heap.size w w5) := HBk.out.trans (hb5.mono HBk.out.size)
      obtain ⟨An, nb, cn, n1', n4⟩ := hm5.rowc
      have hDl : (initD Bs G).length = 4 := by rw [hm5.len, HN.out]
      rw [hDl] at n1'
      have hlong := hm5.long HC.out
      have hDl2 : D.length = 4 := by rw [(MemAt.len HMk.out), HN.out]
      have row : ∀ i, i < 4 → ∃ d, (initD Bs G)[i]? = some d := fun i hi => ⟨(initD Bs G)[i]'(by omega), by simp⟩
      obtain ⟨r0, e0⟩ := row 0 (by decide)
      obtain ⟨r2, e2⟩ := row 2 (by decide)
      obtain ⟨r3, e3⟩ := row 3 (by decide)
      obtain ⟨r1, e1⟩ : ∃ d, D[1]? = some d := ⟨D[1]'(by omega), by simp⟩
      have h256 : r1.length = 256 := by
        obtain ⟨d, hd, _, hl⟩ := (MemAt.row HMk.out (i := 1) (r := regAt Bs 1) (by simp [regAt, List.getD, HN.out]))
        rw [e1] at hd
        simp only [Option.some.injEq] at hd
        subst hd
        have : (regAt Bs 1).ln = 256 := by rw [HBs.out.1]; rfl
        omega
      obtain ⟨R, hR0, hR1, hR2, hR3⟩ : ∃ R : Int → List Int, R 0 = r0 ∧ R 1 = r1 ∧ R 2 = r2 ∧ R 3 = r3 :=
        ⟨fun i => if i = 0 then r0 else if i = 1 then r1 else if i = 2 then r2 else r3, rfl, rfl, rfl, rfl⟩
      have hsm : ∀ (i : Nat) (d : List Int), (initD Bs G)[i]? = some d → d.length ≤ 65536 := fun i d hd => (hlong.2 i d hd).2
      have CB : Hid (∀ iv : Int, (iv = 0 ∨ iv = 1 ∨ iv = 2 ∨ iv = 3) → ∀ w6, Below w5.heap.size w5 w6 → Calls Try.prog 22 #[.pointer (some ⟨p, 0, none⟩), .int .i64 iv] w6 fun e w' =>
          ∃ A c, e = .returned (.slice A (R iv).length c) ∧ (convert 22 9 (.slice A (R iv).length c)).run Try.prog w' = .ok (.string (strS (R iv))) w' ∧ Below w5.heap.size w5 w') := fun iv hiv w6 hb6 => by
        have hM6 := MemAt.below HM5.out hb6
        have hD := HDk.out
        have key : ∀ (i : Nat) (d : List Int), D[i]? = some d → d.length ≤ 65536 → okB d → (iv = (i : Int)) → R iv = d → Calls Try.prog 22 #[.pointer (some ⟨p, 0, none⟩), .int .i64 iv] w6 fun e w' =>
          ∃ A c, e = .returned (.slice A (R iv).length c) ∧ (convert 22 9 (.slice A (R iv).length c)).run Try.prog w' = .ok (.string (strS (R iv))) w' ∧ Below w5.heap.size w5 w' := fun i d hd hdl hok hi hRi => by
          rw [hRi, hi]
          refine (bytes_c hM6 hd hdl).mono fun e w' ⟨A, c, he, ho, hb⟩ => ⟨A, c, he, (BL.own hok ho).str, hb6.trans (hb.mono hb6.size)⟩
        have okr : ∀ (i : Nat) (d : List Int), i < 4 → D[i]? = some d → okB d := fun i d hi hd => by
          obtain ⟨d', hd', hok, _⟩ := (MemAt.row HMk.out (i := i) (r := regAt Bs i) (by simp [regAt, List.getD, HN.out, hi]))
          rw [hd] at hd'
          simp only [Option.some.injEq] at hd'
          rw [hd']
          exact hok
        rcases hiv with rfl | rfl | rfl | rfl
        · exact key 0 r0 ((hD 0 (by decide)).trans e0) (hsm 0 r0 e0) (okr 0 r0 (by decide) ((hD 0 (by decide)).trans e0)) rfl hR0
        · exact key 1 r1 e1 (by omega) (okr 1 r1 (by decide) e1) rfl hR1
        · exact key 2 r2 ((hD 2 (by decide)).trans e2) (hsm 2 r2 e2) (okr 2 r2 (by decide) ((hD 2 (by decide)).trans e2)) rfl hR2
        · exact key 3 r3 ((hD 3 (by decide)).trans e3) (hsm 3 r3 e3) (okr 3 r3 (by decide) ((hD 3 (by decide)).trans e3)) rfl hR3
      have CR : Hid (∀ w6, Below w5.heap.size w5 w6 → Calls Try.prog 24 #[.pointer (some ⟨p, 0, none⟩)] w6 fun e w' => ∃ A c, e = .returned (.slice A Bs.length c) ∧ (∃ S, RL w' S (.slice A Bs.length c) Bs G) ∧ Below w5.heap.size w5 w') := fun w6 hb6 =>
        (regions_c (MemAt.below HM5.out hb6) (by rw [HN.out]; decide) HG.out).mono fun e w' ⟨A, c, he, hr, hb⟩ => ⟨A, c, he, ⟨_, hr⟩, hb6.trans (hb.mono hb6.size)⟩
      have CS : Hid (∀ v w6, Below w5.heap.size w5 w6 → (∃ S, RL w6 S v Bs G) → Calls Try.prog 23 #[v, .slice (some ⟨L, 0, none⟩) 4 4] w6 fun e w' => e = .returned (.bool true) ∧ Below w5.heap.size w5 w') := fun v w6 hb6 ⟨S, hv⟩ =>
        (sameRegions_c v _ Bs G S _ w6 hv (RL.below HR5.out hb6)).mono fun e w' ⟨he, hb⟩ => ⟨he, hb6.trans (hb.mono hb6.size)⟩
      obtain ⟨rfl, ok0, cap0, m0, o0⟩ := n4 0 r0 e0
      obtain ⟨_, ok2, cap2, m2', o2⟩ := n4 2 r2 e2
      obtain ⟨_, ok3, cap3, m3, o3⟩ := n4 3 r3 e3
      have cv : ∀ {i : Nat} {d : List Int} {cap : Nat}, okB d → w5.ownsRow wr.heap.size 5 1 (.slice (some ⟨q5 i, 0, none⟩) d.length cap) d.length (cb d) → ∀ w6, Below w5.heap.size w5 w6 → (convert 22 9 (.slice (some ⟨q5 i, 0, none⟩) d.length cap)).run Try.prog w6 = .ok (.string (strS d)) w6 := fun hok ho w6 hb6 => ((BL.own hok ho).below hb6).str
      have V0 : Hid _ := cv ok0 o0
      have V2 : Hid _ := cv ok2 o2
      have V3 : Hid _ := cv ok3 o3
      rw [← hR0] at m0 V0
      rw [← hR2] at m2' V2
      rw [← hR3] at m3 V3
      rw [← hR1] at h256
      clear hm5 hb5 n4 hlong row e0 e1 e2 e3 hsm o0 o2 o3 ok0 ok2 ok3 cv hR0 hR1 hR2 hR3 HMk HDk HRk HBk hDl hDl2
      have M0 : Hid _ := And.intro n1' (And.intro m0 (And.intro m2' (And.intro m3 h256)))
      clear n1' m0 m2' m3 h256
      go_upto_region 16 with fail
      refine last_reg w5 p p5 nb L cn cap0 cap2 cap3 q5 R Bs G _ _ _ _ _ _ _ _ _ _ _ _ _ _ _ _ _ _ _ _ _ _ _ _ _ _ _ _ _ _ _ _ _ _ _ _ _ _ _ _ _ _ _ _ _ _ _ _ _ _ _ _ _ _ _ _ _ _ _ _ _ _ _ _ _ _ _ _ _ _ _ _ _ _ _ _ _ _ _ _ _ _ _ _ _ _ _ _ _ _ _ _ _ _ _ _ _ _ _ _ _ _ _ _ _ _ _ _ _ _ _ _ _ _ _ _ _ _ _ _ _ _ _ _ _ _ _ _ _ _ _ _ _ _ _ CB CR CS M0.out.1 M0.out.2.1 M0.out.2.2.1 M0.out.2.2.2.1 V0 V2 V3 M0.out.2.2.2.2 ?_
      unfold Hid
      intro u87 u88 u89 u90 u91 u92 u93 u94 u95 u96 u97 u98 u99 u100 u101 u102 u103 u104 u105 u106 u107 u108 u109 u110 u111 u112 u113 u114 u115 u116 u117 u118 u119 u120 u121 u122 u123 u124 u125 u126 u127 u128 u129 u130 u131 u132 u133 u134 u135 w8 hb8
      have HB8 : Hid (Below w.heap.size w w8) := HB5.out.trans (hb8.mono HB5.out.size)
      clear hb8 CB CR CS M0 V0 V2 V3
      go_wp2
      go_ret
      exact ⟨rfl, HB8.out⟩
end Go.Proofs.Ytbpjhaaenoaclaa
