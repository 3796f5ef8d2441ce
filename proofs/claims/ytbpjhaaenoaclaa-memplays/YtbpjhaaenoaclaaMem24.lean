/- MemPlays, walked. -/
import Derived.Test.YtbpjhaaenoaclaaMem23
namespace Go.Proofs.Ytbpjhaaenoaclaa
open Go.ChangeShapes Go.WideShapes Go.ChangeAt Go.RowKit
set_option linter.unusedVariables false
set_option linter.unusedSimpArgs false
attribute [local go_sem ↓] Go.wp_at_zero Go.wp_at_succ

set_option maxHeartbeats 32000000 in
set_option maxRecDepth 100000 in
theorem memplays_main (A1 A2 A3 : Option Addr) (n1 c1 n2 c2 n3 c3 : Nat) (b1 b2 : List Int) (X : Nat → ActS) (w : World) (h1 : BL w (fun b => b < w.heap.size) (.slice A1 n1 c1) b1) (h2 : BL w (fun b => b < w.heap.size) (.slice A2 n2 c2) b2) (h3 : AL w A3 n3 X)
    (hc1 : n1 ≤ c1) (hc2 : n2 ≤ c2) (hn1 : n1 ≤ 300) (hn2 : n2 ≤ 200) (hn3 : n3 ≤ 40) :
    Calls Try.prog 3 #[.slice A1 n1 c1, .slice A2 n2 c2, .slice A3 n3 c3] w fun e w' => e = .returned (.bool true) ∧ Below w.heap.size w w' := by
  have K : Hid _ := known_c w
  have hd1 : decide ((300 : Int) < n1) = false := by simp; omega
  have hd2 : decide ((200 : Int) < n2) = false := by simp; omega
  have hd3 : decide ((40 : Int) < n3) = false := by simp; omega
  obtain ⟨m1, hmm1⟩ : ∃ m : Nat, (¬ (256 : Int) < n1 ∧ m = n1) ∨ ((256 : Int) < n1 ∧ m = 256) := by
    by_cases h : n1 ≤ 256
    · exact ⟨n1, .inl ⟨by omega, rfl⟩⟩
    · exact ⟨256, .inr ⟨by omega, rfl⟩⟩
  obtain ⟨m2, hmm2⟩ : ∃ m : Nat, (¬ (128 : Int) < n2 ∧ m = n2) ∨ ((128 : Int) < n2 ∧ m = 128) := by
    by_cases h : n2 ≤ 128
    · exact ⟨n2, .inl ⟨by omega, rfl⟩⟩
    · exact ⟨128, .inr ⟨by omega, rfl⟩⟩
  obtain ⟨p1, l1⟩ := h1.pre m1 (by omega)
  obtain ⟨p2, l2⟩ := h2.pre m2 (by omega)
  obtain ⟨d1, hd1e⟩ : ∃ d, d = b1.take m1 := ⟨_, rfl⟩
  obtain ⟨d2, hd2e⟩ : ∃ d, d = b2.take m2 := ⟨_, rfl⟩
  rw [← hd1e] at p1 l1
  rw [← hd2e] at p2 l2
  have HC : Hid (checkS (regAt (seatBs 3 d1.length d2.length 0)) (seatBs 3 d1.length d2.length 0).length = 0) := seat_check (by decide) (by omega) (by omega) (by decide)
  have HG : Hid (∀ g ∈ [[1, 2, 3], d1, d2, []], g.length ≤ 65536) := by
    intro g hg
    simp only [List.mem_cons, List.not_mem_nil, or_false] at hg
    rcases hg with rfl | rfl | rfl | rfl
    · decide
    · omega
    · omega
    · decide
  have S0 : Hid (∀ w1, Below w.heap.size w w1 → ∀ wx, wx = (w1.alloc lay3).drew → Calls Try.prog 9 #[.slice (some ⟨w1.heap.size, 0, none⟩) 3 3, .slice A1 m1 c1, .slice A2 m2 c2, .slice none 0 0] wx fun e w' => SeatPost wx [1, 2, 3] d1 d2 [] e w' ∧ Below w.heap.size w wx) := fun w1 hw wx hx => by
    have hwx : Below w.heap.size w wx := by rw [hx]; exact (hw.alloc hw.size _).drew
    have h3' := three_bytes w1
    rw [← hx] at h3'
    exact (seat_c _ _ _ _ [1, 2, 3] d1 d2 [] wx h3' ((BL.below p1 hwx).mono fun b h => Nat.lt_of_lt_of_le h hwx.size) ((BL.below p2 hwx).mono fun b h => Nat.lt_of_lt_of_le h hwx.size) (bl_nil _ _) (by decide) (by omega) (by omega) (by decide)).mono fun e w' h => ⟨h, hwx⟩
  obtain ⟨Bs, hBs⟩ : ∃ Bs, Bs = seatBs 3 d1.length d2.length 0 := ⟨_, rfl⟩
  obtain ⟨G, hGe⟩ : ∃ G : List (List Int), G = [[1, 2, 3], d1, d2, []] := ⟨_, rfl⟩
  have HBs : Hid (Bs = seatBs 3 d1.length d2.length 0 ∧ G = [[1, 2, 3], d1, d2, []]) := ⟨hBs, hGe⟩
  rw [← hBs] at HC
  rw [← hGe] at HG
  have HX : Hid _ := h3
  have HM : Hid _ := And.intro hmm1 hmm2
  clear hBs hGe l1 l2 p1 p2 hd1e hd2e h1 h2 h3 hmm1 hmm2
  go_enter Try.func3, Try.ntmps3
  go_wp2_with fail
  refine Calls.mono K.out ?_
  rintro e w1 ⟨rfl, hb1⟩
  have HB1 : Hid _ := hb1
  clear hb1 K
  go_upto_region 5 with fail
  refine lay_reg A1 A2 n1 c1 n2 c2 m1 m2 w w1 Bs G d1 d2 _ _ _ _ _ _ _ _ _ _ _ _ _ _ _ _ _ _ _ _ _ _ _ _ _ _ _ _ _ _ _ _ _ _ _ _ _ _ _ _ _ _ _ _ _ _ _ _ _ _ _ _ _ _ _ _ _ _ _ _ _ _ _ _ _ _ _ _ _ _ _ _ _ _ _ _ _ _ _ _ _ _ _ _ _ _ _ _ _ _ _ _ _ _ _ _ _ _ _ _ _ _ _ _ _ _ _ _ _ _ _ _ _ _ _ _ _ _ _ _ _ _ _ _ _ _ _ _ _ _ _ _ _ _ _ _ _ _ _ _ _ _ _ _ _ _ _ _ _ _ _ _ _ _ _ _ _ _ _ _ _ _ _ _ _ _ _ _ _ _ _ _ _ _ _ _ _ _ _ _ _ _ _ _ (by have h := HM.out.1; omega) (by have h := HM.out.2; omega) hc1 hc2 (S0.out w1 HB1.out) HBs ?_
  unfold Hid
  intro u38 u39 u40 u41 u42 u43 u44 u45 u46 u47 u48 u49 vL wc hcut
  obtain ⟨L, rfl, hrl, hbc⟩ := hcut
  have HR2 : Hid _ := hrl
  have HB2 : Hid _ := hbc
  clear hrl hbc HB1 S0 HM
  go_wp2_with fail
  refine (new_ok _ Bs G _ wc HR2.out (fun b h => h) HC.out HG.out).mono ?_
  rintro e w3 ⟨p, q, rfl, hm3, hb3⟩
  have HM3 : Hid _ := hm3
  have HR3 : Hid _ := RL.below HR2.out hb3
  have HB3 : Hid (Below w.heap.size w w3) := HB2.out.trans (hb3.mono HB2.out.size)
  obtain ⟨lo, hlo⟩ : ∃ lo, lo = wc.heap.size := ⟨_, rfl⟩
  obtain ⟨hi, hhi⟩ : ∃ hi, hi = w3.heap.size := ⟨_, rfl⟩
  have HL : Hid (w.heap.size ≤ lo ∧ lo ≤ hi ∧ hi ≤ w3.heap.size) := by
    rw [hlo, hhi]
    exact ⟨HB2.out.size, hb3.size, Nat.le_refl _⟩
  rw [← hlo, ← hhi] at HM3
  rw [← hlo] at HR3
  clear hm3 hb3 HB2 HR2 hlo hhi
  go_wp2_with fail
  refine (rnew_ok _ Bs G lo w3 HR3.out (by have := HL.out; omega) HC.out).mono ?_
  rintro e w4 ⟨p2, q2, rfl, hc4, hb4⟩
  have HM4 : Hid _ := MemAt.below HM3.out hb4
  have HC4 : Hid _ := hc4
  have HB4 : Hid (Below w.heap.size w w4) := HB3.out.trans (hb4.mono HB3.out.size)
  obtain ⟨lo2, hlc⟩ : ∃ lc, lc = w3.heap.size := ⟨_, rfl⟩
  obtain ⟨hi2, hhc⟩ : ∃ hic, hic = w4.heap.size := ⟨_, rfl⟩
  have HLc : Hid (w.heap.size ≤ lo ∧ lo ≤ hi ∧ hi ≤ lo2 ∧ lo2 ≤ hi2) := by
    have := HL.out
    rw [hlc, hhc]
    exact ⟨this.1, this.2.1, this.2.2, hb4.size⟩
  rw [← hlc, ← hhc] at HC4
  clear hc4 hb4 HB3 HR3 HM3 hlc hhc HL
  have HN : Hid (Bs.length ≤ 10) := by rw [HBs.out.1]; show 4 ≤ 10; decide
  go_wp2_with fail
  go_loopw [12] (fun i wr => plyRel w p lo hi p2 lo2 hi2 Bs G q q2 n3 i wr) (fun i _ => n3 - (intOf i).toNat)
  case atStart => exact ⟨0, _, Nat.zero_le _, rfl, HM4.out, HC4.out, HB4.out⟩
  case round =>
    obtain ⟨k, D, hk, rfl, hM, hMr, hB⟩ := hrel
    have HMk : Hid _ := hM
    have HRk : Hid _ := hMr
    have HBk : Hid _ := hB
    clear hM hMr hB HM4 HC4 HB4
    by_cases hkn : k < n3
    · have hkn' : (k : Int) < n3 := by omega
      have hk0 : (0 : Int) ≤ (k : Int) := by omega
      obtain ⟨hwf, b9, o9, rfl, hb9, x0, x1, x2, x3⟩ := HX.out.2 k hkn
      obtain ⟨w0, w1', wh0, wh1, xa0, xa1, xv0, xv1⟩ := hwf
      have y0 : wr.cell? ⟨b9, o9 + k * 4, none⟩ = _ := (HBk.out.cell hb9).trans x0
      have y1 : wr.cell? ⟨b9, o9 + k * 4 + 1, none⟩ = _ := (HBk.out.cell hb9).trans x1
      have y2 : wr.cell? ⟨b9, o9 + k * 4 + 2, none⟩ = _ := (HBk.out.cell hb9).trans x2
      have y3 : wr.cell? ⟨b9, o9 + k * 4 + 3, none⟩ = _ := (HBk.out.cell hb9).trans x3
      have hbl : b9 < wr.heap.size := Nat.lt_of_lt_of_le hb9 HBk.out.size
      obtain ⟨aa, haa⟩ : ∃ aa, aa = (X k).a := ⟨_, rfl⟩
      obtain ⟨vv, hvv⟩ : ∃ vv, vv = (X k).v := ⟨_, rfl⟩
      obtain ⟨wh, hwh⟩ : ∃ wh, wh = (X k).wher := ⟨_, rfl⟩
      obtain ⟨wt, hwt⟩ : ∃ wt, wt = (X k).what := ⟨_, rfl⟩
      rw [← haa] at x2 y2 xa0 xa1
      rw [← hvv] at x3 y3 xv0 xv1
      rw [← hwh] at x1 y1 wh0 wh1
      rw [← hwt] at x0 y0 w0 w1'
      obtain ⟨m6, hm6, hm6l⟩ : ∃ m6 : Nat, wh % 6 = (m6 : Int) ∧ m6 < 6 := ⟨(wh % 6).toNat, by omega, by omega⟩
      obtain ⟨m4, hm4, hm4l⟩ : ∃ m4 : Nat, wh / 6 % 4 = (m4 : Int) ∧ m4 < 4 := ⟨(wh / 6 % 4).toNat, by omega, by omega⟩
      obtain ⟨Y, hY, hY0, hY1⟩ : ∃ Y : Int, (∀ h, [Value.int .u32 32768, Value.int .u32 536870912, Value.int .u32 805306368, Value.int .u32 1073741824, Value.int .u32 aa, Value.int .u32 536871160][m6]'h = (.int .u32 Y)) ∧ 0 ≤ Y ∧ Y ≤ 4294967295 := by
        have h6 : m6 = 0 ∨ m6 = 1 ∨ m6 = 2 ∨ m6 = 3 ∨ m6 = 4 ∨ m6 = 5 := by omega
        rcases h6 with rfl | rfl | rfl | rfl | rfl | rfl
        all_goals exact ⟨_, fun _ => rfl, by omega, by omega⟩
      obtain ⟨Z, hZ, hZ0, hZ1⟩ : ∃ Z : Int, (∀ h, [Value.int .u32 1, Value.int .u32 2, Value.int .u32 4, Value.int .u32 vv][m4]'h = (.int .u32 Z)) ∧ 0 ≤ Z ∧ Z ≤ 4294967295 := by
        have h6 : m4 = 0 ∨ m4 = 1 ∨ m4 = 2 ∨ m4 = 3 := by omega
        rcases h6 with rfl | rfl | rfl | rfl
        all_goals exact ⟨_, fun _ => rfl, by omega, by omega⟩
      have hm6' : (m6 : Int) < 6 := by omega
      have hm6'' : (0 : Int) ≤ (m6 : Int) := by omega
      have hm4' : (m4 : Int) < 4 := by omega
      have hm4'' : (0 : Int) ≤ (m4 : Int) := by omega
      clear haa hvv hwh hwt x0 x1 x2
      go_wp2_with fail
      go_big_region
      go_wp2_with fail
      obtain ⟨W1, hW1⟩ : ∃ W1, W1 = (wr.alloc (Obj.cells #[Value.int .u32 32768, Value.int .u32 536870912, Value.int .u32 805306368, Value.int .u32 1073741824, Value.int .u32 aa, Value.int .u32 536871160] 34)).drew := ⟨_, rfl⟩
      have hbW : Below wr.heap.size wr W1 := by rw [hW1]; exact ((Below.refl _ _).alloc (Nat.le_refl _) _).drew
      obtain ⟨a0, ha0⟩ : ∃ a0, a0 = (Y + aa % 16) % 4294967296 := ⟨_, rfl⟩
      have ha00 : 0 ≤ a0 := by omega
      have ha01 : a0 ≤ 4294967295 := by omega
      rw [← hW1, ← ha0]
      have z0 : W1.cell? ⟨b9, o9 + k * 4, none⟩ = _ := (hbW.cell hbl).trans y0
      have z1 : W1.cell? ⟨b9, o9 + k * 4 + 1, none⟩ = _ := (hbW.cell hbl).trans y1
      have z3 : W1.cell? ⟨b9, o9 + k * 4 + 3, none⟩ = _ := (hbW.cell hbl).trans y3
      have hbl1 : b9 < W1.heap.size := Nat.lt_of_lt_of_le hbl hbW.size
      have HBW : Hid _ := hbW
      clear hW1 hbW ha0 hY y0 y1 y2 y3 hbl
      go_big_region
      obtain ⟨W2, hW2⟩ : ∃ W2, W2 = (W1.alloc (Obj.cells #[Value.int .u32 1, Value.int .u32 2, Value.int .u32 4, Value.int .u32 vv] 34)).drew := ⟨_, rfl⟩
      have hbW2 : Below wr.heap.size wr W2 := by
        have h1 : Below W1.heap.size W1 W2 := by rw [hW2]; exact ((Below.refl _ _).alloc (Nat.le_refl _) _).drew
        exact HBW.out.trans (h1.mono HBW.out.size)
      have HM2 : Hid _ := MemAt.below HMk.out hbW2
      have HR2 : Hid _ := MemAt.below HRk.out hbW2
      have HB2 : Hid (Below w.heap.size w W2) := HBk.out.trans (hbW2.mono HBk.out.size)
      rw [← hW2]
      have v0 : W2.cell? ⟨b9, o9 + k * 4, none⟩ = some (.int .u8 wt) := by
        have h1 : Below W1.heap.size W1 W2 := by rw [hW2]; exact ((Below.refl _ _).alloc (Nat.le_refl _) _).drew
        exact (h1.cell hbl1).trans z0
      have v3 : W2.cell? ⟨b9, o9 + k * 4 + 3, none⟩ = some (.int .u32 vv) := by
        have h1 : Below W1.heap.size W1 W2 := by rw [hW2]; exact ((Below.refl _ _).alloc (Nat.le_refl _) _).drew
        exact (h1.cell hbl1).trans z3
      clear hW2 hbW2 HMk HRk HBk HBW hZ z0 z1 z3 hbl1 hm6 hm4
      have hw4 : wt % 4 = 0 ∨ wt % 4 = 1 ∨ wt % 4 = 2 ∨ wt % 4 = 3 := by omega
      have HSTO : Hid (∀ w5, Below w.heap.size w w5 → MemAt w5 p 0 lo hi Bs G D q → MemAt w5 p2 lo lo2 hi2 Bs G D q2 → Calls Try.prog 12 #[.pointer (some ⟨p, 0, none⟩), .int .u32 a0, .int .u32 Z, .int .u32 vv] w5 fun e w' =>
          e = .returned (.int .i64 (mayS (regAt Bs) Bs.length a0 Z true)) ∧ MemAt w' p 0 lo hi Bs G (storeS Bs D a0 Z vv) q ∧ MemAt w' p2 lo lo2 hi2 Bs G D q2 ∧ Below w.heap.size w w') := fun w5 hb hm hr =>
        (store_c hm a0 Z vv ha00 ha01 xv0 xv1).mono fun e w' ⟨he, hm', hmid⟩ => ⟨he, hm', hr.mid hmid (Nat.le_refl _) (.inr HLc.out.2.2.1), hmid.low hb HLc.out.1 (by have h1 := hm.pin; have h2 := hm.top; omega)⟩
      have HSTR : Hid (∀ w5, Below w.heap.size w w5 → MemAt w5 p 0 lo hi Bs G (storeS Bs D a0 Z vv) q → MemAt w5 p2 lo lo2 hi2 Bs G D q2 → Calls Try.prog 13 #[.pointer (some ⟨p2, 0, none⟩), .int .u32 a0, .int .u32 Z, .int .u32 vv] w5 fun e w' =>
          e = .returned (.int .i64 (mayS (regAt Bs) Bs.length a0 Z true)) ∧ plyRel w p lo hi p2 lo2 hi2 Bs G q q2 n3 (.int .i64 ((k : Int) + 1)) w' ∧ Below w.heap.size w w') := fun w5 hb hm hr =>
        (rstore_c hr HN.out a0 Z vv ha00 ha01 xv0 xv1).mono fun e w' ⟨he, hm', hmid⟩ => by
          have hl := HLc.out
          have hb' : Below w.heap.size w w' := hmid.low hb (by omega) (by have h1 := hr.pin; have h2 := hr.top; omega)
          exact ⟨he, ⟨k + 1, _, hkn, by push_cast; rfl, hm.mid hmid (Nat.zero_le _) (.inl hl.2.2.1), hm', hb'⟩, hb'⟩
      rcases hw4 with hw4 | hw4 | hw4 | hw4
      · go_wp2_with fail
        go_region_held3 (fun w' => w'.cell? ⟨b9, o9 + k * 4 + 3, none⟩ = some (.int .u32 vv))
          (first
            | go_keep
            | exact (hb6.cell hb9).trans x3
            | exact (hb5.cell hb9).trans x3)
          (first
            | (go_at_call 12; refine (HSTO.out _ HB2.out.drew (MemAt.drew HM2.out) (MemAt.drew HR2.out)).mono ?_; rintro e w5 ⟨rfl, hm5, hr5, hb5⟩)
            | (go_at_call 13; refine (HSTR.out _ hb5 hm5 hr5).mono ?_; rintro e w6 ⟨rfl, hp6, hb6⟩))
        have HP6 : Hid _ := hp6
        clear hp6 hb6 hm5 hr5 hb5 HSTO HSTR HM2 HR2 HB2
        go_wp2
        go_roundw
        case rel => exact HP6.out
        case measure =>
          simp only [intOf]
          omega
      · go_wp2_with fail
        go_region_held3 (fun w' => w'.cell? ⟨b9, o9 + k * 4 + 3, none⟩ = some (.int .u32 vv))
          (first
            | go_keep
            | exact (hb6.cell hb9).trans x3
            | exact (hb5.cell hb9).trans x3)
          (first
            | (go_at_call 12; refine (HSTO.out _ HB2.out.drew (MemAt.drew HM2.out) (MemAt.drew HR2.out)).mono ?_; rintro e w5 ⟨rfl, hm5, hr5, hb5⟩)
            | (go_at_call 13; refine (HSTR.out _ hb5 hm5 hr5).mono ?_; rintro e w6 ⟨rfl, hp6, hb6⟩))
        have HP6 : Hid _ := hp6
        clear hp6 hb6 hm5 hr5 hb5 HSTO HSTR HM2 HR2 HB2
        go_wp2
        go_roundw
        case rel => exact HP6.out
        case measure =>
          simp only [intOf]
          omega
      · clear HSTO HSTR
        go_wp2_with fail
        refine Calls.mono (load_c HM2.out a0 Z ha00 ha01) ?_
        rintro e w5 ⟨rfl, hb5⟩
        have HM5 : Hid _ := MemAt.below HM2.out hb5
        have HR5 : Hid _ := MemAt.below HR2.out hb5
        have HB5 : Hid (Below w.heap.size w w5) := HB2.out.trans (hb5.mono HB2.out.size)
        clear hb5 HM2 HR2 HB2 v0 v3
        go_wp2_with fail
        refine Calls.mono (rload_c HR5.out HN.out a0 Z ha00 ha01) ?_
        rintro e w6 ⟨rfl, hb6⟩
        have HP6 : Hid (plyRel w p lo hi p2 lo2 hi2 Bs G q q2 n3 (.int .i64 ((k : Int) + 1)) w6) := ⟨k + 1, D, hkn, by push_cast; rfl, MemAt.below HM5.out hb6, MemAt.below HR5.out hb6, HB5.out.trans (hb6.mono HB5.out.size)⟩
        clear hb6 HM5 HR5 HB5
        go_wp2
        go_roundw
        case rel => exact HP6.out
        case measure =>
          simp only [intOf]
          omega
      · clear HSTO HSTR
        go_wp2_with fail
        refine Calls.mono (half_c HM2.out a0 ha00 ha01) ?_
        rintro e w5 ⟨rfl, hb5⟩
        have HM5 : Hid _ := MemAt.below HM2.out hb5
        have HR5 : Hid _ := MemAt.below HR2.out hb5
        have HB5 : Hid (Below w.heap.size w w5) := HB2.out.trans (hb5.mono HB2.out.size)
        clear hb5 HM2 HR2 HB2 v0 v3
        go_wp2_with fail
        refine Calls.mono (rhalf_c HR5.out HN.out a0 ha00 ha01) ?_
        rintro e w6 ⟨rfl, hb6⟩
        have HP6 : Hid (plyRel w p lo hi p2 lo2 hi2 Bs G q q2 n3 (.int .i64 ((k : Int) + 1)) w6) := ⟨k + 1, D, hkn, by push_cast; rfl, MemAt.below HM5.out hb6, MemAt.below HR5.out hb6, HB5.out.trans (hb6.mono HB5.out.size)⟩
        clear hb6 HM5 HR5 HB5
        go_wp2
        go_roundw
        case rel => exact HP6.out
        case measure =>
          simp only [intOf]
          omega
    · have kn' : ¬ (k : Int) < n3 := by omega
      clear HX
      go_wp2_with fail
      refine Calls.mono (helpMem_c HMk.out HRk.out HC.out HG.out) ?_
      rintro e w5 ⟨rfl, hb5⟩
      have HB5 : Hid (Below w.heap.size w w5) := HBk.out.trans (hb5.mono HBk.out.size)
      clear hb5
      go_wp2
      go_ret
      exact ⟨rfl, HB5.out⟩
end Go.Proofs.Ytbpjhaaenoaclaa
