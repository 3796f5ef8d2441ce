/- MemCopies, walked. -/
import Derived.Test.YtbpjhaaenoaclaaMem17
import Derived.Test.YtbpjhaaenoaclaaMem16
import Derived.Test.YtbpjhaaenoaclaaMem11
namespace Go.Proofs.Ytbpjhaaenoaclaa
open Go.ChangeShapes Go.WideShapes Go.ChangeAt Go.RowKit
set_option linter.unusedVariables false
set_option linter.unusedSimpArgs false

theorem BL.pre {w : World} {S : Nat → Prop} {A : Option Addr} {n c : Nat} {bs : List Int} (h : BL w S (.slice A n c) bs) (m : Nat) (hm : m ≤ n) : BL w S (.slice A m c) (bs.take m) ∧ (bs.take m).length = m := by
  obtain ⟨h0, A', c', h1, h2, h3⟩ := h
  simp only [Value.slice.injEq] at h1
  obtain ⟨rfl, rfl, rfl⟩ := h1
  have hl : (bs.take m).length = m := by simp; omega
  refine ⟨⟨fun x hx => h0 x (List.mem_of_mem_take hx), A, c, by rw [hl], fun h => ⟨(h2 h).1, by rw [(h2 h).2]; simp⟩, fun j x hx => ?_⟩, hl⟩
  have hj : j < m := by
    have := (List.getElem?_eq_some_iff.1 hx).1
    omega
  rw [List.getElem?_take_of_lt hj] at hx
  exact h3 j x hx

theorem put_same {d : List Int} {f : Nat} {v : Int} (hok : okB d) (hf : f + 4 ≤ d.length) (h : numS ((d.drop f).take 4) = v) : putS d f v 4 = d := by
  have g : ∀ j, j < 4 → ∃ x, d[f + j]? = some x ∧ 0 ≤ x ∧ x ≤ 255 := fun j hj => by
    have hl : f + j < d.length := by omega
    exact ⟨d[f + j], List.getElem?_eq_getElem hl, hok _ (List.getElem_mem hl)⟩
  obtain ⟨x0, e0, a0⟩ := g 0 (by decide)
  obtain ⟨x1, e1, a1⟩ := g 1 (by decide)
  obtain ⟨x2, e2, a2⟩ := g 2 (by decide)
  obtain ⟨x3, e3, a3⟩ := g 3 (by decide)
  have h4 := num4 (by simpa using e0) e1 e2 e3
  rw [h4] at h
  simp only [putS]
  rw [show (256 : Int) ^ 0 = 1 from rfl, show (256 : Int) ^ 1 = 256 from rfl, show (256 : Int) ^ 2 = 65536 from rfl, show (256 : Int) ^ 3 = 16777216 from rfl]
  rw [show v / 1 % 256 = x0 by omega, show v / 256 % 256 = x1 by omega, show v / 65536 % 256 = x2 by omega, show v / 16777216 % 256 = x3 by omega]
  rw [set_same e0, set_same e1, set_same e2, set_same e3]

theorem MemAt.row {w : World} {p l0 lo hi : Nat} {Bs : List Reg} {G D : List (List Int)} {q : Nat → Nat} (h : MemAt w p l0 lo hi Bs G D q) {i : Nat} {r : Reg} (hr : Bs[i]? = some r) : ∃ d, D[i]? = some d ∧ okB d ∧ (d.length : Int) = r.ln := by
  have hi : i < Bs.length := (List.getElem?_eq_some_iff.1 hr).1
  obtain ⟨d, hd⟩ : ∃ d, D[i]? = some d := ⟨D[i]'(by rw [h.len]; exact hi), by simp⟩
  obtain ⟨A, nb, c, n1, n2, n3, n4⟩ := h.now
  obtain ⟨m1, m2, _⟩ := n4 i d r hd hr
  exact ⟨d, hd, m1, m2⟩

theorem store_same {l1 l2 l3 l4 : Nat} (hc : checkS (regAt (seatBs l1 l2 l3 l4)) (seatBs l1 l2 l3 l4).length = 0) {w : World} {p l0 lo hi : Nat} {G D : List (List Int)} {q : Nat → Nat} (h : MemAt w p l0 lo hi (seatBs l1 l2 l3 l4) G D q) {f : Nat} (hf : f ≤ 252) (hf4 : f % 4 = 0) {v : Int}
    (hv : gotS (seatBs l1 l2 l3 l4) D (536870912 + f) 4 = v) : storeS (seatBs l1 l2 l3 l4) D (536870912 + f) 4 v = D := by
  obtain ⟨d, hd, hok, hl⟩ := h.row (i := 1) rfl
  have hl' : (d.length : Int) = 256 := hl
  rw [storeS_ram hc hd (by show (f : Int) + 4 ≤ 256; omega) (by show (f : Int) % 4 = 0; omega)]
  rw [gotS_ram hc hd (by show (f : Int) + 4 ≤ 256; omega) (by show (f : Int) % 4 = 0; omega)] at hv
  have := put_same hok (by omega) hv
  show D.set 1 (putS d f v 4) = D
  rw [this, set_same hd]

def cpRel (w : World) (p lo hi pc lc hc : Nat) (Bs : List Reg) (G D0 : List (List Int)) (q qc : Nat → Nat) (v : Value) (n : Nat) (chv i : Value) (wr : World) : Prop :=
  ∃ (k : Nat) (ch : Bool) (Dc : List (List Int)), k ≤ n ∧ i = .int .i64 k ∧ chv = .bool ch ∧ MemAt wr p 0 lo hi Bs G D0 q ∧ MemAt wr pc 0 lc hc Bs G Dc qc ∧ (ch = false → Dc = D0) ∧ RL wr (fun b => b < lo) v Bs G ∧ Below w.heap.size w wr

set_option maxHeartbeats 16000000 in
set_option maxRecDepth 100000 in
theorem memcopies_c (A1 A2 : Option Addr) (n1 c1 n2 c2 : Nat) (bs : List Int) (X : Nat → ActS) (w : World) (h1 : BL w (fun b => b < w.heap.size) (.slice A1 n1 c1) bs) (h2 : AL w A2 n2 X) (hn1 : (n1 : Int) ≤ 9223372036854775807) (hc1 : n1 ≤ c1) :
    Calls Try.prog 4 #[.slice A1 n1 c1, .slice A2 n2 c2] w fun e w' => e = .returned (.bool true) ∧ Below w.heap.size w w' := by
  have hn2 := h2.1
  have K : Hid _ := known_c w
  by_cases hbig : 300 < n1 ∨ 20 < n2
  · by_cases hb1 : 300 < n1
    · have hb1' : (300 : Int) < n1 := by omega
      clear h1 h2
      go_enter Try.func4, Try.ntmps4
      go_wp2_with fail
      refine Calls.mono K.out ?_
      rintro e w1 ⟨rfl, hb1⟩
      go_wp2
      go_ret
      exact ⟨rfl, hb1⟩
    · have hb1' : ¬ (300 : Int) < n1 := by omega
      have hb2' : (20 : Int) < n2 := by omega
      clear h1 h2
      go_enter Try.func4, Try.ntmps4
      go_wp2_with fail
      refine Calls.mono K.out ?_
      rintro e w1 ⟨rfl, hb1⟩
      go_wp2
      go_ret
      exact ⟨rfl, hb1⟩
  · have hd1 : decide ((300 : Int) < n1) = false := by simp; omega
    have hd2 : decide ((20 : Int) < n2) = false := by simp; omega
    have hn1' : n1 ≤ 300 := by omega
    have hn2' : n2 ≤ 20 := by omega
    have hm : ((n1 : Int) ≤ 256 ∧ n1 = n1) ∨ (¬ (n1 : Int) ≤ 256 ∧ n1 = n1) := by omega
    obtain ⟨m, hmm⟩ : ∃ m : Nat, ((n1 : Int) ≤ 256 ∧ m = n1) ∨ ((256 : Int) < n1 ∧ m = 256) := by
      by_cases h : n1 ≤ 256
      · exact ⟨n1, .inl ⟨by omega, rfl⟩⟩
      · exact ⟨256, .inr ⟨by omega, rfl⟩⟩
    have hm1 : m ≤ n1 := by omega
    have hm2 : m ≤ 256 := by omega
    obtain ⟨hpre, hprel⟩ := h1.pre m hm1
    obtain ⟨b, hb⟩ : ∃ b, b = bs.take m := ⟨_, rfl⟩
    rw [← hb] at hpre hprel
    have HB0 : Hid _ := hpre
    have HX : Hid _ := h2
    have HBL : Hid _ := hprel
    have HC : Hid (checkS (regAt (seatBs 0 b.length 0 0)) (seatBs 0 b.length 0 0).length = 0) := seat_check (by decide) (by omega) (by decide) (by decide)
    have HG : Hid (∀ g ∈ [[], b, [], []], g.length ≤ 65536) := by
      intro g hg
      simp only [List.mem_cons, List.not_mem_nil, or_false] at hg
      rcases hg with rfl | rfl | rfl | rfl
      · decide
      · omega
      · decide
      · decide
    clear h1 h2 hpre hb hbig hprel hm
    have S0 : Hid (∀ w1, Below w.heap.size w w1 → Calls Try.prog 9 #[.slice none 0 0, .slice A1 m c1, .slice none 0 0, .slice none 0 0] w1 fun e w' => SeatPost w1 [] b [] [] e w') := fun w1 hw => by
      exact seat_c _ _ _ _ [] b [] [] w1 (bl_nil _ _) ((BL.below HB0.out hw).mono fun b h => Nat.lt_of_lt_of_le h hw.size) (bl_nil _ _) (bl_nil _ _) (by decide) (by rw [HBL.out]; omega) (by decide) (by decide)
    obtain ⟨Bs, hBs⟩ : ∃ Bs, Bs = seatBs 0 b.length 0 0 := ⟨_, rfl⟩
    obtain ⟨G, hGe⟩ : ∃ G, G = [[], b, [], []] := ⟨_, rfl⟩
    have HBs : Hid (Bs = seatBs 0 b.length 0 0 ∧ G = [[], b, [], []]) := ⟨hBs, hGe⟩
    rw [← hBs] at HC
    rw [← hGe] at HG
    clear hBs hGe HBL hm1 hm2
    rcases hmm with ⟨hle, rfl⟩ | ⟨hgt, rfl⟩
    all_goals
      go_enter Try.func4, Try.ntmps4
      go_wp2_with fail
      refine Calls.mono K.out ?_
      rintro e w1 ⟨rfl, hb1⟩
      have HB1 : Hid _ := hb1
      clear hb1 K
      go_wp2_with fail
      refine (S0.out _ HB1.out).mono ?_
      rintro e w2 ⟨rfl, hrl, hb2⟩
      have HR2 : Hid (RL w2 (fun b => b < w2.heap.size) (.slice (some ⟨w1.heap.size, 0, none⟩) 4 4) Bs G) := by rw [HBs.out.1, HBs.out.2]; exact hrl
      have HB2 : Hid (Below w.heap.size w w2) := HB1.out.trans (hb2.mono HB1.out.size)
      clear hrl hb2 HB1 S0
      go_wp2_with fail
      refine (new_ok _ Bs G _ w2 HR2.out (fun b h => h) HC.out HG.out).mono ?_
      rintro e w3 ⟨p, q, rfl, hm3, hb3⟩
      have HM3 : Hid _ := hm3
      have HR3 : Hid _ := RL.below HR2.out hb3
      have HB3 : Hid (Below w.heap.size w w3) := HB2.out.trans (hb3.mono HB2.out.size)
      obtain ⟨lo, hlo⟩ : ∃ lo, lo = w2.heap.size := ⟨_, rfl⟩
      obtain ⟨hi, hhi⟩ : ∃ hi, hi = w3.heap.size := ⟨_, rfl⟩
      have HL : Hid (w.heap.size ≤ lo ∧ lo ≤ hi ∧ hi ≤ w3.heap.size) := by
        rw [hlo, hhi]
        exact ⟨HB2.out.size, hb3.size, Nat.le_refl _⟩
      rw [← hlo, ← hhi] at HM3
      rw [← hlo] at HR3
      clear hm3 hb3 HB2 HR2 hlo hhi
      go_wp2_with fail
      refine (copy_c HM3.out HC.out HG.out).mono ?_
      rintro e w4 ⟨pc, qc, rfl, hc4, hb4⟩
      have HM4 : Hid _ := MemAt.below HM3.out hb4
      have HC4 : Hid _ := hc4
      have HR4 : Hid _ := RL.below HR3.out hb4
      have HB4 : Hid (Below w.heap.size w w4) := HB3.out.trans (hb4.mono HB3.out.size)
      obtain ⟨lc, hlc⟩ : ∃ lc, lc = w3.heap.size := ⟨_, rfl⟩
      obtain ⟨hic, hhc⟩ : ∃ hic, hic = w4.heap.size := ⟨_, rfl⟩
      have HLc : Hid (w.heap.size ≤ lo ∧ lo ≤ hi ∧ hi ≤ lc ∧ lc ≤ hic) := by
        have := HL.out
        rw [hlc, hhc]
        exact ⟨this.1, this.2.1, this.2.2, hb4.size⟩
      rw [← hlc, ← hhc] at HC4
      clear hc4 hb4 HB3 HR3 HM3 hlc hhc HL
      go_wp2_with fail
      go_loopw [9, 10] (fun chv i wr => cpRel w p lo hi pc lc hic Bs G (initD Bs G) q qc (.slice (some ⟨w1.heap.size, 0, none⟩) 4 4) n2 chv i wr) (fun _ i _ => n2 - (intOf i).toNat)
      case atStart => exact ⟨0, false, initD Bs G, Nat.zero_le _, rfl, rfl, HM4.out, HC4.out, fun _ => rfl, HR4.out, HB4.out⟩
      case round =>
        obtain ⟨k, ch, Dc, hk, rfl, rfl, hM, hMc, hch, hR, hB⟩ := hrel
        have HM : Hid _ := hM
        have HMc : Hid _ := hMc
        have HCH : Hid _ := hch
        have HR : Hid _ := hR
        have HB : Hid _ := hB
        clear hM hMc hch hR hB HM4 HC4 HR4 HB4
        by_cases hkn : k < n2
        · have hkn' : (k : Int) < n2 := by omega
          obtain ⟨hwf, b2, o2, rfl, hb2l, x0, x1, x2, x3⟩ := HX.out.2 k hkn
          obtain ⟨_, _, _, _, xa0, xa1, xv0, xv1⟩ := hwf
          have y2 : wr.cell? ⟨b2, o2 + k * 4 + 2, none⟩ = _ := (HB.out.cell hb2l).trans x2
          obtain ⟨f, hf, hf4, hf252⟩ : ∃ f : Nat, (X k).a % 64 * 4 = (f : Int) ∧ f % 4 = 0 ∧ f ≤ 252 := ⟨((X k).a % 64 * 4).toNat, by omega, by omega, by omega⟩
          obtain ⟨V, hV⟩ : ∃ V, V = (X k).v := ⟨_, rfl⟩
          obtain ⟨AA, hAA⟩ : ∃ AA, AA = (X k).a := ⟨_, rfl⟩
          rw [← hV] at x3 xv0 xv1
          rw [← hAA] at y2 hf xa0 xa1
          clear hV hAA x0 x1 x2
          go_wp2_with fail
          refine Calls.mono (load_c HMc.out (536870912 + f) 4 (by omega) (by omega)) ?_
          rintro e w5 ⟨rfl, hb5⟩
          have HM5 : Hid _ := MemAt.below HM.out hb5
          have HMc5 : Hid _ := MemAt.below HMc.out hb5
          have HR5 : Hid _ := RL.below HR.out hb5
          have HB5 : Hid (Below w.heap.size w w5) := HB.out.trans (hb5.mono HB.out.size)
          clear hb5 HM HMc HR HB
          go_wp2_with fail
          refine Calls.mono (load_c HM5.out (536870912 + f) 4 (by omega) (by omega)) ?_
          rintro e w6 ⟨rfl, hb6⟩
          have HM6 : Hid _ := MemAt.below HM5.out hb6
          have HMc6 : Hid _ := MemAt.below HMc5.out hb6
          have HR6 : Hid _ := RL.below HR5.out hb6
          have HB6 : Hid (Below w.heap.size w w6) := HB5.out.trans (hb6.mono HB5.out.size)
          have y3 : w6.cell? ⟨b2, o2 + k * 4 + 3, none⟩ = _ := (HB6.out.cell hb2l).trans x3
          clear hb6 HM5 HMc5 HR5 HB5 y2
          go_wp2_with fail
          refine Calls.mono (store_c HMc6.out (536870912 + f) 4 V (by omega) (by omega) xv0 xv1) ?_
          rintro e w7 ⟨rfl, hm7, hmid7⟩
          have HM7 : Hid _ := MemAt.mid HM6.out hmid7 (Nat.zero_le _) (.inl HLc.out.2.2.1)
          have HMc7 : Hid _ := hm7
          have hlw : lc ≤ w6.heap.size := by
            have h1 := (MemAt.pin HMc6.out)
            have h2 := (MemAt.top HMc6.out)
            omega
          have HR7 : Hid (RL w7 (fun b => b < lo) (.slice (some ⟨w1.heap.size, 0, none⟩) 4 4) Bs G) := RL.kept HR6.out fun b hb hb' => hmid7.block b hb' (.inl (by have := HLc.out; omega))
          have HB7 : Hid (Below w.heap.size w w7) := hmid7.low HB6.out (by have := HLc.out; omega) hlw
          clear hm7 hmid7 HMc6 HM6 HR6 HB6 y3 hlw
          go_wp2_with fail
          refine Calls.mono (load_c HM7.out (536870912 + f) 4 (by omega) (by omega)) ?_
          rintro e w8 ⟨rfl, hb8⟩
          have HM8 : Hid _ := MemAt.below HM7.out hb8
          have HMc8 : Hid _ := MemAt.below HMc7.out hb8
          have HR8 : Hid _ := RL.below HR7.out hb8
          have HB8 : Hid (Below w.heap.size w w8) := HB7.out.trans (hb8.mono HB7.out.size)
          have y3 : w8.cell? ⟨b2, o2 + k * 4 + 3, none⟩ = _ := (HB8.out.cell hb2l).trans x3
          clear hb8 HM7 HMc7 HR7 HB7
          have HS : Hid (ch = false → gotS Bs Dc (536870912 + f) 4 = V → storeS Bs Dc (536870912 + f) 4 V = initD Bs G) := by
            intro h1 h2
            have hD := HCH.out h1
            have hM := HM8.out
            have hC := HC.out
            rw [hD] at h2 ⊢
            rw [HBs.out.1] at h2 hM hC ⊢
            exact store_same hC hM hf252 hf4 h2
          cases ch with
          | true =>
            have HZ : Hid (cpRel w p lo hi pc lc hic Bs G (initD Bs G) q qc (.slice (some ⟨w1.heap.size, 0, none⟩) 4 4) n2 (.bool true) (.int .i64 ((k : Int) + 1)) w8) := ⟨k + 1, true, _, hkn, by push_cast; rfl, rfl, HM8.out, HMc8.out, fun h => (by cases h), HR8.out, HB8.out⟩
            clear HM8 HMc8 HR8 HB8 HS HCH
            go_wp2
            go_roundw
            case rel => exact HZ.out
            case measure =>
              simp only [intOf]
              omega
          | false =>
            by_cases hgv : gotS Bs Dc (536870912 + f) 4 = V
            · have HZ : Hid (cpRel w p lo hi pc lc hic Bs G (initD Bs G) q qc (.slice (some ⟨w1.heap.size, 0, none⟩) 4 4) n2 (.bool false) (.int .i64 ((k : Int) + 1)) w8) := ⟨k + 1, false, _, hkn, by push_cast; rfl, rfl, HM8.out, HMc8.out, fun _ => HS.out rfl hgv, HR8.out, HB8.out⟩
              clear HM8 HMc8 HR8 HB8 HS HCH
              go_wp2
              go_roundw
              case rel => exact HZ.out
              case measure =>
                simp only [intOf]
                omega
            · have hgv' : (gotS Bs Dc (536870912 + f) 4 == V) = false := by simpa using hgv
              have hgv2 : (gotS Bs Dc (536870912 + f) 4 != V) = true := by simpa using hgv
              have HZ : Hid (cpRel w p lo hi pc lc hic Bs G (initD Bs G) q qc (.slice (some ⟨w1.heap.size, 0, none⟩) 4 4) n2 (.bool true) (.int .i64 ((k : Int) + 1)) w8) := ⟨k + 1, true, _, hkn, by push_cast; rfl, rfl, HM8.out, HMc8.out, fun h => (by cases h), HR8.out, HB8.out⟩
              clear HM8 HMc8 HR8 HB8 HS HCH hgv
              go_wp2
              go_roundw
              case rel => exact HZ.out
              case measure =>
                simp only [intOf]
                omega
        · have kn' : ¬ (k : Int) < n2 := by omega
          clear HX HB0
          go_wp2_with fail
          refine Calls.mono (rnew_ok _ Bs G lo wr HR.out (by have h1 := (MemAt.pin HM.out); have h2 := (MemAt.top HM.out); omega) HC.out) ?_
          rintro e w5 ⟨p5, q5, rfl, hm5, hb5⟩
          have HM5 : Hid _ := MemAt.below HM.out hb5
          have HMc5 : Hid _ := MemAt.below HMc.out hb5
          have HR5 : Hid _ := hm5
          have HB5 : Hid (Below w.heap.size w w5) := HB.out.trans (hb5.mono HB.out.size)
          clear hm5 hb5 HM HMc HR HB
          go_wp2_with fail
          refine Calls.mono (copy_c HM5.out HC.out HG.out) ?_
          rintro e w6 ⟨p6, q6, rfl, hm6, hb6⟩
          have HM6 : Hid _ := MemAt.below HM5.out hb6
          have HMc6 : Hid _ := MemAt.below HMc5.out hb6
          have HR6 : Hid _ := MemAt.below HR5.out hb6
          have HD6 : Hid _ := hm6
          have HB6 : Hid (Below w.heap.size w w6) := HB5.out.trans (hb6.mono HB5.out.size)
          clear hm6 hb6 HM5 HMc5 HR5 HB5
          go_wp2_with fail
          refine Calls.mono (helpMem_c HM6.out HR6.out HC.out HG.out) ?_
          rintro e w7 ⟨rfl, hb7⟩
          have HM7 : Hid _ := MemAt.below HM6.out hb7
          have HMc7 : Hid _ := MemAt.below HMc6.out hb7
          have HD7 : Hid _ := MemAt.below HD6.out hb7
          have HB7 : Hid (Below w.heap.size w w7) := HB6.out.trans (hb7.mono HB6.out.size)
          have HN : Hid (Bs.length ≤ 10) := by rw [HBs.out.1]; show 4 ≤ 10; decide
          clear hb7 HM6 HMc6 HR6 HD6 HB6
          cases ch with
          | true =>
            clear HMc7 HCH
            go_wp2_with fail
            refine Calls.mono (same_c HD7.out HM7.out HN.out) ?_
            rintro e w8 ⟨rfl, hb8⟩
            have HM8 : Hid _ := MemAt.below HM7.out hb8
            have HD8 : Hid _ := MemAt.below HD7.out hb8
            have HB8 : Hid (Below w.heap.size w w8) := HB7.out.trans (hb8.mono HB7.out.size)
            clear hb8 HM7 HD7 HB7
            go_wp2_with fail
            refine Calls.mono (same_c HM8.out HD8.out HN.out) ?_
            rintro e w9 ⟨rfl, hb9⟩
            have HB9 : Hid (Below w.heap.size w w9) := HB8.out.trans (hb9.mono HB8.out.size)
            clear hb9 HM8 HD8 HB8
            go_wp2
            go_ret
            exact ⟨rfl, HB9.out⟩
          | false =>
            have HMx : Hid (MemAt w7 pc 0 lc hic Bs G (initD Bs G) qc) := by
              have h := HMc7.out
              rw [HCH.out rfl] at h
              exact h
            clear HMc7 HCH
            go_wp2_with fail
            refine Calls.mono (same_c HMx.out HM7.out HN.out) ?_
            rintro e wx ⟨rfl, hbx⟩
            have HMx : Hid _ := MemAt.below HM7.out hbx
            have HDx : Hid _ := MemAt.below HD7.out hbx
            have HBx : Hid (Below w.heap.size w wx) := HB7.out.trans (hbx.mono HB7.out.size)
            clear hbx HM7 HD7 HB7
            go_wp2_with fail
            refine Calls.mono (same_c HDx.out HMx.out HN.out) ?_
            rintro e w8 ⟨rfl, hb8⟩
            have HM8 : Hid _ := MemAt.below HMx.out hb8
            have HD8 : Hid _ := MemAt.below HDx.out hb8
            have HB8 : Hid (Below w.heap.size w w8) := HBx.out.trans (hb8.mono HBx.out.size)
            clear hb8 HMx HDx HBx
            go_wp2_with fail
            refine Calls.mono (same_c HM8.out HD8.out HN.out) ?_
            rintro e w9 ⟨rfl, hb9⟩
            have HB9 : Hid (Below w.heap.size w w9) := HB8.out.trans (hb9.mono HB8.out.size)
            clear hb9 HM8 HD8 HB8
            go_wp2
            go_ret
            exact ⟨rfl, HB9.out⟩
end Go.Proofs.Ytbpjhaaenoaclaa
