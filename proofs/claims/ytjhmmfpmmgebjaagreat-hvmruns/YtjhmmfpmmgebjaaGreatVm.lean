/- The document's Load and Half, walked. -/
import Derived.Test.YtjhmmfpmmgebjaaGreatVk
import Derived.Test.YtjhmmfpmmgebjaaGreatVd
import Derived.BigRegion
namespace Go.Proofs.YtjhmmfpmmgebjaaGreat
open Go.ChangeShapes Go.WideShapes Go.ChangeAt Go.RowKit
set_option linter.unusedVariables false
set_option linter.unusedSimpArgs false

theorem MemAt.rmay {w : World} {p l0 lo hi : Nat} {Bs : List Reg} {G D : List (List Int)} {q : Nat → Nat} (h : MemAt w p l0 lo hi Bs G D q) (hn : Bs.length ≤ 10) {a : Int} (s : Int) (ha : 0 ≤ a) (ha' : a ≤ 4294967295) (wri : Bool) :
    ∃ A c, w.cell? ⟨p, 0, none⟩ = some (.slice A Bs.length c) ∧ Hid (∀ w1, Below w.heap.size w w1 → Calls Tryz.prog 77 #[.slice A Bs.length c, .int .u32 a, .int .u32 s, .bool wri] w1 fun e w' => e = .returned (.int .i64 (mayS (regAt Bs) Bs.length a s wri)) ∧ Below w1.heap.size w1 w') ∧
      Hid (∀ (s : Int) w1, Below w.heap.size w w1 → Calls Tryz.prog 78 #[.slice A Bs.length c, .int .u32 a, .int .u32 s] w1 fun e w' => e = .returned (.tuple #[.int .i64 ((findS (regAt Bs) Bs.length a s).getD 0 : Nat), .bool (findS (regAt Bs) Bs.length a s).isSome]) ∧ Below w1.heap.size w1 w') ∧
      (∀ i, i < Bs.length → ∃ b o, A = some ⟨b, o, none⟩ ∧ w.cell? ⟨b, o + i * 7, none⟩ = some (.int .u32 (regAt Bs i).fr) ∧ 0 ≤ (regAt Bs i).fr ∧ (regAt Bs i).fr ≤ 4294967295) := by
  obtain ⟨v, hv, hR⟩ := h.given
  have hR2 := hR
  obtain ⟨rs, hbs, hgl, A0, c0, rfl, hA0, _, hL, _⟩ := hR2
  have hlen : rs.length = Bs.length := by rw [← hbs, List.length_map]
  have hlies : ∀ w1, Below w.heap.size w w1 → Lies w1 A0 rs.length (regAt rs) := fun w1 hb => hL.below hb (Nat.le_refl _)
  rw [hlen] at hv
  refine ⟨A0, c0, hv, fun w1 hb => ?_, fun s w1 hb => ?_, fun i hi => ?_⟩
  · have F := rmay_c A0 rs.length c0 (regAt rs) a s ha ha' wri w1 (by omega) (hlies w1 hb)
    rw [← mayS_bare (regAt rs), ← regAt_bare, hbs, hlen] at F
    exact F
  · have F := rfind_c A0 rs.length c0 (regAt rs) a s ha ha' w1 (by omega) (hlies w1 hb)
    rw [← findS_bare (regAt rs), ← regAt_bare, hbs, hlen] at F
    exact F
  · obtain ⟨hwf, b, o, rfl, h7⟩ := hL.2 i (by omega)
    have hfe : (regAt Bs i).fr = (regAt rs i).fr := by rw [← hbs, regAt_bare]; rfl
    rw [hfe]
    exact ⟨b, o, rfl, h7.1, hwf.1, hwf.2.1⟩

def rldRel (w : World) (bs : List Int) (v i : Value) (wr : World) : Prop := ∃ k : Nat, k ≤ bs.length ∧ v = .int .u32 (numS (bs.take k)) ∧ i = .int .u32 k ∧ Below w.heap.size w wr

set_option maxHeartbeats 8000000 in
set_option maxRecDepth 100000 in
theorem rload_c {w : World} {p l0 lo hi : Nat} {Bs : List Reg} {G D : List (List Int)} {q : Nat → Nat} (h : MemAt w p l0 lo hi Bs G D q) (hn : Bs.length ≤ 10) (a s : Int) (ha : 0 ≤ a) (ha' : a ≤ 4294967295) :
    Calls Tryz.prog 29 #[.pointer (some ⟨p, 0, none⟩), .int .u32 a, .int .u32 s] w fun e w' => e = .returned (.tuple #[.int .u32 (gotS Bs D a s), .int .i64 (mayS (regAt Bs) Bs.length a s false)]) ∧ Below w.heap.size w w' := by
  obtain ⟨A, c, hc, C, CF, hreg⟩ := h.rmay hn s ha ha' false
  by_cases hm : mayS (regAt Bs) Bs.length a s false = 0
  · obtain ⟨i, hf⟩ := may_find hm
    have hg : gotS Bs D a s = loadS Bs D a s := by simp [gotS, hm]
    rw [hg, hm]
    have C0 : Hid _ := C.out w (Below.refl _ _)
    rw [hm] at C0
    obtain ⟨f, d, nb, cn, cap, hh⟩ := h.hit hf
    rw [hh.load hf]
    have CF2 : Hid (∀ w1, Below w.heap.size w w1 → Calls Tryz.prog 78 #[.slice A Bs.length c, .int .u32 a, .int .u32 s] w1 fun e w' => e = .returned (.tuple #[.int .i64 (i : Nat), .bool true]) ∧ Below w1.heap.size w1 w') := fun w1 hb => by
      have := CF.out s w1 hb
      rw [hf] at this
      exact this
    obtain ⟨b, o, rfl, hfr, hfr0, hfr1⟩ := hreg i hh.ilt
    obtain ⟨bs, hbs⟩ : ∃ bs, bs = (d.drop f).take (widthS s).toNat := ⟨_, rfl⟩
    have hw3 := widthS_cases s
    have hbl : bs.length = (widthS s).toNat := by
      have := hh.fit
      rw [hbs]
      simp only [List.length_take, List.length_drop]
      omega
    have HBY : Hid (∀ k x, bs[k]? = some x → 0 ≤ x ∧ x ≤ 255 ∧ f + k < d.length ∧ ∀ w1, Below w.heap.size w w1 → w1.cell? ⟨q i, f + k, none⟩ = some (.int .u8 x)) := fun k x hx => by
      have hj : k < (widthS s).toNat := by
        have := (List.getElem?_eq_some_iff.1 hx).1
        omega
      rw [hbs, List.getElem?_take_of_lt hj, List.getElem?_drop] at hx
      have hlt := (List.getElem?_eq_some_iff.1 hx).1
      have hcl := hh.own.cellAt (f + k) (by omega)
      rw [cb_at, hx] at hcl
      have hr := hh.okd x (List.mem_of_getElem? hx)
      exact ⟨hr.1, hr.2, hlt, fun w1 hb => (hb.cell (p := ⟨q i, f + k, none⟩) (World.block_lt_of_cell? w _ hcl)).trans hcl⟩
    have HOKB : Hid (okB bs) := fun x hx => by
      rw [hbs] at hx
      exact hh.okd x (List.mem_of_mem_drop (List.mem_of_mem_take hx))
    rw [← hbs]
    obtain ⟨FR, hFR⟩ : ∃ FR, FR = (regAt Bs i).fr := ⟨_, rfl⟩
    have haeq := hh.aeq
    have hn1 := hh.nowc
    have hn2 := hh.rowc
    have hdl := hh.small
    have hil := hh.ilt
    rw [← hFR] at hfr hfr0 hfr1 haeq
    have HP : Hid (p < w.heap.size ∧ nb < w.heap.size ∧ b < w.heap.size) := ⟨World.block_lt_of_cell? w _ hc, World.block_lt_of_cell? w _ hn2, World.block_lt_of_cell? w _ hfr⟩
    have W : Hid _ := fun (w : World) => size_c s w
    have Hbl : Hid _ := hbl
    clear h hf hg hh hm C CF hbs hFR hreg hbl
    subst haeq
    go_enter Tryz.func29, Tryz.ntmps29
    go_wp2_with fail
    refine Calls.mono C0.out ?_
    rintro e w1 ⟨rfl, hw1⟩
    have HB1 : Hid _ := hw1
    have e1 : w1.cell? ⟨p, 0, none⟩ = _ := (hw1.cell HP.out.1).trans hc
    clear hw1 C0
    go_wp2_with fail
    refine (CF2.out _ HB1.out).mono ?_
    rintro e w2 ⟨rfl, hw2⟩
    have HB2 : Hid (Below w.heap.size w w2) := HB1.out.trans (hw2.mono HB1.out.size)
    clear hw2 CF2 e1 HB1
    go_wp2_with fail
    go_loopw [11, 12] (fun v i wr => rldRel w bs v i wr) (fun _ i _ => bs.length - (intOf i).toNat)
    case atStart => exact ⟨0, Nat.zero_le _, by simp [numS], rfl, HB2.out⟩
    case round =>
      obtain ⟨k, hk, rfl, rfl, hb⟩ := hrel
      have HB : Hid _ := hb
      clear hb HB2
      go_wp2_with fail
      refine (W.out _).mono ?_
      rintro e w3 ⟨rfl, hw3'⟩
      replace hw3' := hw3'.symm
      subst hw3'
      by_cases hkn : k < bs.length
      · have hkw : (k : Int) < widthS s := by have := Hbl.out; omega
        obtain ⟨x, hx⟩ : ∃ x, bs[k]? = some x := ⟨bs[k], by simp [hkn]⟩
        obtain ⟨x0, x1, hfk, hcell⟩ := HBY.out k x hx
        have g0 : wr.cell? ⟨p, 0, none⟩ = _ := (HB.out.cell HP.out.1).trans hc
        have g1 : wr.cell? ⟨p, 1, none⟩ = _ := (HB.out.cell HP.out.1).trans hn1
        have g2 : wr.cell? ⟨nb, i, none⟩ = _ := (HB.out.cell HP.out.2.1).trans hn2
        have g3 : wr.cell? ⟨b, o + i * 7, none⟩ = _ := (HB.out.cell HP.out.2.2).trans hfr
        have g4 : wr.cell? ⟨q i, f + k, none⟩ = _ := hcell wr HB.out
        have hi0 : (0 : Int) ≤ (i : Int) := by omega
        have hi1 : (i : Int) < (Bs.length : Int) := by omega
        have s1 : FR + (f : Int) - FR = f := by omega
        have hkl : (bs.take k).length = k := by simp; omega
        have hnx : numS (bs.take (k + 1)) = numS (bs.take k) + x * 256 ^ k := by rw [take_snoc hx, numS_snoc, hkl]
        have hbd := numS_bounds (l := bs.take k) (fun x hx => HOKB.out x (List.mem_of_mem_take hx))
        rw [hkl] at hbd
        have HNX : Hid _ := hnx
        obtain ⟨b0, b1⟩ := hbd
        obtain ⟨V, hV⟩ : ∃ V, V = numS (bs.take k) := ⟨_, rfl⟩
        rw [← hV] at b0 b1
        have HV : Hid _ := hV
        rw [← hV]
        have Hfk : Hid (f + k < d.length ∧ k < bs.length) := ⟨hfk, hkn⟩
        clear hnx hV hkl hcell hx hfk
        have h4 : k = 0 ∨ k = 1 ∨ k = 2 ∨ k = 3 := by omega
        rcases h4 with rfl | rfl | rfl | rfl
        · have e0 : (256 : Int) ^ 0 = 1 := by decide
          rw [e0] at b1
          have HG : Hid (numS (bs.take (0 + 1)) = bits .or .u32 V x) := by
            show _ = _
            rw [HNX.out, ← HV.out, e0, or_low 0 V x b0 (by simpa using b1) (by omega) (by omega) (by omega) (by omega)]
            try simp
          simp only [Nat.add_zero] at g4
          have s4 : (f : Int) < d.length := by have := Hfk.out; omega
          have s5 : (0 : Int) ≤ (f : Int) := by omega
          clear e0 b1
          go_wp2_with fail
          go_big_quiet (fail)
          go_wp2
          refine ⟨⟨0 + 1, Hfk.out.2, by rw [HG.out], rfl, below_drewN nq HB.out⟩, ?_⟩
          simp [intOf]
          omega
        · have e1 : (256 : Int) ^ 1 = 256 := by decide
          rw [e1] at b1
          have HG : Hid (numS (bs.take (1 + 1)) = bits .or .u32 V (x * 256)) := by
            show _ = _
            rw [HNX.out, ← HV.out, e1, or_low 8 V (x * 256) b0 (by simpa using b1) (by omega) (by omega) (by omega) (by omega)]
            try simp
          obtain ⟨fk, hfk⟩ : ∃ fk : Nat, fk = f + 1 := ⟨_, rfl⟩
          have s2 : (f : Int) + 1 = fk := by omega
          have s3 : (0 : Int) ≤ fk := by omega
          have s4 : (fk : Int) < d.length := by have := Hfk.out; omega
          rw [← hfk] at g4
          clear hfk
          clear e1 b1
          go_wp2_with fail
          go_big_quiet (fail)
          go_wp2
          refine ⟨⟨1 + 1, Hfk.out.2, by rw [HG.out], rfl, below_drewN nq HB.out⟩, ?_⟩
          simp [intOf]
          omega
        · have e2 : (256 : Int) ^ 2 = 65536 := by decide
          rw [e2] at b1
          have HG : Hid (numS (bs.take (2 + 1)) = bits .or .u32 V (x * 65536)) := by
            show _ = _
            rw [HNX.out, ← HV.out, e2, or_low 16 V (x * 65536) b0 (by simpa using b1) (by omega) (by omega) (by omega) (by omega)]
            try simp
          obtain ⟨fk, hfk⟩ : ∃ fk : Nat, fk = f + 2 := ⟨_, rfl⟩
          have s2 : (f : Int) + 2 = fk := by omega
          have s3 : (0 : Int) ≤ fk := by omega
          have s4 : (fk : Int) < d.length := by have := Hfk.out; omega
          rw [← hfk] at g4
          clear hfk
          clear e2 b1
          go_wp2_with fail
          go_big_quiet (fail)
          go_wp2
          refine ⟨⟨2 + 1, Hfk.out.2, by rw [HG.out], rfl, below_drewN nq HB.out⟩, ?_⟩
          simp [intOf]
          omega
        · have e3 : (256 : Int) ^ 3 = 16777216 := by decide
          rw [e3] at b1
          have HG : Hid (numS (bs.take (3 + 1)) = bits .or .u32 V (x * 16777216)) := by
            show _ = _
            rw [HNX.out, ← HV.out, e3, or_low 24 V (x * 16777216) b0 (by simpa using b1) (by omega) (by omega) (by omega) (by omega)]
            try simp
          obtain ⟨fk, hfk⟩ : ∃ fk : Nat, fk = f + 3 := ⟨_, rfl⟩
          have s2 : (f : Int) + 3 = fk := by omega
          have s3 : (0 : Int) ≤ fk := by omega
          have s4 : (fk : Int) < d.length := by have := Hfk.out; omega
          rw [← hfk] at g4
          clear hfk
          clear e3 b1
          go_wp2_with fail
          go_big_quiet (fail)
          go_wp2
          refine ⟨⟨3 + 1, Hfk.out.2, by rw [HG.out], rfl, below_drewN nq HB.out⟩, ?_⟩
          simp [intOf]
          omega
      · have kn : k = bs.length := by omega
        have kn' : ¬ (k : Int) < widthS s := by have := Hbl.out; omega
        have HT : Hid (numS (bs.take k) = numS bs) := by show _ = _; rw [kn, List.take_length]
        clear kn
        go_wp2
        go_ret2
        exact ⟨by rw [HT.out]; rfl, HB.out⟩
  · have hg : gotS Bs D a s = 0 := by simp [gotS, hm]
    rw [hg]
    have hm' : (mayS (regAt Bs) Bs.length a s false == 0) = false := by simpa using hm
    have C0 : Hid _ := C.out w (Below.refl _ _)
    clear h hg C CF hreg
    go_enter Tryz.func29, Tryz.ntmps29
    go_wp2_with fail
    refine Calls.mono C0.out ?_
    rintro e w1 ⟨rfl, hw1⟩
    go_wp2
    go_ret2
    exact ⟨rfl, hw1⟩
end Go.Proofs.YtjhmmfpmmgebjaaGreat
namespace Go.Proofs.YtjhmmfpmmgebjaaGreat
open Go.ChangeShapes Go.WideShapes Go.ChangeAt Go.RowKit
set_option linter.unusedVariables false
set_option linter.unusedSimpArgs false

def rstRel (w1 : World) (p l0 lo hi : Nat) (Bs : List Reg) (G D : List (List Int)) (q : Nat → Nat) (i f S : Nat) (d : List Int) (v : Int) (iv : Value) (wr : World) : Prop :=
  ∃ k : Nat, k ≤ S ∧ iv = .int .u32 k ∧ MemAt wr p l0 lo hi Bs G (D.set i (putS d f v k)) q ∧ Mid lo hi w1 wr

theorem MemAt.drew {w : World} {p l0 lo hi : Nat} {Bs : List Reg} {G D : List (List Int)} {q : Nat → Nat} (h : MemAt w p l0 lo hi Bs G D q) : MemAt w.drew p l0 lo hi Bs G D q := h.kept (fun b _ _ => rfl) (Nat.le_refl _)
theorem Mid.drew {lo hi : Nat} {a w : World} (h : Mid lo hi a w) : Mid lo hi a w.drew := ⟨h.os, h.tape, h.output, h.size, h.block⟩

set_option maxHeartbeats 8000000 in
set_option maxRecDepth 100000 in
theorem rstore_c {w : World} {p l0 lo hi : Nat} {Bs : List Reg} {G D : List (List Int)} {q : Nat → Nat} (h : MemAt w p l0 lo hi Bs G D q) (hn : Bs.length ≤ 10) (a s v : Int) (ha : 0 ≤ a) (ha' : a ≤ 4294967295) (hv0 : 0 ≤ v) (hv1 : v ≤ 4294967295) :
    Calls Tryz.prog 31 #[.pointer (some ⟨p, 0, none⟩), .int .u32 a, .int .u32 s, .int .u32 v] w fun e w' => StPost w p l0 lo hi Bs G (storeS Bs D a s v) q (mayS (regAt Bs) Bs.length a s true) e w' := by
  obtain ⟨A, c, hc, C, CF, hreg⟩ := h.rmay hn s ha ha' true
  by_cases hm : mayS (regAt Bs) Bs.length a s true = 0
  · obtain ⟨i, hf⟩ := may_find hm
    have C0 : Hid _ := C.out w (Below.refl _ _)
    rw [hm] at C0
    obtain ⟨f, d, nb, cn, cap, hh⟩ := h.hit hf
    have hg : storeS Bs D a s v = D.set i (putS d f v (widthS s).toNat) := by
      have h4 := hh.aeq
      have e1 : D.getD i [] = d := by simp [List.getD, hh.row]
      simp only [storeS, hm, hf, if_true, e1]
      rw [show (a - (regAt Bs i).fr).toNat = f by omega]
    rw [hg, hm]
    have CF2 : Hid (∀ w1, Below w.heap.size w w1 → Calls Tryz.prog 78 #[.slice A Bs.length c, .int .u32 a, .int .u32 s] w1 fun e w' => e = .returned (.tuple #[.int .i64 (i : Nat), .bool true]) ∧ Below w1.heap.size w1 w') := fun w1 hb => by
      have := CF.out s w1 hb
      rw [hf] at this
      exact this
    obtain ⟨b, o, rfl, hfr, hfr0, hfr1⟩ := hreg i hh.ilt
    have hw3 := widthS_cases s
    obtain ⟨S, hS⟩ : ∃ S : Nat, S = (widthS s).toNat := ⟨_, rfl⟩
    have hS4 : S ≤ 4 := by omega
    have HS : Hid (S = (widthS s).toNat ∧ widthS s = S) := ⟨hS, by omega⟩
    rw [← hS]
    obtain ⟨FR, hFR⟩ : ∃ FR, FR = (regAt Bs i).fr := ⟨_, rfl⟩
    have haeq := hh.aeq
    have hn1 := hh.nowc
    have hn2 := hh.rowc
    have hdl := hh.small
    have hil := hh.ilt
    rw [← hFR] at hfr hfr0 hfr1 haeq
    have HP : Hid (p < w.heap.size ∧ nb < w.heap.size ∧ b < w.heap.size) := ⟨World.block_lt_of_cell? w _ hc, World.block_lt_of_cell? w _ hn2, World.block_lt_of_cell? w _ hfr⟩
    have W : Hid _ := fun (w : World) => size_c s w
    have HN : Hid _ := hh
    have HM : Hid _ := h
    have HFR : Hid (FR = (regAt Bs i).fr) := hFR
    clear h hf hg hh hm C CF hFR hreg hS hn1 hn2
    subst haeq
    go_enter Tryz.func31, Tryz.ntmps31
    go_wp2_with fail
    refine Calls.mono C0.out ?_
    rintro e w1 ⟨rfl, hw1⟩
    have HB1 : Hid _ := hw1
    have e1 : w1.cell? ⟨p, 0, none⟩ = _ := (hw1.cell HP.out.1).trans hc
    clear hw1 C0
    go_wp2_with fail
    refine (CF2.out _ HB1.out).mono ?_
    rintro e w2 ⟨rfl, hw2⟩
    have HB2 : Hid (Below w.heap.size w w2) := HB1.out.trans (hw2.mono HB1.out.size)
    have ST : Hid (rstRel w2 p l0 lo hi Bs G D q i f S d v (.int .u32 0) w2) := ⟨0, Nat.zero_le _, rfl, by
      have := MemAt.below HM.out HB2.out
      simp only [putS]
      rw [set_same HN.out.row]
      exact this, Mid.refl _ _ _⟩
    clear hw2 CF2 e1 HB1
    go_wp2_with fail
    go_loopw [12] (fun iv wr => rstRel w2 p l0 lo hi Bs G D q i f S d v iv wr) (fun i _ => S - (intOf i).toNat)
    case atStart => exact ST.out
    case round =>
      obtain ⟨k, hk, rfl, hM, hmid⟩ := hrel
      go_wp2_with fail
      refine (W.out _).mono ?_
      rintro e w3 ⟨rfl, hw3'⟩
      replace hw3' := hw3'.symm
      subst hw3'
      by_cases hkS : k < S
      · have hkw : (k : Int) < widthS s := by have := HS.out.2; omega
        have hrow : (D.set i (putS d f v k))[i]? = some (putS d f v k) := by
          rw [List.getElem?_set, if_pos rfl]
          rw [if_pos (List.getElem?_eq_some_iff.1 HN.out.row).1]
        have hfit : f + k < d.length := by
          have h5 := HN.out.fit
          have h6 := HS.out.1
          omega
        have hri : Bs[i]? = some (regAt Bs i) := by simp [regAt, List.getD, HN.out.ilt]
        obtain ⟨A9, nb9, cn9, g1, _, n3, n4⟩ := hM.now
        obtain ⟨_, _, _, cap9, g2, m5⟩ := n4 i _ _ hrow hri
        obtain ⟨rfl, _⟩ := n3 (by intro e; rw [e] at hri; simp at hri)
        have hpl : (putS d f v k).length = d.length := putS_length _ _ _ _
        obtain ⟨cu, g4⟩ : ∃ cu, wr.cell? ⟨q i, f + k, none⟩ = some cu := by
          refine ⟨.int .u8 ((putS d f v k)[f + k]'(by rw [hpl]; exact hfit)), ?_⟩
          rw [m5.cellAt (f + k) (by rw [hpl]; omega), cb_at, List.getElem?_eq_getElem (by rw [hpl]; exact hfit)]
          rfl
        have g5 : wr.frozen? ⟨q i, f + k, none⟩ = false := m5.frozenAt _
        rw [hpl] at g2
        obtain ⟨A8, c8, g0, _, _, hreg8⟩ := hM.rmay hn s ha ha' true
        obtain ⟨b8, o8, rfl, g3, _⟩ := hreg8 i HN.out.ilt
        rw [← HFR.out] at g3
        have HX : Hid (rstRel w2 p l0 lo hi Bs G D q i f S d v (.int .u32 ((k : Int) + 1)) (wr.setCell ⟨q i, f + k, none⟩ (.int .u8 (v / 256 ^ k % 256))).drew) := by
          refine ⟨k + 1, hkS, by push_cast; rfl, ?_, (hmid.setCell HN.out.qhi.1 HN.out.qhi.2 _).drew⟩
          have := hM.store (j := f + k) (x := v / 256 ^ k % 256) hrow (by omega) (by omega)
          rw [List.set_set] at this
          exact this.drew
        have lp : p < wr.heap.size := World.block_lt_of_cell? wr _ g0
        have lnb : nb9 < wr.heap.size := World.block_lt_of_cell? wr _ g2
        have lb : b8 < wr.heap.size := World.block_lt_of_cell? wr _ g3
        have lq : q i < wr.heap.size := World.block_lt_of_cell? wr _ g4
        have hi0 : (0 : Int) ≤ (i : Int) := by omega
        have hi1 : (i : Int) < (Bs.length : Int) := by omega
        have s1 : FR + (f : Int) - FR = f := by omega
        have Hfk : Hid (f + k < d.length) := hfit
        clear hM hmid hrow hfit hri n3 n4 m5 hpl hreg8 hc hfr
        have h4 : k = 0 ∨ k = 1 ∨ k = 2 ∨ k = 3 := by omega
        rcases h4 with rfl | rfl | rfl | rfl
        · simp only [Nat.add_zero] at g4 g5
          have s4 : (f : Int) < d.length := by have := Hfk.out; omega
          have s6 : (0 : Int) ≤ (f : Int) := by omega
          go_wp2_with fail
          go_big_region
          go_wp2
          refine ⟨?_, by simp [intOf]; omega⟩
          have h9 := HX.out
          rw [show (256 : Int) ^ 0 = 1 from rfl, Int.ediv_one, Nat.add_zero] at h9
          exact h9
        · obtain ⟨fk, hfk⟩ : ∃ fk : Nat, fk = f + 1 := ⟨_, rfl⟩
          have s2 : (f : Int) + 1 = fk := by omega
          have s3 : (0 : Int) ≤ fk := by omega
          have s4 : (fk : Int) < d.length := by have := Hfk.out; omega
          have h9 := HX.out
          rw [show (256 : Int) ^ 1 = 256 from rfl] at h9
          rw [← hfk] at g4 g5 h9
          have H9 : Hid _ := h9
          clear hfk h9 HX Hfk
          go_wp2_with fail
          go_big_region
          go_wp2
          exact ⟨H9.out, by simp [intOf]; omega⟩
        · obtain ⟨fk, hfk⟩ : ∃ fk : Nat, fk = f + 2 := ⟨_, rfl⟩
          have s2 : (f : Int) + 2 = fk := by omega
          have s3 : (0 : Int) ≤ fk := by omega
          have s4 : (fk : Int) < d.length := by have := Hfk.out; omega
          have h9 := HX.out
          rw [show (256 : Int) ^ 2 = 65536 from rfl] at h9
          rw [← hfk] at g4 g5 h9
          have H9 : Hid _ := h9
          clear hfk h9 HX Hfk
          go_wp2_with fail
          go_big_region
          go_wp2
          exact ⟨H9.out, by simp [intOf]; omega⟩
        · obtain ⟨fk, hfk⟩ : ∃ fk : Nat, fk = f + 3 := ⟨_, rfl⟩
          have s2 : (f : Int) + 3 = fk := by omega
          have s3 : (0 : Int) ≤ fk := by omega
          have s4 : (fk : Int) < d.length := by have := Hfk.out; omega
          have h9 := HX.out
          rw [show (256 : Int) ^ 3 = 16777216 from rfl, show v / 16777216 % 256 = v / 16777216 by omega] at h9
          rw [← hfk] at g4 g5 h9
          have H9 : Hid _ := h9
          clear hfk h9 HX Hfk
          go_wp2_with fail
          go_big_region
          go_wp2
          exact ⟨H9.out, by simp [intOf]; omega⟩
      · have kn : k = S := by omega
        have kn' : ¬ (k : Int) < widthS s := by have := HS.out.2; omega
        have HE : Hid (StPost w p l0 lo hi Bs G (D.set i (putS d f v S)) q 0 (.returned (.int .i64 0)) wr) := ⟨rfl, by rw [← kn]; exact hM, (Below.mid HB2.out _ _).trans hmid⟩
        clear hM hmid kn
        go_wp2
        go_ret
        exact HE.out
  · have hg : storeS Bs D a s v = D := by simp [storeS, hm]
    rw [hg]
    have hm' : (mayS (regAt Bs) Bs.length a s true == 0) = false := by simpa using hm
    have C0 : Hid _ := C.out w (Below.refl _ _)
    have HM : Hid _ := h
    clear h hg C CF hreg
    go_enter Tryz.func31, Tryz.ntmps31
    go_wp2_with fail
    refine Calls.mono C0.out ?_
    rintro e w1 ⟨rfl, hw1⟩
    have HE : Hid (StPost w p l0 lo hi Bs G D q (mayS (regAt Bs) Bs.length a s true) (.returned (.int .i64 (mayS (regAt Bs) Bs.length a s true))) w1) := ⟨rfl, MemAt.below HM.out hw1, Below.mid hw1 _ _⟩
    clear hw1
    go_wp2
    go_ret
    exact HE.out
end Go.Proofs.YtjhmmfpmmgebjaaGreat
