/- mem's small functions: width, number, room; Load, Half: walked. -/
import Derived.Test.YtjhmmfpmmgebjaaGreatVa
import Derived.Test.YtjhmmfpmmgebjaaGreatVc
import Derived.Deep.RegionLaw
import Derived.Laws.BytesString
namespace Go.Proofs.YtjhmmfpmmgebjaaGreat
open Go.ChangeShapes Go.WideShapes Go.ChangeAt Go.RowKit
set_option linter.unusedVariables false
set_option linter.unusedSimpArgs false

theorem mwidth_c (s : Int) (w : World) : Calls Tryz.prog 103 #[.int .u32 s] w fun e w' => e = .returned (.int .u32 (widthS s)) ∧ w' = w := by
  unfold widthS
  by_cases h1 : s = 1
  · go_enter Tryz.func103, Tryz.ntmps103
    go_wp2
    go_ret
    exact ⟨by simp [h1], rfl⟩
  · by_cases h2 : s = 2
    · go_enter Tryz.func103, Tryz.ntmps103
      go_wp2
      go_ret
      exact ⟨by simp [h2], rfl⟩
    · have h1' : (s == 1) = false := by simpa using h1
      have h2' : (s == 2) = false := by simpa using h2
      rw [if_neg (by omega)]
      go_enter Tryz.func103, Tryz.ntmps103
      go_wp2
      go_ret
      exact ⟨rfl, rfl⟩

def numS : List Int → Int
  | [] => 0
  | x :: t => x + 256 * numS t
theorem numS_snoc (l : List Int) (x : Int) : numS (l ++ [x]) = numS l + x * 256 ^ l.length := by
  induction l with
  | nil => simp [numS]
  | cons y t ih =>
    simp only [List.cons_append, numS, ih, List.length_cons, Int.pow_succ]
    rw [Int.mul_add, Int.add_assoc]
    congr 2
    rw [← Int.mul_assoc, Int.mul_comm 256 x, Int.mul_assoc, Int.mul_comm 256]
theorem numS_bounds {l : List Int} (h : okB l) : 0 ≤ numS l ∧ numS l < 256 ^ l.length := by
  induction l with
  | nil => simp [numS]
  | cons y t ih =>
    have h1 := ih (fun x hx => h x (List.mem_cons_of_mem _ hx))
    have h2 := h y List.mem_cons_self
    simp only [numS, List.length_cons, Int.pow_succ]
    omega
theorem take_snoc {l : List Int} {k : Nat} {x : Int} (h : l[k]? = some x) : l.take (k + 1) = l.take k ++ [x] := by
  rw [List.take_add_one, h]
  rfl

theorem or_low (i : Nat) (v X : Int) (v0 : 0 ≤ v) (v1 : v < 2 ^ i) (x0 : 0 ≤ X) (x1 : X < 4294967296) (hx : X % 2 ^ i = 0) (v2 : v < 4294967296) : bits .or .u32 v X = v + X := by
  have h := or_join32 i X v x0 x1 v0 hx v1 v2
  rw [u32_or X v x0 x1 v0 v2] at h
  rw [u32_or v X v0 v2 x0 x1, Nat.or_comm, h, Int.add_comm]

def numRel (w : World) (bs : List Int) (v i : Value) (wr : World) : Prop := ∃ k : Nat, k ≤ bs.length ∧ v = .int .u32 (numS (bs.take k)) ∧ i = .int .i64 k ∧ wr = w

set_option maxHeartbeats 2000000 in
theorem number_c (b o c : Nat) (bs : List Int) (w : World) (h0 : okB bs) (hn : bs.length ≤ 4) (hc : ∀ j x, bs[j]? = some x → w.cell? ⟨b, o + j, none⟩ = some (.int .u8 x)) :
    Calls Tryz.prog 101 #[.slice (some ⟨b, o, none⟩) bs.length c] w fun e w' => e = .returned (.int .u32 (numS bs)) ∧ w' = w := by
  have H0 : Hid (okB bs) := h0
  have HC : Hid (∀ j x, bs[j]? = some x → w.cell? ⟨b, o + j, none⟩ = some (.int .u8 x)) := hc
  clear h0 hc
  go_enter Tryz.func101, Tryz.ntmps101
  go_wp2_with fail
  go_loopw [3, 8] (fun v i wr => numRel w bs v i wr) (fun _ i _ => bs.length - (intOf i).toNat)
  case atStart => exact ⟨0, Nat.zero_le _, by simp [numS], rfl, rfl⟩
  case round =>
    obtain ⟨k, hk, rfl, rfl, hw⟩ := hrel
    replace hw := hw.symm
    subst hw
    have hb := numS_bounds (l := bs.take k) (fun x hx => H0.out x (List.mem_of_mem_take hx))
    have hlk : (bs.take k).length = k := by simp; omega
    rw [hlk] at hb
    by_cases hkn : k < bs.length
    · have hkn' : (k : Int) < bs.length := by omega
      obtain ⟨x, hx⟩ : ∃ x, bs[k]? = some x := ⟨bs[k], by simp [hkn]⟩
      have hcx := HC.out k x hx
      have hxr := H0.out x (List.mem_of_getElem? hx)
      have hnx : numS (bs.take (k + 1)) = numS (bs.take k) + x * 256 ^ k := by rw [take_snoc hx, numS_snoc, hlk]
      have HNX : Hid _ := hnx
      obtain ⟨x0, x1⟩ := hxr
      obtain ⟨b0, b1⟩ := hb
      obtain ⟨V, hV⟩ : ∃ V, V = numS (bs.take k) := ⟨_, rfl⟩
      rw [← hV] at b0 b1
      have HV : Hid _ := hV
      rw [← hV]
      clear hnx hV hlk
      have h4 : k = 0 ∨ k = 1 ∨ k = 2 ∨ k = 3 := by omega
      rcases h4 with rfl | rfl | rfl | rfl
      · have e0 : (256 : Int) ^ 0 = 1 := by decide
        rw [e0] at b1
        have HG : Hid (numS (bs.take (0 + 1)) = bits .or .u32 V x) := by
          show _ = _
          rw [HNX.out, ← HV.out, e0, or_low 0 V x b0 (by simpa using b1) (by omega) (by omega) (by omega) (by omega)]
          try simp
        clear e0 b1
        try simp only [Nat.add_zero] at hcx
        go_wp2
        refine ⟨⟨0 + 1, hkn, by rw [HG.out], rfl, rfl⟩, ?_⟩
        simp [intOf]
        omega
      · have e1 : (256 : Int) ^ 1 = 256 := by decide
        rw [e1] at b1
        have HG : Hid (numS (bs.take (1 + 1)) = bits .or .u32 V (x * 256)) := by
          show _ = _
          rw [HNX.out, ← HV.out, e1, or_low 8 V (x * 256) b0 (by simpa using b1) (by omega) (by omega) (by omega) (by omega)]
          try simp
        clear e1 b1
        try simp only [Nat.add_zero] at hcx
        go_wp2
        refine ⟨⟨1 + 1, hkn, by rw [HG.out], rfl, rfl⟩, ?_⟩
        simp [intOf]
        omega
      · have e2 : (256 : Int) ^ 2 = 65536 := by decide
        rw [e2] at b1
        have HG : Hid (numS (bs.take (2 + 1)) = bits .or .u32 V (x * 65536)) := by
          show _ = _
          rw [HNX.out, ← HV.out, e2, or_low 16 V (x * 65536) b0 (by simpa using b1) (by omega) (by omega) (by omega) (by omega)]
          try simp
        clear e2 b1
        try simp only [Nat.add_zero] at hcx
        go_wp2
        refine ⟨⟨2 + 1, hkn, by rw [HG.out], rfl, rfl⟩, ?_⟩
        simp [intOf]
        omega
      · have e3 : (256 : Int) ^ 3 = 16777216 := by decide
        rw [e3] at b1
        have HG : Hid (numS (bs.take (3 + 1)) = bits .or .u32 V (x * 16777216)) := by
          show _ = _
          rw [HNX.out, ← HV.out, e3, or_low 24 V (x * 16777216) b0 (by simpa using b1) (by omega) (by omega) (by omega) (by omega)]
          try simp
        clear e3 b1
        try simp only [Nat.add_zero] at hcx
        go_wp2
        refine ⟨⟨3 + 1, hkn, by rw [HG.out], rfl, rfl⟩, ?_⟩
        simp [intOf]
        omega
    · have kn : k = bs.length := by omega
      have kn' : ¬ (k : Int) < bs.length := by omega
      have HT : Hid (numS (bs.take k) = numS bs) := by show _ = _; rw [kn, List.take_length]
      clear kn
      go_wp2
      go_ret
      exact ⟨by rw [HT.out]; rfl, rfl⟩

theorem findS_spec {R : Nat → Reg} {n i : Nat} {a s : Int} (h : findS R n a s = some i) : i < n ∧ checkS R n = 0 ∧ (R i).fr ≤ a ∧ a + widthS s ≤ (R i).fr + (R i).ln := by
  unfold findS at h
  split at h
  · rename_i hc
    obtain ⟨h1, h2⟩ := firstS_lt R _ _ h
    simp only [hitS, Bool.and_eq_true, decide_eq_true_eq] at h2
    exact ⟨h1, hc, h2.1, h2.2⟩
  · cases h
theorem widthS_cases (s : Int) : widthS s = 1 ∨ widthS s = 2 ∨ widthS s = 4 := by
  unfold widthS
  split <;> omega
theorem widthS_twice (s : Int) : widthS (widthS s) = widthS s := by
  rcases widthS_cases s with h | h | h <;> rw [h] <;> decide
theorem findS_width (R : Nat → Reg) (n : Nat) (a s : Int) : findS R n a (widthS s) = findS R n a s := by simp only [findS, widthS_twice]

/-- What is known of the row in which an address lies. -/
structure Hit (w : World) (p l0 lo hi : Nat) (Bs : List Reg) (G D : List (List Int)) (q : Nat → Nat) (a s : Int) (i f : Nat) (d : List Int) (nb cn cap : Nat) : Prop where
  ilt : i < Bs.length
  row : D[i]? = some d
  okd : okB d
  aeq : a = (regAt Bs i).fr + f
  fit : (f : Int) + s ≤ d.length
  small : d.length ≤ 65536
  nowc : w.cell? ⟨p, 1, none⟩ = some (.slice (some ⟨nb, 0, none⟩) Bs.length cn)
  rowc : w.cell? ⟨nb, i, none⟩ = some (.slice (some ⟨q i, 0, none⟩) d.length cap)
  own : w.ownsRow lo 5 1 (.slice (some ⟨q i, 0, none⟩) d.length cap) d.length (cb d)
  qhi : lo ≤ q i ∧ q i < hi
theorem MemAt.hit {w : World} {p l0 lo hi : Nat} {Bs : List Reg} {G D : List (List Int)} {q : Nat → Nat} (h : MemAt w p l0 lo hi Bs G D q) {a s : Int} {i : Nat} (hf : findS (regAt Bs) Bs.length a s = some i) :
    ∃ f d nb cn cap, Hit w p l0 lo hi Bs G D q a (widthS s) i f d nb cn cap := by
  obtain ⟨h1, h2, h3, h4⟩ := findS_spec hf
  obtain ⟨v, hv, rs, hbs, hgl, A0, c0, _, _, _, hL, _⟩ := h.given
  obtain ⟨A, nb, c, n1, n2, n3, n4⟩ := h.now
  have hne : Bs ≠ [] := by intro e; rw [e] at h1; exact absurd h1 (Nat.not_lt_zero _)
  have hri : Bs[i]? = some (regAt Bs i) := by simp [regAt, List.getD, h1]
  have hlen : rs.length = Bs.length := by rw [← hbs, List.length_map]
  have hok := check_ok (R := regAt rs) (n := rs.length) (by rw [← hbs, regAt_bare, List.length_map, checkS_bare] at h2; exact h2) (fun j hj => (hL.2 j hj).1)
  have hok2 := hok.2 i (by omega)
  have hln : (regAt Bs i).ln = (regAt rs i).ln := by rw [← hbs, regAt_bare]; rfl
  obtain ⟨d, hd⟩ : ∃ d, D[i]? = some d := ⟨D[i]'(by rw [h.len]; exact h1), by simp⟩
  obtain ⟨m1, m2, m3, cap, m4, m5⟩ := n4 i d _ hd hri
  obtain ⟨rfl, _⟩ := n3 hne
  have hq := (m5.lt (q i) rfl).1
  exact ⟨(a - (regAt Bs i).fr).toNat, d, nb, c, cap, h1, hd, m1, by omega, by omega, by omega, n1, m4, m5, hq, m3⟩

set_option maxHeartbeats 4000000 in
theorem room_c {w : World} {p l0 lo hi : Nat} {Bs : List Reg} {G D : List (List Int)} {q : Nat → Nat} (h : MemAt w p l0 lo hi Bs G D q) {a s : Int} (ha : 0 ≤ a) (ha' : a ≤ 4294967295) (hs : widthS s = s)
    {i f : Nat} {d : List Int} {nb cn cap : Nat} (hf : findS (regAt Bs) Bs.length a s = some i) (hh : Hit w p l0 lo hi Bs G D q a s i f d nb cn cap) :
    Calls Tryz.prog 102 #[.pointer (some ⟨p, 0, none⟩), .int .u32 a, .int .u32 s] w fun e w' => e = .returned (.slice (some ⟨q i, f, none⟩) s.toNat (cap - f)) ∧ Below w.heap.size w w' := by
  obtain ⟨v, hv, rs, hbs, hgl, A0, c0, rfl, hA0, _, hL, _⟩ := h.given
  obtain ⟨h1, h2, h3, h4, h5, h6, h7, h8, h9, h10, h11⟩ := hh
  have hlen : rs.length = Bs.length := by rw [← hbs, List.length_map]
  have hfr : findS (regAt rs) rs.length a s = some i := by rw [← hbs, regAt_bare, List.length_map, findS_bare] at hf; exact hf
  have F := find_c A0 rs.length c0 (regAt rs) a s ha ha' w hL
  rw [hfr] at F
  simp only [Option.getD_some, Option.isSome_some] at F
  obtain ⟨hwf, b, o, rfl, h7r⟩ := hL.2 i (by omega)
  have hfe : (regAt Bs i).fr = (regAt rs i).fr := by rw [← hbs, regAt_bare]; rfl
  have hcap : d.length ≤ cap := by
    obtain ⟨_, ⟨h, _⟩ | ⟨g, cp, cur, h, _, _, hcp, _⟩⟩ := h9
    · cases h
    · simp only [Value.slice.injEq, true_and] at h
      omega
  obtain ⟨S, hS⟩ : ∃ S : Nat, s = S := ⟨s.toNat, by have := widthS_cases s; omega⟩
  subst hS
  have hS3 : S = 1 ∨ S = 2 ∨ S = 4 := by have := widthS_cases (S : Int); omega
  rw [hfe] at h4
  have c0' := h7r.1
  have hi0 : (0 : Int) ≤ i := Int.natCast_nonneg _
  have hi1 : (i : Int) < Bs.length := by omega
  have hi2 : (i : Int) < rs.length := by omega
  rw [hlen] at F hv
  have HF : Hid _ := F
  have HH : Hid (b < w.heap.size ∧ p < w.heap.size ∧ nb < w.heap.size) := ⟨h7r.lt, World.block_lt_of_cell? w _ hv, World.block_lt_of_cell? w _ h8⟩
  simp only [Int.toNat_natCast]
  obtain ⟨FR, hFR⟩ : ∃ FR, FR = (regAt rs i).fr := ⟨_, rfl⟩
  rw [← hFR] at c0' h4
  have hFR0 : 0 ≤ FR := by rw [hFR]; exact hwf.1
  clear F hfr hf hbs hA0 hgl hL h7r h9 h10 h11 h3 h2 h hfe hwf hFR hs hi2 hlen
  subst h4
  go_enter Tryz.func102, Tryz.ntmps102
  go_wp2_with fail
  refine Calls.mono HF.out ?_
  rintro e w1 ⟨rfl, hw1⟩
  have e1 : w1.cell? ⟨p, 0, none⟩ = _ := (hw1.cell HH.out.2.1).trans hv
  have e2 : w1.cell? ⟨p, 1, none⟩ = _ := (hw1.cell HH.out.2.1).trans h7
  have e3 : w1.cell? ⟨nb, i, none⟩ = _ := (hw1.cell HH.out.2.2).trans h8
  have e4 : w1.cell? ⟨b, o + i * 7, none⟩ = _ := (hw1.cell HH.out.1).trans c0'
  have HB : Hid _ := hw1
  clear hw1 hv h7 h8 c0'
  go_wp2
  go_ret
  refine ⟨?_, HB.out⟩
  show Ending.returned (.slice (some ⟨q i, (FR + f - FR).toNat, none⟩) ((FR + f - FR + S).toNat - (FR + f - FR).toNat) (cap - (FR + f - FR).toNat)) = _
  rw [show FR + (f : Int) - FR = f by omega, Int.toNat_natCast, show ((f : Int) + S).toNat - f = S by omega]

def loadS (Bs : List Reg) (D : List (List Int)) (a s : Int) : Int :=
  match findS (regAt Bs) Bs.length a s with
  | some i => numS (((D.getD i []).drop (a - (regAt Bs i).fr).toNat).take (widthS s).toNat)
  | none => 0

theorem may_find {R : Nat → Reg} {n : Nat} {a s : Int} {wr : Bool} (h : mayS R n a s wr = 0) : ∃ i, findS R n a s = some i := by
  cases hf : findS R n a s with
  | some i => exact ⟨i, rfl⟩
  | none =>
    exfalso
    unfold mayS at h
    rw [hf] at h
    simp only [Option.isSome_none, Bool.false_and] at h
    split at h
    · cases h
    · split at h
      · cases h
      · simp at h
theorem exec_find {R : Nat → Reg} {n : Nat} {a : Int} (h : execS R n a = 0) : ∃ i, findS R n a 2 = some i := by
  cases hf : findS R n a 2 with
  | some i => exact ⟨i, rfl⟩
  | none =>
    exfalso
    unfold execS at h
    rw [hf] at h
    simp at h

theorem MemAt.may {w : World} {p l0 lo hi : Nat} {Bs : List Reg} {G D : List (List Int)} {q : Nat → Nat} (h : MemAt w p l0 lo hi Bs G D q) {a : Int} (s : Int) (ha : 0 ≤ a) (ha' : a ≤ 4294967295) (wri : Bool) :
    ∃ A c, w.cell? ⟨p, 0, none⟩ = some (.slice A Bs.length c) ∧ Hid (Calls Tryz.prog 100 #[.slice A Bs.length c, .int .u32 a, .int .u32 s, .bool wri] w fun e w' => e = .returned (.int .i64 (mayS (regAt Bs) Bs.length a s wri)) ∧ Below w.heap.size w w') := by
  obtain ⟨v, hv, rs, hbs, hgl, A0, c0, rfl, hA0, _, hL, _⟩ := h.given
  have hlen : rs.length = Bs.length := by rw [← hbs, List.length_map]
  have F := may_c A0 rs.length c0 (regAt rs) a s ha ha' wri w hL
  rw [← mayS_bare (regAt rs), ← regAt_bare, hbs, hlen] at F
  rw [hlen] at hv
  exact ⟨A0, c0, hv, F⟩
/-- The bytes of a hit, as number reads them. -/
theorem Hit.number {w w' : World} {p l0 lo hi : Nat} {Bs : List Reg} {G D : List (List Int)} {q : Nat → Nat} {a s : Int} {i f : Nat} {d : List Int} {nb cn cap : Nat} (h : Hit w p l0 lo hi Bs G D q a s i f d nb cn cap)
    (hb : Below w.heap.size w w') (c : Nat) (hs : s = 1 ∨ s = 2 ∨ s = 4) :
    Calls Tryz.prog 101 #[.slice (some ⟨q i, f, none⟩) s.toNat c] w' fun e w2 => e = .returned (.int .u32 (numS ((d.drop f).take s.toNat))) ∧ w2 = w' := by
  have h5 := h.fit
  have hl : ((d.drop f).take s.toNat).length = s.toNat := by
    simp only [List.length_take, List.length_drop]
    omega
  have hN := number_c (q i) f c ((d.drop f).take s.toNat) w' (fun x hx => h.okd x (List.mem_of_mem_drop (List.mem_of_mem_take hx))) (by rw [hl]; omega) (fun j x hx => by
    have hj : j < s.toNat := by
      have := (List.getElem?_eq_some_iff.1 hx).1
      omega
    rw [List.getElem?_take_of_lt hj, List.getElem?_drop] at hx
    have hc := h.own.cellAt (f + j) (by have := (List.getElem?_eq_some_iff.1 hx).1; omega)
    rw [cb_at, hx] at hc
    exact (hb.cell (p := ⟨q i, f + j, none⟩) (World.block_lt_of_cell? w _ hc)).trans hc)
  rw [hl] at hN
  exact hN

def gotS (Bs : List Reg) (D : List (List Int)) (a s : Int) : Int := if mayS (regAt Bs) Bs.length a s false = 0 then loadS Bs D a s else 0

theorem Hit.load {w : World} {p l0 lo hi : Nat} {Bs : List Reg} {G D : List (List Int)} {q : Nat → Nat} {a s : Int} {i f : Nat} {d : List Int} {nb cn cap : Nat} (h : Hit w p l0 lo hi Bs G D q a (widthS s) i f d nb cn cap) (hf : findS (regAt Bs) Bs.length a s = some i) :
    loadS Bs D a s = numS ((d.drop f).take (widthS s).toNat) := by
  unfold loadS
  rw [hf]
  have h4 := h.aeq
  have e1 : D.getD i [] = d := by simp [List.getD, h.row]
  simp only [e1]
  rw [show (a - (regAt Bs i).fr).toNat = f by omega]

set_option maxHeartbeats 2000000 in
theorem load_c {w : World} {p l0 lo hi : Nat} {Bs : List Reg} {G D : List (List Int)} {q : Nat → Nat} (h : MemAt w p l0 lo hi Bs G D q) (a s : Int) (ha : 0 ≤ a) (ha' : a ≤ 4294967295) :
    Calls Tryz.prog 93 #[.pointer (some ⟨p, 0, none⟩), .int .u32 a, .int .u32 s] w fun e w' => e = .returned (.tuple #[.int .u32 (gotS Bs D a s), .int .i64 (mayS (regAt Bs) Bs.length a s false)]) ∧ Below w.heap.size w w' := by
  obtain ⟨A, c, hc, C⟩ := h.may s ha ha' false
  by_cases hm : mayS (regAt Bs) Bs.length a s false = 0
  · obtain ⟨i, hf⟩ := may_find hm
    have hf2 : findS (regAt Bs) Bs.length a (widthS s) = some i := by rw [findS_width]; exact hf
    have hg : gotS Bs D a s = loadS Bs D a s := by simp [gotS, hm]
    rw [hg, hm]
    rw [hm] at C
    have H : Hid _ := h
    obtain ⟨f, d, nb, cn, cap, hh⟩ := h.hit hf
    rw [hh.load hf]
    have HH : Hid (∀ w1, Below w.heap.size w w1 → Calls Tryz.prog 102 #[.pointer (some ⟨p, 0, none⟩), .int .u32 a, .int .u32 (widthS s)] w1 fun e w' => e = .returned (.slice (some ⟨q i, f, none⟩) (widthS s).toNat (cap - f)) ∧ Below w1.heap.size w1 w') := fun w1 hb => by
      refine room_c (h.below hb) ha ha' (widthS_twice s) hf2 ⟨hh.ilt, hh.row, hh.okd, hh.aeq, hh.fit, hh.small, (hb.cell (World.block_lt_of_cell? w _ hh.nowc)).trans hh.nowc, (hb.cell (World.block_lt_of_cell? w _ hh.rowc)).trans hh.rowc, own_kept hh.own (hb.block _ (hh.own.lt _ rfl).2), hh.qhi⟩
    have HN : Hid _ := hh
    clear h hf hf2 hg hh hm
    have W : Hid _ := fun (w : World) => mwidth_c s w
    go_enter Tryz.func93, Tryz.ntmps93
    go_wp2_with fail
    refine Calls.mono C.out ?_
    rintro e w1 ⟨rfl, hw1⟩
    have HB1 : Hid _ := hw1
    clear hw1
    go_wp2_with fail
    refine (W.out _).mono ?_
    rintro e w2 ⟨rfl, hw2⟩
    replace hw2 := hw2.symm
    subst hw2
    go_wp2_with fail
    refine (HH.out _ HB1.out).mono ?_
    rintro e w3 ⟨rfl, hw3⟩
    have HB3 : Hid (Below w.heap.size w w3) := HB1.out.trans (hw3.mono HB1.out.size)
    clear hw3
    go_wp2_with fail
    refine (Hit.number HN.out HB3.out _ (widthS_cases s)).mono ?_
    rintro e w4 ⟨rfl, hw4⟩
    replace hw4 := hw4.symm
    subst hw4
    go_wp2
    go_ret2
    exact ⟨rfl, HB3.out⟩
  · have hg : gotS Bs D a s = 0 := by simp [gotS, hm]
    rw [hg]
    have hm' : (mayS (regAt Bs) Bs.length a s false == 0) = false := by simpa using hm
    clear h hg
    go_enter Tryz.func93, Tryz.ntmps93
    go_wp2_with fail
    refine Calls.mono C.out ?_
    rintro e w1 ⟨rfl, hw1⟩
    go_wp2
    go_ret2
    exact ⟨rfl, hw1⟩

def halfS (Bs : List Reg) (D : List (List Int)) (a : Int) : Int := if execS (regAt Bs) Bs.length a = 0 then loadS Bs D a 2 else 0

end Go.Proofs.YtjhmmfpmmgebjaaGreat
namespace Go.Proofs.YtjhmmfpmmgebjaaGreat
open Go.ChangeShapes Go.WideShapes Go.ChangeAt Go.RowKit
set_option linter.unusedVariables false
set_option linter.unusedSimpArgs false
attribute [local go_sem ↓] Go.wp_at_zero Go.wp_at_succ

def putS (d : List Int) (f : Nat) (v : Int) : Nat → List Int
  | 0 => d
  | k + 1 => (putS d f v k).set (f + k) (v / 256 ^ k % 256)
theorem putS_length (d : List Int) (f : Nat) (v : Int) (k : Nat) : (putS d f v k).length = d.length := by
  induction k with
  | zero => rfl
  | succ k ih => simp [putS, ih]

/-- One byte is stored in row i. -/
theorem MemAt.store {w : World} {p l0 lo hi : Nat} {Bs : List Reg} {G D : List (List Int)} {q : Nat → Nat} (h : MemAt w p l0 lo hi Bs G D q) {i j : Nat} {d : List Int} {x : Int} (hd : D[i]? = some d) (hx0 : 0 ≤ x) (hx1 : x ≤ 255) :
    MemAt (w.setCell ⟨q i, j, none⟩ (.int .u8 x)) p l0 lo hi Bs G (D.set i (d.set j x)) q := by
  obtain ⟨h1, h2, h3, h4, ⟨v, hv1, hv2⟩, A, nb, c, n1, n2, n3, n4⟩ := h
  have hi : i < Bs.length := by
    have := (List.getElem?_eq_some_iff.1 hd).1
    omega
  have hiD : i < D.length := by omega
  have hoff : ∀ b, b ≠ q i → (w.setCell ⟨q i, j, none⟩ (.int .u8 x)).heap[b]? = w.heap[b]? := fun b hb => Below.heap_setCell w _ _ b hb
  have hne : Bs ≠ [] := by intro e; rw [e] at hi; exact absurd hi (Nat.not_lt_zero _)
  refine ⟨by simpa using h1, by simpa using h2, h3, h4, ⟨v, cell_kept hv1 (hoff p (h3.2.2 i hi)), hv2.kept fun b hb _ => hoff b (hb.2 i hi)⟩, A, nb, c, cell_kept n1 (hoff p (h3.2.2 i hi)), n2, n3, fun i' d' r hd' hr => ?_⟩
  have hnb := hoff nb ((n3 hne).2.2.2 i hi)
  rw [List.getElem?_set] at hd'
  split at hd'
  · rename_i e
    subst e
    try rw [if_pos hiD] at hd'
    simp only [Option.some.injEq] at hd'
    subst hd'
    obtain ⟨m1, m2, m3, cap, m4, m5⟩ := n4 i d r hd hr
    refine ⟨fun y hy => ?_, by simpa using m2, m3, cap, ?_, ?_⟩
    · rcases List.mem_or_eq_of_mem_set hy with h | h
      · exact m1 y h
      · rw [h]; exact ⟨hx0, hx1⟩
    · rw [List.length_set]
      exact cell_kept m4 hnb
    · rw [List.length_set, ← cb_set]
      exact (m5.stored j (.int .u8 x)).1
  · rename_i hii
    obtain ⟨m1, m2, m3, cap, m4, m5⟩ := n4 i' d' r hd' hr
    have hi' : i' < Bs.length := (List.getElem?_eq_some_iff.1 hr).1
    exact ⟨m1, m2, m3, cap, cell_kept m4 hnb, own_kept m5 (hoff _ (fun e => hii (h4 i' i hi' hi e).symm))⟩

def storeS (Bs : List Reg) (D : List (List Int)) (a s v : Int) : List (List Int) :=
  if mayS (regAt Bs) Bs.length a s true = 0 then
    match findS (regAt Bs) Bs.length a s with
    | some i => D.set i (putS (D.getD i []) (a - (regAt Bs i).fr).toNat v (widthS s).toNat)
    | none => D
  else D

/-- Some bytes have been stored. -/
def stRel (w1 : World) (p l0 lo hi : Nat) (Bs : List Reg) (G D : List (List Int)) (q : Nat → Nat) (i f S : Nat) (d : List Int) (v : Int) (iv : Value) (wr : World) : Prop :=
  ∃ k : Nat, k ≤ S ∧ iv = .int .i64 k ∧ MemAt wr p l0 lo hi Bs G (D.set i (putS d f v k)) q ∧ Mid lo hi w1 wr

def StPost (w : World) (p l0 lo hi : Nat) (Bs : List Reg) (G D : List (List Int)) (q : Nat → Nat) (m : Int) (e : Ending) (w' : World) : Prop :=
  e = .returned (.int .i64 m) ∧ MemAt w' p l0 lo hi Bs G D q ∧ Mid lo hi w w'

set_option maxHeartbeats 4000000 in
theorem store_c {w : World} {p l0 lo hi : Nat} {Bs : List Reg} {G D : List (List Int)} {q : Nat → Nat} (h : MemAt w p l0 lo hi Bs G D q) (a s v : Int) (ha : 0 ≤ a) (ha' : a ≤ 4294967295) (hv0 : 0 ≤ v) (hv1 : v ≤ 4294967295) :
    Calls Tryz.prog 94 #[.pointer (some ⟨p, 0, none⟩), .int .u32 a, .int .u32 s, .int .u32 v] w fun e w' => StPost w p l0 lo hi Bs G (storeS Bs D a s v) q (mayS (regAt Bs) Bs.length a s true) e w' := by
  obtain ⟨A, c, hc, C⟩ := h.may s ha ha' true
  by_cases hm : mayS (regAt Bs) Bs.length a s true = 0
  · obtain ⟨i, hf⟩ := may_find hm
    have hf2 : findS (regAt Bs) Bs.length a (widthS s) = some i := by rw [findS_width]; exact hf
    obtain ⟨f, d, nb, cn, cap, hh⟩ := h.hit hf
    have hg : storeS Bs D a s v = D.set i (putS d f v (widthS s).toNat) := by
      have h4 := hh.aeq
      have e1 : D.getD i [] = d := by simp [List.getD, hh.row]
      simp only [storeS, hm, hf, if_true, e1]
      rw [show (a - (regAt Bs i).fr).toNat = f by omega]
    rw [hg, hm]
    rw [hm] at C
    have HH : Hid (∀ w1, Below w.heap.size w w1 → Calls Tryz.prog 102 #[.pointer (some ⟨p, 0, none⟩), .int .u32 a, .int .u32 (widthS s)] w1 fun e w' => e = .returned (.slice (some ⟨q i, f, none⟩) (widthS s).toNat (cap - f)) ∧ Below w1.heap.size w1 w') := fun w1 hb => by
      refine room_c (h.below hb) ha ha' (widthS_twice s) hf2 ⟨hh.ilt, hh.row, hh.okd, hh.aeq, hh.fit, hh.small, (hb.cell (World.block_lt_of_cell? w _ hh.nowc)).trans hh.nowc, (hb.cell (World.block_lt_of_cell? w _ hh.rowc)).trans hh.rowc, own_kept hh.own (hb.block _ (hh.own.lt _ rfl).2), hh.qhi⟩
    have HN : Hid _ := hh
    have HM : Hid _ := h
    have W : Hid _ := fun (w : World) => mwidth_c s w
    obtain ⟨S, hS⟩ : ∃ S : Nat, S = (widthS s).toNat := ⟨_, rfl⟩
    have hS4 : S ≤ 4 := by have := widthS_cases s; omega
    have HS : Hid _ := hS
    clear h hf hf2 hg hh hm
    rw [← hS] at HH ⊢
    clear hS
    go_enter Tryz.func94, Tryz.ntmps94
    go_wp2_with fail
    refine Calls.mono C.out ?_
    rintro e w1 ⟨rfl, hw1⟩
    have HB1 : Hid _ := hw1
    clear hw1
    go_wp2_with fail
    refine (W.out _).mono ?_
    rintro e w2 ⟨rfl, hw2⟩
    replace hw2 := hw2.symm
    subst hw2
    go_wp2_with fail
    refine (HH.out _ HB1.out).mono ?_
    rintro e w3 ⟨rfl, hw3⟩
    have HB3 : Hid (Below w.heap.size w w3) := HB1.out.trans (hw3.mono HB1.out.size)
    have ST : Hid (stRel w3 p l0 lo hi Bs G D q i f S d v (.int .i64 0) w3) := ⟨0, Nat.zero_le _, rfl, by
      have := HM.out.below HB3.out
      simp only [putS]
      rw [set_same HN.out.row]
      exact this, Mid.refl _ _ _⟩
    clear hw3 C W HH
    go_wp2_with fail
    go_loopw [29] (fun iv wr => stRel w3 p l0 lo hi Bs G D q i f S d v iv wr) (fun i _ => S - (intOf i).toNat)
    case atStart => exact ST.out
    case round =>
      obtain ⟨k, hk, rfl, hM, hmid⟩ := hrel
      by_cases hkS : k < S
      · have hkS' : (k : Int) < S := by omega
        have hrow : (D.set i (putS d f v k))[i]? = some (putS d f v k) := by
          rw [List.getElem?_set, if_pos rfl]
          rw [if_pos (List.getElem?_eq_some_iff.1 HN.out.row).1]
        have hfit : f + k < d.length := by
          have h5 := HN.out.fit
          have h6 := HS.out
          omega
        obtain ⟨cu, hcu, hfz⟩ : ∃ cu, wr.cell? ⟨q i, f + k, none⟩ = some cu ∧ wr.frozen? ⟨q i, f + k, none⟩ = false := by
          obtain ⟨A9, nb9, c9, _, _, _, n4⟩ := hM.now
          have hri : Bs[i]? = some (regAt Bs i) := by simp [regAt, List.getD, HN.out.ilt]
          obtain ⟨_, _, _, cap9, _, m5⟩ := n4 i _ _ hrow hri
          refine ⟨.int .u8 ((putS d f v k)[f + k]'(by rw [putS_length]; exact hfit)), ?_, m5.frozenAt _⟩
          rw [m5.cellAt (f + k) (by rw [putS_length]; omega), cb_at, List.getElem?_eq_getElem (by rw [putS_length]; exact hfit)]
          rfl
        have HX : Hid (stRel w3 p l0 lo hi Bs G D q i f S d v (.int .i64 ((k : Int) + 1)) (wr.setCell ⟨q i, f + k, none⟩ (.int .u8 (v / 256 ^ k % 256)))) := by
          refine ⟨k + 1, hkS, by push_cast; rfl, ?_, hmid.setCell HN.out.qhi.1 HN.out.qhi.2 _⟩
          have := hM.store (j := f + k) (x := v / 256 ^ k % 256) hrow (by omega) (by omega)
          rw [List.set_set] at this
          exact this
        clear hM hmid hrow hfit
        have h4 : k = 0 ∨ k = 1 ∨ k = 2 ∨ k = 3 := by omega
        rcases h4 with rfl | rfl | rfl | rfl
        all_goals
          try simp only [Nat.add_zero] at hcu hfz
          go_wp2
          refine ⟨?_, by simp [intOf]; omega⟩
          have h9 := HX.out
          first
            | (rw [show (256 : Int) ^ 0 = 1 from rfl, Int.ediv_one] at h9; exact h9)
            | (rw [show (256 : Int) ^ 1 = 256 from rfl] at h9; exact h9)
            | (rw [show (256 : Int) ^ 2 = 65536 from rfl] at h9; exact h9)
            | (rw [show (256 : Int) ^ 3 = 16777216 from rfl, show v / 16777216 % 256 = v / 16777216 by omega] at h9; exact h9)
      · have kn : k = S := by omega
        have HE : Hid (StPost w p l0 lo hi Bs G (D.set i (putS d f v S)) q 0 (.returned (.int .i64 0)) wr) := ⟨rfl, by rw [← kn]; exact hM, (Below.mid HB3.out _ _).trans hmid⟩
        have kn' : ¬ (k : Int) < S := by omega
        clear hM hmid kn
        go_wp2
        go_ret
        exact HE.out
  · have hg : storeS Bs D a s v = D := by simp [storeS, hm]
    rw [hg]
    have hm' : (mayS (regAt Bs) Bs.length a s true == 0) = false := by simpa using hm
    have HM : Hid _ := h
    clear h hg
    go_enter Tryz.func94, Tryz.ntmps94
    go_wp2_with fail
    refine Calls.mono C.out ?_
    rintro e w1 ⟨rfl, hw1⟩
    have HE : Hid (StPost w p l0 lo hi Bs G D q (mayS (regAt Bs) Bs.length a s true) (.returned (.int .i64 (mayS (regAt Bs) Bs.length a s true))) w1) := ⟨rfl, HM.out.below hw1, Below.mid hw1 _ _⟩
    clear hw1
    go_wp2
    go_ret
    exact HE.out
end Go.Proofs.YtjhmmfpmmgebjaaGreat
namespace Go.Proofs.YtjhmmfpmmgebjaaGreat
open Go.ChangeShapes Go.WideShapes Go.ChangeAt Go.RowKit
set_option linter.unusedVariables false
set_option linter.unusedSimpArgs false
attribute [local go_sem ↓] Go.wp_at_zero Go.wp_at_succ

theorem MemAt.long {w : World} {p l0 lo hi : Nat} {Bs : List Reg} {G D : List (List Int)} {q : Nat → Nat} (h : MemAt w p l0 lo hi Bs G D q) (hc : checkS (regAt Bs) Bs.length = 0) :
    Bs.length ≤ 8 ∧ ∀ (i : Nat) (d : List Int), D[i]? = some d → 0 < d.length ∧ d.length ≤ 65536 := by
  obtain ⟨v, hv, rs, hbs, hgl, A0, c0, _, _, _, hL, _⟩ := h.given
  obtain ⟨A, nb, c, n1, n2, n3, n4⟩ := h.now
  have hlen : rs.length = Bs.length := by rw [← hbs, List.length_map]
  have hok := check_ok (R := regAt rs) (n := rs.length) (by rw [← hbs, regAt_bare, List.length_map, checkS_bare] at hc; exact hc) (fun j hj => (hL.2 j hj).1)
  refine ⟨by omega, fun i d hd => ?_⟩
  have hi : i < Bs.length := by
    have := (List.getElem?_eq_some_iff.1 hd).1
    have := h.len
    omega
  have hri : Bs[i]? = some (regAt Bs i) := by simp [regAt, List.getD, hi]
  obtain ⟨_, m2, _⟩ := n4 i d _ hd hri
  have hln : (regAt Bs i).ln = (regAt rs i).ln := by rw [← hbs, regAt_bare]; rfl
  have := hok.2 i (by omega)
  omega

theorem MemAt.rowc {w : World} {p l0 lo hi : Nat} {Bs : List Reg} {G D : List (List Int)} {q : Nat → Nat} (h : MemAt w p l0 lo hi Bs G D q) :
    ∃ A nb c, w.cell? ⟨p, 1, none⟩ = some (.slice A D.length c) ∧ ∀ (i : Nat) (d : List Int), D[i]? = some d → A = some ⟨nb, 0, none⟩ ∧ okB d ∧ ∃ cap, w.cell? ⟨nb, i, none⟩ = some (.slice (some ⟨q i, 0, none⟩) d.length cap) ∧ w.ownsRow lo 5 1 (.slice (some ⟨q i, 0, none⟩) d.length cap) d.length (cb d) := by
  obtain ⟨A, nb, c, n1, n2, n3, n4⟩ := h.now
  refine ⟨A, nb, c, by rw [h.len]; exact n1, fun i d hd => ?_⟩
  have hi : i < Bs.length := by
    have := (List.getElem?_eq_some_iff.1 hd).1
    have := h.len
    omega
  have hri : Bs[i]? = some (regAt Bs i) := by simp [regAt, List.getD, hi]
  obtain ⟨m1, _, _, cap, m4, m5⟩ := n4 i d _ hd hri
  exact ⟨(n3 (by intro e; rw [e] at hi; exact absurd hi (Nat.not_lt_zero _))).1, m1, cap, m4, m5⟩

theorem bytes_c {w : World} {p l0 lo hi : Nat} {Bs : List Reg} {G D : List (List Int)} {q : Nat → Nat} (h : MemAt w p l0 lo hi Bs G D q) {i : Nat} {d : List Int} (hd : D[i]? = some d) (hdl : d.length ≤ 65536) :
    Calls Tryz.prog 35 #[.pointer (some ⟨p, 0, none⟩), .int .i64 i] w fun e w' => OwnPost w d e w' := by
  obtain ⟨A, nb, c, n1, n4⟩ := h.rowc
  obtain ⟨rfl, m1, cap, m4, m5⟩ := n4 i d hd
  have C : Hid _ := copyBytes_c _ d _ w (BL.own m1 m5) (by omega)
  have hi : i < D.length := (List.getElem?_eq_some_iff.1 hd).1
  have hi0 : ¬ ((i : Int) < 0) := by omega
  have hi1 : (i : Int) < D.length := by omega
  have hi2 : ¬ ((D.length : Int) ≤ i) := by omega
  clear n4 m5 h hd hi
  go_enter Tryz.func35, Tryz.ntmps35
  go_wp2_with fail
  refine Calls.mono C.out ?_
  rintro e w2 ⟨A3, c3, rfl, hown3, hb3⟩
  have HE : Hid (OwnPost w d (.returned (.slice A3 d.length c3)) w2) := ⟨A3, c3, rfl, hown3, hb3⟩
  clear hown3 hb3
  go_wp2
  go_ret
  exact HE.out

theorem bytes_out {w : World} {p l0 lo hi : Nat} {Bs : List Reg} {G D : List (List Int)} {q : Nat → Nat} (h : MemAt w p l0 lo hi Bs G D q) {i : Nat} (hi : D.length ≤ i) :
    Calls Tryz.prog 35 #[.pointer (some ⟨p, 0, none⟩), .int .i64 i] w fun e w' => e = .returned (.slice none 0 0) ∧ w' = w := by
  obtain ⟨A, nb, c, n1, n4⟩ := h.rowc
  have hi0 : ¬ ((i : Int) < 0) := by omega
  have hi2 : ((D.length : Int) ≤ i) := by omega
  clear n4 h hi
  go_enter Tryz.func35, Tryz.ntmps35
  go_wp2
  go_ret
  exact ⟨rfl, rfl⟩

theorem MemAt.copied {w : World} {p lo hi : Nat} {Bs : List Reg} {G D : List (List Int)} {q : Nat → Nat} (h : MemAt w p 0 lo hi Bs G D q) (hn : Bs.length ≤ 10) (hG : ∀ g ∈ G, g.length ≤ 65536) :
    ∃ A c, w.cell? ⟨p, 0, none⟩ = some (.slice A Bs.length c) ∧ Hid (Calls Tryz.prog 17 #[.slice A Bs.length c] w fun e w' => CopPost w Bs G e w') := by
  obtain ⟨v, hv, hR⟩ := h.given
  have hR2 := hR
  obtain ⟨rs, hbs, hgl, A0, c0, rfl, hA0, _, hL, _⟩ := hR2
  have hlen : rs.length = Bs.length := by rw [← hbs, List.length_map]
  rw [hlen] at hv hR
  exact ⟨A0, c0, hv, copyRegions_c _ Bs G _ w hR (fun b hb => by
    have := h.top
    rcases hb.1 with h1 | h1 <;> omega) hn (fun g hg => by have := hG g hg; omega)⟩

theorem regions_c {w : World} {p lo hi : Nat} {Bs : List Reg} {G D : List (List Int)} {q : Nat → Nat} (h : MemAt w p 0 lo hi Bs G D q) (hn : Bs.length ≤ 10) (hG : ∀ g ∈ G, g.length ≤ 65536) :
    Calls Tryz.prog 34 #[.pointer (some ⟨p, 0, none⟩)] w fun e w' => CopPost w Bs G e w' := by
  obtain ⟨A, c, hc, C⟩ := h.copied hn hG
  clear h hn
  have HG : Hid _ := hG
  clear hG
  go_enter Tryz.func34, Tryz.ntmps34
  go_wp2_with fail
  refine Calls.mono C.out ?_
  rintro e w2 ⟨A3, c3, rfl, hr3, hb3⟩
  have HE : Hid (CopPost w Bs G (.returned (.slice A3 Bs.length c3)) w2) := ⟨A3, c3, rfl, hr3, hb3⟩
  clear hr3 hb3
  go_wp2
  go_ret
  exact HE.out

/-- A copy is there. -/
def CopyPost (w : World) (Bs : List Reg) (G D : List (List Int)) (e : Ending) (w' : World) : Prop :=
  ∃ p q, e = .returned (.pointer (some ⟨p, 0, none⟩)) ∧ MemAt w' p 0 w.heap.size w'.heap.size Bs G D q ∧ Below w.heap.size w w'

end Go.Proofs.YtjhmmfpmmgebjaaGreat
namespace Go.Proofs.YtjhmmfpmmgebjaaGreat
open Go.ChangeShapes Go.WideShapes Go.ChangeAt Go.RowKit
set_option linter.unusedVariables false
set_option linter.unusedSimpArgs false

def strS (bs : List Int) : ByteArray := bs.foldl (fun r n => r.push (UInt8.ofNat n.toNat)) ByteArray.empty
/-- The bytes behind a slice, turned into a string. -/
theorem BL.str {w : World} {S : Nat → Prop} {v : Value} {bs : List Int} (h : BL w S v bs) : (convert 40 9 v).run Tryz.prog w = .ok (.string (strS bs)) w := by
  have h0 := h
  obtain ⟨_, A, c, rfl, hA, _⟩ := h
  rw [run_convert_bytes_string w 40 9 5 A bs.length c Tryz.underlying40 Tryz.underlying5 Tryz.underlying9]
  cases A with
  | none =>
    obtain ⟨rfl, rfl⟩ := hA rfl
    rfl
  | some A =>
    refine run_bytesToString w A bs.length c bs ?_
    have := run_loadCells_list (P := Tryz.prog) w A (cb bs) h0.news
    rw [cb_length] at this
    exact this

def eqRel (w : World) (n : Nat) (i : Value) (wr : World) : Prop := ∃ k : Nat, k ≤ n ∧ i = .int .i64 k ∧ Below w.heap.size w wr

end Go.Proofs.YtjhmmfpmmgebjaaGreat
namespace Go.Proofs.YtjhmmfpmmgebjaaGreat
open Go.ChangeShapes Go.WideShapes Go.ChangeAt Go.RowKit
set_option linter.unusedVariables false
set_option linter.unusedSimpArgs false
attribute [local go_sem ↓] Go.wp_at_zero Go.wp_at_succ

/-- Rows of bytes that lie behind a slice of slices. -/
def RW (w : World) (v : Value) (D : List (List Int)) : Prop :=
  ∃ A nb c, v = .slice A D.length c ∧ ∀ (i : Nat) (d : List Int), D[i]? = some d → A = some ⟨nb, 0, none⟩ ∧ ∃ A' c', w.cell? ⟨nb, i, none⟩ = some (.slice A' d.length c') ∧ BL w (fun b => b < w.heap.size) (.slice A' d.length c') d
theorem RW.below {w w' : World} {v : Value} {D : List (List Int)} (h : RW w v D) (hb : Below w.heap.size w w') : RW w' v D := by
  obtain ⟨A, nb, c, h1, h2⟩ := h
  refine ⟨A, nb, c, h1, fun i d hd => ?_⟩
  obtain ⟨e1, A', c', e2, e3⟩ := h2 i d hd
  exact ⟨e1, A', c', (hb.cell (World.block_lt_of_cell? w _ e2)).trans e2, (e3.below hb).mono fun b h => Nat.lt_of_lt_of_le h hb.size⟩
theorem MemAt.rw {w : World} {p l0 lo hi : Nat} {Bs : List Reg} {G D : List (List Int)} {q : Nat → Nat} (h : MemAt w p l0 lo hi Bs G D q) : ∃ v, w.cell? ⟨p, 1, none⟩ = some v ∧ RW w v D := by
  obtain ⟨A, nb, c, n1, n4⟩ := h.rowc
  refine ⟨_, n1, A, nb, c, rfl, fun i d hd => ?_⟩
  obtain ⟨e1, e2, cap, e3, e4⟩ := n4 i d hd
  exact ⟨e1, _, cap, e3, (BL.own e2 e4).mono fun b hb => hb.2⟩

def sameRel (w : World) (n : Nat) (i : Value) (wr : World) : Prop := ∃ k : Nat, k ≤ n ∧ i = .int .i64 k ∧ wr = w

end Go.Proofs.YtjhmmfpmmgebjaaGreat
namespace Go.Proofs.YtjhmmfpmmgebjaaGreat
open Go.ChangeShapes Go.WideShapes Go.ChangeAt Go.RowKit
set_option linter.unusedVariables false
set_option linter.unusedSimpArgs false

def seatBs (l1 l2 l3 l4 : Nat) : List Reg :=
  [⟨32768, 1024, true, false, true, false, none, l1, 0⟩, ⟨536870912, 256, true, true, false, false, none, l2, 0⟩, ⟨805306368, 128, true, true, false, true, none, l3, 0⟩, ⟨1073741824, 128, true, true, true, false, none, l4, 0⟩]
theorem seat_check {l1 l2 l3 l4 : Nat} (h1 : l1 ≤ 1024) (h2 : l2 ≤ 256) (h3 : l3 ≤ 128) (h4 : l4 ≤ 128) : checkS (regAt (seatBs l1 l2 l3 l4)) (seatBs l1 l2 l3 l4).length = 0 := by
  have e1 : (l1 : Int) ≤ 1024 := by omega
  have e2 : (l2 : Int) ≤ 256 := by omega
  have e3 : (l3 : Int) ≤ 128 := by omega
  have e4 : (l4 : Int) ≤ 128 := by omega
  simp [checkS, tooS, sumS, goodS, mayBeS, freeS, endS, regAt, seatBs, e1, e2, e3, e4]

/-- The seat's list is there. -/
def SeatPost (w : World) (b1 b2 b3 b4 : List Int) (e : Ending) (w' : World) : Prop :=
  e = .returned (.slice (some ⟨w.heap.size, 0, none⟩) 4 4) ∧ RL w' (fun b => b < w'.heap.size) (.slice (some ⟨w.heap.size, 0, none⟩) 4 4) (seatBs b1.length b2.length b3.length b4.length) [b1, b2, b3, b4] ∧ Below w.heap.size w w'

theorem bl_len {w : World} {S : Nat → Prop} {v : Value} {bs : List Int} (h : BL w S v bs) : ∃ A c, v = .slice A bs.length c := by
  obtain ⟨_, A, c, h, _⟩ := h
  exact ⟨A, c, h⟩

set_option maxHeartbeats 2000000 in
theorem seat_c (v1 v2 v3 v4 : Value) (b1 b2 b3 b4 : List Int) (w : World) (h1 : BL w (fun b => b < w.heap.size) v1 b1) (h2 : BL w (fun b => b < w.heap.size) v2 b2) (h3 : BL w (fun b => b < w.heap.size) v3 b3) (h4 : BL w (fun b => b < w.heap.size) v4 b4)
    (l1 : b1.length ≤ 1024) (l2 : b2.length ≤ 1024) (l3 : b3.length ≤ 1024) (l4 : b4.length ≤ 1024) :
    Calls Tryz.prog 7 #[v1, v2, v3, v4] w fun e w' => SeatPost w b1 b2 b3 b4 e w' := by
  obtain ⟨A1, c1, rfl⟩ := bl_len h1
  obtain ⟨A2, c2, rfl⟩ := bl_len h2
  obtain ⟨A3, c3, rfl⟩ := bl_len h3
  obtain ⟨A4, c4, rfl⟩ := bl_len h4
  have HE : Hid (∀ w', w' = w.alloc (Obj.cells #[.int .u32 32768, .int .u32 1024, .bool true, .bool false, .bool true, .bool false, .slice A1 b1.length c1,
      .int .u32 536870912, .int .u32 256, .bool true, .bool true, .bool false, .bool false, .slice A2 b2.length c2, .int .u32 805306368, .int .u32 128, .bool true, .bool true, .bool false, .bool true, .slice A3 b3.length c3,
      .int .u32 1073741824, .int .u32 128, .bool true, .bool true, .bool true, .bool false, .slice A4 b4.length c4] 67) → SeatPost w b1 b2 b3 b4 (.returned (.slice (some ⟨w.heap.size, 0, none⟩) 4 4)) w') := by
    intro w' hw
    have hb : Below w.heap.size w w' := by rw [hw]; exact (Below.refl _ _).alloc (Nat.le_refl _) _
    have hs : w'.heap.size = w.heap.size + 1 := by rw [hw, alloc_size']
    refine ⟨rfl, ⟨[⟨32768, 1024, true, false, true, false, A1, b1.length, c1⟩, ⟨536870912, 256, true, true, false, false, A2, b2.length, c2⟩, ⟨805306368, 128, true, true, false, true, A3, b3.length, c3⟩, ⟨1073741824, 128, true, true, true, false, A4, b4.length, c4⟩], rfl, rfl, some ⟨w.heap.size, 0, none⟩, 4, rfl, fun h => (by cases h), fun b o h _ => ?_, ⟨by simp, fun i hi => ?_⟩, fun i r g hr hg => ?_⟩, hb⟩
    · simp only [Option.some.injEq, Addr.mk.injEq, and_true] at h
      omega
    · have hi4 : i = 0 ∨ i = 1 ∨ i = 2 ∨ i = 3 := by simp at hi; omega
      rw [hw]
      rcases hi4 with rfl | rfl | rfl | rfl
      all_goals
        refine ⟨⟨by simp [regAt], by simp [regAt], by simp [regAt], by simp [regAt], by simp [regAt]; omega⟩, w.heap.size, 0, rfl, ?_⟩
        refine ⟨?_, ?_, ?_, ?_, ?_, ?_, ?_⟩ <;> (rw [World.cell?_alloc_new]; rfl)
    · have up : ∀ {v : Value} {bs : List Int}, BL w (fun b => b < w.heap.size) v bs → BL w' (fun b => b < w'.heap.size) v bs := fun h => (h.below hb).mono fun b h => by omega
      match i, hr, hg with
      | 0, hr, hg => simp at hr hg; subst hr; subst hg; exact ⟨rfl, up h1⟩
      | 1, hr, hg => simp at hr hg; subst hr; subst hg; exact ⟨rfl, up h2⟩
      | 2, hr, hg => simp at hr hg; subst hr; subst hg; exact ⟨rfl, up h3⟩
      | 3, hr, hg => simp at hr hg; subst hr; subst hg; exact ⟨rfl, up h4⟩
      | n + 4, hr, hg => simp at hr
  clear h1 h2 h3 h4 l1 l2 l3 l4
  go_enter Tryz.func7, Tryz.ntmps7
  go_wp2
  go_ret
  exact HE.out _ rfl

theorem bl_nil (w : World) (S : Nat → Prop) : BL w S (.slice none 0 0) [] := ⟨fun x hx => (by cases hx), none, 0, rfl, fun _ => ⟨rfl, rfl⟩, fun j x hx => (by simp at hx)⟩

/-- The list of one region that may not be. -/
theorem one_bad (w : World) : Calls Tryz.prog 6 #[.slice (some ⟨w.heap.size, 0, none⟩) 1 1] (w.alloc (Obj.cells #[.int .u32 0, .int .u32 0, .bool false, .bool false, .bool false, .bool false, .slice none 0 0] 67)) fun e w' =>
    e = .returned (.tuple #[.pointer none, .int .i64 23]) ∧ Below w.heap.size w w' := by
  have hb : Below w.heap.size w (w.alloc (Obj.cells #[.int .u32 0, .int .u32 0, .bool false, .bool false, .bool false, .bool false, .slice none 0 0] 67)) := (Below.refl _ _).alloc (Nat.le_refl _) _
  have hR : RL (w.alloc (Obj.cells #[.int .u32 0, .int .u32 0, .bool false, .bool false, .bool false, .bool false, .slice none 0 0] 67)) (fun _ => True) (.slice (some ⟨w.heap.size, 0, none⟩) 1 1) [noReg] [[]] := by
    refine ⟨[noReg], rfl, rfl, some ⟨w.heap.size, 0, none⟩, 1, rfl, fun h => (by cases h), fun _ _ _ _ => trivial, ⟨by decide, fun i hi => ⟨?_, w.heap.size, 0, rfl, ?_⟩⟩, fun i r g hr hg => ?_⟩
    · have : i = 0 := by simp at hi; omega
      subst this
      unfold Reg.wf regAt noReg
      decide
    · have : i = 0 := by simp at hi; omega
      subst this
      exact At7.new w noReg 67
    · match i, hr, hg with
      | 0, hr, hg => simp at hr hg; subst hr; subst hg; exact ⟨rfl, bl_nil _ _⟩
      | n + 1, hr, hg => simp at hr
  have h := new_bad _ [noReg] [[]] _ _ hR (by decide +kernel)
  · rw [show checkS (regAt [noReg]) [noReg].length = 23 by decide +kernel] at h
    exact h.mono fun e w' ⟨h1, h2⟩ => ⟨h1, hb.trans (h2.mono hb.size)⟩

theorem Mid.low {lo hi B : Nat} {w0 w w' : World} (h : Mid lo hi w w') (hb : Below B w0 w) (hB : B ≤ lo) (hl : lo ≤ w.heap.size) : Below B w0 w' := hb.trans ((h.below hl).mono hB)
end Go.Proofs.YtjhmmfpmmgebjaaGreat
namespace Go.Proofs.YtjhmmfpmmgebjaaGreat
open Go.ChangeShapes Go.WideShapes Go.ChangeAt Go.RowKit
set_option linter.unusedVariables false
set_option linter.unusedSimpArgs false

theorem seat_ram {l1 l2 l3 l4 : Nat} (hc : checkS (regAt (seatBs l1 l2 l3 l4)) (seatBs l1 l2 l3 l4).length = 0) {f : Nat} {s : Int} (hf : (f : Int) + widthS s ≤ 256) :
    findS (regAt (seatBs l1 l2 l3 l4)) (seatBs l1 l2 l3 l4).length (536870912 + f) s = some 1 := by
  have hw := widthS_cases s
  unfold findS
  rw [if_pos hc]
  refine firstS_hit _ _ _ (k := 1) (by simp [seatBs]) ?_ ?_
  · have : ¬ (536870912 + (f : Int) + widthS s ≤ 32768 + 1024) := by omega
    simp only [firstS, hitS, regAt, seatBs, List.getD]
    simp
    omega
  · simp only [hitS, regAt, seatBs, List.getD]
    simp
    omega
theorem seat_ram_may {l1 l2 l3 l4 : Nat} (hc : checkS (regAt (seatBs l1 l2 l3 l4)) (seatBs l1 l2 l3 l4).length = 0) {f : Nat} {s : Int} (hf : (f : Int) + widthS s ≤ 256) (ha : (f : Int) % widthS s = 0) (wr : Bool) :
    mayS (regAt (seatBs l1 l2 l3 l4)) (seatBs l1 l2 l3 l4).length (536870912 + f) s wr = 0 := by
  have h2 : (536870912 + (f : Int)) % widthS s = 0 := by rcases widthS_cases s with h | h | h <;> rw [h] at ha ⊢ <;> omega
  unfold mayS
  rw [seat_ram hc hf]
  simp only [hc, h2]
  cases wr <;> simp [regS, regAt, seatBs]
theorem gotS_ram {l1 l2 l3 l4 : Nat} (hc : checkS (regAt (seatBs l1 l2 l3 l4)) (seatBs l1 l2 l3 l4).length = 0) {D : List (List Int)} {d : List Int} (hd : D[1]? = some d) {f : Nat} {s : Int} (hf : (f : Int) + widthS s ≤ 256) (ha : (f : Int) % widthS s = 0) :
    gotS (seatBs l1 l2 l3 l4) D (536870912 + f) s = numS ((d.drop f).take (widthS s).toNat) := by
  unfold gotS loadS
  rw [seat_ram_may hc hf ha, if_pos rfl, seat_ram hc hf]
  have e1 : D.getD 1 [] = d := by simp [List.getD, hd]
  have e2 : (regAt (seatBs l1 l2 l3 l4) 1).fr = 536870912 := by simp [regAt, seatBs]
  simp only [e1, e2]
  rw [show (536870912 + (f : Int) - 536870912).toNat = f by omega]
theorem storeS_ram {l1 l2 l3 l4 : Nat} (hc : checkS (regAt (seatBs l1 l2 l3 l4)) (seatBs l1 l2 l3 l4).length = 0) {D : List (List Int)} {d : List Int} (hd : D[1]? = some d) {f : Nat} {s : Int} (hf : (f : Int) + widthS s ≤ 256) (ha : (f : Int) % widthS s = 0) (v : Int) :
    storeS (seatBs l1 l2 l3 l4) D (536870912 + f) s v = D.set 1 (putS d f v (widthS s).toNat) := by
  unfold storeS
  rw [seat_ram_may hc hf ha, if_pos rfl, seat_ram hc hf]
  have e1 : D.getD 1 [] = d := by simp [List.getD, hd]
  have e2 : (regAt (seatBs l1 l2 l3 l4) 1).fr = 536870912 := by simp [regAt, seatBs]
  simp only [e1, e2]
  rw [show (536870912 + (f : Int) - 536870912).toNat = f by omega]

theorem putS_off (d : List Int) (f : Nat) (v : Int) (k j : Nat) (h : j < f ∨ f + k ≤ j) : (putS d f v k)[j]? = d[j]? := by
  induction k with
  | zero => rfl
  | succ k ih =>
    rw [putS, List.getElem?_set_ne (by omega)]
    exact ih (by omega)
theorem putS_at (d : List Int) (f : Nat) (v : Int) (k j : Nat) (hj : j < k) (hf : f + j < d.length) : (putS d f v k)[f + j]? = some (v / 256 ^ j % 256) := by
  induction k with
  | zero => omega
  | succ k ih =>
    rw [putS]
    by_cases h : j = k
    · subst h
      rw [List.getElem?_set_self (by rw [putS_length]; exact hf)]
    · rw [List.getElem?_set_ne (by omega)]
      exact ih (by omega)

theorem num1 {d : List Int} {f : Nat} {x : Int} (h : d[f]? = some x) : numS ((d.drop f).take 1) = x := by
  have e : (d.drop f).take 1 = [x] := by
    obtain ⟨hl, rfl⟩ := List.getElem?_eq_some_iff.1 h
    rw [List.drop_eq_getElem_cons hl]
    rfl
  rw [e]
  simp [numS]
theorem take_next {d : List Int} {f n : Nat} {x : Int} (h : d[f]? = some x) : (d.drop f).take (n + 1) = x :: (d.drop (f + 1)).take n := by
  obtain ⟨hl, rfl⟩ := List.getElem?_eq_some_iff.1 h
  rw [List.drop_eq_getElem_cons hl, List.take_succ_cons]
theorem num2 {d : List Int} {f : Nat} {x y : Int} (h0 : d[f]? = some x) (h1 : d[f + 1]? = some y) : numS ((d.drop f).take 2) = x + 256 * y := by
  rw [take_next h0]
  show x + 256 * numS _ = _
  rw [num1 h1]
theorem num4 {d : List Int} {f : Nat} {x y z t : Int} (h0 : d[f]? = some x) (h1 : d[f + 1]? = some y) (h2 : d[f + 2]? = some z) (h3 : d[f + 3]? = some t) : numS ((d.drop f).take 4) = x + 256 * y + 65536 * z + 16777216 * t := by
  rw [take_next h0]
  show x + 256 * numS _ = _
  rw [take_next h1]
  show x + 256 * (y + 256 * numS _) = _
  rw [num2 h2 h3]
  omega

theorem nat_or255 (v i : Nat) : v ||| (255 <<< i) = (v / 2 ^ (i + 8)) * 2 ^ (i + 8) + 255 * 2 ^ i + v % 2 ^ i := by
  have hp : 0 < 2 ^ i := Nat.pos_of_ne_zero (by simp)
  have h1 : v = (v / 2 ^ i) <<< i ||| v % 2 ^ i := by
    rw [← Nat.shiftLeft_add_eq_or_of_lt (Nat.mod_lt _ hp), Nat.shiftLeft_eq, Nat.mul_comm]
    exact (Nat.div_add_mod v (2 ^ i)).symm
  have h2 : v / 2 ^ i = (v / 2 ^ i / 256) <<< 8 ||| v / 2 ^ i % 256 := by
    rw [← Nat.shiftLeft_add_eq_or_of_lt (Nat.mod_lt _ (by decide)), Nat.shiftLeft_eq, Nat.mul_comm]
    exact (Nat.div_add_mod _ 256).symm
  have h3 : ∀ b, b < 256 → b ||| 255 = 255 := by decide +kernel
  have h4 : v ||| (255 <<< i) = ((v / 2 ^ i / 256) <<< 8 ||| 255) <<< i ||| v % 2 ^ i := by
    conv => lhs; rw [h1]
    rw [Nat.or_assoc, Nat.or_comm (v % 2 ^ i), ← Nat.or_assoc, ← Nat.shiftLeft_or_distrib]
    conv => lhs; rw [h2]
    rw [Nat.or_assoc, h3 _ (Nat.mod_lt _ (by decide))]
  rw [h4, ← Nat.shiftLeft_add_eq_or_of_lt (Nat.mod_lt _ hp), ← Nat.shiftLeft_add_eq_or_of_lt (by decide), Nat.shiftLeft_eq, Nat.shiftLeft_eq, Nat.add_mul, Nat.div_div_eq_div_mul, Nat.pow_add]
  rw [Nat.mul_comm (2 ^ i) (2 ^ 8), Nat.mul_assoc, Nat.mul_comm (2 ^ 8) (2 ^ i)]

theorem or255 (v : Int) (v0 : 0 ≤ v) (v1 : v ≤ 4294967295) : bits .or .u32 v 255 = v / 256 * 256 + 255 ∧ bits .or .u32 v 65280 = v / 65536 * 65536 + 65280 + v % 256 ∧
    bits .or .u32 v 16711680 = v / 16777216 * 16777216 + 16711680 + v % 65536 ∧ bits .or .u32 v 4278190080 = 4278190080 + v % 16777216 := by
  obtain ⟨V, rfl⟩ := Int.eq_ofNat_of_zero_le v0
  have key : ∀ i : Nat, ∀ m : Nat, 255 <<< i = m → m < 4294967296 → bits .or .u32 (V : Int) (m : Int) = (((V / 2 ^ (i + 8)) * 2 ^ (i + 8) + 255 * 2 ^ i + V % 2 ^ i : Nat) : Int) := fun i m hm hlt => by
    rw [u32_or _ _ v0 (by omega) (by omega) (by omega)]
    simp only [Int.toNat_natCast]
    rw [← hm, nat_or255]
  have k0 := key 0 255 rfl (by decide)
  have k1 := key 8 65280 rfl (by decide)
  have k2 := key 16 16711680 rfl (by decide)
  have k3 := key 24 4278190080 rfl (by decide)
  simp at k0 k1 k2 k3
  refine ⟨?_, ?_, ?_, ?_⟩
  · rw [k0]; try omega
  · rw [k1]; try omega
  · rw [k2]; try omega
  · rw [k3]; try omega
theorem and255 (v : Int) (v0 : 0 ≤ v) (v1 : v ≤ 4294967295) : bits .and .u32 v 255 = v % 256 := by
  rw [u32_and _ _ v0 (by omega) (by omega) (by omega)]
  have := Nat.and_two_pow_sub_one_eq_mod v.toNat 8
  rw [show (255 : Int).toNat = 2 ^ 8 - 1 from rfl, this]
  omega
theorem and65535 (v : Int) (v0 : 0 ≤ v) (v1 : v ≤ 4294967295) : bits .and .u32 v 65535 = v % 65536 := by
  rw [u32_and _ _ v0 (by omega) (by omega) (by omega)]
  have := Nat.and_two_pow_sub_one_eq_mod v.toNat 16
  rw [show (65535 : Int).toNat = 2 ^ 16 - 1 from rfl, this]
  omega
end Go.Proofs.YtjhmmfpmmgebjaaGreat
