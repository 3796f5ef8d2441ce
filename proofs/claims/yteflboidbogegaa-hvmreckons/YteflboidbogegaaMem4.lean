/- mem's small functions: width, number, room; Load, Half: walked. -/
import Derived.Test.YteflboidbogegaaMem3
import Derived.Test.YteflboidbogegaaPure3
namespace Go.Proofs.Yteflboidbogegaa
open Go.ChangeShapes Go.WideShapes Go.ChangeAt Go.RowKit
set_option linter.unusedVariables false
set_option linter.unusedSimpArgs false

theorem mwidth_c (s : Int) (w : World) : Calls Try.prog 100 #[.int .u32 s] w fun e w' => e = .returned (.int .u32 (widthS s)) ∧ w' = w := by
  unfold widthS
  by_cases h1 : s = 1
  · go_enter Try.func100, Try.ntmps100
    go_wp2
    go_ret
    exact ⟨by simp [h1], rfl⟩
  · by_cases h2 : s = 2
    · go_enter Try.func100, Try.ntmps100
      go_wp2
      go_ret
      exact ⟨by simp [h2], rfl⟩
    · have h1' : (s == 1) = false := by simpa using h1
      have h2' : (s == 2) = false := by simpa using h2
      rw [if_neg (by omega)]
      go_enter Try.func100, Try.ntmps100
      go_wp2
      go_ret
      exact ⟨rfl, rfl⟩

def numS : List Int → Int
  | [] => 0
  | x :: t => x + 256 * numS t
theorem numS_snoc (l : List Int) (x : Int) : numS (l ++ [x]) = numS l + x * 256 ^ l.length := by
  induction l with
  | nil => simp [numS]
  | cons y t ih =>
    simp only [List.cons_append, numS, ih, List.length_cons, Int.pow_succ]
    rw [Int.mul_add, Int.add_assoc]
    congr 2
    rw [← Int.mul_assoc, Int.mul_comm 256 x, Int.mul_assoc, Int.mul_comm 256]
theorem numS_bounds {l : List Int} (h : okB l) : 0 ≤ numS l ∧ numS l < 256 ^ l.length := by
  induction l with
  | nil => simp [numS]
  | cons y t ih =>
    have h1 := ih (fun x hx => h x (List.mem_cons_of_mem _ hx))
    have h2 := h y List.mem_cons_self
    simp only [numS, List.length_cons, Int.pow_succ]
    omega
theorem take_snoc {l : List Int} {k : Nat} {x : Int} (h : l[k]? = some x) : l.take (k + 1) = l.take k ++ [x] := by
  rw [List.take_add_one, h]
  rfl

theorem or_low (i : Nat) (v X : Int) (v0 : 0 ≤ v) (v1 : v < 2 ^ i) (x0 : 0 ≤ X) (x1 : X < 4294967296) (hx : X % 2 ^ i = 0) (v2 : v < 4294967296) : bits .or .u32 v X = v + X := by
  have h := or_join32 i X v x0 x1 v0 hx v1 v2
  rw [u32_or X v x0 x1 v0 v2] at h
  rw [u32_or v X v0 v2 x0 x1, Nat.or_comm, h, Int.add_comm]

def numRel (w : World) (bs : List Int) (v i : Value) (wr : World) : Prop := ∃ k : Nat, k ≤ bs.length ∧ v = .int .u32 (numS (bs.take k)) ∧ i = .int .i64 k ∧ wr = w

set_option maxHeartbeats 2000000 in
theorem number_c (b o c : Nat) (bs : List Int) (w : World) (h0 : okB bs) (hn : bs.length ≤ 4) (hc : ∀ j x, bs[j]? = some x → w.cell? ⟨b, o + j, none⟩ = some (.int .u8 x)) :
    Calls Try.prog 98 #[.slice (some ⟨b, o, none⟩) bs.length c] w fun e w' => e = .returned (.int .u32 (numS bs)) ∧ w' = w := by
  have H0 : Hid (okB bs) := h0
  have HC : Hid (∀ j x, bs[j]? = some x → w.cell? ⟨b, o + j, none⟩ = some (.int .u8 x)) := hc
  clear h0 hc
  go_enter Try.func98, Try.ntmps98
  go_wp2_with fail
  go_loopw [3, 8] (fun v i wr => numRel w bs v i wr) (fun _ i _ => bs.length - (intOf i).toNat)
  case atStart => exact ⟨0, Nat.zero_le _, by simp [numS], rfl, rfl⟩
  case round =>
    obtain ⟨k, hk, rfl, rfl, hw⟩ := hrel
    replace hw := hw.symm
    subst hw
    have hb := numS_bounds (l := bs.take k) (fun x hx => H0.out x (List.mem_of_mem_take hx))
    have hlk : (bs.take k).length = k := by simp; omega
    rw [hlk] at hb
    by_cases hkn : k < bs.length
    · have hkn' : (k : Int) < bs.length := by omega
      obtain ⟨x, hx⟩ : ∃ x, bs[k]? = some x := ⟨bs[k], by simp [hkn]⟩
      have hcx := HC.out k x hx
      have hxr := H0.out x (List.mem_of_getElem? hx)
      have hnx : numS (bs.take (k + 1)) = numS (bs.take k) + x * 256 ^ k := by rw [take_snoc hx, numS_snoc, hlk]
      have HNX : Hid _ := hnx
      obtain ⟨x0, x1⟩ := hxr
      obtain ⟨b0, b1⟩ := hb
      obtain ⟨V, hV⟩ : ∃ V, V = numS (bs.take k) := ⟨_, rfl⟩
      rw [← hV] at b0 b1
      have HV : Hid _ := hV
      rw [← hV]
      clear hnx hV hlk
      have h4 : k = 0 ∨ k = 1 ∨ k = 2 ∨ k = 3 := by omega
      rcases h4 with rfl | rfl | rfl | rfl
      · have e0 : (256 : Int) ^ 0 = 1 := by decide
        rw [e0] at b1
        have HG : Hid (numS (bs.take (0 + 1)) = bits .or .u32 V x) := by
          show _ = _
          rw [HNX.out, ← HV.out, e0, or_low 0 V x b0 (by simpa using b1) (by omega) (by omega) (by omega) (by omega)]
          try simp
        clear e0 b1
        try simp only [Nat.add_zero] at hcx
        go_wp2
        refine ⟨⟨0 + 1, hkn, by rw [HG.out], rfl, rfl⟩, ?_⟩
        simp [intOf]
        omega
      · have e1 : (256 : Int) ^ 1 = 256 := by decide
        rw [e1] at b1
        have HG : Hid (numS (bs.take (1 + 1)) = bits .or .u32 V (x * 256)) := by
          show _ = _
          rw [HNX.out, ← HV.out, e1, or_low 8 V (x * 256) b0 (by simpa using b1) (by omega) (by omega) (by omega) (by omega)]
          try simp
        clear e1 b1
        try simp only [Nat.add_zero] at hcx
        go_wp2
        refine ⟨⟨1 + 1, hkn, by rw [HG.out], rfl, rfl⟩, ?_⟩
        simp [intOf]
        omega
      · have e2 : (256 : Int) ^ 2 = 65536 := by decide
        rw [e2] at b1
        have HG : Hid (numS (bs.take (2 + 1)) = bits .or .u32 V (x * 65536)) := by
          show _ = _
          rw [HNX.out, ← HV.out, e2, or_low 16 V (x * 65536) b0 (by simpa using b1) (by omega) (by omega) (by omega) (by omega)]
          try simp
        clear e2 b1
        try simp only [Nat.add_zero] at hcx
        go_wp2
        refine ⟨⟨2 + 1, hkn, by rw [HG.out], rfl, rfl⟩, ?_⟩
        simp [intOf]
        omega
      · have e3 : (256 : Int) ^ 3 = 16777216 := by decide
        rw [e3] at b1
        have HG : Hid (numS (bs.take (3 + 1)) = bits .or .u32 V (x * 16777216)) := by
          show _ = _
          rw [HNX.out, ← HV.out, e3, or_low 24 V (x * 16777216) b0 (by simpa using b1) (by omega) (by omega) (by omega) (by omega)]
          try simp
        clear e3 b1
        try simp only [Nat.add_zero] at hcx
        go_wp2
        refine ⟨⟨3 + 1, hkn, by rw [HG.out], rfl, rfl⟩, ?_⟩
        simp [intOf]
        omega
    · have kn : k = bs.length := by omega
      have kn' : ¬ (k : Int) < bs.length := by omega
      have HT : Hid (numS (bs.take k) = numS bs) := by show _ = _; rw [kn, List.take_length]
      clear kn
      go_wp2
      go_ret
      exact ⟨by rw [HT.out]; rfl, rfl⟩

theorem findS_spec {R : Nat → Reg} {n i : Nat} {a s : Int} (h : findS R n a s = some i) : i < n ∧ checkS R n = 0 ∧ (R i).fr ≤ a ∧ a + widthS s ≤ (R i).fr + (R i).ln := by
  unfold findS at h
  split at h
  · rename_i hc
    obtain ⟨h1, h2⟩ := firstS_lt R _ _ h
    simp only [hitS, Bool.and_eq_true, decide_eq_true_eq] at h2
    exact ⟨h1, hc, h2.1, h2.2⟩
  · cases h
theorem widthS_cases (s : Int) : widthS s = 1 ∨ widthS s = 2 ∨ widthS s = 4 := by
  unfold widthS
  split <;> omega
theorem widthS_twice (s : Int) : widthS (widthS s) = widthS s := by
  rcases widthS_cases s with h | h | h <;> rw [h] <;> decide
theorem findS_width (R : Nat → Reg) (n : Nat) (a s : Int) : findS R n a (widthS s) = findS R n a s := by simp only [findS, widthS_twice]

/-- What is known of the row in which an address lies. -/
structure Hit (w : World) (p l0 lo hi : Nat) (Bs : List Reg) (G D : List (List Int)) (q : Nat → Nat) (a s : Int) (i f : Nat) (d : List Int) (nb cn cap : Nat) : Prop where
  ilt : i < Bs.length
  row : D[i]? = some d
  okd : okB d
  aeq : a = (regAt Bs i).fr + f
  fit : (f : Int) + s ≤ d.length
  small : d.length ≤ 65536
  nowc : w.cell? ⟨p, 1, none⟩ = some (.slice (some ⟨nb, 0, none⟩) Bs.length cn)
  rowc : w.cell? ⟨nb, i, none⟩ = some (.slice (some ⟨q i, 0, none⟩) d.length cap)
  own : w.ownsRow lo 5 1 (.slice (some ⟨q i, 0, none⟩) d.length cap) d.length (cb d)
  qhi : lo ≤ q i ∧ q i < hi
theorem MemAt.hit {w : World} {p l0 lo hi : Nat} {Bs : List Reg} {G D : List (List Int)} {q : Nat → Nat} (h : MemAt w p l0 lo hi Bs G D q) {a s : Int} {i : Nat} (hf : findS (regAt Bs) Bs.length a s = some i) :
    ∃ f d nb cn cap, Hit w p l0 lo hi Bs G D q a (widthS s) i f d nb cn cap := by
  obtain ⟨h1, h2, h3, h4⟩ := findS_spec hf
  obtain ⟨v, hv, rs, hbs, hgl, A0, c0, _, _, _, hL, _⟩ := h.given
  obtain ⟨A, nb, c, n1, n2, n3, n4⟩ := h.now
  have hne : Bs ≠ [] := by intro e; rw [e] at h1; exact absurd h1 (Nat.not_lt_zero _)
  have hri : Bs[i]? = some (regAt Bs i) := by simp [regAt, List.getD, h1]
  have hlen : rs.length = Bs.length := by rw [← hbs, List.length_map]
  have hok := check_ok (R := regAt rs) (n := rs.length) (by rw [← hbs, regAt_bare, List.length_map, checkS_bare] at h2; exact h2) (fun j hj => (hL.2 j hj).1)
  have hok2 := hok.2 i (by omega)
  have hln : (regAt Bs i).ln = (regAt rs i).ln := by rw [← hbs, regAt_bare]; rfl
  obtain ⟨d, hd⟩ : ∃ d, D[i]? = some d := ⟨D[i]'(by rw [h.len]; exact h1), by simp⟩
  obtain ⟨m1, m2, m3, cap, m4, m5⟩ := n4 i d _ hd hri
  obtain ⟨rfl, _⟩ := n3 hne
  have hq := (m5.lt (q i) rfl).1
  exact ⟨(a - (regAt Bs i).fr).toNat, d, nb, c, cap, h1, hd, m1, by omega, by omega, by omega, n1, m4, m5, hq, m3⟩

set_option maxHeartbeats 4000000 in
theorem room_c {w : World} {p l0 lo hi : Nat} {Bs : List Reg} {G D : List (List Int)} {q : Nat → Nat} (h : MemAt w p l0 lo hi Bs G D q) {a s : Int} (ha : 0 ≤ a) (ha' : a ≤ 4294967295) (hs : widthS s = s)
    {i f : Nat} {d : List Int} {nb cn cap : Nat} (hf : findS (regAt Bs) Bs.length a s = some i) (hh : Hit w p l0 lo hi Bs G D q a s i f d nb cn cap) :
    Calls Try.prog 99 #[.pointer (some ⟨p, 0, none⟩), .int .u32 a, .int .u32 s] w fun e w' => e = .returned (.slice (some ⟨q i, f, none⟩) s.toNat (cap - f)) ∧ Below w.heap.size w w' := by
  obtain ⟨v, hv, rs, hbs, hgl, A0, c0, rfl, hA0, _, hL, _⟩ := h.given
  obtain ⟨h1, h2, h3, h4, h5, h6, h7, h8, h9, h10, h11⟩ := hh
  have hlen : rs.length = Bs.length := by rw [← hbs, List.length_map]
  have hfr : findS (regAt rs) rs.length a s = some i := by rw [← hbs, regAt_bare, List.length_map, findS_bare] at hf; exact hf
  have F := find_c A0 rs.length c0 (regAt rs) a s ha ha' w hL
  rw [hfr] at F
  simp only [Option.getD_some, Option.isSome_some] at F
  obtain ⟨hwf, b, o, rfl, h7r⟩ := hL.2 i (by omega)
  have hfe : (regAt Bs i).fr = (regAt rs i).fr := by rw [← hbs, regAt_bare]; rfl
  have hcap : d.length ≤ cap := by
    obtain ⟨_, ⟨h, _⟩ | ⟨g, cp, cur, h, _, _, hcp, _⟩⟩ := h9
    · cases h
    · simp only [Value.slice.injEq, true_and] at h
      omega
  obtain ⟨S, hS⟩ : ∃ S : Nat, s = S := ⟨s.toNat, by have := widthS_cases s; omega⟩
  subst hS
  have hS3 : S = 1 ∨ S = 2 ∨ S = 4 := by have := widthS_cases (S : Int); omega
  rw [hfe] at h4
  have c0' := h7r.1
  have hi0 : (0 : Int) ≤ i := Int.natCast_nonneg _
  have hi1 : (i : Int) < Bs.length := by omega
  have hi2 : (i : Int) < rs.length := by omega
  rw [hlen] at F hv
  have HF : Hid _ := F
  have HH : Hid (b < w.heap.size ∧ p < w.heap.size ∧ nb < w.heap.size) := ⟨h7r.lt, World.block_lt_of_cell? w _ hv, World.block_lt_of_cell? w _ h8⟩
  simp only [Int.toNat_natCast]
  obtain ⟨FR, hFR⟩ : ∃ FR, FR = (regAt rs i).fr := ⟨_, rfl⟩
  rw [← hFR] at c0' h4
  have hFR0 : 0 ≤ FR := by rw [hFR]; exact hwf.1
  clear F hfr hf hbs hA0 hgl hL h7r h9 h10 h11 h3 h2 h hfe hwf hFR hs hi2 hlen
  subst h4
  go_enter Try.func99, Try.ntmps99
  go_wp2_with fail
  refine Calls.mono HF.out ?_
  rintro e w1 ⟨rfl, hw1⟩
  have e1 : w1.cell? ⟨p, 0, none⟩ = _ := (hw1.cell HH.out.2.1).trans hv
  have e2 : w1.cell? ⟨p, 1, none⟩ = _ := (hw1.cell HH.out.2.1).trans h7
  have e3 : w1.cell? ⟨nb, i, none⟩ = _ := (hw1.cell HH.out.2.2).trans h8
  have e4 : w1.cell? ⟨b, o + i * 7, none⟩ = _ := (hw1.cell HH.out.1).trans c0'
  have HB : Hid _ := hw1
  clear hw1 hv h7 h8 c0'
  go_wp2
  go_ret
  refine ⟨?_, HB.out⟩
  show Ending.returned (.slice (some ⟨q i, (FR + f - FR).toNat, none⟩) ((FR + f - FR + S).toNat - (FR + f - FR).toNat) (cap - (FR + f - FR).toNat)) = _
  rw [show FR + (f : Int) - FR = f by omega, Int.toNat_natCast, show ((f : Int) + S).toNat - f = S by omega]

def loadS (Bs : List Reg) (D : List (List Int)) (a s : Int) : Int :=
  match findS (regAt Bs) Bs.length a s with
  | some i => numS (((D.getD i []).drop (a - (regAt Bs i).fr).toNat).take (widthS s).toNat)
  | none => 0

theorem may_find {R : Nat → Reg} {n : Nat} {a s : Int} {wr : Bool} (h : mayS R n a s wr = 0) : ∃ i, findS R n a s = some i := by
  cases hf : findS R n a s with
  | some i => exact ⟨i, rfl⟩
  | none =>
    exfalso
    unfold mayS at h
    rw [hf] at h
    simp only [Option.isSome_none, Bool.false_and] at h
    split at h
    · cases h
    · split at h
      · cases h
      · simp at h
theorem exec_find {R : Nat → Reg} {n : Nat} {a : Int} (h : execS R n a = 0) : ∃ i, findS R n a 2 = some i := by
  cases hf : findS R n a 2 with
  | some i => exact ⟨i, rfl⟩
  | none =>
    exfalso
    unfold execS at h
    rw [hf] at h
    simp at h

theorem MemAt.may {w : World} {p l0 lo hi : Nat} {Bs : List Reg} {G D : List (List Int)} {q : Nat → Nat} (h : MemAt w p l0 lo hi Bs G D q) {a : Int} (s : Int) (ha : 0 ≤ a) (ha' : a ≤ 4294967295) (wri : Bool) :
    ∃ A c, w.cell? ⟨p, 0, none⟩ = some (.slice A Bs.length c) ∧ Hid (Calls Try.prog 97 #[.slice A Bs.length c, .int .u32 a, .int .u32 s, .bool wri] w fun e w' => e = .returned (.int .i64 (mayS (regAt Bs) Bs.length a s wri)) ∧ Below w.heap.size w w') := by
  obtain ⟨v, hv, rs, hbs, hgl, A0, c0, rfl, hA0, _, hL, _⟩ := h.given
  have hlen : rs.length = Bs.length := by rw [← hbs, List.length_map]
  have F := may_c A0 rs.length c0 (regAt rs) a s ha ha' wri w hL
  rw [← mayS_bare (regAt rs), ← regAt_bare, hbs, hlen] at F
  rw [hlen] at hv
  exact ⟨A0, c0, hv, F⟩
/-- The bytes of a hit, as number reads them. -/
theorem Hit.number {w w' : World} {p l0 lo hi : Nat} {Bs : List Reg} {G D : List (List Int)} {q : Nat → Nat} {a s : Int} {i f : Nat} {d : List Int} {nb cn cap : Nat} (h : Hit w p l0 lo hi Bs G D q a s i f d nb cn cap)
    (hb : Below w.heap.size w w') (c : Nat) (hs : s = 1 ∨ s = 2 ∨ s = 4) :
    Calls Try.prog 98 #[.slice (some ⟨q i, f, none⟩) s.toNat c] w' fun e w2 => e = .returned (.int .u32 (numS ((d.drop f).take s.toNat))) ∧ w2 = w' := by
  have h5 := h.fit
  have hl : ((d.drop f).take s.toNat).length = s.toNat := by
    simp only [List.length_take, List.length_drop]
    omega
  have hN := number_c (q i) f c ((d.drop f).take s.toNat) w' (fun x hx => h.okd x (List.mem_of_mem_drop (List.mem_of_mem_take hx))) (by rw [hl]; omega) (fun j x hx => by
    have hj : j < s.toNat := by
      have := (List.getElem?_eq_some_iff.1 hx).1
      omega
    rw [List.getElem?_take_of_lt hj, List.getElem?_drop] at hx
    have hc := h.own.cellAt (f + j) (by have := (List.getElem?_eq_some_iff.1 hx).1; omega)
    rw [cb_at, hx] at hc
    exact (hb.cell (p := ⟨q i, f + j, none⟩) (World.block_lt_of_cell? w _ hc)).trans hc)
  rw [hl] at hN
  exact hN

def gotS (Bs : List Reg) (D : List (List Int)) (a s : Int) : Int := if mayS (regAt Bs) Bs.length a s false = 0 then loadS Bs D a s else 0

theorem Hit.load {w : World} {p l0 lo hi : Nat} {Bs : List Reg} {G D : List (List Int)} {q : Nat → Nat} {a s : Int} {i f : Nat} {d : List Int} {nb cn cap : Nat} (h : Hit w p l0 lo hi Bs G D q a (widthS s) i f d nb cn cap) (hf : findS (regAt Bs) Bs.length a s = some i) :
    loadS Bs D a s = numS ((d.drop f).take (widthS s).toNat) := by
  unfold loadS
  rw [hf]
  have h4 := h.aeq
  have e1 : D.getD i [] = d := by simp [List.getD, h.row]
  simp only [e1]
  rw [show (a - (regAt Bs i).fr).toNat = f by omega]

set_option maxHeartbeats 2000000 in
theorem load_c {w : World} {p l0 lo hi : Nat} {Bs : List Reg} {G D : List (List Int)} {q : Nat → Nat} (h : MemAt w p l0 lo hi Bs G D q) (a s : Int) (ha : 0 ≤ a) (ha' : a ≤ 4294967295) :
    Calls Try.prog 89 #[.pointer (some ⟨p, 0, none⟩), .int .u32 a, .int .u32 s] w fun e w' => e = .returned (.tuple #[.int .u32 (gotS Bs D a s), .int .i64 (mayS (regAt Bs) Bs.length a s false)]) ∧ Below w.heap.size w w' := by
  obtain ⟨A, c, hc, C⟩ := h.may s ha ha' false
  by_cases hm : mayS (regAt Bs) Bs.length a s false = 0
  · obtain ⟨i, hf⟩ := may_find hm
    have hf2 : findS (regAt Bs) Bs.length a (widthS s) = some i := by rw [findS_width]; exact hf
    have hg : gotS Bs D a s = loadS Bs D a s := by simp [gotS, hm]
    rw [hg, hm]
    rw [hm] at C
    have H : Hid _ := h
    obtain ⟨f, d, nb, cn, cap, hh⟩ := h.hit hf
    rw [hh.load hf]
    have HH : Hid (∀ w1, Below w.heap.size w w1 → Calls Try.prog 99 #[.pointer (some ⟨p, 0, none⟩), .int .u32 a, .int .u32 (widthS s)] w1 fun e w' => e = .returned (.slice (some ⟨q i, f, none⟩) (widthS s).toNat (cap - f)) ∧ Below w1.heap.size w1 w') := fun w1 hb => by
      refine room_c (h.below hb) ha ha' (widthS_twice s) hf2 ⟨hh.ilt, hh.row, hh.okd, hh.aeq, hh.fit, hh.small, (hb.cell (World.block_lt_of_cell? w _ hh.nowc)).trans hh.nowc, (hb.cell (World.block_lt_of_cell? w _ hh.rowc)).trans hh.rowc, own_kept hh.own (hb.block _ (hh.own.lt _ rfl).2), hh.qhi⟩
    have HN : Hid _ := hh
    clear h hf hf2 hg hh hm
    have W : Hid _ := fun (w : World) => mwidth_c s w
    go_enter Try.func89, Try.ntmps89
    go_wp2_with fail
    refine Calls.mono C.out ?_
    rintro e w1 ⟨rfl, hw1⟩
    have HB1 : Hid _ := hw1
    clear hw1
    go_wp2_with fail
    refine (W.out _).mono ?_
    rintro e w2 ⟨rfl, hw2⟩
    replace hw2 := hw2.symm
    subst hw2
    go_wp2_with fail
    refine (HH.out _ HB1.out).mono ?_
    rintro e w3 ⟨rfl, hw3⟩
    have HB3 : Hid (Below w.heap.size w w3) := HB1.out.trans (hw3.mono HB1.out.size)
    clear hw3
    go_wp2_with fail
    refine (Hit.number HN.out HB3.out _ (widthS_cases s)).mono ?_
    rintro e w4 ⟨rfl, hw4⟩
    replace hw4 := hw4.symm
    subst hw4
    go_wp2
    go_ret2
    exact ⟨rfl, HB3.out⟩
  · have hg : gotS Bs D a s = 0 := by simp [gotS, hm]
    rw [hg]
    have hm' : (mayS (regAt Bs) Bs.length a s false == 0) = false := by simpa using hm
    clear h hg
    go_enter Try.func89, Try.ntmps89
    go_wp2_with fail
    refine Calls.mono C.out ?_
    rintro e w1 ⟨rfl, hw1⟩
    go_wp2
    go_ret2
    exact ⟨rfl, hw1⟩

def halfS (Bs : List Reg) (D : List (List Int)) (a : Int) : Int := if execS (regAt Bs) Bs.length a = 0 then loadS Bs D a 2 else 0

end Go.Proofs.Yteflboidbogegaa
