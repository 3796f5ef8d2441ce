/- Stage 12: StateTells. -/
import Derived.Test.YtabipgncbbjcgaaSt1
import Derived.Test.YtabipgncbbjcgaaSt8
namespace Go.Proofs.Ytabipgncbbjcgaa
open Go.ChangeShapes Go.WideShapes Go.ChangeAt Go.RowKit
set_option linter.unusedVariables false
set_option linter.unusedSimpArgs false

theorem wpAnyH_mono {P : Program} {ops : Array Oper} {Q : Exit → Act → World → Prop} {md : Region.Mode} {S S' : World → Prop} (hS : ∀ w, S' w → S w) : ∀ (fuel : Nat) (listed : Array Bool) (a : Act) (w : World), wpAnyH P md ops Q S' fuel listed a w → wpAnyH P md ops Q S fuel listed a w
  | 0, _, _, _, h => h
  | fuel + 1, _, _, _, h => ⟨h.1, fun i hi => wpOp_mono (fun a' w' h' => ⟨hS _ h'.1, wpAnyH_mono hS fuel _ a' w' h'.2⟩) (h.2 i hi)⟩
theorem len16 {r : List Int} (h : r.length = 16) : ∃ x0 x1 x2 x3 x4 x5 x6 x7 x8 x9 x10 x11 x12 x13 x14 x15, r = [x0, x1, x2, x3, x4, x5, x6, x7, x8, x9, x10, x11, x12, x13, x14, x15] := by
  rcases r with _ | ⟨x0, _ | ⟨x1, _ | ⟨x2, _ | ⟨x3, _ | ⟨x4, _ | ⟨x5, _ | ⟨x6, _ | ⟨x7, _ | ⟨x8, _ | ⟨x9, _ | ⟨x10, _ | ⟨x11, _ | ⟨x12, _ | ⟨x13, _ | ⟨x14, _ | ⟨x15, _ | ⟨x16, r⟩⟩⟩⟩⟩⟩⟩⟩⟩⟩⟩⟩⟩⟩⟩⟩⟩ <;> first | exact ⟨_, _, _, _, _, _, _, _, _, _, _, _, _, _, _, _, rfl⟩ | (simp at h; done) | (simp at h; omega)
theorem build4 (a b c d : SV) (ha : a.r.length = 16) (hb : b.r.length = 16) (hc : c.r.length = 16) (hd : d.r.length = 16) (w : World) : (Instr.buildSlice 28 4 #[(0, a.val), (1, b.val), (2, c.val), (3, d.val)]).run Try.prog w = .ok (.slice (some ⟨w.heap.size, 0, none⟩) 4 4) (w.alloc (.cells (a.cs ++ (b.cs ++ (c.cs ++ d.cs))).toArray 25)) := by
  obtain ⟨a0, a1, a2, a3, a4, a5, a6, a7, a8, a9, a10, a11, a12, a13, a14, a15, ea⟩ := len16 ha
  obtain ⟨b0, b1, b2, b3, b4, b5, b6, b7, b8, b9, b10, b11, b12, b13, b14, b15, eb⟩ := len16 hb
  obtain ⟨c0, c1, c2, c3, c4, c5, c6, c7, c8, c9, c10, c11, c12, c13, c14, c15, ec⟩ := len16 hc
  obtain ⟨d0, d1, d2, d3, d4, d5, d6, d7, d8, d9, d10, d11, d12, d13, d14, d15, ed⟩ := len16 hd
  obtain ⟨ar, af, ah⟩ := a
  obtain ⟨br, bf, bh⟩ := b
  obtain ⟨cr, cf, ch⟩ := c
  obtain ⟨dr, df, dh⟩ := d
  simp only at ea eb ec ed
  subst ea eb ec ed
  kernel_rfl
def quad (a b c d : SV) : Nat → SV
  | 0 => a
  | 1 => b
  | 2 => c
  | _ => d
def quadC (a b c d : SV) : List Value := a.cs ++ (b.cs ++ (c.cs ++ d.cs))
theorem quad_at {a b c d : SV} (ha : a.r.length = 16) (hb : b.r.length = 16) (hc : c.r.length = 16) (hd : d.r.length = 16) {k : Nat} (hk : k < 4) : ∀ t u, (quad a b c d k).cs[t]? = some u → (quadC a b c d)[k * 18 + t]? = some u := by
  intro t u hu
  have la := SV.len ha
  have lb := SV.len hb
  have lc := SV.len hc
  have ht := (List.getElem?_eq_some_iff.1 hu).1
  rcases (show k = 0 ∨ k = 1 ∨ k = 2 ∨ k = 3 by omega) with rfl | rfl | rfl | rfl
  · simp only [quad] at hu ht
    rw [quadC, List.getElem?_append_left (by omega)]
    simpa using hu
  · simp only [quad] at hu ht
    rw [quadC, List.getElem?_append_right (by omega), List.getElem?_append_left (by omega), la]
    rw [show 1 * 18 + t - 18 = t by omega]
    exact hu
  · simp only [quad] at hu ht
    rw [quadC, List.getElem?_append_right (by omega), List.getElem?_append_right (by omega), List.getElem?_append_left (by omega), la, lb]
    rw [show 2 * 18 + t - 18 - 18 = t by omega]
    exact hu
  · simp only [quad] at hu ht
    rw [quadC, List.getElem?_append_right (by omega), List.getElem?_append_right (by omega), List.getElem?_append_right (by omega), la, lb, lc]
    rw [show 3 * 18 + t - 18 - 18 - 18 = t by omega]
    exact hu
theorem quad_ok {a b c d : SV} (ha : a.ok) (hb : b.ok) (hc : c.ok) (hd : d.ok) (k : Nat) : (quad a b c d k).ok := by
  rcases k with _ | _ | _ | k
  · exact ha
  · exact hb
  · exact hc
  · exact hd
theorem SH.slice4 {P : Program} {M : Zn} {w0 w : World} {L : List (Nat × Cel)} {ops : Array Oper} {rest : List Oper} {o : Oper} {a : Act} {Q : Exit → Act → World → Prop} (S : SH M w0 w L) (hgd : o.guard = none) (ty : TypeId) (x0 x1 x2 x3 : Operand) (ho : o.op = .buildSlice ty 4 #[(0, x0), (1, x1), (2, x2), (3, x3)]) (v0 v1 v2 v3 : Value) (h0 : a.eval x0 = v0) (h1 : a.eval x1 = v1) (h2 : a.eval x2 = v2) (h3 : a.eval x3 = v3) (cs : List Value) (e : TypeId)
    (hr : ∀ w, (Instr.buildSlice ty 4 #[(0, v0), (1, v1), (2, v2), (3, v3)]).run P w = .ok (.slice (some ⟨w.heap.size, 0, none⟩) 4 4) (w.alloc (.cells cs.toArray e)))
    (h : ∀ g w1, SH M w0 w1 ((g, Cel.any cs) :: L) → wpList P ops Q rest (a.put o.dst (.slice (some ⟨g, 0, none⟩) 4 4)) w1) : wpList P ops Q (o :: rest) a w :=
  wpList_plain hgd fun K hK => by
    unfold Oper.wp execOp
    simp only [ho, List.map_toArray, List.map_cons, List.map_nil, h0, h1, h2, h3, Sem.run_bind, hr, Result.andThen_ok, Sem.run_pure]
    exact hK _ _ (h _ _ (S.new (Cel.any cs) e))
theorem xor32 (x v : Int) : ∃ z, bits .xor .u32 x v = z ∧ okU z := by
  refine ⟨_, rfl, ?_⟩
  have e : bits .xor .u32 x v = IntKind.u32.wrap (((BitVec.ofInt 32 x ^^^ BitVec.ofInt 32 v).toNat : Nat) : Int) := rfl
  rw [e, IntKind.wrap_u32]
  unfold okU
  omega
theorem xor64 (x v : Int) : ∃ z, bits .xor .i64 x v = z ∧ -9223372036854775808 ≤ z ∧ z ≤ 9223372036854775807 := by
  refine ⟨_, rfl, ?_⟩
  have e : bits .xor .i64 x v = IntKind.i64.wrap (((BitVec.ofInt 64 x ^^^ BitVec.ofInt 64 v).toNat : Nat) : Int) := rfl
  rw [e, IntKind.wrap_i64]
  omega
theorem and31 (v : Int) (h : okU v) : ∃ m, bits .and .u32 v 31 = m ∧ 0 ≤ m ∧ m < 32 := by
  refine ⟨_, rfl, ?_⟩
  obtain ⟨h0, h1⟩ := h
  have e : bits .and .u32 v 31 = IntKind.u32.wrap (((BitVec.ofInt 32 v &&& BitVec.ofInt 32 31).toNat : Nat) : Int) := rfl
  rw [e, BitVec.toNat_and, BitVec.toNat_ofInt, BitVec.toNat_ofInt]
  rw [show ((31 : Int) % ((2 ^ 32 : Nat) : Int)).toNat = 2 ^ 5 - 1 by decide, Nat.and_two_pow_sub_one_eq_mod, IntKind.wrap_u32]
  omega
theorem plain_ok2 {s : SV} (h : s.ok) : unpackSV (packL s) s.h = plainSV s := by
  have e1 : (packL s).take 16 = s.r := by rw [packL, List.take_append_of_le_length (by rw [h.1.1]; decide), List.take_of_length_le (by rw [h.1.1]; decide)]
  have e2 : (packL s).getD 16 0 = s.f % 16 := by rw [List.getD_eq_getElem?_getD, packL_16 h.1.1]; rfl
  unfold unpackSV plainSV
  rw [e1, e2]
  congr 1
  omega
theorem same_plain (s : SV) : sameS (plainSV s) s = true := by simp [and_same, plainSV]
theorem same_self (s : SV) : sameSV s s = true := by simp [sameSV]
theorem new_len (p q : Int) : (newSV p q).r.length = 16 := rfl
def t1Rel (w : World) (b8 b9 b12 b17 b18 g : Nat) (a b c d : SV) (R : List Int) (i : Value) (wr : World) : Prop := ∃ k : Nat, k ≤ 4 ∧ i = .int .i64 k ∧ SH noZ w wr [(g, Cel.any (quadC a b c d)), (b18, Cel.any d.cs), (b17, Cel.any c.cs), (b12, Cel.any (rc R)), (b9, Cel.any b.cs), (b8, Cel.any a.cs)]
def t2Rel (w : World) (b8 b9 b12 b17 b18 g b20 g2 : Nat) (a b c d s : SV) (R : List Int) (i : Value) (wr : World) : Prop := ∃ k : Nat, k ≤ 4 ∧ i = .int .i64 k ∧ SH noZ w wr [(g2, Cel.any (quadC a b c d)), (b20, Cel.any s.cs), (g, Cel.any (quadC a b c d)), (b18, Cel.any d.cs), (b17, Cel.any c.cs), (b12, Cel.any (rc R)), (b9, Cel.any b.cs), (b8, Cel.any a.cs)]
set_option maxHeartbeats 4000000 in
set_option maxRecDepth 100000 in
theorem stells_i (a b : SV) (ha : a.ok) (hb : b.ok) (en sp : Int) (R : List Int) (hR : okN 32 R) (h : Bool) (k v : Int) (hk : 0 ≤ k ∧ k ≤ 255) (hv : okU v) (w : World) : Calls Try.prog 3 #[a.val, b.val, .int .u32 en, .int .u32 sp, (Cel.any (rc R)).val, .bool h, .int .u8 k, .int .u32 v] w fun e w' => e = .returned (.bool true) ∧ Below w.heap.size w w' := by
  obtain ⟨hk0, hk1⟩ := hk
  obtain ⟨n, hn, hn1⟩ : ∃ n : Nat, k.tmod 16 = (n : Int) ∧ n < 16 := ⟨(k % 16).toNat, by rw [Int.tmod_eq_emod_of_nonneg hk0]; omega, by omega⟩
  have hn2 : (n : Int) < 16 := by omega
  have hn3 : 0 ≤ (n : Int) := by omega
  obtain ⟨x, hx, hxu⟩ := okN_at ha.1 hn1
  obtain ⟨z, hz, hzu⟩ := xor32 x v
  obtain ⟨m, hm, hm0, hm1⟩ := and31 v hv
  obtain ⟨f, hf, hf0, hf1⟩ := xor64 a.f m
  have hmw : IntKind.i64.wrap m = m := by rw [IntKind.wrap_i64]; omega
  obtain ⟨c, hc⟩ : ∃ c : SV, c = { a with r := a.r.set n z } := ⟨_, rfl⟩
  obtain ⟨d, hd⟩ : ∃ d : SV, d = { a with f := f } := ⟨_, rfl⟩
  have hcok : c.ok := by rw [hc]; exact set_ok ha n hzu
  have hdok : d.ok := by rw [hd]; exact ⟨ha.1, hf0, hf1⟩
  have HCS : Hid (a.cs.set n (.int .u32 z) = c.cs) := by rw [hc]; exact SV.set_reg (by rw [ha.1.1]; exact hn1) z
  have HDS : Hid (a.cs.set 16 (.int .i64 f) = d.cs) := by rw [hd]; exact SV.set_fl ha.1.1 f
  have la : Hid (a.r.length = 16) := ha.1.1
  have lb : Hid (b.r.length = 16) := hb.1.1
  have lc : Hid (c.r.length = 16) := hcok.1.1
  have ld : Hid (d.r.length = 16) := hdok.1.1
  have HRL : Hid (R.length = 32) := hR.1
  have HX : Hid (a.r[n]? = some x) := hx
  have HQ : Hid (∀ k, (quad a b c d k).ok) := fun k => quad_ok ha hb hcok hdok k
  have HQA : Hid (∀ k, k < 4 → ∀ t u, (quad a b c d k).cs[t]? = some u → (quadC a b c d)[k * 18 + t]? = some u) := fun k hk => quad_at ha.1.1 hb.1.1 hcok.1.1 hdok.1.1 hk
  have HB4 : Hid (∀ w, (Instr.buildSlice 28 4 #[(0, a.val), (1, b.val), (2, c.val), (3, d.val)]).run Try.prog w = .ok (.slice (some ⟨w.heap.size, 0, none⟩) 4 4) (w.alloc (.cells (quadC a b c d).toArray 25))) := fun w => build4 a b c d ha.1.1 hb.1.1 hcok.1.1 hdok.1.1 w
  have CK : Hid _ := fun w => known_c w
  have CN : Hid _ := fun w => new_c en sp w
  have CRN : Hid _ := fun w => rnew_c en sp w
  have CU : Hid _ := fun w => unpack_c R hR h w
  have CRU : Hid _ := fun w => runpack_c R hR h w
  have HUL : Hid ((unpackSV R h).r.length = 16) := unp_len hR.1
  clear ha hb hv hx hxu hcok hdok hk0 hk1 hc hd hzu hf0 hf1 hR
  go_enter Try.func3, Try.ntmps3
  have S := SH.start w
  go_upto_region 8 with (first
    | ((with_reducible refine wpl_isDst 8 ?_); (first | refine S.boxA rfl 25 _ rfl a.cs rfl ?_ | refine SH.boxA (L := []) S rfl 25 _ rfl a.cs rfl ?_); clear S; intro b8 w8 S)
    | ((with_reducible refine wpl_isDst 9 ?_); (first | refine S.boxA rfl 25 _ rfl b.cs rfl ?_ | refine SH.boxA (L := []) S rfl 25 _ rfl b.cs rfl ?_); clear S; intro b9 w9 S)
    | ((with_reducible refine wpl_isDst 12 ?_); (first | refine S.boxA rfl 26 _ rfl (rc R) rfl ?_ | refine SH.boxA (L := []) S rfl 26 _ rfl (rc R) rfl ?_); clear S; intro b12 w12 S)
    | (go_at_call 6; refine (CK.out _).mono ?_; rintro e wf ⟨rfl, hbf⟩; replace S := S.below hbf; clear hbf)
    | ((with_reducible refine wpl_isDst 25 ?_); refine S.ldAll 25 _ rfl b8 rfl 2 _ rfl _ Try.underlying25 rfl (szS la.out) rfl ?_)
    | ((with_reducible refine wpl_isDst 17 ?_); (first | refine S.alloc rfl 25 rfl (Cel.any zeroSV.cs) zeroState ?_ | refine SH.alloc (L := []) S rfl 25 rfl (Cel.any zeroSV.cs) zeroState ?_); clear S; intro b17 w17 S)
    | ((with_reducible refine wpl_isStoreAt 17 ?_); refine S.storeAll rfl 25 _ _ rfl b17 (Cel.any a.cs) rfl rfl 0 _ rfl ((SV.len rfl).trans (SV.len la.out).symm) (SV.one _) (szS la.out) ?_; clear S; intro w2 S; (try simp only [List.set_cons_zero, List.set_cons_succ] at S))
    | ((with_reducible refine wpl_isDst 27 ?_); refine wpl_dst 27 rfl (.int .u8 n) (by go_simp; exact hn) rfl ?_)
    | ((with_reducible refine wpl_isDst 30 ?_); refine S.ld 22 _ rfl b17 n rfl 0 _ rfl _ (SV.reg HX.out) _ Try.underlying22 rfl rfl ?_)
    | ((with_reducible refine wpl_isDst 32 ?_); refine wpl_dst 32 rfl (.int .u32 z) (by go_simp; exact hz) rfl ?_)
    | ((with_reducible refine wpl_isStoreAt 34 ?_); refine S.store1 rfl 22 _ _ rfl b17 n (.int .u32 z) rfl rfl 0 _ rfl rfl (by show n < a.cs.length; rw [SV.len la.out]; omega) (Cel.any c.cs) HCS.out szU ?_; clear S; intro w2 S; (try simp only [List.set_cons_zero, List.set_cons_succ] at S))
    | ((with_reducible refine wpl_isDst 35 ?_); refine S.ldAll 25 _ rfl b8 rfl 3 _ rfl _ Try.underlying25 rfl (szS la.out) rfl ?_)
    | ((with_reducible refine wpl_isDst 18 ?_); (first | refine S.alloc rfl 25 rfl (Cel.any zeroSV.cs) zeroState ?_ | refine SH.alloc (L := []) S rfl 25 rfl (Cel.any zeroSV.cs) zeroState ?_); clear S; intro b18 w18 S)
    | ((with_reducible refine wpl_isStoreAt 18 ?_); refine S.storeAll rfl 25 _ _ rfl b18 (Cel.any a.cs) rfl rfl 0 _ rfl ((SV.len rfl).trans (SV.len la.out).symm) (SV.one _) (szS la.out) ?_; clear S; intro w2 S; (try simp only [List.set_cons_zero, List.set_cons_succ] at S))
    | ((with_reducible refine wpl_isDst 37 ?_); refine S.ld 3 _ rfl b18 16 rfl 0 _ rfl _ (SV.fl la.out) _ Try.underlying3 rfl rfl ?_)
    | ((with_reducible refine wpl_isDst 39 ?_); refine wpl_dst 39 rfl (.int .u32 m) (by go_simp; exact hm) rfl ?_)
    | ((with_reducible refine wpl_isDst 40 ?_); refine wpl_dst 40 rfl (.int .i64 m) (by go_simp; try exact hmw) rfl ?_)
    | ((with_reducible refine wpl_isDst 41 ?_); refine wpl_dst 41 rfl (.int .i64 f) (by go_simp; exact hf) rfl ?_)
    | ((with_reducible refine wpl_isStoreAt 42 ?_); refine S.store1 rfl 3 _ _ rfl b18 16 (.int .i64 f) rfl rfl 0 _ rfl rfl (by show 16 < a.cs.length; rw [SV.len la.out]; omega) (Cel.any d.cs) HDS.out szI ?_; clear S; intro w2 S; (try simp only [List.set_cons_zero, List.set_cons_succ] at S))
    | ((with_reducible refine wpl_isDst 43 ?_); refine S.ldAll 25 _ rfl b8 rfl 4 _ rfl _ Try.underlying25 rfl (szS la.out) rfl ?_)
    | ((with_reducible refine wpl_isDst 44 ?_); refine S.ldAll 25 _ rfl b9 rfl 3 _ rfl _ Try.underlying25 rfl (szS lb.out) rfl ?_)
    | ((with_reducible refine wpl_isDst 45 ?_); refine S.ldAll 25 _ rfl b17 rfl 1 _ rfl _ Try.underlying25 rfl (szS lc.out) rfl ?_)
    | ((with_reducible refine wpl_isDst 46 ?_); refine S.ldAll 25 _ rfl b18 rfl 0 _ rfl _ Try.underlying25 rfl (szS ld.out) rfl ?_)
    | ((with_reducible refine wpl_isDst 47 ?_); refine S.slice4 rfl 28 _ _ _ _ rfl a.val b.val c.val d.val rfl rfl rfl rfl (quadC a b c d) 25 HB4.out ?_; clear S; intro g47 w47 S))
  have ST : Hid (t1Rel w b8 b9 b12 b17 b18 g47 a b c d R (.int .i64 0) _) := ⟨0, Nat.zero_le _, rfl, S⟩
  clear S
  go_loopw [49] (fun i wr => t1Rel w b8 b9 b12 b17 b18 g47 a b c d R i wr) (fun i _ => 4 - (intOf i).toNat)
  case atStart => exact ST.out
  case round =>
    clear ST
    obtain ⟨j, hj, rfl, S⟩ := hrel
    by_cases hlt : j < 4
    · have hlt' : (j : Int) < 4 := by omega
      have hj0 : 0 ≤ (j : Int) := by omega
      obtain ⟨s, hs⟩ : ∃ s, s = quad a b c d j := ⟨_, rfl⟩
      have hsok : s.ok := by rw [hs]; exact HQ.out j
      have HSA : Hid (∀ t u, s.cs[t]? = some u → (quadC a b c d)[j * 18 + t]? = some u) := by rw [hs]; exact HQA.out j hlt
      have HSK : Hid s.ok := hsok
      have ls : Hid (s.r.length = 16) := hsok.1.1
      clear hs hsok
      obtain ⟨wO, hwO⟩ : ∃ y, y = wr := ⟨_, rfl⟩
      rw [← hwO]
      rw [← hwO] at S
      clear hwO wr
      go_upto_region 11 with (first
        | ((with_reducible refine wpl_isDst 52 ?_); refine S.ldMid 25 _ rfl g47 (j * 18) rfl 0 _ rfl s.cs HSA.out _ Try.underlying25 rfl (szS ls.out) rfl ?_)
        | ((with_reducible refine wpl_isDst 20 ?_); (first | refine S.alloc rfl 25 rfl (Cel.any zeroSV.cs) zeroState ?_ | refine SH.alloc (L := []) S rfl 25 rfl (Cel.any zeroSV.cs) zeroState ?_); clear S; intro b20 w20 S)
        | ((with_reducible refine wpl_isStoreAt 20 ?_); refine S.storeAll rfl 25 _ _ rfl b20 (Cel.any s.cs) rfl rfl 0 _ rfl ((SV.len rfl).trans (SV.len ls.out).symm) (SV.one _) (szS ls.out) ?_; clear S; intro w2 S; (try simp only [List.set_cons_zero, List.set_cons_succ] at S))
        | ((with_reducible refine wpl_isDst 53 ?_); refine S.ldAll 25 _ rfl b8 rfl 6 _ rfl _ Try.underlying25 rfl (szS la.out) rfl ?_)
        | ((with_reducible refine wpl_isDst 54 ?_); refine S.ldAll 25 _ rfl b9 rfl 5 _ rfl _ Try.underlying25 rfl (szS lb.out) rfl ?_)
        | ((with_reducible refine wpl_isDst 55 ?_); refine S.ldAll 25 _ rfl b17 rfl 3 _ rfl _ Try.underlying25 rfl (szS lc.out) rfl ?_)
        | ((with_reducible refine wpl_isDst 56 ?_); refine S.ldAll 25 _ rfl b18 rfl 2 _ rfl _ Try.underlying25 rfl (szS ld.out) rfl ?_)
        | ((with_reducible refine wpl_isDst 57 ?_); refine S.slice4 rfl 28 _ _ _ _ rfl a.val b.val c.val d.val rfl rfl rfl rfl (quadC a b c d) 25 HB4.out ?_; clear S; intro g57 w57 S)
        )
      have ST : Hid (t2Rel w b8 b9 b12 b17 b18 g47 b20 g57 a b c d s R (.int .i64 0) _) := ⟨0, Nat.zero_le _, rfl, S⟩
      clear S
      go_loopw [59] (fun i wr => t2Rel w b8 b9 b12 b17 b18 g47 b20 g57 a b c d s R i wr) (fun i _ => 4 - (intOf i).toNat)
      case atStart => exact ST.out
      case round =>
        clear ST
        obtain ⟨l, hl, rfl, S⟩ := hrel
        by_cases hl4 : l < 4
        · have hl4' : (l : Int) < 4 := by omega
          have hl0 : 0 ≤ (l : Int) := by omega
          obtain ⟨t, ht⟩ : ∃ t, t = quad a b c d l := ⟨_, rfl⟩
          have htok : t.ok := by rw [ht]; exact HQ.out l
          have HTA : Hid (∀ q u, t.cs[q]? = some u → (quadC a b c d)[l * 18 + q]? = some u) := by rw [ht]; exact HQA.out l hl4
          have lt : Hid (t.r.length = 16) := htok.1.1
          have CS : Hid _ := fun w => same_c s t HSK.out htok w
          have CRS : Hid _ := fun w => rsame_c s t HSK.out htok w
          generalize sameS s t = e1 at *
          clear ht htok
          go_upto_region 13 with (first
            | ((with_reducible refine wpl_isDst 62 ?_); refine S.ldMid 25 _ rfl g57 (l * 18) rfl 0 _ rfl t.cs HTA.out _ Try.underlying25 rfl (szS lt.out) rfl ?_)
            | ((with_reducible refine wpl_isDst 22 ?_); (first | refine S.alloc rfl 25 rfl (Cel.any zeroSV.cs) zeroState ?_ | refine SH.alloc (L := []) S rfl 25 rfl (Cel.any zeroSV.cs) zeroState ?_); clear S; intro b22 w22 S)
            | ((with_reducible refine wpl_isStoreAt 22 ?_); refine S.storeAll rfl 25 _ _ rfl b22 (Cel.any t.cs) rfl rfl 0 _ rfl ((SV.len rfl).trans (SV.len lt.out).symm) (SV.one _) (szS lt.out) ?_; clear S; intro w2 S; (try simp only [List.set_cons_zero, List.set_cons_succ] at S))
            )
          refine wp_region_held_drew (S := fun w' => SH noZ w w' [(b22, Cel.any t.cs), (g57, Cel.any (quadC a b c d)), (b20, Cel.any s.cs), (g47, Cel.any (quadC a b c d)), (b18, Cel.any d.cs), (b17, Cel.any c.cs), (b12, Cel.any (rc R)), (b9, Cel.any b.cs), (b8, Cel.any a.cs)]) (by kernel_rfl) (by first | exact S.drew | exact S.drew.dropR) (fun _ => ?_)
          replace S := S.drew
          refine wpAnyH_take (i := 0) (oi := { dst := some 63, op := Op.load 25 (Operand.tmp 20), type := 25, pos := "law.go:29", after := #[], guard := none }) (v := _) rfl (by kernel_rfl) (by kernel_rfl) (by kernel_rfl) (fun _ _ _ h => h) (y_loadAll (by rfl) 25 _ rfl _ rfl 2 _ rfl _ Try.underlying25 rfl (szS ls.out)) (by exact S) ?_
          simp only [Act.put, List.setIfInBounds_toArray, List.set_cons_zero, List.set_cons_succ]
          refine wpAnyH_take (i := 1) (oi := { dst := some 64, op := Op.load 25 (Operand.tmp 22), type := 25, pos := "law.go:29", after := #[], guard := none }) (v := _) rfl (by kernel_rfl) (by kernel_rfl) (by kernel_rfl) (fun _ _ _ h => h) (y_loadAll (by rfl) 25 _ rfl _ rfl 0 _ rfl _ Try.underlying25 rfl (szS lt.out)) (by exact S) ?_
          simp only [Act.put, List.setIfInBounds_toArray, List.set_cons_zero, List.set_cons_succ]
          refine wpAnyH_take (i := 3) (oi := { dst := some 66, op := Op.load 25 (Operand.tmp 20), type := 25, pos := "law.go:29", after := #[], guard := none }) (v := _) rfl (by kernel_rfl) (by kernel_rfl) (by kernel_rfl) (fun _ _ _ h => h) (y_loadAll (by rfl) 25 _ rfl _ rfl 2 _ rfl _ Try.underlying25 rfl (szS ls.out)) (by exact S) ?_
          simp only [Act.put, List.setIfInBounds_toArray, List.set_cons_zero, List.set_cons_succ]
          refine wpAnyH_take (i := 4) (oi := { dst := some 67, op := Op.load 25 (Operand.tmp 22), type := 25, pos := "law.go:29", after := #[], guard := none }) (v := _) rfl (by kernel_rfl) (by kernel_rfl) (by kernel_rfl) (fun _ _ _ h => h) (y_loadAll (by rfl) 25 _ rfl _ rfl 0 _ rfl _ Try.underlying25 rfl (szS lt.out)) (by exact S) ?_
          simp only [Act.put, List.setIfInBounds_toArray, List.set_cons_zero, List.set_cons_succ]
          refine wpAnyH_ready (rs := [2]) (by kernel_rfl) (by simp) ?_
          refine AllReadyH.cons rfl (fun K hK => ?_) AllReadyH.nil
          go_simp
          go_wp2_with (go_at_call 7; refine (CS.out _).mono ?_; rintro e wf ⟨rfl, hbf⟩; replace S := S.below hbf; clear hbf)
          refine hK.out _ _ (by exact S) (fun _ => ?_)
          clear hK K
          refine wpAnyH_ready (rs := [5]) (by kernel_rfl) (by simp) ?_
          refine AllReadyH.cons rfl (fun K hK => ?_) AllReadyH.nil
          go_simp
          go_wp2_with (go_at_call 8; refine (CRS.out _).mono ?_; rintro e wf ⟨rfl, hbf⟩; replace S := S.below hbf; clear hbf)
          refine hK.out _ _ (by exact S) (fun _ => ?_)
          clear hK K
          refine wpAnyH_take (i := 6) (oi := { dst := some 69, op := Op.binOp BinOp.neq 4 (Operand.tmp 65) (Operand.tmp 68) 4, type := 4, pos := "law.go:29", after := #[{ on := 2, ground := Ground.data }, { on := 5, ground := Ground.data }], guard := none }) (v := ?_) rfl (by kernel_rfl) (by kernel_rfl) (by kernel_rfl) (fun _ _ _ h => h) (Or.inl ⟨by rfl, ?_⟩) (by exact S) ?_
          rotate_left 1
          · intro w hSw
            clear hSw
            go_simp
            try with_reducible rfl
          simp only [Act.put, List.setIfInBounds_toArray, List.set_cons_zero, List.set_cons_succ]
          refine wpAnyH_done (by kernel_rfl) ?_ _
          go_wp2
          go_roundw
          case rel => exact ⟨l + 1, hl4, by push_cast; rfl, S.fewer 1⟩
          case measure =>
            simp only [intOf]
            omega
        · have hl4' : ¬ (l : Int) < 4 := by omega
          have hsok := HSK.out
          have CP : Hid _ := fun w => pack_c s hsok w
          have CRP : Hid _ := fun w => rpack_c s hsok w
          have CB : Hid _ := fun w => bytes_b s hsok w
          have CRB : Hid _ := fun w => rbytes_b s hsok w
          have CU2 : Hid (∀ w, Calls Try.prog 13 #[(Cel.any (rc (packL s))).val, .bool s.h] w fun e w' => e = .returned (plainSV s).val ∧ Below w.heap.size w w') := fun w => by
            have e := unpack_c (packL s) (packL_ok hsok) s.h w
            rw [plain_ok2 hsok] at e
            exact e
          have CS2 : Hid (∀ w, Calls Try.prog 7 #[(plainSV s).val, s.val] w fun e w' => e = .returned (.bool true) ∧ Below w.heap.size w w') := fun w => by
            have e := same_c (plainSV s) s (plain_ok hsok) hsok w
            rw [same_plain] at e
            exact e
          have HPL : Hid ((packL s).length = 32) := packL_len hsok.1.1
          have HNE : Hid (∀ w, (binOp .neq 26 (.agg (rc (packL s)).toArray) (.agg (rc (packL s)).toArray)).run Try.prog w = .ok (.bool false) w) := fun w => by
            have e := regs_neq (packL_len hsok.1.1) (packL_len hsok.1.1) w
            rw [decide_eq_true (rfl : packL s = packL s)] at e
            exact e
          have HSE : Hid ((!((strS (bytesL s)).toList == (strS (bytesL s)).toList)) = false) := by
            show (!_) = false
            rw [beq_self_eq_true]
            rfl
          have HH : Hid (s.cs[17]? = some (.bool s.h)) := SV.ha hsok.1.1
          clear hsok
          generalize packL s = P at *
          go_upto_region 16 with fail
          refine wp_region_held_drew (S := fun w' => SH noZ w w' [(g57, Cel.any (quadC a b c d)), (b20, Cel.any s.cs), (g47, Cel.any (quadC a b c d)), (b18, Cel.any d.cs), (b17, Cel.any c.cs), (b12, Cel.any (rc R)), (b9, Cel.any b.cs), (b8, Cel.any a.cs)]) (by kernel_rfl) (by first | exact S.drew | exact S.drew.dropR) (fun _ => ?_)
          replace S := S.drew
          refine wpAnyH_take (i := 0) (oi := { dst := some 71, op := Op.load 25 (Operand.tmp 20), type := 25, pos := "law.go:33", after := #[], guard := none }) (v := _) rfl (by kernel_rfl) (by kernel_rfl) (by kernel_rfl) (fun _ _ _ h => h) (y_loadAll (by rfl) 25 _ rfl _ rfl 1 _ rfl _ Try.underlying25 rfl (szS ls.out)) (by exact (by first | exact S | exact ⟨S, HB1⟩ | exact ⟨⟨S, HB1⟩, HB2⟩)) ?_
          simp only [Act.put, List.setIfInBounds_toArray, List.set_cons_zero, List.set_cons_succ]
          refine wpAnyH_take (i := 2) (oi := { dst := some 73, op := Op.load 25 (Operand.tmp 20), type := 25, pos := "law.go:33", after := #[], guard := none }) (v := _) rfl (by kernel_rfl) (by kernel_rfl) (by kernel_rfl) (fun _ _ _ h => h) (y_loadAll (by rfl) 25 _ rfl _ rfl 1 _ rfl _ Try.underlying25 rfl (szS ls.out)) (by exact (by first | exact S | exact ⟨S, HB1⟩ | exact ⟨⟨S, HB1⟩, HB2⟩)) ?_
          simp only [Act.put, List.setIfInBounds_toArray, List.set_cons_zero, List.set_cons_succ]
          refine wpAnyH_ready (rs := [1]) (by kernel_rfl) (by simp) ?_
          refine AllReadyH.cons rfl (fun K hK => ?_) AllReadyH.nil
          go_simp
          go_wp2_with (go_at_call 9; refine (CP.out _).mono ?_; rintro e wf ⟨rfl, hbf⟩; replace S := S.below hbf; clear hbf)
          refine hK.out _ _ (by first | exact S | exact ⟨S, HB1⟩ | exact ⟨⟨S, HB1⟩, HB2⟩) (fun _ => ?_)
          clear hK K
          refine wpAnyH_ready (rs := [3]) (by kernel_rfl) (by simp) ?_
          refine AllReadyH.cons rfl (fun K hK => ?_) AllReadyH.nil
          go_simp
          go_wp2_with (go_at_call 10; refine (CRP.out _).mono ?_; rintro e wf ⟨rfl, hbf⟩; replace S := S.below hbf; clear hbf)
          refine hK.out _ _ (by first | exact S | exact ⟨S, HB1⟩ | exact ⟨⟨S, HB1⟩, HB2⟩) (fun _ => ?_)
          clear hK K
          refine wpAnyH_take (i := 4) (oi := { dst := some 75, op := Op.binOp BinOp.neq 26 (Operand.tmp 72) (Operand.tmp 74) 26, type := 4, pos := "law.go:33", after := #[{ on := 1, ground := Ground.data }, { on := 3, ground := Ground.data }], guard := none }) (v := _) rfl (by kernel_rfl) (by kernel_rfl) (by kernel_rfl) (fun _ _ _ h => h) (y_eqS (by rfl) .neq 26 _ _ _ rfl (rc P) (rc P) rfl rfl (by kernel_rfl) false HNE.out) (by exact (by first | exact S | exact ⟨S, HB1⟩ | exact ⟨⟨S, HB1⟩, HB2⟩)) ?_
          simp only [Act.put, List.setIfInBounds_toArray, List.set_cons_zero, List.set_cons_succ]
          refine wpAnyH_take (i := 5) (oi := { dst := some 76, op := Op.move (Operand.tmp 75), type := 4, pos := "law.go:33", after := #[{ on := 4, ground := Ground.data }, { on := 3, ground := Ground.chain }], guard := none }) (v := ?_) rfl (by kernel_rfl) (by kernel_rfl) (by kernel_rfl) (fun _ _ _ h => h) (Or.inl ⟨by rfl, ?_⟩) (by exact (by first | exact S | exact ⟨S, HB1⟩ | exact ⟨⟨S, HB1⟩, HB2⟩)) ?_
          rotate_left 1
          · intro w hSw
            clear hSw
            go_simp
            try with_reducible rfl
          simp only [Act.put, List.setIfInBounds_toArray, List.set_cons_zero, List.set_cons_succ]
          refine wpAnyH_take (i := 6) (oi := { dst := some 77, op := Op.load 25 (Operand.tmp 20), type := 25, pos := "law.go:33", after := #[{ on := 5, ground := Ground.guard }], guard := some (5, false) }) (v := _) rfl (by kernel_rfl) (by kernel_rfl) (by kernel_rfl) (fun _ _ _ h => h) (YieldsIf.weak (S := fun w' => SH noZ w w' [(g57, Cel.any (quadC a b c d)), (b20, Cel.any s.cs), (g47, Cel.any (quadC a b c d)), (b18, Cel.any d.cs), (b17, Cel.any c.cs), (b12, Cel.any (rc R)), (b9, Cel.any b.cs), (b8, Cel.any a.cs)]) (y_loadAll (by rfl) 25 _ rfl _ rfl 1 _ rfl _ Try.underlying25 rfl (szS ls.out)) (fun _ h => by first | exact h | exact h.1 | exact h.1.1 | exact h.1.1.1 | exact h.1.1.1.1)) (by exact (by first | exact S | exact ⟨S, HB1⟩ | exact ⟨⟨S, HB1⟩, HB2⟩)) ?_
          simp only [Act.put, List.setIfInBounds_toArray, List.set_cons_zero, List.set_cons_succ]
          refine wpAnyH_take (i := 9) (oi := { dst := some 80, op := Op.load 25 (Operand.tmp 20), type := 25, pos := "law.go:33", after := #[{ on := 5, ground := Ground.guard }], guard := some (5, false) }) (v := _) rfl (by kernel_rfl) (by kernel_rfl) (by kernel_rfl) (fun _ _ _ h => h) (YieldsIf.weak (S := fun w' => SH noZ w w' [(g57, Cel.any (quadC a b c d)), (b20, Cel.any s.cs), (g47, Cel.any (quadC a b c d)), (b18, Cel.any d.cs), (b17, Cel.any c.cs), (b12, Cel.any (rc R)), (b9, Cel.any b.cs), (b8, Cel.any a.cs)]) (y_loadAll (by rfl) 25 _ rfl _ rfl 1 _ rfl _ Try.underlying25 rfl (szS ls.out)) (fun _ h => by first | exact h | exact h.1 | exact h.1.1 | exact h.1.1.1 | exact h.1.1.1.1)) (by exact (by first | exact S | exact ⟨S, HB1⟩ | exact ⟨⟨S, HB1⟩, HB2⟩)) ?_
          simp only [Act.put, List.setIfInBounds_toArray, List.set_cons_zero, List.set_cons_succ]
          refine wpAnyH_ready (rs := [7]) (by kernel_rfl) (by simp) ?_
          refine AllReadyH.cons rfl (fun K hK => ?_) AllReadyH.nil
          go_simp
          go_wp2_with (go_at_call 11; refine (CB.out _).mono ?_; rintro e wf ⟨A1, c1, rfl, HB1, hbf⟩; replace S := S.below hbf; clear hbf)
          refine hK.out _ _ (by first | exact S | exact ⟨S, HB1⟩ | exact ⟨⟨S, HB1⟩, HB2⟩) (fun _ => ?_)
          refine wpAnyH_mono (S' := fun w' => SH noZ w w' [(g57, Cel.any (quadC a b c d)), (b20, Cel.any s.cs), (g47, Cel.any (quadC a b c d)), (b18, Cel.any d.cs), (b17, Cel.any c.cs), (b12, Cel.any (rc R)), (b9, Cel.any b.cs), (b8, Cel.any a.cs)] ∧ BL w' (fun _ => True) (.slice A1 66 c1) (bytesL s)) (fun _ h => h.1) _ _ _ _ ?_
          clear hK K
          refine wpAnyH_take (i := 8) (oi := { dst := some 79, op := Op.convert 31 9 (Operand.tmp 78), type := 9, pos := "law.go:33", after := #[{ on := 7, ground := Ground.data }, { on := 5, ground := Ground.guard }], guard := some (5, false) }) (v := _) rfl (by kernel_rfl) (by kernel_rfl) (by kernel_rfl) (fun _ _ _ h => h) (y_str (by rfl) _ rfl _ rfl (bytesL s) (fun _ h => by first | exact h.2 | exact h.1.2)) (by exact (by first | exact S | exact ⟨S, HB1⟩ | exact ⟨⟨S, HB1⟩, HB2⟩)) ?_
          simp only [Act.put, List.setIfInBounds_toArray, List.set_cons_zero, List.set_cons_succ]
          refine wpAnyH_ready (rs := [10]) (by kernel_rfl) (by simp) ?_
          refine AllReadyH.cons rfl (fun K hK => ?_) AllReadyH.nil
          go_simp
          go_wp2_with (go_at_call 12; refine (CRB.out _).mono ?_; rintro e wf ⟨A2, c2, rfl, HB2, hbf⟩; replace S := S.below hbf; replace HB1 := HB1.below hbf; clear hbf)
          refine hK.out _ _ (by first | exact S | exact ⟨S, HB1⟩ | exact ⟨⟨S, HB1⟩, HB2⟩) (fun _ => ?_)
          refine wpAnyH_mono (S' := fun w' => (SH noZ w w' [(g57, Cel.any (quadC a b c d)), (b20, Cel.any s.cs), (g47, Cel.any (quadC a b c d)), (b18, Cel.any d.cs), (b17, Cel.any c.cs), (b12, Cel.any (rc R)), (b9, Cel.any b.cs), (b8, Cel.any a.cs)] ∧ BL w' (fun _ => True) (.slice A1 66 c1) (bytesL s)) ∧ BL w' (fun _ => True) (.slice A2 66 c2) (bytesL s)) (fun _ h => h.1) _ _ _ _ ?_
          clear hK K
          refine wpAnyH_take (i := 11) (oi := { dst := some 82, op := Op.convert 31 9 (Operand.tmp 81), type := 9, pos := "law.go:33", after := #[{ on := 10, ground := Ground.data }, { on := 5, ground := Ground.guard }], guard := some (5, false) }) (v := _) rfl (by kernel_rfl) (by kernel_rfl) (by kernel_rfl) (fun _ _ _ h => h) (y_str (by rfl) _ rfl _ rfl (bytesL s) (fun _ h => by first | exact h.2 | exact h.1.2)) (by exact (by first | exact S | exact ⟨S, HB1⟩ | exact ⟨⟨S, HB1⟩, HB2⟩)) ?_
          simp only [Act.put, List.setIfInBounds_toArray, List.set_cons_zero, List.set_cons_succ]
          refine wpAnyH_take (i := 12) (oi := { dst := some 83, op := Op.binOp BinOp.neq 9 (Operand.tmp 79) (Operand.tmp 82) 9, type := 4, pos := "law.go:33", after := #[{ on := 8, ground := Ground.data }, { on := 11, ground := Ground.data }, { on := 5, ground := Ground.guard }], guard := some (5, false) }) (v := _) rfl (by kernel_rfl) (by kernel_rfl) (by kernel_rfl) (fun _ _ _ h => h) (y_strEq (by rfl) .neq 9 _ _ _ rfl _ _ rfl rfl Try.underlying9 false (.inr ⟨rfl, HSE.out⟩)) (by exact (by first | exact S | exact ⟨S, HB1⟩ | exact ⟨⟨S, HB1⟩, HB2⟩)) ?_
          simp only [Act.put, List.setIfInBounds_toArray, List.set_cons_zero, List.set_cons_succ]
          refine wpAnyH_take (i := 13) (oi := { dst := some 84, op := Op.pick (Operand.tmp 76) (Operand.const (Value.bool true)) (Operand.tmp 83), type := 4, pos := "law.go:33", after := #[{ on := 5, ground := Ground.data }, { on := 12, ground := Ground.data }], guard := none }) (v := ?_) rfl (by kernel_rfl) (by kernel_rfl) (by kernel_rfl) (fun _ _ _ h => h) (Or.inl ⟨by rfl, ?_⟩) (by exact (by first | exact S | exact ⟨S, HB1⟩ | exact ⟨⟨S, HB1⟩, HB2⟩)) ?_
          rotate_left 1
          · intro w hSw
            clear hSw
            go_simp
            try with_reducible rfl
          simp only [Act.put, List.setIfInBounds_toArray, List.set_cons_zero, List.set_cons_succ]
          refine wpAnyH_take (i := 14) (oi := { dst := some 85, op := Op.move (Operand.tmp 84), type := 4, pos := "law.go:33", after := #[{ on := 13, ground := Ground.data }, { on := 10, ground := Ground.chain }], guard := none }) (v := ?_) rfl (by kernel_rfl) (by kernel_rfl) (by kernel_rfl) (fun _ _ _ h => h) (Or.inl ⟨by rfl, ?_⟩) (by exact (by first | exact S | exact ⟨S, HB1⟩ | exact ⟨⟨S, HB1⟩, HB2⟩)) ?_
          rotate_left 1
          · intro w hSw
            clear hSw
            go_simp
            try with_reducible rfl
          simp only [Act.put, List.setIfInBounds_toArray, List.set_cons_zero, List.set_cons_succ]
          refine wpAnyH_take (i := 15) (oi := { dst := some 86, op := Op.load 25 (Operand.tmp 20), type := 25, pos := "law.go:33", after := #[{ on := 14, ground := Ground.guard }], guard := some (14, false) }) (v := _) rfl (by kernel_rfl) (by kernel_rfl) (by kernel_rfl) (fun _ _ _ h => h) (YieldsIf.weak (S := fun w' => SH noZ w w' [(g57, Cel.any (quadC a b c d)), (b20, Cel.any s.cs), (g47, Cel.any (quadC a b c d)), (b18, Cel.any d.cs), (b17, Cel.any c.cs), (b12, Cel.any (rc R)), (b9, Cel.any b.cs), (b8, Cel.any a.cs)]) (y_loadAll (by rfl) 25 _ rfl _ rfl 1 _ rfl _ Try.underlying25 rfl (szS ls.out)) (fun _ h => by first | exact h | exact h.1 | exact h.1.1 | exact h.1.1.1 | exact h.1.1.1.1)) (by exact (by first | exact S | exact ⟨S, HB1⟩ | exact ⟨⟨S, HB1⟩, HB2⟩)) ?_
          simp only [Act.put, List.setIfInBounds_toArray, List.set_cons_zero, List.set_cons_succ]
          refine wpAnyH_take (i := 17) (oi := { dst := some 88, op := Op.fieldAddr 25 (Operand.tmp 20) 2, type := 0, pos := "law.go:33", after := #[{ on := 14, ground := Ground.guard }], guard := some (14, false) }) (v := ?_) rfl (by kernel_rfl) (by kernel_rfl) (by kernel_rfl) (fun _ _ _ h => h) (Or.inl ⟨by rfl, ?_⟩) (by exact (by first | exact S | exact ⟨S, HB1⟩ | exact ⟨⟨S, HB1⟩, HB2⟩)) ?_
          rotate_left 1
          · intro w hSw
            clear hSw
            go_simp
            try with_reducible rfl
          simp only [Act.put, List.setIfInBounds_toArray, List.set_cons_zero, List.set_cons_succ]
          refine wpAnyH_take (i := 18) (oi := { dst := some 89, op := Op.load 4 (Operand.tmp 88), type := 4, pos := "law.go:33", after := #[{ on := 17, ground := Ground.data }, { on := 14, ground := Ground.guard }], guard := some (14, false) }) (v := _) rfl (by kernel_rfl) (by kernel_rfl) (by kernel_rfl) (fun _ _ _ h => h) (YieldsIf.weak (S := fun w' => SH noZ w w' [(g57, Cel.any (quadC a b c d)), (b20, Cel.any s.cs), (g47, Cel.any (quadC a b c d)), (b18, Cel.any d.cs), (b17, Cel.any c.cs), (b12, Cel.any (rc R)), (b9, Cel.any b.cs), (b8, Cel.any a.cs)]) (y_load1 (by rfl) 4 _ rfl b20 17 rfl 1 _ rfl (.bool s.h) HH.out _ Try.underlying4 rfl) (fun _ h => by first | exact h | exact h.1 | exact h.1.1 | exact h.1.1.1 | exact h.1.1.1.1)) (by exact (by first | exact S | exact ⟨S, HB1⟩ | exact ⟨⟨S, HB1⟩, HB2⟩)) ?_
          simp only [Act.put, List.setIfInBounds_toArray, List.set_cons_zero, List.set_cons_succ]
          refine wpAnyH_take (i := 20) (oi := { dst := some 91, op := Op.load 25 (Operand.tmp 20), type := 25, pos := "law.go:33", after := #[{ on := 14, ground := Ground.guard }], guard := some (14, false) }) (v := _) rfl (by kernel_rfl) (by kernel_rfl) (by kernel_rfl) (fun _ _ _ h => h) (YieldsIf.weak (S := fun w' => SH noZ w w' [(g57, Cel.any (quadC a b c d)), (b20, Cel.any s.cs), (g47, Cel.any (quadC a b c d)), (b18, Cel.any d.cs), (b17, Cel.any c.cs), (b12, Cel.any (rc R)), (b9, Cel.any b.cs), (b8, Cel.any a.cs)]) (y_loadAll (by rfl) 25 _ rfl _ rfl 1 _ rfl _ Try.underlying25 rfl (szS ls.out)) (fun _ h => by first | exact h | exact h.1 | exact h.1.1 | exact h.1.1.1 | exact h.1.1.1.1)) (by exact (by first | exact S | exact ⟨S, HB1⟩ | exact ⟨⟨S, HB1⟩, HB2⟩)) ?_
          simp only [Act.put, List.setIfInBounds_toArray, List.set_cons_zero, List.set_cons_succ]
          refine wpAnyH_ready (rs := [16]) (by kernel_rfl) (by simp) ?_
          refine AllReadyH.cons rfl (fun K hK => ?_) AllReadyH.nil
          go_simp
          go_wp2_with (go_at_call 9; refine (CP.out _).mono ?_; rintro e wf ⟨rfl, hbf⟩; replace S := S.below hbf; replace HB1 := HB1.below hbf; replace HB2 := HB2.below hbf; clear hbf)
          refine hK.out _ _ (by first | exact S | exact ⟨S, HB1⟩ | exact ⟨⟨S, HB1⟩, HB2⟩) (fun _ => ?_)
          clear hK K
          refine wpAnyH_ready (rs := [19]) (by kernel_rfl) (by simp) ?_
          refine AllReadyH.cons rfl (fun K hK => ?_) AllReadyH.nil
          go_simp
          go_wp2_with (go_at_call 13; refine (CU2.out _).mono ?_; rintro e wf ⟨rfl, hbf⟩; replace S := S.below hbf; replace HB1 := HB1.below hbf; replace HB2 := HB2.below hbf; clear hbf)
          refine hK.out _ _ (by first | exact S | exact ⟨S, HB1⟩ | exact ⟨⟨S, HB1⟩, HB2⟩) (fun _ => ?_)
          clear hK K
          refine wpAnyH_ready (rs := [21]) (by kernel_rfl) (by simp) ?_
          refine AllReadyH.cons rfl (fun K hK => ?_) AllReadyH.nil
          go_simp
          go_wp2_with (go_at_call 7; refine (CS2.out _).mono ?_; rintro e wf ⟨rfl, hbf⟩; replace S := S.below hbf; replace HB1 := HB1.below hbf; replace HB2 := HB2.below hbf; clear hbf)
          refine hK.out _ _ (by first | exact S | exact ⟨S, HB1⟩ | exact ⟨⟨S, HB1⟩, HB2⟩) (fun _ => ?_)
          clear hK K
          refine wpAnyH_take (i := 22) (oi := { dst := some 93, op := Op.unOp UnOp.not 4 (Operand.tmp 92), type := 4, pos := "law.go:33", after := #[{ on := 21, ground := Ground.data }, { on := 14, ground := Ground.guard }], guard := some (14, false) }) (v := ?_) rfl (by kernel_rfl) (by kernel_rfl) (by kernel_rfl) (fun _ _ _ h => h) (Or.inl ⟨by rfl, ?_⟩) (by exact (by first | exact S | exact ⟨S, HB1⟩ | exact ⟨⟨S, HB1⟩, HB2⟩)) ?_
          rotate_left 1
          · intro w hSw
            clear hSw
            go_simp
            try with_reducible rfl
          simp only [Act.put, List.setIfInBounds_toArray, List.set_cons_zero, List.set_cons_succ]
          refine wpAnyH_take (i := 23) (oi := { dst := some 94, op := Op.pick (Operand.tmp 85) (Operand.const (Value.bool true)) (Operand.tmp 93), type := 4, pos := "law.go:33", after := #[{ on := 14, ground := Ground.data }, { on := 22, ground := Ground.data }], guard := none }) (v := ?_) rfl (by kernel_rfl) (by kernel_rfl) (by kernel_rfl) (fun _ _ _ h => h) (Or.inl ⟨by rfl, ?_⟩) (by exact (by first | exact S | exact ⟨S, HB1⟩ | exact ⟨⟨S, HB1⟩, HB2⟩)) ?_
          rotate_left 1
          · intro w hSw
            clear hSw
            go_simp
            try with_reducible rfl
          simp only [Act.put, List.setIfInBounds_toArray, List.set_cons_zero, List.set_cons_succ]
          refine wpAnyH_done (by kernel_rfl) ?_ _
          go_wp2
          go_roundw
          case rel => exact ⟨j + 1, hlt, by push_cast; rfl, S.fewer 2⟩
          case measure =>
            simp only [intOf]
            omega
    · have hlt' : ¬ (j : Int) < 4 := by omega
      have HE1 : Hid (∀ w, (binOp .eql 25 (.agg (newSV en sp).cs.toArray) (.agg (newSV en sp).cs.toArray)).run Try.prog w = .ok (.bool true) w) := fun w => by
        have e := sv_eql (new_len en sp) (new_len en sp) w
        rw [same_self] at e
        exact e
      have HE2 : Hid (∀ w, (binOp .eql 25 (.agg (unpackSV R h).cs.toArray) (.agg (unpackSV R h).cs.toArray)).run Try.prog w = .ok (.bool true) w) := fun w => by
        have e := sv_eql HUL.out HUL.out w
        rw [same_self] at e
        exact e
      generalize unpackSV R h = u at *
      generalize newSV en sp = nw at *
      go_upto_region 19 with fail
      refine Upto.start (S := fun w' => SH noZ w w' [(g47, Cel.any (quadC a b c d)), (b18, Cel.any d.cs), (b17, Cel.any c.cs), (b12, Cel.any (rc R)), (b9, Cel.any b.cs), (b8, Cel.any a.cs)]) 16 (by kernel_rfl) ?_
      replace S := S.drew
      refine Upto.take (i := 0) (oi := { dst := some 96, op := Op.move (Operand.tmp 2), type := 22, pos := "law.go:37", after := #[], guard := none }) (v := ?_) rfl (by kernel_rfl) (by kernel_rfl) (by kernel_rfl) (by kernel_rfl) (fun _ _ _ h => h) (Or.inl ⟨by rfl, ?_⟩) (by exact S) ?_
      rotate_left 1
      · intro w hSw
        clear hSw
        go_simp
        try with_reducible rfl
      simp only [Act.put, List.setIfInBounds_toArray, List.set_cons_zero, List.set_cons_succ]
      refine Upto.take (i := 1) (oi := { dst := some 97, op := Op.move (Operand.tmp 3), type := 22, pos := "law.go:37", after := #[], guard := none }) (v := ?_) rfl (by kernel_rfl) (by kernel_rfl) (by kernel_rfl) (by kernel_rfl) (fun _ _ _ h => h) (Or.inl ⟨by rfl, ?_⟩) (by exact S) ?_
      rotate_left 1
      · intro w hSw
        clear hSw
        go_simp
        try with_reducible rfl
      simp only [Act.put, List.setIfInBounds_toArray, List.set_cons_zero, List.set_cons_succ]
      refine Upto.take (i := 3) (oi := { dst := some 99, op := Op.move (Operand.tmp 2), type := 22, pos := "law.go:37", after := #[], guard := none }) (v := ?_) rfl (by kernel_rfl) (by kernel_rfl) (by kernel_rfl) (by kernel_rfl) (fun _ _ _ h => h) (Or.inl ⟨by rfl, ?_⟩) (by exact S) ?_
      rotate_left 1
      · intro w hSw
        clear hSw
        go_simp
        try with_reducible rfl
      simp only [Act.put, List.setIfInBounds_toArray, List.set_cons_zero, List.set_cons_succ]
      refine Upto.take (i := 4) (oi := { dst := some 100, op := Op.move (Operand.tmp 3), type := 22, pos := "law.go:37", after := #[], guard := none }) (v := ?_) rfl (by kernel_rfl) (by kernel_rfl) (by kernel_rfl) (by kernel_rfl) (fun _ _ _ h => h) (Or.inl ⟨by rfl, ?_⟩) (by exact S) ?_
      rotate_left 1
      · intro w hSw
        clear hSw
        go_simp
        try with_reducible rfl
      simp only [Act.put, List.setIfInBounds_toArray, List.set_cons_zero, List.set_cons_succ]
      refine Upto.ready (rs := [2]) (by kernel_rfl) (by simp) ?_
      refine Nexts.cons rfl (by decide) (fun K hK => ?_) Nexts.nil
      go_simp
      go_wp2_with (go_at_call 14; refine (CN.out _).mono ?_; rintro e wf ⟨rfl, hbf⟩; replace S := S.below hbf; clear hbf)
      refine hK.out _ _ (by exact S) ?_
      clear hK K
      refine Upto.ready (rs := [5]) (by kernel_rfl) (by simp) ?_
      refine Nexts.cons rfl (by decide) (fun K hK => ?_) Nexts.nil
      go_simp
      go_wp2_with (go_at_call 15; refine (CRN.out _).mono ?_; rintro e wf ⟨rfl, hbf⟩; replace S := S.below hbf; clear hbf)
      refine hK.out _ _ (by exact S) ?_
      clear hK K
      refine Upto.take (i := 6) (oi := { dst := some 102, op := Op.binOp BinOp.eql 25 (Operand.tmp 98) (Operand.tmp 101) 25, type := 4, pos := "law.go:37", after := #[{ on := 2, ground := Ground.data }, { on := 5, ground := Ground.data }], guard := none }) (v := _) rfl (by kernel_rfl) (by kernel_rfl) (by kernel_rfl) (by kernel_rfl) (fun _ _ _ h => h) (y_eqS (by rfl) .eql 25 _ _ _ rfl nw.cs nw.cs rfl rfl (by kernel_rfl) true HE1.out) (by exact S) ?_
      simp only [Act.put, List.setIfInBounds_toArray, List.set_cons_zero, List.set_cons_succ]
      refine Upto.take (i := 7) (oi := { dst := some 103, op := Op.move (Operand.tmp 102), type := 4, pos := "law.go:37", after := #[{ on := 6, ground := Ground.data }, { on := 5, ground := Ground.chain }], guard := none }) (v := ?_) rfl (by kernel_rfl) (by kernel_rfl) (by kernel_rfl) (by kernel_rfl) (fun _ _ _ h => h) (Or.inl ⟨by rfl, ?_⟩) (by exact S) ?_
      rotate_left 1
      · intro w hSw
        clear hSw
        go_simp
        try with_reducible rfl
      simp only [Act.put, List.setIfInBounds_toArray, List.set_cons_zero, List.set_cons_succ]
      refine Upto.take (i := 8) (oi := { dst := some 104, op := Op.load 26 (Operand.tmp 12), type := 26, pos := "law.go:37", after := #[{ on := 7, ground := Ground.guard }], guard := some (7, true) }) (v := _) rfl (by kernel_rfl) (by kernel_rfl) (by kernel_rfl) (by kernel_rfl) (fun _ _ _ h => h) (y_loadAll (by rfl) 26 _ rfl _ rfl 3 _ rfl _ Try.underlying26 rfl (szR HRL.out)) (by exact S) ?_
      simp only [Act.put, List.setIfInBounds_toArray, List.set_cons_zero, List.set_cons_succ]
      refine Upto.take (i := 9) (oi := { dst := some 105, op := Op.move (Operand.tmp 5), type := 4, pos := "law.go:37", after := #[{ on := 7, ground := Ground.guard }], guard := some (7, true) }) (v := ?_) rfl (by kernel_rfl) (by kernel_rfl) (by kernel_rfl) (by kernel_rfl) (fun _ _ _ h => h) (Or.inl ⟨by rfl, ?_⟩) (by exact S) ?_
      rotate_left 1
      · intro w hSw
        clear hSw
        go_simp
        try with_reducible rfl
      simp only [Act.put, List.setIfInBounds_toArray, List.set_cons_zero, List.set_cons_succ]
      refine Upto.take (i := 11) (oi := { dst := some 107, op := Op.load 26 (Operand.tmp 12), type := 26, pos := "law.go:37", after := #[{ on := 7, ground := Ground.guard }], guard := some (7, true) }) (v := _) rfl (by kernel_rfl) (by kernel_rfl) (by kernel_rfl) (by kernel_rfl) (fun _ _ _ h => h) (y_loadAll (by rfl) 26 _ rfl _ rfl 3 _ rfl _ Try.underlying26 rfl (szR HRL.out)) (by exact S) ?_
      simp only [Act.put, List.setIfInBounds_toArray, List.set_cons_zero, List.set_cons_succ]
      refine Upto.take (i := 12) (oi := { dst := some 108, op := Op.move (Operand.tmp 5), type := 4, pos := "law.go:37", after := #[{ on := 7, ground := Ground.guard }], guard := some (7, true) }) (v := ?_) rfl (by kernel_rfl) (by kernel_rfl) (by kernel_rfl) (by kernel_rfl) (fun _ _ _ h => h) (Or.inl ⟨by rfl, ?_⟩) (by exact S) ?_
      rotate_left 1
      · intro w hSw
        clear hSw
        go_simp
        try with_reducible rfl
      simp only [Act.put, List.setIfInBounds_toArray, List.set_cons_zero, List.set_cons_succ]
      refine Upto.ready (rs := [10]) (by kernel_rfl) (by simp) ?_
      refine Nexts.cons rfl (by decide) (fun K hK => ?_) Nexts.nil
      go_simp
      go_wp2_with (go_at_call 13; refine (CU.out _).mono ?_; rintro e wf ⟨rfl, hbf⟩; replace S := S.below hbf; clear hbf)
      refine hK.out _ _ (by exact S) ?_
      clear hK K
      refine Upto.ready (rs := [13]) (by kernel_rfl) (by simp) ?_
      refine Nexts.cons rfl (by decide) (fun K hK => ?_) Nexts.nil
      go_simp
      go_wp2_with (go_at_call 16; refine (CRU.out _).mono ?_; rintro e wf ⟨rfl, hbf⟩; replace S := S.below hbf; clear hbf)
      refine hK.out _ _ (by exact S) ?_
      clear hK K
      refine Upto.take (i := 14) (oi := { dst := some 110, op := Op.binOp BinOp.eql 25 (Operand.tmp 106) (Operand.tmp 109) 25, type := 4, pos := "law.go:37", after := #[{ on := 10, ground := Ground.data }, { on := 13, ground := Ground.data }, { on := 7, ground := Ground.guard }], guard := some (7, true) }) (v := _) rfl (by kernel_rfl) (by kernel_rfl) (by kernel_rfl) (by kernel_rfl) (fun _ _ _ h => h) (y_eqS (by rfl) .eql 25 _ _ _ rfl u.cs u.cs rfl rfl (by kernel_rfl) true HE2.out) (by exact S) ?_
      simp only [Act.put, List.setIfInBounds_toArray, List.set_cons_zero, List.set_cons_succ]
      refine Upto.take (i := 15) (oi := { dst := some 111, op := Op.pick (Operand.tmp 103) (Operand.tmp 110) (Operand.const (Value.bool false)), type := 4, pos := "law.go:37", after := #[{ on := 7, ground := Ground.data }, { on := 14, ground := Ground.data }], guard := none }) (v := ?_) rfl (by kernel_rfl) (by kernel_rfl) (by kernel_rfl) (by kernel_rfl) (fun _ _ _ h => h) (Or.inl ⟨by rfl, ?_⟩) (by exact S) ?_
      rotate_left 1
      · intro w hSw
        clear hSw
        go_simp
        try with_reducible rfl
      simp only [Act.put, List.setIfInBounds_toArray, List.set_cons_zero, List.set_cons_succ]
      refine Upto.ready (rs := [16]) (by kernel_rfl) (by simp) ?_
      refine Nexts.last rfl (fun K hK => ?_)
      go_simp
      refine hK.out _ _ ?_
      clear hK K
      refine Upto.done (by kernel_rfl) ?_ _
      go_wp2
      go_ret
      exact ⟨rfl, S.low⟩
end Go.Proofs.Ytabipgncbbjcgaa
