/- Stage 12: StateHost. -/
import Derived.Test.YtabipgncbbjcgaaSt1
import Derived.Test.YtabipgncbbjcgaaSt6
namespace Go.Proofs.Ytabipgncbbjcgaa
open Go.ChangeShapes Go.WideShapes Go.ChangeAt Go.RowKit
set_option linter.unusedVariables false
set_option linter.unusedSimpArgs false

theorem or15 {x v : Int} (hx : okU x) (hv : okU v) : ∃ y, bits .or .u32 x (bits .andNot .u32 v 15) = y ∧ okU y ∧ y % 16 = x % 16 := by
  obtain ⟨x0, x1⟩ := hx
  obtain ⟨v0, v1⟩ := hv
  have e1 : bits .andNot .u32 v 15 = IntKind.u32.wrap (((BitVec.ofInt 32 v &&& ~~~ BitVec.ofInt 32 15).toNat : Nat) : Int) := rfl
  obtain ⟨z, hz⟩ : ∃ z, z = (BitVec.ofInt 32 v &&& ~~~ BitVec.ofInt 32 15).toNat := ⟨_, rfl⟩
  have hz1 : z < 4294967296 := by rw [hz]; exact (BitVec.ofInt 32 v &&& ~~~ BitVec.ofInt 32 15).isLt
  have hz2 : z % 16 = 0 := by
    rw [hz, BitVec.toNat_and, show (16 : Nat) = 2 ^ 4 by decide, Nat.and_mod_two_pow, show (~~~ BitVec.ofInt 32 15).toNat % 2 ^ 4 = 0 by decide, Nat.and_zero]
  have e2 : bits .andNot .u32 v 15 = (z : Int) := by
    rw [e1, ← hz, IntKind.wrap_u32]
    omega
  have e3 : bits .or .u32 x (z : Int) = IntKind.u32.wrap (((BitVec.ofInt 32 x ||| BitVec.ofInt 32 z).toNat : Nat) : Int) := rfl
  obtain ⟨y, hy⟩ : ∃ y, y = (BitVec.ofInt 32 x ||| BitVec.ofInt 32 z).toNat := ⟨_, rfl⟩
  have hy1 : y < 4294967296 := by rw [hy]; exact (BitVec.ofInt 32 x ||| BitVec.ofInt 32 z).isLt
  have hy2 : (y : Int) % 16 = x % 16 := by
    have h1 : (BitVec.ofInt 32 x).toNat = x.toNat := by rw [BitVec.toNat_ofInt]; omega
    have h2 : (BitVec.ofInt 32 (z : Int)).toNat = z := by rw [BitVec.toNat_ofInt]; omega
    have h3 : y % 16 = x.toNat % 16 := by
      rw [hy, BitVec.toNat_or, h1, h2, show (16 : Nat) = 2 ^ 4 by decide, Nat.or_mod_two_pow, show z % 2 ^ 4 = 0 from hz2, Nat.or_zero]
    omega
  refine ⟨y, ?_, ⟨by omega, by omega⟩, hy2⟩
  rw [e2, e3, ← hy, IntKind.wrap_u32]
  omega
theorem unpack_ok {R : List Int} (h : okN 32 R) (b : Bool) : (unpackSV R b).ok := by
  refine ⟨⟨unp_len h.1, fun x hx => h.2 x (List.mem_of_mem_take hx)⟩, ?_⟩
  show _ ≤ R.getD 16 0 % 16 ∧ R.getD 16 0 % 16 ≤ _
  omega
theorem packL_ok {s : SV} (h : s.ok) : okN 32 (packL s) := by
  refine ⟨packL_len h.1.1, fun x hx => ?_⟩
  simp only [packL, List.mem_append, List.mem_cons, List.mem_replicate] at hx
  rcases hx with hx | rfl | ⟨_, rfl⟩
  · exact h.1.2 x hx
  · unfold okU; omega
  · unfold okU; omega
theorem packL_hi {s : SV} (h : s.r.length = 16) {i : Nat} (h1 : 17 ≤ i) (h2 : i < 32) : (packL s)[i]? = some 0 := by
  rw [packL, List.getElem?_append_right (by omega), h, show i - 16 = (i - 17) + 1 by omega, List.getElem?_cons_succ, List.getElem?_replicate]
  simp
  omega
theorem packL_16 {s : SV} (h : s.r.length = 16) : (packL s)[16]? = some (s.f % 16) := by
  rw [packL, List.getElem?_append_right (by omega), h]
  rfl
theorem packL_lo {s : SV} (h : s.r.length = 16) {i : Nat} (h2 : i < 16) : (packL s)[i]? = s.r[i]? := by
  rw [packL, List.getElem?_append_left (by omega)]
/-- What Unpack makes of registers of which only those above were turned, and the flags' rest. -/
theorem host_same {R : List Int} (hR : R.length = 32) (b : Bool) {n : Nat} (hn : 17 ≤ n) (v y : Int) {x : Int} (hx : R[16]? = some x) (hy : y % 16 = x % 16) : sameS (unpackSV ((R.set n v).set 16 y) b) (unpackSV R b) = true := by
  have e1 : ((R.set n v).set 16 y).take 16 = R.take 16 := by
    rw [List.take_set, List.set_eq_of_length_le (by rw [List.length_take]; omega), List.take_set, List.set_eq_of_length_le (by rw [List.length_take]; omega)]
  have e2 : ((R.set n v).set 16 y).getD 16 0 = y := by
    rw [List.getD_eq_getElem?_getD, List.getElem?_set_self (by rw [List.length_set]; omega)]
    rfl
  have e3 : R.getD 16 0 = x := by rw [List.getD_eq_getElem?_getD, hx]; rfl
  unfold sameS sameSV plainSV unpackSV
  simp only [e1, e2, e3, hy]
  simp
def shRel (w : World) (b4 b9 b10 b11 : Nat) (R P Q : List Int) (s : SV) (i : Value) (wr : World) : Prop := ∃ k : Nat, 17 ≤ k ∧ k ≤ 32 ∧ i = .int .i64 k ∧ SH noZ w wr [(b11, Cel.any (rc P)), (b10, Cel.any (rc Q)), (b9, Cel.any s.cs), (b4, Cel.any (rc R))]
set_option maxHeartbeats 4000000 in
set_option maxRecDepth 100000 in
theorem host_i (R : List Int) (hR : okN 32 R) (k v : Int) (hk : 0 ≤ k ∧ k ≤ 255) (hv : okU v) (h : Bool) (w : World) : Calls Try.prog 5 #[(Cel.any (rc R)).val, .int .u8 k, .int .u32 v, .bool h] w fun e w' => e = .returned (.bool true) ∧ Below w.heap.size w w' := by
  obtain ⟨hk0, hk1⟩ := hk
  obtain ⟨x, hx, hxu⟩ := okN_at hR (j := 16) (by decide)
  obtain ⟨y, hy, hyu, hyx⟩ := or15 hxu hv
  obtain ⟨n, hn⟩ : ∃ n : Nat, (17 + k.tmod 15) % 256 = (n : Int) ∧ 17 ≤ n ∧ n < 32 := ⟨(17 + k % 15).toNat, by rw [Int.tmod_eq_emod_of_nonneg hk0]; omega, by omega, by omega⟩
  obtain ⟨hn, hn0, hn1⟩ := hn
  have hn2 : (n : Int) < 32 := by omega
  have hn3 : 0 ≤ (n : Int) := by omega
  have ha : bits .and .u32 x 15 = x % 16 := and15u x hxu
  have HRL : Hid (R.length = 32) := hR.1
  have HX : Hid (R[16]? = some x) := hx
  obtain ⟨x3, hx3, _⟩ := okN_at hR (j := 3) (by decide)
  obtain ⟨x15, hx15, _⟩ := okN_at hR (j := 15) (by decide)
  have HX3 : Hid (R[3]? = some x3) := hx3
  have HX15 : Hid (R[15]? = some x15) := hx15
  have hQ : okN 32 ((R.set n v).set 16 y) := okN_set (okN_set hR n hv) 16 hyu
  have HQL : Hid (((R.set n v).set 16 y).length = 32) := hQ.1
  have CK : Hid _ := fun w => known_c w
  have CU : Hid _ := fun w => unpack_c R hR h w
  have CU2 : Hid _ := fun w => unpack_c _ hQ h w
  have CS : Hid (∀ w, Calls Try.prog 7 #[(unpackSV ((R.set n v).set 16 y) h).val, (unpackSV R h).val] w fun e w' => e = .returned (.bool true) ∧ Below w.heap.size w w') := fun w => (same_c _ _ (unpack_ok hQ h) (unpack_ok hR h) w).mono fun e w' p => by
    rw [host_same hR.1 h hn0 v y hx hyx] at p
    exact p
  have hs := unpack_ok hR h
  have CP : Hid _ := fun w => pack_c _ hs w
  have HSL : Hid ((unpackSV R h).r.length = 16) := hs.1.1
  have HPL : Hid ((packL (unpackSV R h)).length = 32) := packL_len hs.1.1
  have HP0 : Hid (∀ i, 17 ≤ i → i < 32 → (packL (unpackSV R h))[i]? = some 0) := fun i h1 h2 => packL_hi hs.1.1 h1 h2
  have HP16 : Hid ((packL (unpackSV R h))[16]? = some (x % 16)) := by
    have e := packL_16 hs.1.1
    have e2 : (unpackSV R h).f = x % 16 := by simp [unpackSV, List.getD_eq_getElem?_getD, hx]
    rw [e2] at e
    have e3 : x % 16 % 16 = x % 16 := by omega
    rw [e3] at e
    exact e
  have HP3 : Hid ((packL (unpackSV R h))[3]? = some x3) := (packL_lo hs.1.1 (by decide)).trans (by simp [unpackSV, List.getElem?_take, hx3])
  have HP15 : Hid ((packL (unpackSV R h))[15]? = some x15) := (packL_lo hs.1.1 (by decide)).trans (by simp [unpackSV, List.getElem?_take, hx15])
  have HH : Hid ((unpackSV R h).cs[17]? = some (.bool h)) := SV.ha hs.1.1
  have HQ1 : Hid ((rc R).set n (.int .u32 v) = rc (R.set n v)) := rc_set _ _ _
  have HQ2 : Hid ((rc (R.set n v)).set 16 (.int .u32 y) = rc ((R.set n v).set 16 y)) := rc_set _ _ _
  have HQ1L : Hid ((R.set n v).length = 32) := by
    have := hR.1
    show (R.set n v).length = 32
    rw [List.length_set]
    exact this
  clear hR hx hx3 hx15 hs hQ hyx hxu hyu hv hk0 hk1
  generalize packL (unpackSV R h) = P at *
  generalize unpackSV R h = s at *
  generalize (R.set n v).set 16 y = Q at *
  generalize unpackSV Q h = s2 at *
  generalize R.set n v = Q1 at *
  go_enter Try.func5, Try.ntmps5
  have S := SH.start w
  go_upto_region 9 with (first
    | ((with_reducible refine wpl_isDst 4 ?_); (first | refine S.boxA rfl 26 _ rfl (rc R) rfl ?_ | refine SH.boxA (L := []) S rfl 26 _ rfl (rc R) rfl ?_); clear S; intro b4 w4 S)
    | (go_at_call 6; refine (CK.out _).mono ?_; rintro e wf ⟨rfl, hbf⟩; replace S := S.below hbf; clear hbf)
    | ((with_reducible refine wpl_isDst 15 ?_); refine S.ldAll 26 _ rfl b4 rfl 0 _ rfl _ Try.underlying26 rfl (szR HRL.out) rfl ?_)
    | (go_at_call 13; refine (CU.out _).mono ?_; rintro e wf ⟨rfl, hbf⟩; replace S := S.below hbf; clear hbf)
    | ((with_reducible refine wpl_isDst 9 ?_); (first | refine S.alloc rfl 25 rfl (Cel.any zeroSV.cs) zeroState ?_ | refine SH.alloc (L := []) S rfl 25 rfl (Cel.any zeroSV.cs) zeroState ?_); clear S; intro b9 w9 S)
    | ((with_reducible refine wpl_isStoreAt 9 ?_); refine S.storeAll rfl 25 _ _ rfl b9 (Cel.any s.cs) rfl rfl 0 _ rfl ((SV.len rfl).trans (SV.len HSL.out).symm) (SV.one _) (szS HSL.out) ?_; clear S; intro w2 S; (try simp only [List.set_cons_zero, List.set_cons_succ] at S))
    | ((with_reducible refine wpl_isDst 18 ?_); refine S.ldAll 26 _ rfl b4 rfl 1 _ rfl _ Try.underlying26 rfl (szR HRL.out) rfl ?_)
    | ((with_reducible refine wpl_isDst 10 ?_); (first | refine S.alloc rfl 26 rfl (Cel.any (rc (List.replicate 32 0))) zeroRegs ?_ | refine SH.alloc (L := []) S rfl 26 rfl (Cel.any (rc (List.replicate 32 0))) zeroRegs ?_); clear S; intro b10 w10 S)
    | ((with_reducible refine wpl_isStoreAt 10 ?_); refine S.storeAll rfl 26 _ _ rfl b10 (Cel.any (rc R)) rfl rfl 0 _ rfl (by rw [rc_length, rc_length, HRL.out]; rfl) (rc_one _) (szR HRL.out) ?_; clear S; intro w2 S; (try simp only [List.set_cons_zero, List.set_cons_succ] at S))
    | ((with_reducible refine wpl_isDst 21 ?_); refine wpl_dst 21 rfl (.int .u8 n) (by go_simp; exact hn) rfl ?_)
    | ((with_reducible refine wpl_isStoreAt 23 ?_); refine S.store1 rfl 22 _ _ rfl b10 n (.int .u32 v) rfl rfl 0 _ rfl rfl (by rw [rc_length, HRL.out]; exact hn1) (Cel.any (rc Q1)) HQ1.out szU ?_; clear S; intro w2 S; (try simp only [List.set_cons_zero, List.set_cons_succ] at S))
    | ((with_reducible refine wpl_isDst 25 ?_); refine S.ld 22 _ rfl b4 16 rfl 2 _ rfl _ (rc_at HX.out) _ Try.underlying22 rfl rfl ?_)
    | ((with_reducible refine wpl_isDst 28 ?_); refine wpl_dst 28 rfl (.int .u32 y) (by go_simp; exact hy) rfl ?_)
    | ((with_reducible refine wpl_isStoreAt 29 ?_); refine S.store1 rfl 22 _ _ rfl b10 16 (.int .u32 y) rfl rfl 0 _ rfl rfl (by rw [rc_length, HQ1L.out]; decide) (Cel.any (rc Q)) HQ2.out szU ?_; clear S; intro w2 S; (try simp only [List.set_cons_zero, List.set_cons_succ] at S))
    | ((with_reducible refine wpl_isDst 30 ?_); refine S.ldAll 25 _ rfl b9 rfl 1 _ rfl _ Try.underlying25 rfl (szS HSL.out) rfl ?_)
    | (go_at_call 9; refine (CP.out _).mono ?_; rintro e wf ⟨rfl, hbf⟩; replace S := S.below hbf; clear hbf)
    | ((with_reducible refine wpl_isDst 11 ?_); (first | refine S.alloc rfl 26 rfl (Cel.any (rc (List.replicate 32 0))) zeroRegs ?_ | refine SH.alloc (L := []) S rfl 26 rfl (Cel.any (rc (List.replicate 32 0))) zeroRegs ?_); clear S; intro b11 w11 S)
    | ((with_reducible refine wpl_isStoreAt 11 ?_); refine S.storeAll rfl 26 _ _ rfl b11 (Cel.any (rc P)) rfl rfl 0 _ rfl (by rw [rc_length, rc_length, HPL.out]; rfl) (rc_one _) (szR HPL.out) ?_; clear S; intro w2 S; (try simp only [List.set_cons_zero, List.set_cons_succ] at S)))
  have ST : Hid (shRel w b4 b9 b10 b11 R P Q s (.int .i64 17) _) := ⟨17, Nat.le_refl _, by decide, rfl, S⟩
  clear S
  go_loopw [12] (fun i wr => shRel w b4 b9 b10 b11 R P Q s i wr) (fun i _ => 32 - (intOf i).toNat)
  case atStart => exact ST.out
  case round =>
    clear ST
    obtain ⟨j, hj0, hj1, rfl, S⟩ := hrel
    by_cases hlt : j < 32
    · have hlt' : (j : Int) < 32 := by omega
      have h0 : 0 ≤ (j : Int) := by omega
      have HPJ : Hid (P[j]? = some 0) := HP0.out j hj0 hlt
      go_wp2_with (first
        | ((with_reducible refine wpl_isDst 38 ?_); refine S.ld 22 _ rfl b11 j rfl 0 _ rfl _ (rc_at HPJ.out) _ Try.underlying22 rfl rfl ?_))
      go_roundw
      case rel => exact ⟨j + 1, by omega, hlt, by push_cast; rfl, S⟩
      case measure =>
        simp only [intOf]
        omega
    · have hlt' : ¬ (j : Int) < 32 := by omega
      go_upto_region 13 with fail
      refine Upto.start (S := fun w' => SH noZ w w' [(b11, Cel.any (rc P)), (b10, Cel.any (rc Q)), (b9, Cel.any s.cs), (b4, Cel.any (rc R))]) 33 (by kernel_rfl) ?_
      replace S := S.drew
      refine Upto.take (i := 0) (oi := { dst := some 40, op := Op.load 26 (Operand.tmp 10), type := 26, pos := "more.go:23", after := #[], guard := none }) (v := _) rfl (by kernel_rfl) (by kernel_rfl) (by kernel_rfl) (by kernel_rfl) (fun _ _ _ h => h) (y_loadAll (by rfl) _ _ rfl _ rfl 1 _ rfl _ Try.underlying26 rfl (szR HQL.out)) (by exact S) ?_
      simp only [Act.put, List.setIfInBounds_toArray, List.set_cons_zero, List.set_cons_succ]
      refine Upto.take (i := 1) (oi := { dst := some 41, op := Op.move (Operand.tmp 3), type := 4, pos := "more.go:23", after := #[], guard := none }) (v := ?_) rfl (by kernel_rfl) (by kernel_rfl) (by kernel_rfl) (by kernel_rfl) (fun _ _ _ h => h) (Or.inl ⟨by rfl, ?_⟩) (by exact S) ?_
      rotate_left 1
      · intro w hSw
        clear hSw
        go_simp
        try with_reducible rfl
      simp only [Act.put, List.setIfInBounds_toArray, List.set_cons_zero, List.set_cons_succ]
      refine Upto.take (i := 3) (oi := { dst := some 43, op := Op.load 25 (Operand.tmp 9), type := 25, pos := "more.go:23", after := #[], guard := none }) (v := _) rfl (by kernel_rfl) (by kernel_rfl) (by kernel_rfl) (by kernel_rfl) (fun _ _ _ h => h) (y_loadAll (by rfl) _ _ rfl _ rfl 2 _ rfl _ Try.underlying25 rfl (szS HSL.out)) (by exact S) ?_
      simp only [Act.put, List.setIfInBounds_toArray, List.set_cons_zero, List.set_cons_succ]
      refine Upto.ready (rs := [2]) (by kernel_rfl) (by simp) ?_
      refine Nexts.cons rfl (by decide) (fun K hK => ?_) Nexts.nil
      go_simp
      go_wp2_with (go_at_call 13; refine (CU2.out _).mono ?_; rintro e wf ⟨rfl, hbf⟩; replace S := S.below hbf; clear hbf)
      refine hK.out _ _ (by exact S) ?_
      clear hK K
      refine Upto.ready (rs := [4]) (by kernel_rfl) (by simp) ?_
      refine Nexts.cons rfl (by decide) (fun K hK => ?_) Nexts.nil
      go_simp
      go_wp2_with (go_at_call 7; refine (CS.out _).mono ?_; rintro e wf ⟨rfl, hbf⟩; replace S := S.below hbf; clear hbf)
      refine hK.out _ _ (by exact S) ?_
      clear hK K
      refine Upto.take (i := 5) (oi := { dst := some 45, op := Op.move (Operand.tmp 44), type := 4, pos := "more.go:23", after := #[{ on := 4, ground := Ground.data }, { on := 4, ground := Ground.chain }], guard := none }) (v := ?_) rfl (by kernel_rfl) (by kernel_rfl) (by kernel_rfl) (by kernel_rfl) (fun _ _ _ h => h) (Or.inl ⟨by rfl, ?_⟩) (by exact S) ?_
      rotate_left 1
      · intro w hSw
        clear hSw
        go_simp
        try with_reducible rfl
      simp only [Act.put, List.setIfInBounds_toArray, List.set_cons_zero, List.set_cons_succ]
      refine Upto.take (i := 6) (oi := { dst := some 46, op := Op.fieldAddr 25 (Operand.tmp 9) 2, type := 0, pos := "more.go:23", after := #[{ on := 5, ground := Ground.guard }], guard := some (5, true) }) (v := ?_) rfl (by kernel_rfl) (by kernel_rfl) (by kernel_rfl) (by kernel_rfl) (fun _ _ _ h => h) (Or.inl ⟨by rfl, ?_⟩) (by exact S) ?_
      rotate_left 1
      · intro w hSw
        clear hSw
        go_simp
        try with_reducible rfl
      simp only [Act.put, List.setIfInBounds_toArray, List.set_cons_zero, List.set_cons_succ]
      refine Upto.take (i := 7) (oi := { dst := some 47, op := Op.load 4 (Operand.tmp 46), type := 4, pos := "more.go:23", after := #[{ on := 6, ground := Ground.data }, { on := 5, ground := Ground.guard }], guard := some (5, true) }) (v := _) rfl (by kernel_rfl) (by kernel_rfl) (by kernel_rfl) (by kernel_rfl) (fun _ _ _ h => h) (y_load1 (by rfl) _ _ rfl _ _ rfl 2 _ rfl _ HH.out _ Try.underlying4 rfl) (by exact S) ?_
      simp only [Act.put, List.setIfInBounds_toArray, List.set_cons_zero, List.set_cons_succ]
      refine Upto.take (i := 8) (oi := { dst := some 48, op := Op.move (Operand.tmp 3), type := 4, pos := "more.go:23", after := #[{ on := 5, ground := Ground.guard }], guard := some (5, true) }) (v := ?_) rfl (by kernel_rfl) (by kernel_rfl) (by kernel_rfl) (by kernel_rfl) (fun _ _ _ h => h) (Or.inl ⟨by rfl, ?_⟩) (by exact S) ?_
      rotate_left 1
      · intro w hSw
        clear hSw
        go_simp
        try with_reducible rfl
      simp only [Act.put, List.setIfInBounds_toArray, List.set_cons_zero, List.set_cons_succ]
      refine Upto.take (i := 9) (oi := { dst := some 49, op := Op.binOp BinOp.eql 4 (Operand.tmp 47) (Operand.tmp 48) 4, type := 4, pos := "more.go:23", after := #[{ on := 7, ground := Ground.data }, { on := 8, ground := Ground.data }, { on := 5, ground := Ground.guard }], guard := some (5, true) }) (v := ?_) rfl (by kernel_rfl) (by kernel_rfl) (by kernel_rfl) (by kernel_rfl) (fun _ _ _ h => h) (Or.inl ⟨by rfl, ?_⟩) (by exact S) ?_
      rotate_left 1
      · intro w hSw
        clear hSw
        go_simp
        try with_reducible rfl
      simp only [Act.put, List.setIfInBounds_toArray, List.set_cons_zero, List.set_cons_succ]
      refine Upto.take (i := 10) (oi := { dst := some 50, op := Op.pick (Operand.tmp 45) (Operand.tmp 49) (Operand.const (Value.bool false)), type := 4, pos := "more.go:23", after := #[{ on := 5, ground := Ground.data }, { on := 9, ground := Ground.data }], guard := none }) (v := ?_) rfl (by kernel_rfl) (by kernel_rfl) (by kernel_rfl) (by kernel_rfl) (fun _ _ _ h => h) (Or.inl ⟨by rfl, ?_⟩) (by exact S) ?_
      rotate_left 1
      · intro w hSw
        clear hSw
        go_simp
        try with_reducible rfl
      simp only [Act.put, List.setIfInBounds_toArray, List.set_cons_zero, List.set_cons_succ]
      refine Upto.take (i := 11) (oi := { dst := some 51, op := Op.move (Operand.tmp 50), type := 4, pos := "more.go:23", after := #[{ on := 10, ground := Ground.data }, { on := 5, ground := Ground.chain }], guard := none }) (v := ?_) rfl (by kernel_rfl) (by kernel_rfl) (by kernel_rfl) (by kernel_rfl) (fun _ _ _ h => h) (Or.inl ⟨by rfl, ?_⟩) (by exact S) ?_
      rotate_left 1
      · intro w hSw
        clear hSw
        go_simp
        try with_reducible rfl
      simp only [Act.put, List.setIfInBounds_toArray, List.set_cons_zero, List.set_cons_succ]
      refine Upto.take (i := 12) (oi := { dst := some 52, op := Op.indexAddr 26 (Operand.tmp 11) (Operand.const (Value.int IntKind.i64 16)), type := 0, pos := "more.go:23", after := #[{ on := 11, ground := Ground.guard }], guard := some (11, true) }) (v := ?_) rfl (by kernel_rfl) (by kernel_rfl) (by kernel_rfl) (by kernel_rfl) (fun _ _ _ h => h) (Or.inl ⟨by rfl, ?_⟩) (by exact S) ?_
      rotate_left 1
      · intro w hSw
        clear hSw
        go_simp
        try with_reducible rfl
      simp only [Act.put, List.setIfInBounds_toArray, List.set_cons_zero, List.set_cons_succ]
      refine Upto.take (i := 13) (oi := { dst := some 53, op := Op.load 22 (Operand.tmp 52), type := 22, pos := "more.go:23", after := #[{ on := 12, ground := Ground.data }, { on := 11, ground := Ground.guard }], guard := some (11, true) }) (v := _) rfl (by kernel_rfl) (by kernel_rfl) (by kernel_rfl) (by kernel_rfl) (fun _ _ _ h => h) (y_load1 (by rfl) _ _ rfl _ _ rfl 0 _ rfl _ (rc_at HP16.out) _ Try.underlying22 rfl) (by exact S) ?_
      simp only [Act.put, List.setIfInBounds_toArray, List.set_cons_zero, List.set_cons_succ]
      refine Upto.take (i := 14) (oi := { dst := some 54, op := Op.indexAddr 26 (Operand.tmp 4) (Operand.const (Value.int IntKind.i64 16)), type := 0, pos := "more.go:23", after := #[{ on := 11, ground := Ground.guard }], guard := some (11, true) }) (v := ?_) rfl (by kernel_rfl) (by kernel_rfl) (by kernel_rfl) (by kernel_rfl) (fun _ _ _ h => h) (Or.inl ⟨by rfl, ?_⟩) (by exact S) ?_
      rotate_left 1
      · intro w hSw
        clear hSw
        go_simp
        try with_reducible rfl
      simp only [Act.put, List.setIfInBounds_toArray, List.set_cons_zero, List.set_cons_succ]
      refine Upto.take (i := 15) (oi := { dst := some 55, op := Op.load 22 (Operand.tmp 54), type := 22, pos := "more.go:23", after := #[{ on := 14, ground := Ground.data }, { on := 11, ground := Ground.guard }], guard := some (11, true) }) (v := _) rfl (by kernel_rfl) (by kernel_rfl) (by kernel_rfl) (by kernel_rfl) (fun _ _ _ h => h) (y_load1 (by rfl) _ _ rfl _ _ rfl 3 _ rfl _ (rc_at HX.out) _ Try.underlying22 rfl) (by exact S) ?_
      simp only [Act.put, List.setIfInBounds_toArray, List.set_cons_zero, List.set_cons_succ]
      refine Upto.take (i := 16) (oi := { dst := some 56, op := Op.binOp BinOp.and 22 (Operand.tmp 55) (Operand.const (Value.int IntKind.u32 15)) 22, type := 22, pos := "more.go:23", after := #[{ on := 15, ground := Ground.data }, { on := 11, ground := Ground.guard }], guard := some (11, true) }) (v := ?_) rfl (by kernel_rfl) (by kernel_rfl) (by kernel_rfl) (by kernel_rfl) (fun _ _ _ h => h) (Or.inl ⟨by rfl, ?_⟩) (by exact S) ?_
      rotate_left 1
      · intro w hSw
        clear hSw
        go_simp
        try with_reducible rfl
      simp only [Act.put, List.setIfInBounds_toArray, List.set_cons_zero, List.set_cons_succ]
      refine Upto.take (i := 17) (oi := { dst := some 57, op := Op.binOp BinOp.eql 22 (Operand.tmp 53) (Operand.tmp 56) 22, type := 4, pos := "more.go:23", after := #[{ on := 13, ground := Ground.data }, { on := 16, ground := Ground.data }, { on := 11, ground := Ground.guard }], guard := some (11, true) }) (v := ?_) rfl (by kernel_rfl) (by kernel_rfl) (by kernel_rfl) (by kernel_rfl) (fun _ _ _ h => h) (Or.inl ⟨by rfl, ?_⟩) (by exact S) ?_
      rotate_left 1
      · intro w hSw
        clear hSw
        go_simp
        try with_reducible rfl
      simp only [Act.put, List.setIfInBounds_toArray, List.set_cons_zero, List.set_cons_succ]
      refine Upto.take (i := 18) (oi := { dst := some 58, op := Op.pick (Operand.tmp 51) (Operand.tmp 57) (Operand.const (Value.bool false)), type := 4, pos := "more.go:23", after := #[{ on := 11, ground := Ground.data }, { on := 17, ground := Ground.data }], guard := none }) (v := ?_) rfl (by kernel_rfl) (by kernel_rfl) (by kernel_rfl) (by kernel_rfl) (fun _ _ _ h => h) (Or.inl ⟨by rfl, ?_⟩) (by exact S) ?_
      rotate_left 1
      · intro w hSw
        clear hSw
        go_simp
        try with_reducible rfl
      simp only [Act.put, List.setIfInBounds_toArray, List.set_cons_zero, List.set_cons_succ]
      refine Upto.take (i := 19) (oi := { dst := some 59, op := Op.move (Operand.tmp 58), type := 4, pos := "more.go:23", after := #[{ on := 18, ground := Ground.data }, { on := 11, ground := Ground.chain }], guard := none }) (v := ?_) rfl (by kernel_rfl) (by kernel_rfl) (by kernel_rfl) (by kernel_rfl) (fun _ _ _ h => h) (Or.inl ⟨by rfl, ?_⟩) (by exact S) ?_
      rotate_left 1
      · intro w hSw
        clear hSw
        go_simp
        try with_reducible rfl
      simp only [Act.put, List.setIfInBounds_toArray, List.set_cons_zero, List.set_cons_succ]
      refine Upto.take (i := 20) (oi := { dst := some 60, op := Op.indexAddr 26 (Operand.tmp 11) (Operand.const (Value.int IntKind.i64 3)), type := 0, pos := "more.go:23", after := #[{ on := 19, ground := Ground.guard }], guard := some (19, true) }) (v := ?_) rfl (by kernel_rfl) (by kernel_rfl) (by kernel_rfl) (by kernel_rfl) (fun _ _ _ h => h) (Or.inl ⟨by rfl, ?_⟩) (by exact S) ?_
      rotate_left 1
      · intro w hSw
        clear hSw
        go_simp
        try with_reducible rfl
      simp only [Act.put, List.setIfInBounds_toArray, List.set_cons_zero, List.set_cons_succ]
      refine Upto.take (i := 21) (oi := { dst := some 61, op := Op.load 22 (Operand.tmp 60), type := 22, pos := "more.go:23", after := #[{ on := 20, ground := Ground.data }, { on := 19, ground := Ground.guard }], guard := some (19, true) }) (v := _) rfl (by kernel_rfl) (by kernel_rfl) (by kernel_rfl) (by kernel_rfl) (fun _ _ _ h => h) (y_load1 (by rfl) _ _ rfl _ _ rfl 0 _ rfl _ (rc_at HP3.out) _ Try.underlying22 rfl) (by exact S) ?_
      simp only [Act.put, List.setIfInBounds_toArray, List.set_cons_zero, List.set_cons_succ]
      refine Upto.take (i := 22) (oi := { dst := some 62, op := Op.indexAddr 26 (Operand.tmp 4) (Operand.const (Value.int IntKind.i64 3)), type := 0, pos := "more.go:23", after := #[{ on := 19, ground := Ground.guard }], guard := some (19, true) }) (v := ?_) rfl (by kernel_rfl) (by kernel_rfl) (by kernel_rfl) (by kernel_rfl) (fun _ _ _ h => h) (Or.inl ⟨by rfl, ?_⟩) (by exact S) ?_
      rotate_left 1
      · intro w hSw
        clear hSw
        go_simp
        try with_reducible rfl
      simp only [Act.put, List.setIfInBounds_toArray, List.set_cons_zero, List.set_cons_succ]
      refine Upto.take (i := 23) (oi := { dst := some 63, op := Op.load 22 (Operand.tmp 62), type := 22, pos := "more.go:23", after := #[{ on := 22, ground := Ground.data }, { on := 19, ground := Ground.guard }], guard := some (19, true) }) (v := _) rfl (by kernel_rfl) (by kernel_rfl) (by kernel_rfl) (by kernel_rfl) (fun _ _ _ h => h) (y_load1 (by rfl) _ _ rfl _ _ rfl 3 _ rfl _ (rc_at HX3.out) _ Try.underlying22 rfl) (by exact S) ?_
      simp only [Act.put, List.setIfInBounds_toArray, List.set_cons_zero, List.set_cons_succ]
      refine Upto.take (i := 24) (oi := { dst := some 64, op := Op.binOp BinOp.eql 22 (Operand.tmp 61) (Operand.tmp 63) 22, type := 4, pos := "more.go:23", after := #[{ on := 21, ground := Ground.data }, { on := 23, ground := Ground.data }, { on := 19, ground := Ground.guard }], guard := some (19, true) }) (v := ?_) rfl (by kernel_rfl) (by kernel_rfl) (by kernel_rfl) (by kernel_rfl) (fun _ _ _ h => h) (Or.inl ⟨by rfl, ?_⟩) (by exact S) ?_
      rotate_left 1
      · intro w hSw
        clear hSw
        go_simp
        try with_reducible rfl
      simp only [Act.put, List.setIfInBounds_toArray, List.set_cons_zero, List.set_cons_succ]
      refine Upto.take (i := 25) (oi := { dst := some 65, op := Op.pick (Operand.tmp 59) (Operand.tmp 64) (Operand.const (Value.bool false)), type := 4, pos := "more.go:23", after := #[{ on := 19, ground := Ground.data }, { on := 24, ground := Ground.data }], guard := none }) (v := ?_) rfl (by kernel_rfl) (by kernel_rfl) (by kernel_rfl) (by kernel_rfl) (fun _ _ _ h => h) (Or.inl ⟨by rfl, ?_⟩) (by exact S) ?_
      rotate_left 1
      · intro w hSw
        clear hSw
        go_simp
        try with_reducible rfl
      simp only [Act.put, List.setIfInBounds_toArray, List.set_cons_zero, List.set_cons_succ]
      refine Upto.take (i := 26) (oi := { dst := some 66, op := Op.move (Operand.tmp 65), type := 4, pos := "more.go:23", after := #[{ on := 25, ground := Ground.data }, { on := 19, ground := Ground.chain }], guard := none }) (v := ?_) rfl (by kernel_rfl) (by kernel_rfl) (by kernel_rfl) (by kernel_rfl) (fun _ _ _ h => h) (Or.inl ⟨by rfl, ?_⟩) (by exact S) ?_
      rotate_left 1
      · intro w hSw
        clear hSw
        go_simp
        try with_reducible rfl
      simp only [Act.put, List.setIfInBounds_toArray, List.set_cons_zero, List.set_cons_succ]
      refine Upto.take (i := 27) (oi := { dst := some 67, op := Op.indexAddr 26 (Operand.tmp 11) (Operand.const (Value.int IntKind.i64 15)), type := 0, pos := "more.go:23", after := #[{ on := 26, ground := Ground.guard }], guard := some (26, true) }) (v := ?_) rfl (by kernel_rfl) (by kernel_rfl) (by kernel_rfl) (by kernel_rfl) (fun _ _ _ h => h) (Or.inl ⟨by rfl, ?_⟩) (by exact S) ?_
      rotate_left 1
      · intro w hSw
        clear hSw
        go_simp
        try with_reducible rfl
      simp only [Act.put, List.setIfInBounds_toArray, List.set_cons_zero, List.set_cons_succ]
      refine Upto.take (i := 28) (oi := { dst := some 68, op := Op.load 22 (Operand.tmp 67), type := 22, pos := "more.go:23", after := #[{ on := 27, ground := Ground.data }, { on := 26, ground := Ground.guard }], guard := some (26, true) }) (v := _) rfl (by kernel_rfl) (by kernel_rfl) (by kernel_rfl) (by kernel_rfl) (fun _ _ _ h => h) (y_load1 (by rfl) _ _ rfl _ _ rfl 0 _ rfl _ (rc_at HP15.out) _ Try.underlying22 rfl) (by exact S) ?_
      simp only [Act.put, List.setIfInBounds_toArray, List.set_cons_zero, List.set_cons_succ]
      refine Upto.take (i := 29) (oi := { dst := some 69, op := Op.indexAddr 26 (Operand.tmp 4) (Operand.const (Value.int IntKind.i64 15)), type := 0, pos := "more.go:23", after := #[{ on := 26, ground := Ground.guard }], guard := some (26, true) }) (v := ?_) rfl (by kernel_rfl) (by kernel_rfl) (by kernel_rfl) (by kernel_rfl) (fun _ _ _ h => h) (Or.inl ⟨by rfl, ?_⟩) (by exact S) ?_
      rotate_left 1
      · intro w hSw
        clear hSw
        go_simp
        try with_reducible rfl
      simp only [Act.put, List.setIfInBounds_toArray, List.set_cons_zero, List.set_cons_succ]
      refine Upto.take (i := 30) (oi := { dst := some 70, op := Op.load 22 (Operand.tmp 69), type := 22, pos := "more.go:23", after := #[{ on := 29, ground := Ground.data }, { on := 26, ground := Ground.guard }], guard := some (26, true) }) (v := _) rfl (by kernel_rfl) (by kernel_rfl) (by kernel_rfl) (by kernel_rfl) (fun _ _ _ h => h) (y_load1 (by rfl) _ _ rfl _ _ rfl 3 _ rfl _ (rc_at HX15.out) _ Try.underlying22 rfl) (by exact S) ?_
      simp only [Act.put, List.setIfInBounds_toArray, List.set_cons_zero, List.set_cons_succ]
      refine Upto.take (i := 31) (oi := { dst := some 71, op := Op.binOp BinOp.eql 22 (Operand.tmp 68) (Operand.tmp 70) 22, type := 4, pos := "more.go:23", after := #[{ on := 28, ground := Ground.data }, { on := 30, ground := Ground.data }, { on := 26, ground := Ground.guard }], guard := some (26, true) }) (v := ?_) rfl (by kernel_rfl) (by kernel_rfl) (by kernel_rfl) (by kernel_rfl) (fun _ _ _ h => h) (Or.inl ⟨by rfl, ?_⟩) (by exact S) ?_
      rotate_left 1
      · intro w hSw
        clear hSw
        go_simp
        try with_reducible rfl
      simp only [Act.put, List.setIfInBounds_toArray, List.set_cons_zero, List.set_cons_succ]
      refine Upto.take (i := 32) (oi := { dst := some 72, op := Op.pick (Operand.tmp 66) (Operand.tmp 71) (Operand.const (Value.bool false)), type := 4, pos := "more.go:23", after := #[{ on := 26, ground := Ground.data }, { on := 31, ground := Ground.data }], guard := none }) (v := ?_) rfl (by kernel_rfl) (by kernel_rfl) (by kernel_rfl) (by kernel_rfl) (fun _ _ _ h => h) (Or.inl ⟨by rfl, ?_⟩) (by exact S) ?_
      rotate_left 1
      · intro w hSw
        clear hSw
        go_simp
        try with_reducible rfl
      simp only [Act.put, List.setIfInBounds_toArray, List.set_cons_zero, List.set_cons_succ]
      refine Upto.ready (rs := [33]) (by kernel_rfl) (by simp) ?_
      refine Nexts.last rfl (fun K hK => ?_)
      go_simp
      refine hK.out _ _ ?_
      clear hK K
      refine Upto.done (by kernel_rfl) ?_ _
      go_wp2
      go_ret
      exact ⟨rfl, S.low⟩
end Go.Proofs.Ytabipgncbbjcgaa
