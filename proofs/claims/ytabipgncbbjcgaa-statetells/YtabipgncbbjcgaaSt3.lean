/- Stage 12: the program's states: New, plain, Same, Pack, Unpack. -/
import Derived.Test.YtabipgncbbjcgaaSt1
import Derived.Test.YtabipgncbbjcgaaSt2
namespace Go.Proofs.Ytabipgncbbjcgaa
open Go.ChangeShapes Go.WideShapes Go.ChangeAt Go.RowKit
set_option linter.unusedVariables false
set_option linter.unusedSimpArgs false

def newSV (p sp : Int) : SV := ⟨[0, 0, 0, 0, 0, 0, 0, 0, 0, 0, 0, 0, 0, sp, 4294967295, p], 0, false⟩
def plainSV (s : SV) : SV := { s with f := s.f % 16 }
def sameS (a b : SV) : Bool := sameSV (plainSV a) (plainSV b)
def packL (s : SV) : List Int := s.r ++ (s.f % 16 :: List.replicate 15 0)
def unpackSV (R : List Int) (h : Bool) : SV := ⟨R.take 16, R.getD 16 0 % 16, h⟩
theorem and15 (f : Int) (h0 : -9223372036854775808 ≤ f) (h1 : f ≤ 9223372036854775807) : bits .and .i64 f 15 = f % 16 := by
  have e : bits .and .i64 f 15 = IntKind.i64.wrap (((BitVec.ofInt 64 f &&& BitVec.ofInt 64 15).toNat : Nat) : Int) := rfl
  rw [e]
  have e1 : BitVec.ofInt 64 f &&& BitVec.ofInt 64 15 = BitVec.ofInt 64 (f % 16) := by
    apply BitVec.eq_of_toNat_eq
    rw [BitVec.toNat_and, BitVec.toNat_ofInt, BitVec.toNat_ofInt, BitVec.toNat_ofInt]
    rw [show ((15 : Int) % ((2 ^ 64 : Nat) : Int)).toNat = 2 ^ 4 - 1 by decide, Nat.and_two_pow_sub_one_eq_mod]
    omega
  rw [e1, BitVec.toNat_ofInt, IntKind.wrap_i64]
  omega
theorem and15u (f : Int) (h : okU f) : bits .and .u32 f 15 = f % 16 := by
  obtain ⟨h0, h1⟩ := h
  have e : bits .and .u32 f 15 = IntKind.u32.wrap (((BitVec.ofInt 32 f &&& BitVec.ofInt 32 15).toNat : Nat) : Int) := rfl
  rw [e, BitVec.toNat_and, BitVec.toNat_ofInt, BitVec.toNat_ofInt]
  rw [show ((15 : Int) % ((2 ^ 32 : Nat) : Int)).toNat = 2 ^ 4 - 1 by decide, Nat.and_two_pow_sub_one_eq_mod, IntKind.wrap_u32]
  omega
theorem plain_ok {s : SV} (h : s.ok) : (plainSV s).ok := ⟨h.1, by show _ ≤ s.f % 16 ∧ s.f % 16 ≤ _; omega⟩
theorem pack_1 {R : List Int} (h : R.length = 16) : splice (rc (List.replicate 32 0)) 0 (rc R) = rc (R ++ List.replicate 16 0) := by
  simp [splice, rc, h]
theorem pack_2 {s : SV} (h : s.r.length = 16) : (rc (s.r ++ List.replicate 16 0)).set 16 (.int .u32 (s.f % 16)) = rc (packL s) := by
  rw [rc_set, List.set_append_right _ _ (by omega), h]
  rfl
theorem packL_len {s : SV} (h : s.r.length = 16) : (packL s).length = 32 := by simp [packL, h]
theorem unp_arr {R : List Int} : ∀ t u, (rc (R.take 16))[t]? = some u → (rc R)[0 + t]? = some u := by
  intro t u hu
  rw [Nat.zero_add]
  simp only [rc, List.getElem?_map, List.getElem?_take] at hu ⊢
  split at hu
  · exact hu
  · simp at hu
theorem unp_len {R : List Int} (h : R.length = 32) : (R.take 16).length = 16 := by simp [h]
theorem sz16L {R : List Int} (h : R.length = 16) : (Try.prog.info? 23).map (·.size) = some (rc R).length := by
  rw [rc_length, h]
  exact sz16
theorem build_state (r : List Int) (hr : r.length = 16) (f : Int) (h : Bool) (w : World) : (Instr.build 25 #[(0, .agg (rc r).toArray), (1, .int .i64 f), (2, .bool h)]).run Try.prog w = .ok (SV.mk r f h).val w := by
  rcases r with _ | ⟨x0, _ | ⟨x1, _ | ⟨x2, _ | ⟨x3, _ | ⟨x4, _ | ⟨x5, _ | ⟨x6, _ | ⟨x7, _ | ⟨x8, _ | ⟨x9, _ | ⟨x10, _ | ⟨x11, _ | ⟨x12, _ | ⟨x13, _ | ⟨x14, _ | ⟨x15, _ | ⟨x16, r⟩⟩⟩⟩⟩⟩⟩⟩⟩⟩⟩⟩⟩⟩⟩⟩⟩ <;> first | (simp at hr; done) | kernel_rfl | (simp at hr; omega)
set_option maxHeartbeats 4000000 in
set_option maxRecDepth 100000 in
theorem new_c (p sp : Int) (w : World) : Calls Try.prog 14 #[.int .u32 p, .int .u32 sp] w fun e w' => e = .returned (newSV p sp).val ∧ Below w.heap.size w w' := by
  go_enter Try.func14, Try.ntmps14
  have S := SH.start w
  go_wp2_with (first
    | ((with_reducible refine wpl_isDst 4 ?_); (first | refine S.alloc rfl 25 rfl (Cel.any zeroSV.cs) zeroState ?_ | refine SH.alloc (L := []) S rfl 25 rfl (Cel.any zeroSV.cs) zeroState ?_); clear S; intro b4 w4 S)
    | ((with_reducible refine wpl_isDst 7 ?_); refine wpl_dst 7 rfl (.agg (rc (newSV p sp).r).toArray) (by kernel_rfl) rfl ?_)
    | ((with_reducible refine wpl_isDst 8 ?_); refine wpl_dst 8 rfl ((newSV p sp).val) (by kernel_rfl) rfl ?_)
    | ((with_reducible refine wpl_isStoreAt 4 ?_); refine S.storeAll rfl 25 _ _ rfl b4 (Cel.any (newSV p sp).cs) rfl rfl 0 _ rfl rfl (SV.one _) (szS rfl) ?_; clear S; intro w2 S; (try simp only [List.set_cons_zero, List.set_cons_succ] at S)))
  (try simp only [Exit.inBlock, Exit.then])
  refine bodyPost_ret (S.results rfl _ _ rfl 0 _ rfl _ Try.underlying25 rfl (szS rfl)) rfl ?_
  exact ⟨rfl, S.low⟩
set_option maxHeartbeats 4000000 in
set_option maxRecDepth 100000 in
theorem plain_c (s : SV) (hs : s.ok) (w : World) : Calls Try.prog 17 #[s.val] w fun e w' => e = .returned (plainSV s).val ∧ Below w.heap.size w w' := by
  obtain ⟨⟨hl, hu⟩, f0, f1⟩ := hs
  have HL : Hid (s.r.length = 16) := hl
  have ha : bits .and .i64 s.f 15 = s.f % 16 := and15 s.f f0 f1
  clear hl hu
  go_enter Try.func17, Try.ntmps17
  have S := SH.start w
  go_wp2_with (first
    | ((with_reducible refine wpl_isDst 1 ?_); (first | refine S.boxA rfl 25 _ rfl s.cs rfl ?_ | refine SH.boxA (L := []) S rfl 25 _ rfl s.cs rfl ?_); clear S; intro b1 w1 S)
    | ((with_reducible refine wpl_isDst 2 ?_); (first | refine S.alloc rfl 25 rfl (Cel.any zeroSV.cs) zeroState ?_ | refine SH.alloc (L := []) S rfl 25 rfl (Cel.any zeroSV.cs) zeroState ?_); clear S; intro b2 w2 S)
    | ((with_reducible refine wpl_isDst 4 ?_); refine S.ld 3 _ rfl b1 16 rfl 1 _ rfl _ (SV.fl HL.out) _ Try.underlying3 rfl rfl ?_)
    | ((with_reducible refine wpl_isStoreAt 6 ?_); refine S.store1 rfl 3 _ _ rfl b1 16 (.int .i64 (s.f % 16)) rfl rfl 1 _ rfl rfl (by show 16 < s.cs.length; rw [SV.len HL.out]; decide) (Cel.any (plainSV s).cs) (SV.set_fl HL.out _) szI ?_; clear S; intro w2 S; (try simp only [List.set_cons_zero, List.set_cons_succ] at S))
    | ((with_reducible refine wpl_isDst 7 ?_); refine S.ldAll 25 _ rfl b1 rfl 1 _ rfl _ Try.underlying25 rfl (szS (s := plainSV s) HL.out) rfl ?_)
    | ((with_reducible refine wpl_isStoreAt 2 ?_); refine S.storeAll rfl 25 _ _ rfl b2 (Cel.any (plainSV s).cs) rfl rfl 0 _ rfl ((SV.len rfl).trans (SV.len (s := plainSV s) HL.out).symm) (SV.one _) (szS (s := plainSV s) HL.out) ?_; clear S; intro w2 S; (try simp only [List.set_cons_zero, List.set_cons_succ] at S)))
  (try simp only [Exit.inBlock, Exit.then])
  refine bodyPost_ret (S.results rfl _ _ rfl 0 _ rfl _ Try.underlying25 rfl (szS (s := plainSV s) HL.out)) rfl ?_
  exact ⟨rfl, S.low⟩
set_option maxHeartbeats 4000000 in
set_option maxRecDepth 100000 in
theorem same_c (a b : SV) (ha : a.ok) (hb : b.ok) (w : World) : Calls Try.prog 7 #[a.val, b.val] w fun e w' => e = .returned (.bool (sameS a b)) ∧ Below w.heap.size w w' := by
  have hla : Hid (a.r.length = 16) := ha.1.1
  have hlb : Hid (b.r.length = 16) := hb.1.1
  have CA : Hid _ := fun w => plain_c a ha w
  have CB : Hid _ := fun w => plain_c b hb w
  clear ha hb
  go_enter Try.func7, Try.ntmps7
  have S := SH.start w
  go_wp2_with (first
    | ((with_reducible refine wpl_isDst 2 ?_); (first | refine S.boxA rfl 25 _ rfl a.cs rfl ?_ | refine SH.boxA (L := []) S rfl 25 _ rfl a.cs rfl ?_); clear S; intro b2 w2 S)
    | ((with_reducible refine wpl_isDst 3 ?_); (first | refine S.boxA rfl 25 _ rfl b.cs rfl ?_ | refine SH.boxA (L := []) S rfl 25 _ rfl b.cs rfl ?_); clear S; intro b3 w3 S))
  refine Upto.start (S := fun w' => SH noZ w w' [(b3, Cel.any b.cs), (b2, Cel.any a.cs)]) 5 (by kernel_rfl) ?_
  replace S := S.drew
  refine Upto.take (i := 0) (oi := { dst := some 5, op := Op.load 25 (Operand.tmp 2), type := 25, pos := "state.go:27", after := #[], guard := none }) (v := _) rfl (by kernel_rfl) (by kernel_rfl) (by kernel_rfl) (by kernel_rfl) (fun _ _ _ h => h) (y_loadAll (by rfl) _ _ rfl _ rfl 1 _ rfl _ Try.underlying25 rfl (szS hla.out)) (by exact S) ?_
  simp only [Act.put, List.setIfInBounds_toArray, List.set_cons_zero, List.set_cons_succ]
  refine Upto.take (i := 2) (oi := { dst := some 7, op := Op.load 25 (Operand.tmp 3), type := 25, pos := "state.go:27", after := #[], guard := none }) (v := _) rfl (by kernel_rfl) (by kernel_rfl) (by kernel_rfl) (by kernel_rfl) (fun _ _ _ h => h) (y_loadAll (by rfl) _ _ rfl _ rfl 0 _ rfl _ Try.underlying25 rfl (szS hlb.out)) (by exact S) ?_
  simp only [Act.put, List.setIfInBounds_toArray, List.set_cons_zero, List.set_cons_succ]
  refine Upto.ready (rs := [1]) (by kernel_rfl) (by simp) ?_
  refine Nexts.cons rfl (by decide) (fun K hK => ?_) Nexts.nil
  go_simp
  go_wp2_with (go_at_call 17; refine (CA.out _).mono ?_; rintro e wf ⟨rfl, hbf⟩; replace S := S.below hbf; clear hbf)
  refine hK.out _ _ (by exact S) ?_
  clear hK K
  refine Upto.ready (rs := [3]) (by kernel_rfl) (by simp) ?_
  refine Nexts.cons rfl (by decide) (fun K hK => ?_) Nexts.nil
  go_simp
  go_wp2_with (go_at_call 17; refine (CB.out _).mono ?_; rintro e wf ⟨rfl, hbf⟩; replace S := S.below hbf; clear hbf)
  refine hK.out _ _ (by exact S) ?_
  clear hK K
  refine Upto.take (i := 4) (oi := { dst := some 9, op := Op.binOp BinOp.eql 25 (Operand.tmp 6) (Operand.tmp 8) 25, type := 4, pos := "state.go:27", after := #[{ on := 1, ground := Ground.data }, { on := 3, ground := Ground.data }], guard := none }) (v := _) rfl (by kernel_rfl) (by kernel_rfl) (by kernel_rfl) (by kernel_rfl) (fun _ _ _ h => h) (y_eqS (by rfl) .eql 25 _ _ _ rfl (plainSV a).cs (plainSV b).cs rfl rfl (by kernel_rfl) (sameS a b) (fun w => sv_eql (a := plainSV a) (b := plainSV b) hla.out hlb.out w)) (by exact S) ?_
  simp only [Act.put, List.setIfInBounds_toArray, List.set_cons_zero, List.set_cons_succ]
  refine Upto.ready (rs := [5]) (by kernel_rfl) (by simp) ?_
  refine Nexts.last rfl (fun K hK => ?_)
  go_simp
  refine hK.out _ _ ?_
  clear hK K
  refine Upto.done (by kernel_rfl) ?_ _
  go_wp2
  go_ret
  exact ⟨rfl, S.low⟩
set_option maxHeartbeats 4000000 in
set_option maxRecDepth 100000 in
theorem pack_c (s : SV) (hs : s.ok) (w : World) : Calls Try.prog 9 #[s.val] w fun e w' => e = .returned (Cel.any (rc (packL s))).val ∧ Below w.heap.size w w' := by
  obtain ⟨⟨hl, hu⟩, f0, f1⟩ := hs
  have HL : Hid (s.r.length = 16) := hl
  have ha : bits .and .i64 s.f 15 = s.f % 16 := and15 s.f f0 f1
  have hb : IntKind.u32.wrap (s.f % 16) = s.f % 16 := by rw [IntKind.wrap_u32]; omega
  clear hl hu
  go_enter Try.func9, Try.ntmps9
  have S := SH.start w
  go_upto_region 2 with (first
    | ((with_reducible refine wpl_isDst 1 ?_); (first | refine S.boxA rfl 25 _ rfl s.cs rfl ?_ | refine SH.boxA (L := []) S rfl 25 _ rfl s.cs rfl ?_); clear S; intro b1 w1 S)
    | ((with_reducible refine wpl_isDst 2 ?_); (first | refine S.alloc rfl 26 rfl (Cel.any (rc (List.replicate 32 0))) zeroRegs ?_ | refine SH.alloc (L := []) S rfl 26 rfl (Cel.any (rc (List.replicate 32 0))) zeroRegs ?_); clear S; intro b2 w2 S)
    | ((with_reducible refine wpl_isDst 3 ?_); (first | refine S.alloc rfl 26 rfl (Cel.any (rc (List.replicate 32 0))) zeroRegs ?_ | refine SH.alloc (L := []) S rfl 26 rfl (Cel.any (rc (List.replicate 32 0))) zeroRegs ?_); clear S; intro b3 w3 S))
  refine Upto.start (S := fun w' => SH noZ w w' [(b3, Cel.any (rc (List.replicate 32 0))), (b2, Cel.any (rc (List.replicate 32 0))), (b1, Cel.any s.cs)]) 3 (by kernel_rfl) ?_
  replace S := S.drew
  refine Upto.take (i := 0) (oi := { dst := some 4, op := Op.slice 26 (Operand.tmp 3) none (some (Operand.const (Value.int IntKind.i64 16))) none, type := 39, pos := "state.go:38", after := #[], guard := none }) (v := ?_) rfl (by kernel_rfl) (by kernel_rfl) (by kernel_rfl) (by kernel_rfl) (fun _ _ _ h => h) (Or.inl ⟨by rfl, ?_⟩) (by exact S) ?_
  rotate_left 1
  · intro w hSw
    clear hSw
    go_simp
    try with_reducible rfl
  simp only [Act.put, List.setIfInBounds_toArray, List.set_cons_zero, List.set_cons_succ]
  refine Upto.ready (rs := [1]) (by kernel_rfl) (by simp) ?_
  refine Nexts.cons rfl (by decide) (fun K hK => ?_) Nexts.nil
  go_simp
  refine hK.out _ _ (by exact S) ?_
  clear hK K
  refine Upto.take (i := 2) (oi := { dst := some 6, op := Op.slice 23 (Operand.tmp 5) none none none, type := 39, pos := "state.go:38", after := #[{ on := 1, ground := Ground.data }], guard := none }) (v := ?_) rfl (by kernel_rfl) (by kernel_rfl) (by kernel_rfl) (by kernel_rfl) (fun _ _ _ h => h) (Or.inl ⟨by rfl, ?_⟩) (by exact S) ?_
  rotate_left 1
  · intro w hSw
    clear hSw
    go_simp
    try with_reducible rfl
  simp only [Act.put, List.setIfInBounds_toArray, List.set_cons_zero, List.set_cons_succ]
  refine Upto.ready (rs := [3]) (by kernel_rfl) (by simp) ?_
  refine Nexts.last rfl (fun K hK => ?_)
  rw [if_pos (show Region.wanted _ _ = true by rfl)]
  refine S.wpCopy 7 rfl (.tmp 4) (.tmp 6) 39 39 rfl 22 Try.underlying39 szU b3 b1 0 0 16 32 16 16 rfl rfl 0 2 _ _ rfl rfl (rc s.r) (by rw [rc_length, HL.out]; rfl) SV.arr (by rw [rc_length, HL.out]; decide) (rc_one _) (by rw [rc_length, HL.out]; decide) (Cel.any (rc (s.r ++ List.replicate 16 0))) (pack_1 HL.out) ?_
  clear S
  intro w4 S
  simp only [List.set_cons_zero] at S
  refine hK.out _ _ ?_
  clear hK K
  refine Upto.done (by kernel_rfl) ?_ _
  go_wp2_with (first
    | ((with_reducible refine wpl_isDst 9 ?_); refine S.ld 3 _ rfl b1 16 rfl 2 _ rfl _ (SV.fl HL.out) _ Try.underlying3 rfl rfl ?_)
    | ((with_reducible refine wpl_isDst 11 ?_); refine wpl_dst 11 rfl (.int .u32 (s.f % 16)) (by go_simp) rfl ?_)
    | ((with_reducible refine wpl_isStoreAt 12 ?_); refine S.store1 rfl 22 _ _ rfl b3 16 (.int .u32 (s.f % 16)) rfl rfl 0 _ rfl rfl (by rw [rc_length]; simp [HL.out]) (Cel.any (rc (packL s))) (pack_2 HL.out) szU ?_; clear S; intro w2 S; (try simp only [List.set_cons_zero, List.set_cons_succ] at S))
    | ((with_reducible refine wpl_isDst 13 ?_); refine S.ldAll 26 _ rfl b3 rfl 0 _ rfl _ Try.underlying26 rfl (szR (packL_len HL.out)) rfl ?_)
    | ((with_reducible refine wpl_isStoreAt 2 ?_); refine S.storeAll rfl 26 _ _ rfl b2 (Cel.any (rc (packL s))) rfl rfl 1 _ rfl (by rw [rc_length, rc_length, packL_len HL.out]; rfl) (rc_one _) (szR (packL_len HL.out)) ?_; clear S; intro w2 S; (try simp only [List.set_cons_zero, List.set_cons_succ] at S)))
  (try simp only [Exit.inBlock, Exit.then])
  refine bodyPost_ret (S.results rfl _ _ rfl 1 _ rfl _ Try.underlying26 rfl (szR (packL_len HL.out))) rfl ?_
  exact ⟨rfl, S.low⟩
set_option maxHeartbeats 4000000 in
set_option maxRecDepth 100000 in
theorem unpack_c (R : List Int) (hR : okN 32 R) (h : Bool) (w : World) : Calls Try.prog 13 #[(Cel.any (rc R)).val, .bool h] w fun e w' => e = .returned (unpackSV R h).val ∧ Below w.heap.size w w' := by
  have HL : Hid (R.length = 32) := hR.1
  obtain ⟨x, hx, hxu⟩ := okN_at hR (j := 16) (by decide)
  have HX : Hid (R[16]? = some x) := hx
  have ha : bits .and .u32 x 15 = x % 16 := and15u x hxu
  have h1 : 0 ≤ x := hxu.1
  have hb : IntKind.i64.wrap (x % 16) = x % 16 := by rw [IntKind.wrap_i64]; omega
  have he : unpackSV R h = ⟨R.take 16, x % 16, h⟩ := by simp [unpackSV, List.getD_eq_getElem?_getD, hx]
  rw [he]
  clear hR hx hxu he
  go_enter Try.func13, Try.ntmps13
  have S := SH.start w
  go_upto_region 1 with (first
    | ((with_reducible refine wpl_isDst 2 ?_); (first | refine S.boxA rfl 26 _ rfl (rc R) rfl ?_ | refine SH.boxA (L := []) S rfl 26 _ rfl (rc R) rfl ?_); clear S; intro b2 w2 S)
    | ((with_reducible refine wpl_isDst 4 ?_); (first | refine S.alloc rfl 25 rfl (Cel.any zeroSV.cs) zeroState ?_ | refine SH.alloc (L := []) S rfl 25 rfl (Cel.any zeroSV.cs) zeroState ?_); clear S; intro b4 w4 S))
  refine Upto.start (S := fun w' => SH noZ w w' [(b4, Cel.any zeroSV.cs), (b2, Cel.any (rc R))]) 9 (by kernel_rfl) ?_
  replace S := S.drew
  refine Upto.take (i := 0) (oi := { dst := some 5, op := Op.slice 26 (Operand.tmp 2) none (some (Operand.const (Value.int IntKind.i64 16))) none, type := 39, pos := "state.go:45", after := #[], guard := none }) (v := ?_) rfl (by kernel_rfl) (by kernel_rfl) (by kernel_rfl) (by kernel_rfl) (fun _ _ _ h => h) (Or.inl ⟨by rfl, ?_⟩) (by exact S) ?_
  rotate_left 1
  · intro w hSw
    clear hSw
    go_simp
    try with_reducible rfl
  simp only [Act.put, List.setIfInBounds_toArray, List.set_cons_zero, List.set_cons_succ]
  refine Upto.take (i := 1) (oi := { dst := some 6, op := Op.sliceToArrayPointer 23 (Operand.tmp 5), type := 0, pos := "state.go:45", after := #[{ on := 0, ground := Ground.data }], guard := none }) (v := _) rfl (by kernel_rfl) (by kernel_rfl) (by kernel_rfl) (by kernel_rfl) (fun _ _ _ h => h) (y_val (by rfl) (.pointer (some ⟨b2, 0, none⟩)) (by intro w; unfold execOp; go_simp; simp [Instr.arrayAt, run_underlying Try.underlying23])) (by exact S) ?_
  simp only [Act.put, List.setIfInBounds_toArray, List.set_cons_zero, List.set_cons_succ]
  refine Upto.take (i := 2) (oi := { dst := some 7, op := Op.load 23 (Operand.tmp 6), type := 23, pos := "state.go:45", after := #[{ on := 1, ground := Ground.data }], guard := none }) (v := _) rfl (by kernel_rfl) (by kernel_rfl) (by kernel_rfl) (by kernel_rfl) (fun _ _ _ h => h) (y_loadMid (by rfl) 23 _ rfl b2 0 rfl 1 _ rfl (rc (R.take 16)) unp_arr _ Try.underlying23 rfl (sz16L (unp_len HL.out))) (by exact S) ?_
  simp only [Act.put, List.setIfInBounds_toArray, List.set_cons_zero, List.set_cons_succ]
  refine Upto.take (i := 3) (oi := { dst := some 8, op := Op.indexAddr 26 (Operand.tmp 2) (Operand.const (Value.int IntKind.i64 16)), type := 0, pos := "state.go:45", after := #[], guard := none }) (v := ?_) rfl (by kernel_rfl) (by kernel_rfl) (by kernel_rfl) (by kernel_rfl) (fun _ _ _ h => h) (Or.inl ⟨by rfl, ?_⟩) (by exact S) ?_
  rotate_left 1
  · intro w hSw
    clear hSw
    go_simp
    try with_reducible rfl
  simp only [Act.put, List.setIfInBounds_toArray, List.set_cons_zero, List.set_cons_succ]
  refine Upto.take (i := 4) (oi := { dst := some 9, op := Op.load 22 (Operand.tmp 8), type := 22, pos := "state.go:45", after := #[{ on := 3, ground := Ground.data }], guard := none }) (v := _) rfl (by kernel_rfl) (by kernel_rfl) (by kernel_rfl) (by kernel_rfl) (fun _ _ _ h => h) (y_load1 (by rfl) _ _ rfl _ _ rfl 1 _ rfl _ (rc_at HX.out) _ Try.underlying22 rfl) (by exact S) ?_
  simp only [Act.put, List.setIfInBounds_toArray, List.set_cons_zero, List.set_cons_succ]
  refine Upto.take (i := 5) (oi := { dst := some 10, op := Op.binOp BinOp.and 22 (Operand.tmp 9) (Operand.const (Value.int IntKind.u32 15)) 22, type := 22, pos := "state.go:45", after := #[{ on := 4, ground := Ground.data }], guard := none }) (v := ?_) rfl (by kernel_rfl) (by kernel_rfl) (by kernel_rfl) (by kernel_rfl) (fun _ _ _ h => h) (Or.inl ⟨by rfl, ?_⟩) (by exact S) ?_
  rotate_left 1
  · intro w hSw
    clear hSw
    go_simp
    try with_reducible rfl
  simp only [Act.put, List.setIfInBounds_toArray, List.set_cons_zero, List.set_cons_succ]
  refine Upto.take (i := 6) (oi := { dst := some 11, op := Op.convert 22 3 (Operand.tmp 10), type := 3, pos := "state.go:45", after := #[{ on := 5, ground := Ground.data }], guard := none }) (v := ?_) rfl (by kernel_rfl) (by kernel_rfl) (by kernel_rfl) (by kernel_rfl) (fun _ _ _ h => h) (Or.inl ⟨by rfl, ?_⟩) (by exact S) ?_
  rotate_left 1
  · intro w hSw
    clear hSw
    go_simp
    try simp only [hb]
    try with_reducible rfl
  simp only [Act.put, List.setIfInBounds_toArray, List.set_cons_zero, List.set_cons_succ]
  refine Upto.take (i := 7) (oi := { dst := some 12, op := Op.move (Operand.tmp 1), type := 4, pos := "state.go:45", after := #[], guard := none }) (v := ?_) rfl (by kernel_rfl) (by kernel_rfl) (by kernel_rfl) (by kernel_rfl) (fun _ _ _ h => h) (Or.inl ⟨by rfl, ?_⟩) (by exact S) ?_
  rotate_left 1
  · intro w hSw
    clear hSw
    go_simp
    try with_reducible rfl
  simp only [Act.put, List.setIfInBounds_toArray, List.set_cons_zero, List.set_cons_succ]
  refine Upto.take (i := 8) (oi := { dst := some 13, op := Op.build 25 #[(0, Operand.tmp 7), (1, Operand.tmp 11), (2, Operand.tmp 12)], type := 25, pos := "state.go:45", after := #[{ on := 2, ground := Ground.data }, { on := 6, ground := Ground.data }, { on := 7, ground := Ground.data }], guard := none }) (v := _) rfl (by kernel_rfl) (by kernel_rfl) (by kernel_rfl) (by kernel_rfl) (fun _ _ _ h => h) (y_build3 (by rfl) 25 0 1 2 _ _ _ rfl (.agg (rc (R.take 16)).toArray) (.int .i64 (x % 16)) (.bool h) (SV.mk (R.take 16) (x % 16) h).val rfl rfl rfl (fun w => build_state _ (unp_len HL.out) _ _ w)) (by exact S) ?_
  simp only [Act.put, List.setIfInBounds_toArray, List.set_cons_zero, List.set_cons_succ]
  refine Upto.ready (rs := [9]) (by kernel_rfl) (by simp) ?_
  refine Nexts.last rfl (fun K hK => ?_)
  rw [if_pos (show Region.wanted _ _ = true by rfl)]
  refine S.wpStoreAll 25 _ _ rfl b4 (Cel.any (SV.mk (R.take 16) (x % 16) h).cs) rfl rfl 0 _ rfl ((SV.len rfl).trans (SV.len (s := SV.mk (R.take 16) (x % 16) h) (unp_len HL.out)).symm) (SV.one _) (szS (s := SV.mk (R.take 16) (x % 16) h) (unp_len HL.out)) ?_
  clear S
  intro w4 S
  simp only [List.set_cons_zero] at S
  refine hK.out _ _ ?_
  clear hK K
  refine Upto.done (by kernel_rfl) ?_ _
  go_wp2
  (try simp only [Exit.inBlock, Exit.then])
  refine bodyPost_ret (S.results rfl _ _ rfl 0 _ rfl _ Try.underlying25 rfl (szS (s := SV.mk (R.take 16) (x % 16) h) (unp_len HL.out))) rfl ?_
  exact ⟨rfl, S.low⟩
end Go.Proofs.Ytabipgncbbjcgaa
