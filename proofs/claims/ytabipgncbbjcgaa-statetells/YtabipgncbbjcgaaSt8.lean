/- Stage 12: StateBytes. -/
import Derived.Test.YtabipgncbbjcgaaSt1
import Derived.Test.YtabipgncbbjcgaaSt7
namespace Go.Proofs.Ytabipgncbbjcgaa
open Go.ChangeShapes Go.WideShapes Go.ChangeAt Go.RowKit
set_option linter.unusedVariables false
set_option linter.unusedSimpArgs false

theorem strS_data : ∀ (bs : List Int) (r : ByteArray), (bs.foldl (fun r n => r.push (UInt8.ofNat n.toNat)) r).data.toList = r.data.toList ++ bs.map fun n => UInt8.ofNat n.toNat
  | [], r => by simp
  | x :: l, r => by
    rw [List.foldl_cons, strS_data l]
    simp [ByteArray.push]
theorem strS_list (bs : List Int) : (strS bs).toList = bs.map fun n => UInt8.ofNat n.toNat := by
  rw [ByteArray.toList_eq]
  unfold strS
  rw [strS_data]
  rfl
theorem u8_inj {a b : Int} (ha : 0 ≤ a ∧ a ≤ 255) (hb : 0 ≤ b ∧ b ≤ 255) (h : UInt8.ofNat a.toNat = UInt8.ofNat b.toNat) : a = b := by
  have h2 := congrArg UInt8.toNat h
  simp only [UInt8.toNat_ofNat'] at h2
  omega
theorem map_u8_inj : ∀ {x y : List Int}, okB x → okB y → (x.map fun n => UInt8.ofNat n.toNat) = (y.map fun n => UInt8.ofNat n.toNat) → x = y
  | [], [], _, _, _ => rfl
  | [], _ :: _, _, _, h => by simp at h
  | _ :: _, [], _, _, h => by simp at h
  | a :: x, b :: y, hx, hy, h => by
    simp only [List.map_cons, List.cons.injEq] at h
    rw [u8_inj (hx a List.mem_cons_self) (hy b List.mem_cons_self) h.1, map_u8_inj (fun z hz => hx z (List.mem_cons_of_mem _ hz)) (fun z hz => hy z (List.mem_cons_of_mem _ hz)) h.2]
theorem str_ne {x y : List Int} (hx : okB x) (hy : okB y) (h : x ≠ y) : ((strS x).toList == (strS y).toList) = false := by
  rw [strS_list, strS_list]
  cases e : ((x.map fun n => UInt8.ofNat n.toNat) == (y.map fun n => UInt8.ofNat n.toNat)) with
  | false => rfl
  | true => exact absurd (map_u8_inj hx hy (by simpa using e)) h

theorem byteL_inj {x y : Int} (hx : okU x) (hy : okU y) (h : byteL x = byteL y) : x = y := by
  obtain ⟨x0, x1⟩ := hx
  obtain ⟨y0, y1⟩ := hy
  simp only [byteL, List.cons.injEq, and_true] at h
  omega
theorem flat_inj : ∀ {A B : List Int}, (∀ x ∈ A, okU x) → (∀ x ∈ B, okU x) → A.length = B.length → A.flatMap byteL = B.flatMap byteL → A = B
  | [], [], _, _, _, _ => rfl
  | [], _ :: _, _, _, h, _ => by simp at h
  | _ :: _, [], _, _, h, _ => by simp at h
  | a :: A, b :: B, hA, hB, hl, h => by
    rw [List.flatMap_cons, List.flatMap_cons] at h
    obtain ⟨h1, h2⟩ := List.append_inj h rfl
    rw [byteL_inj (hA a List.mem_cons_self) (hB b List.mem_cons_self) h1, flat_inj (fun x hx => hA x (List.mem_cons_of_mem _ hx)) (fun x hx => hB x (List.mem_cons_of_mem _ hx)) (by simpa using hl) h2]
theorem bytes_iff {a b : SV} (ha : a.ok) (hb : b.ok) : bytesL a = bytesL b ↔ sameS a b = true := by
  have e : sameS a b = true ↔ a.r = b.r ∧ a.f % 16 = b.f % 16 ∧ a.h = b.h := by simp [and_same]
  rw [e]
  constructor
  · intro h
    obtain ⟨h1, h2⟩ := List.append_inj h (by rw [flat_len, flat_len, ha.1.1, hb.1.1])
    simp only [List.cons.injEq, and_true] at h2
    refine ⟨flat_inj ha.1.2 hb.1.2 (by rw [ha.1.1, hb.1.1]) h1, h2.1, ?_⟩
    have h3 := h2.2
    revert h3
    cases a.h <;> cases b.h <;> simp
  · rintro ⟨h1, h2, h3⟩
    simp only [bytesL, h1, h2, h3]
theorem str_same {a b : SV} (ha : a.ok) (hb : b.ok) : ((strS (bytesL a)).toList == (strS (bytesL b)).toList) = sameS a b := by
  by_cases h : bytesL a = bytesL b
  · rw [h, (bytes_iff ha hb).1 h]
    exact beq_self_eq_true _
  · rw [str_ne (bytesL_ok a) (bytesL_ok b) h]
    cases e : sameS a b
    · rfl
    · exact absurd ((bytes_iff ha hb).2 e) h
theorem same_set {a : SV} (ha : a.ok) {n : Nat} {x v : Int} (hx : a.r[n]? = some x) : sameS a { a with r := a.r.set n v } = (x == v) := by
  have hn := (List.getElem?_eq_some_iff.1 hx)
  obtain ⟨hn, hxe⟩ := hn
  rw [Bool.eq_iff_iff, beq_iff_eq]
  have e : sameS a { a with r := a.r.set n v } = true ↔ a.r = a.r.set n v := by simp [and_same]
  rw [e]
  constructor
  · intro h
    have h2 := congrArg (fun l => l[n]?) h
    simp only [hx, List.getElem?_set_self hn, Option.some.injEq] at h2
    exact h2
  · rintro rfl
    rw [← hxe, List.set_getElem_self]
theorem set_ok {a : SV} (ha : a.ok) (n : Nat) {v : Int} (hv : okU v) : SV.ok { a with r := a.r.set n v } := ⟨okN_set ha.1 n hv, ha.2⟩
theorem y_str {S : World → Prop} {ops : Array Oper} {o : Oper} {a : Act} (hw : Region.wanted o (yielded ops a.tmps) = true) (x : Operand) (ho : o.op = .convert 31 9 x) (v : Value) (hx : a.eval x = v) (bs : List Int) (hb : ∀ w, S w → BL w (fun _ => True) v bs) : YieldsIf Try.prog ops S o (.string (strS bs)) a :=
  .inl ⟨hw, fun w hS => by
    unfold execOp
    simp only [ho, hx, Sem.run_bind, (hb w hS).str, Result.andThen_ok, Sem.run_pure]⟩
theorem y_strEq {P : Program} {S : World → Prop} {ops : Array Oper} {o : Oper} {a : Act} (hw : Region.wanted o (yielded ops a.tmps) = true) (op : BinOp) (ty : TypeId) (x y : Operand) (t : TypeId) (ho : o.op = .binOp op ty x y t) (s u : ByteArray) (hx : a.eval x = .string s) (hy : a.eval y = .string u) (hu : P.underlying ty = some .string) (r : Bool)
    (hr : op = .eql ∧ (s.toList == u.toList) = r ∨ op = .neq ∧ (!(s.toList == u.toList)) = r) : YieldsIf P ops S o (.bool r) a :=
  .inl ⟨hw, fun w _ => by
    rcases hr with ⟨rfl, rfl⟩ | ⟨rfl, rfl⟩
    · unfold execOp
      simp only [ho, hx, hy]
      simp [eqGuard, binOp, Op.equal, Op.maxDepth, run_equalIn_string, hu, Op.stringOp, beq_toListBytes]
    · unfold execOp
      simp only [ho, hx, hy]
      simp [eqGuard, binOp, Op.equal, Op.maxDepth, run_equalIn_string, hu, Op.stringOp, beq_toListBytes]⟩
set_option maxHeartbeats 4000000 in
set_option maxRecDepth 100000 in
theorem sbytes_i (a b : SV) (ha : a.ok) (hb : b.ok) (k v : Int) (hk : 0 ≤ k ∧ k ≤ 255) (hv : okU v) (w : World) : Calls Try.prog 4 #[a.val, b.val, .int .u8 k, .int .u32 v] w fun e w' => e = .returned (.bool true) ∧ Below w.heap.size w w' := by
  obtain ⟨hk0, hk1⟩ := hk
  obtain ⟨n, hn, hn1⟩ : ∃ n : Nat, k.tmod 16 = (n : Int) ∧ n < 16 := ⟨(k % 16).toNat, by rw [Int.tmod_eq_emod_of_nonneg hk0]; omega, by omega⟩
  have hn2 : (n : Int) < 16 := by omega
  have hn3 : 0 ≤ (n : Int) := by omega
  obtain ⟨x, hx, hxu⟩ := okN_at ha.1 hn1
  have hcok := set_ok ha n hv
  have HE1 : Hid (((strS (bytesL a)).toList == (strS (bytesL b)).toList) = sameS a b) := str_same ha hb
  have HE2 : Hid (((strS (bytesL a)).toList == (strS (bytesL { a with r := a.r.set n v })).toList) = (x == v)) := (str_same ha hcok).trans (same_set ha hx)
  have HAL : Hid (a.r.length = 16) := ha.1.1
  have HBLn : Hid (b.r.length = 16) := hb.1.1
  have HX : Hid (a.r[n]? = some x) := hx
  have CK : Hid _ := fun w => known_c w
  have CBa : Hid _ := fun w => bytes_b a ha w
  have CBb : Hid _ := fun w => bytes_b b hb w
  have CBc : Hid _ := fun w => bytes_b _ hcok w
  have CS : Hid _ := fun w => same_c a b ha hb w
  have HCS : Hid (a.cs.set n (.int .u32 v) = SV.cs { a with r := a.r.set n v }) := SV.set_reg (by rw [ha.1.1]; exact hn1) v
  have HCL : Hid ((SV.mk (a.r.set n v) a.f a.h).r.length = 16) := hcok.1.1
  clear ha hb hv hx hxu hcok hk0 hk1
  generalize sameS a b = e1 at *
  obtain ⟨c, hc⟩ : ∃ c : SV, c = { a with r := a.r.set n v } := ⟨_, rfl⟩
  rw [← hc] at HE2 CBc HCS HCL
  clear hc
  go_enter Try.func4, Try.ntmps4
  have S := SH.start w
  go_upto_region 5 with (first
    | ((with_reducible refine wpl_isDst 4 ?_); (first | refine S.boxA rfl 25 _ rfl a.cs rfl ?_ | refine SH.boxA (L := []) S rfl 25 _ rfl a.cs rfl ?_); clear S; intro b4 w4 S)
    | ((with_reducible refine wpl_isDst 5 ?_); (first | refine S.boxA rfl 25 _ rfl b.cs rfl ?_ | refine SH.boxA (L := []) S rfl 25 _ rfl b.cs rfl ?_); clear S; intro b5 w5 S)
    | (go_at_call 6; refine (CK.out _).mono ?_; rintro e wf ⟨rfl, hbf⟩; replace S := S.below hbf; clear hbf)
    | ((with_reducible refine wpl_isDst 12 ?_); refine S.ldAll 25 _ rfl b4 rfl 1 _ rfl _ Try.underlying25 rfl (szS HAL.out) rfl ?_)
    | ((with_reducible refine wpl_isDst 9 ?_); (first | refine S.alloc rfl 25 rfl (Cel.any zeroSV.cs) zeroState ?_ | refine SH.alloc (L := []) S rfl 25 rfl (Cel.any zeroSV.cs) zeroState ?_); clear S; intro b9 w9 S)
    | ((with_reducible refine wpl_isStoreAt 9 ?_); refine S.storeAll rfl 25 _ _ rfl b9 (Cel.any a.cs) rfl rfl 0 _ rfl ((SV.len rfl).trans (SV.len HAL.out).symm) (SV.one _) (szS HAL.out) ?_; clear S; intro w2 S; (try simp only [List.set_cons_zero, List.set_cons_succ] at S))
    | ((with_reducible refine wpl_isDst 14 ?_); refine wpl_dst 14 rfl (.int .u8 n) (by go_simp; exact hn) rfl ?_)
    | ((with_reducible refine wpl_isStoreAt 17 ?_); refine S.store1 rfl 22 _ _ rfl b9 n (.int .u32 v) rfl rfl 0 _ rfl rfl (by show n < a.cs.length; rw [SV.len HAL.out]; omega) (Cel.any c.cs) HCS.out szU ?_; clear S; intro w2 S; (try simp only [List.set_cons_zero, List.set_cons_succ] at S)))
  refine Upto.start (S := fun w' => SH noZ w w' [(b9, Cel.any c.cs), (b5, Cel.any b.cs), (b4, Cel.any a.cs)]) 34 (by kernel_rfl) ?_
  replace S := S.drew
  refine Upto.take (i := 0) (oi := { dst := some 18, op := Op.load 25 (Operand.tmp 4), type := 25, pos := "law.go:47", after := #[], guard := none }) (v := _) rfl (by kernel_rfl) (by kernel_rfl) (by kernel_rfl) (by kernel_rfl) (fun _ _ _ h => h) (y_loadAll (by rfl) 25 _ rfl _ rfl 2 _ rfl _ Try.underlying25 rfl (szS HAL.out)) (by exact (by first | exact S | exact ⟨S, HB1⟩ | exact ⟨⟨S, HB1⟩, HB2⟩ | exact ⟨⟨⟨S, HB1⟩, HB2⟩, HB3⟩ | exact ⟨⟨⟨⟨S, HB1⟩, HB2⟩, HB3⟩, HB4⟩)) ?_
  simp only [Act.put, List.setIfInBounds_toArray, List.set_cons_zero, List.set_cons_succ]
  refine Upto.take (i := 3) (oi := { dst := some 21, op := Op.load 25 (Operand.tmp 5), type := 25, pos := "law.go:47", after := #[], guard := none }) (v := _) rfl (by kernel_rfl) (by kernel_rfl) (by kernel_rfl) (by kernel_rfl) (fun _ _ _ h => h) (y_loadAll (by rfl) 25 _ rfl _ rfl 1 _ rfl _ Try.underlying25 rfl (szS HBLn.out)) (by exact (by first | exact S | exact ⟨S, HB1⟩ | exact ⟨⟨S, HB1⟩, HB2⟩ | exact ⟨⟨⟨S, HB1⟩, HB2⟩, HB3⟩ | exact ⟨⟨⟨⟨S, HB1⟩, HB2⟩, HB3⟩, HB4⟩)) ?_
  simp only [Act.put, List.setIfInBounds_toArray, List.set_cons_zero, List.set_cons_succ]
  refine Upto.take (i := 7) (oi := { dst := some 25, op := Op.load 25 (Operand.tmp 4), type := 25, pos := "law.go:47", after := #[], guard := none }) (v := _) rfl (by kernel_rfl) (by kernel_rfl) (by kernel_rfl) (by kernel_rfl) (fun _ _ _ h => h) (y_loadAll (by rfl) 25 _ rfl _ rfl 2 _ rfl _ Try.underlying25 rfl (szS HAL.out)) (by exact (by first | exact S | exact ⟨S, HB1⟩ | exact ⟨⟨S, HB1⟩, HB2⟩ | exact ⟨⟨⟨S, HB1⟩, HB2⟩, HB3⟩ | exact ⟨⟨⟨⟨S, HB1⟩, HB2⟩, HB3⟩, HB4⟩)) ?_
  simp only [Act.put, List.setIfInBounds_toArray, List.set_cons_zero, List.set_cons_succ]
  refine Upto.take (i := 8) (oi := { dst := some 26, op := Op.load 25 (Operand.tmp 5), type := 25, pos := "law.go:47", after := #[], guard := none }) (v := _) rfl (by kernel_rfl) (by kernel_rfl) (by kernel_rfl) (by kernel_rfl) (fun _ _ _ h => h) (y_loadAll (by rfl) 25 _ rfl _ rfl 1 _ rfl _ Try.underlying25 rfl (szS HBLn.out)) (by exact (by first | exact S | exact ⟨S, HB1⟩ | exact ⟨⟨S, HB1⟩, HB2⟩ | exact ⟨⟨⟨S, HB1⟩, HB2⟩, HB3⟩ | exact ⟨⟨⟨⟨S, HB1⟩, HB2⟩, HB3⟩, HB4⟩)) ?_
  simp only [Act.put, List.setIfInBounds_toArray, List.set_cons_zero, List.set_cons_succ]
  refine Upto.ready (rs := [1]) (by kernel_rfl) (by simp) ?_
  refine Nexts.cons rfl (by decide) (fun K hK => ?_) Nexts.nil
  go_simp
  go_wp2_with (go_at_call 11; refine (CBa.out _).mono ?_; rintro e wf ⟨A1, c1, rfl, HB1, hbf⟩; replace S := S.below hbf; clear hbf)
  refine hK.out _ _ (by first | exact S | exact ⟨S, HB1⟩ | exact ⟨⟨S, HB1⟩, HB2⟩ | exact ⟨⟨⟨S, HB1⟩, HB2⟩, HB3⟩ | exact ⟨⟨⟨⟨S, HB1⟩, HB2⟩, HB3⟩, HB4⟩) ?_
  refine Upto.mono (S' := fun w' => SH noZ w w' [(b9, Cel.any c.cs), (b5, Cel.any b.cs), (b4, Cel.any a.cs)] ∧ BL w' (fun _ => True) (.slice A1 66 c1) (bytesL a)) (fun _ h => h.1) _ ?_
  clear hK K
  refine Upto.take (i := 2) (oi := { dst := some 20, op := Op.convert 31 9 (Operand.tmp 19), type := 9, pos := "law.go:47", after := #[{ on := 1, ground := Ground.data }], guard := none }) (v := _) rfl (by kernel_rfl) (by kernel_rfl) (by kernel_rfl) (by kernel_rfl) (fun _ _ _ h => h) (y_str (by rfl) _ rfl _ rfl (bytesL a) (fun _ h => by first | exact h.2 | exact h.1.2 | exact h.1.1.2 | exact h.1.1.1.2)) (by exact (by first | exact S | exact ⟨S, HB1⟩ | exact ⟨⟨S, HB1⟩, HB2⟩ | exact ⟨⟨⟨S, HB1⟩, HB2⟩, HB3⟩ | exact ⟨⟨⟨⟨S, HB1⟩, HB2⟩, HB3⟩, HB4⟩)) ?_
  simp only [Act.put, List.setIfInBounds_toArray, List.set_cons_zero, List.set_cons_succ]
  refine Upto.ready (rs := [4]) (by kernel_rfl) (by simp) ?_
  refine Nexts.cons rfl (by decide) (fun K hK => ?_) Nexts.nil
  go_simp
  go_wp2_with (go_at_call 11; refine (CBb.out _).mono ?_; rintro e wf ⟨A2, c2, rfl, HB2, hbf⟩; replace S := S.below hbf; replace HB1 := HB1.below hbf; clear hbf)
  refine hK.out _ _ (by first | exact S | exact ⟨S, HB1⟩ | exact ⟨⟨S, HB1⟩, HB2⟩ | exact ⟨⟨⟨S, HB1⟩, HB2⟩, HB3⟩ | exact ⟨⟨⟨⟨S, HB1⟩, HB2⟩, HB3⟩, HB4⟩) ?_
  refine Upto.mono (S' := fun w' => (SH noZ w w' [(b9, Cel.any c.cs), (b5, Cel.any b.cs), (b4, Cel.any a.cs)] ∧ BL w' (fun _ => True) (.slice A1 66 c1) (bytesL a)) ∧ BL w' (fun _ => True) (.slice A2 66 c2) (bytesL b)) (fun _ h => h.1) _ ?_
  clear hK K
  refine Upto.take (i := 5) (oi := { dst := some 23, op := Op.convert 31 9 (Operand.tmp 22), type := 9, pos := "law.go:47", after := #[{ on := 4, ground := Ground.data }], guard := none }) (v := _) rfl (by kernel_rfl) (by kernel_rfl) (by kernel_rfl) (by kernel_rfl) (fun _ _ _ h => h) (y_str (by rfl) _ rfl _ rfl (bytesL b) (fun _ h => by first | exact h.2 | exact h.1.2 | exact h.1.1.2 | exact h.1.1.1.2)) (by exact (by first | exact S | exact ⟨S, HB1⟩ | exact ⟨⟨S, HB1⟩, HB2⟩ | exact ⟨⟨⟨S, HB1⟩, HB2⟩, HB3⟩ | exact ⟨⟨⟨⟨S, HB1⟩, HB2⟩, HB3⟩, HB4⟩)) ?_
  simp only [Act.put, List.setIfInBounds_toArray, List.set_cons_zero, List.set_cons_succ]
  refine Upto.take (i := 6) (oi := { dst := some 24, op := Op.binOp BinOp.eql 9 (Operand.tmp 20) (Operand.tmp 23) 9, type := 4, pos := "law.go:47", after := #[{ on := 2, ground := Ground.data }, { on := 5, ground := Ground.data }], guard := none }) (v := _) rfl (by kernel_rfl) (by kernel_rfl) (by kernel_rfl) (by kernel_rfl) (fun _ _ _ h => h) (y_strEq (by rfl) .eql 9 _ _ _ rfl _ _ rfl rfl Try.underlying9 e1 (.inl ⟨rfl, HE1.out⟩)) (by exact (by first | exact S | exact ⟨S, HB1⟩ | exact ⟨⟨S, HB1⟩, HB2⟩ | exact ⟨⟨⟨S, HB1⟩, HB2⟩, HB3⟩ | exact ⟨⟨⟨⟨S, HB1⟩, HB2⟩, HB3⟩, HB4⟩)) ?_
  simp only [Act.put, List.setIfInBounds_toArray, List.set_cons_zero, List.set_cons_succ]
  refine Upto.ready (rs := [9]) (by kernel_rfl) (by simp) ?_
  refine Nexts.cons rfl (by decide) (fun K hK => ?_) Nexts.nil
  go_simp
  go_wp2_with (go_at_call 7; refine (CS.out _).mono ?_; rintro e wf ⟨rfl, hbf⟩; replace S := S.below hbf; replace HB1 := HB1.below hbf; replace HB2 := HB2.below hbf; clear hbf)
  refine hK.out _ _ (by first | exact S | exact ⟨S, HB1⟩ | exact ⟨⟨S, HB1⟩, HB2⟩ | exact ⟨⟨⟨S, HB1⟩, HB2⟩, HB3⟩ | exact ⟨⟨⟨⟨S, HB1⟩, HB2⟩, HB3⟩, HB4⟩) ?_
  clear hK K
  refine Upto.take (i := 10) (oi := { dst := some 28, op := Op.binOp BinOp.eql 4 (Operand.tmp 24) (Operand.tmp 27) 4, type := 4, pos := "law.go:47", after := #[{ on := 6, ground := Ground.data }, { on := 9, ground := Ground.data }], guard := none }) (v := ?_) rfl (by kernel_rfl) (by kernel_rfl) (by kernel_rfl) (by kernel_rfl) (fun _ _ _ h => h) (Or.inl ⟨by rfl, ?_⟩) (by exact (by first | exact S | exact ⟨S, HB1⟩ | exact ⟨⟨S, HB1⟩, HB2⟩ | exact ⟨⟨⟨S, HB1⟩, HB2⟩, HB3⟩ | exact ⟨⟨⟨⟨S, HB1⟩, HB2⟩, HB3⟩, HB4⟩)) ?_
  rotate_left 1
  · intro w hSw
    clear hSw
    go_simp
    try with_reducible rfl
  simp only [Act.put, List.setIfInBounds_toArray, List.set_cons_zero, List.set_cons_succ]
  refine Upto.take (i := 11) (oi := { dst := some 29, op := Op.move (Operand.tmp 28), type := 4, pos := "law.go:47", after := #[{ on := 10, ground := Ground.data }, { on := 9, ground := Ground.chain }], guard := none }) (v := ?_) rfl (by kernel_rfl) (by kernel_rfl) (by kernel_rfl) (by kernel_rfl) (fun _ _ _ h => h) (Or.inl ⟨by rfl, ?_⟩) (by exact (by first | exact S | exact ⟨S, HB1⟩ | exact ⟨⟨S, HB1⟩, HB2⟩ | exact ⟨⟨⟨S, HB1⟩, HB2⟩, HB3⟩ | exact ⟨⟨⟨⟨S, HB1⟩, HB2⟩, HB3⟩, HB4⟩)) ?_
  rotate_left 1
  · intro w hSw
    clear hSw
    go_simp
    try with_reducible rfl
  simp only [Act.put, List.setIfInBounds_toArray, List.set_cons_zero, List.set_cons_succ]
  refine Upto.take (i := 12) (oi := { dst := some 30, op := Op.load 25 (Operand.tmp 4), type := 25, pos := "law.go:47", after := #[{ on := 11, ground := Ground.guard }], guard := some (11, true) }) (v := _) rfl (by kernel_rfl) (by kernel_rfl) (by kernel_rfl) (by kernel_rfl) (fun _ _ _ h => h) (YieldsIf.weak (S := fun w' => SH noZ w w' [(b9, Cel.any c.cs), (b5, Cel.any b.cs), (b4, Cel.any a.cs)]) (y_loadAll (by rfl) 25 _ rfl _ rfl 2 _ rfl _ Try.underlying25 rfl (szS HAL.out)) (fun _ h => by first | exact h | exact h.1 | exact h.1.1 | exact h.1.1.1 | exact h.1.1.1.1)) (by exact (by first | exact S | exact ⟨S, HB1⟩ | exact ⟨⟨S, HB1⟩, HB2⟩ | exact ⟨⟨⟨S, HB1⟩, HB2⟩, HB3⟩ | exact ⟨⟨⟨⟨S, HB1⟩, HB2⟩, HB3⟩, HB4⟩)) ?_
  simp only [Act.put, List.setIfInBounds_toArray, List.set_cons_zero, List.set_cons_succ]
  refine Upto.take (i := 15) (oi := { dst := some 33, op := Op.load 25 (Operand.tmp 9), type := 25, pos := "law.go:47", after := #[{ on := 11, ground := Ground.guard }], guard := some (11, true) }) (v := _) rfl (by kernel_rfl) (by kernel_rfl) (by kernel_rfl) (by kernel_rfl) (fun _ _ _ h => h) (YieldsIf.weak (S := fun w' => SH noZ w w' [(b9, Cel.any c.cs), (b5, Cel.any b.cs), (b4, Cel.any a.cs)]) (y_loadAll (by rfl) 25 _ rfl _ rfl 0 _ rfl _ Try.underlying25 rfl (szS HCL.out)) (fun _ h => by first | exact h | exact h.1 | exact h.1.1 | exact h.1.1.1 | exact h.1.1.1.1)) (by exact (by first | exact S | exact ⟨S, HB1⟩ | exact ⟨⟨S, HB1⟩, HB2⟩ | exact ⟨⟨⟨S, HB1⟩, HB2⟩, HB3⟩ | exact ⟨⟨⟨⟨S, HB1⟩, HB2⟩, HB3⟩, HB4⟩)) ?_
  simp only [Act.put, List.setIfInBounds_toArray, List.set_cons_zero, List.set_cons_succ]
  refine Upto.take (i := 19) (oi := { dst := some 37, op := Op.move (Operand.tmp 2), type := 5, pos := "law.go:47", after := #[{ on := 11, ground := Ground.guard }], guard := some (11, true) }) (v := ?_) rfl (by kernel_rfl) (by kernel_rfl) (by kernel_rfl) (by kernel_rfl) (fun _ _ _ h => h) (Or.inl ⟨by rfl, ?_⟩) (by exact (by first | exact S | exact ⟨S, HB1⟩ | exact ⟨⟨S, HB1⟩, HB2⟩ | exact ⟨⟨⟨S, HB1⟩, HB2⟩, HB3⟩ | exact ⟨⟨⟨⟨S, HB1⟩, HB2⟩, HB3⟩, HB4⟩)) ?_
  rotate_left 1
  · intro w hSw
    clear hSw
    go_simp
    try with_reducible rfl
  simp only [Act.put, List.setIfInBounds_toArray, List.set_cons_zero, List.set_cons_succ]
  refine Upto.take (i := 20) (oi := { dst := some 38, op := Op.binOp BinOp.rem 5 (Operand.tmp 37) (Operand.const (Value.int IntKind.u8 16)) 5, type := 5, pos := "law.go:47", after := #[{ on := 19, ground := Ground.data }, { on := 11, ground := Ground.guard }], guard := some (11, true) }) (v := ?_) rfl (by kernel_rfl) (by kernel_rfl) (by kernel_rfl) (by kernel_rfl) (fun _ _ _ h => h) (Or.inl ⟨by rfl, ?_⟩) (by exact (by first | exact S | exact ⟨S, HB1⟩ | exact ⟨⟨S, HB1⟩, HB2⟩ | exact ⟨⟨⟨S, HB1⟩, HB2⟩, HB3⟩ | exact ⟨⟨⟨⟨S, HB1⟩, HB2⟩, HB3⟩, HB4⟩)) ?_
  rotate_left 1
  · intro w hSw
    clear hSw
    go_simp
    try simp only [hn]
    try with_reducible rfl
  simp only [Act.put, List.setIfInBounds_toArray, List.set_cons_zero, List.set_cons_succ]
  refine Upto.take (i := 21) (oi := { dst := some 39, op := Op.fieldAddr 25 (Operand.tmp 4) 0, type := 0, pos := "law.go:47", after := #[{ on := 11, ground := Ground.guard }], guard := some (11, true) }) (v := ?_) rfl (by kernel_rfl) (by kernel_rfl) (by kernel_rfl) (by kernel_rfl) (fun _ _ _ h => h) (Or.inl ⟨by rfl, ?_⟩) (by exact (by first | exact S | exact ⟨S, HB1⟩ | exact ⟨⟨S, HB1⟩, HB2⟩ | exact ⟨⟨⟨S, HB1⟩, HB2⟩, HB3⟩ | exact ⟨⟨⟨⟨S, HB1⟩, HB2⟩, HB3⟩, HB4⟩)) ?_
  rotate_left 1
  · intro w hSw
    clear hSw
    go_simp
    try with_reducible rfl
  simp only [Act.put, List.setIfInBounds_toArray, List.set_cons_zero, List.set_cons_succ]
  refine Upto.take (i := 22) (oi := { dst := some 40, op := Op.indexAddr 23 (Operand.tmp 39) (Operand.tmp 38), type := 0, pos := "law.go:47", after := #[{ on := 21, ground := Ground.data }, { on := 20, ground := Ground.data }, { on := 11, ground := Ground.guard }], guard := some (11, true) }) (v := ?_) rfl (by kernel_rfl) (by kernel_rfl) (by kernel_rfl) (by kernel_rfl) (fun _ _ _ h => h) (Or.inl ⟨by rfl, ?_⟩) (by exact (by first | exact S | exact ⟨S, HB1⟩ | exact ⟨⟨S, HB1⟩, HB2⟩ | exact ⟨⟨⟨S, HB1⟩, HB2⟩, HB3⟩ | exact ⟨⟨⟨⟨S, HB1⟩, HB2⟩, HB3⟩, HB4⟩)) ?_
  rotate_left 1
  · intro w hSw
    clear hSw
    go_simp
    try with_reducible rfl
  simp only [Act.put, List.setIfInBounds_toArray, List.set_cons_zero, List.set_cons_succ]
  refine Upto.take (i := 23) (oi := { dst := some 41, op := Op.load 22 (Operand.tmp 40), type := 22, pos := "law.go:47", after := #[{ on := 22, ground := Ground.data }, { on := 11, ground := Ground.guard }], guard := some (11, true) }) (v := _) rfl (by kernel_rfl) (by kernel_rfl) (by kernel_rfl) (by kernel_rfl) (fun _ _ _ h => h) (YieldsIf.weak (S := fun w' => SH noZ w w' [(b9, Cel.any c.cs), (b5, Cel.any b.cs), (b4, Cel.any a.cs)]) (y_load1 (by rfl) 22 _ rfl b4 n rfl 2 _ rfl (.int .u32 x) (SV.reg HX.out) _ Try.underlying22 rfl) (fun _ h => by first | exact h | exact h.1 | exact h.1.1 | exact h.1.1.1 | exact h.1.1.1.1)) (by exact (by first | exact S | exact ⟨S, HB1⟩ | exact ⟨⟨S, HB1⟩, HB2⟩ | exact ⟨⟨⟨S, HB1⟩, HB2⟩, HB3⟩ | exact ⟨⟨⟨⟨S, HB1⟩, HB2⟩, HB3⟩, HB4⟩)) ?_
  simp only [Act.put, List.setIfInBounds_toArray, List.set_cons_zero, List.set_cons_succ]
  refine Upto.take (i := 24) (oi := { dst := some 42, op := Op.move (Operand.tmp 3), type := 22, pos := "law.go:47", after := #[{ on := 11, ground := Ground.guard }], guard := some (11, true) }) (v := ?_) rfl (by kernel_rfl) (by kernel_rfl) (by kernel_rfl) (by kernel_rfl) (fun _ _ _ h => h) (Or.inl ⟨by rfl, ?_⟩) (by exact (by first | exact S | exact ⟨S, HB1⟩ | exact ⟨⟨S, HB1⟩, HB2⟩ | exact ⟨⟨⟨S, HB1⟩, HB2⟩, HB3⟩ | exact ⟨⟨⟨⟨S, HB1⟩, HB2⟩, HB3⟩, HB4⟩)) ?_
  rotate_left 1
  · intro w hSw
    clear hSw
    go_simp
    try with_reducible rfl
  simp only [Act.put, List.setIfInBounds_toArray, List.set_cons_zero, List.set_cons_succ]
  refine Upto.take (i := 25) (oi := { dst := some 43, op := Op.binOp BinOp.eql 22 (Operand.tmp 41) (Operand.tmp 42) 22, type := 4, pos := "law.go:47", after := #[{ on := 23, ground := Ground.data }, { on := 24, ground := Ground.data }, { on := 11, ground := Ground.guard }], guard := some (11, true) }) (v := ?_) rfl (by kernel_rfl) (by kernel_rfl) (by kernel_rfl) (by kernel_rfl) (fun _ _ _ h => h) (Or.inl ⟨by rfl, ?_⟩) (by exact (by first | exact S | exact ⟨S, HB1⟩ | exact ⟨⟨S, HB1⟩, HB2⟩ | exact ⟨⟨⟨S, HB1⟩, HB2⟩, HB3⟩ | exact ⟨⟨⟨⟨S, HB1⟩, HB2⟩, HB3⟩, HB4⟩)) ?_
  rotate_left 1
  · intro w hSw
    clear hSw
    go_simp
    try with_reducible rfl
  simp only [Act.put, List.setIfInBounds_toArray, List.set_cons_zero, List.set_cons_succ]
  refine Upto.ready (rs := [13]) (by kernel_rfl) (by simp) ?_
  refine Nexts.cons rfl (by decide) (fun K hK => ?_) Nexts.nil
  go_simp
  go_wp2_with (go_at_call 11; refine (CBa.out _).mono ?_; rintro e wf ⟨A3, c3, rfl, HB3, hbf⟩; replace S := S.below hbf; replace HB1 := HB1.below hbf; replace HB2 := HB2.below hbf; clear hbf)
  refine hK.out _ _ (by first | exact S | exact ⟨S, HB1⟩ | exact ⟨⟨S, HB1⟩, HB2⟩ | exact ⟨⟨⟨S, HB1⟩, HB2⟩, HB3⟩ | exact ⟨⟨⟨⟨S, HB1⟩, HB2⟩, HB3⟩, HB4⟩) ?_
  refine Upto.mono (S' := fun w' => ((SH noZ w w' [(b9, Cel.any c.cs), (b5, Cel.any b.cs), (b4, Cel.any a.cs)] ∧ BL w' (fun _ => True) (.slice A1 66 c1) (bytesL a)) ∧ BL w' (fun _ => True) (.slice A2 66 c2) (bytesL b)) ∧ BL w' (fun _ => True) (.slice A3 66 c3) (bytesL a)) (fun _ h => h.1) _ ?_
  clear hK K
  refine Upto.take (i := 14) (oi := { dst := some 32, op := Op.convert 31 9 (Operand.tmp 31), type := 9, pos := "law.go:47", after := #[{ on := 13, ground := Ground.data }, { on := 11, ground := Ground.guard }], guard := some (11, true) }) (v := _) rfl (by kernel_rfl) (by kernel_rfl) (by kernel_rfl) (by kernel_rfl) (fun _ _ _ h => h) (y_str (by rfl) _ rfl _ rfl (bytesL a) (fun _ h => by first | exact h.2 | exact h.1.2 | exact h.1.1.2 | exact h.1.1.1.2)) (by exact (by first | exact S | exact ⟨S, HB1⟩ | exact ⟨⟨S, HB1⟩, HB2⟩ | exact ⟨⟨⟨S, HB1⟩, HB2⟩, HB3⟩ | exact ⟨⟨⟨⟨S, HB1⟩, HB2⟩, HB3⟩, HB4⟩)) ?_
  simp only [Act.put, List.setIfInBounds_toArray, List.set_cons_zero, List.set_cons_succ]
  refine Upto.ready (rs := [16]) (by kernel_rfl) (by simp) ?_
  refine Nexts.cons rfl (by decide) (fun K hK => ?_) Nexts.nil
  go_simp
  go_wp2_with (go_at_call 11; refine (CBc.out _).mono ?_; rintro e wf ⟨A4, c4, rfl, HB4, hbf⟩; replace S := S.below hbf; replace HB1 := HB1.below hbf; replace HB2 := HB2.below hbf; replace HB3 := HB3.below hbf; clear hbf)
  refine hK.out _ _ (by first | exact S | exact ⟨S, HB1⟩ | exact ⟨⟨S, HB1⟩, HB2⟩ | exact ⟨⟨⟨S, HB1⟩, HB2⟩, HB3⟩ | exact ⟨⟨⟨⟨S, HB1⟩, HB2⟩, HB3⟩, HB4⟩) ?_
  refine Upto.mono (S' := fun w' => (((SH noZ w w' [(b9, Cel.any c.cs), (b5, Cel.any b.cs), (b4, Cel.any a.cs)] ∧ BL w' (fun _ => True) (.slice A1 66 c1) (bytesL a)) ∧ BL w' (fun _ => True) (.slice A2 66 c2) (bytesL b)) ∧ BL w' (fun _ => True) (.slice A3 66 c3) (bytesL a)) ∧ BL w' (fun _ => True) (.slice A4 66 c4) (bytesL c)) (fun _ h => h.1) _ ?_
  clear hK K
  refine Upto.take (i := 17) (oi := { dst := some 35, op := Op.convert 31 9 (Operand.tmp 34), type := 9, pos := "law.go:47", after := #[{ on := 16, ground := Ground.data }, { on := 11, ground := Ground.guard }], guard := some (11, true) }) (v := _) rfl (by kernel_rfl) (by kernel_rfl) (by kernel_rfl) (by kernel_rfl) (fun _ _ _ h => h) (y_str (by rfl) _ rfl _ rfl (bytesL c) (fun _ h => by first | exact h.2 | exact h.1.2 | exact h.1.1.2 | exact h.1.1.1.2)) (by exact (by first | exact S | exact ⟨S, HB1⟩ | exact ⟨⟨S, HB1⟩, HB2⟩ | exact ⟨⟨⟨S, HB1⟩, HB2⟩, HB3⟩ | exact ⟨⟨⟨⟨S, HB1⟩, HB2⟩, HB3⟩, HB4⟩)) ?_
  simp only [Act.put, List.setIfInBounds_toArray, List.set_cons_zero, List.set_cons_succ]
  refine Upto.take (i := 18) (oi := { dst := some 36, op := Op.binOp BinOp.eql 9 (Operand.tmp 32) (Operand.tmp 35) 9, type := 4, pos := "law.go:47", after := #[{ on := 14, ground := Ground.data }, { on := 17, ground := Ground.data }, { on := 11, ground := Ground.guard }], guard := some (11, true) }) (v := _) rfl (by kernel_rfl) (by kernel_rfl) (by kernel_rfl) (by kernel_rfl) (fun _ _ _ h => h) (y_strEq (by rfl) .eql 9 _ _ _ rfl _ _ rfl rfl Try.underlying9 (x == v) (.inl ⟨rfl, HE2.out⟩)) (by exact (by first | exact S | exact ⟨S, HB1⟩ | exact ⟨⟨S, HB1⟩, HB2⟩ | exact ⟨⟨⟨S, HB1⟩, HB2⟩, HB3⟩ | exact ⟨⟨⟨⟨S, HB1⟩, HB2⟩, HB3⟩, HB4⟩)) ?_
  simp only [Act.put, List.setIfInBounds_toArray, List.set_cons_zero, List.set_cons_succ]
  refine Upto.take (i := 26) (oi := { dst := some 44, op := Op.binOp BinOp.eql 4 (Operand.tmp 36) (Operand.tmp 43) 4, type := 4, pos := "law.go:47", after := #[{ on := 18, ground := Ground.data }, { on := 25, ground := Ground.data }, { on := 11, ground := Ground.guard }], guard := some (11, true) }) (v := ?_) rfl (by kernel_rfl) (by kernel_rfl) (by kernel_rfl) (by kernel_rfl) (fun _ _ _ h => h) (Or.inl ⟨by rfl, ?_⟩) (by exact (by first | exact S | exact ⟨S, HB1⟩ | exact ⟨⟨S, HB1⟩, HB2⟩ | exact ⟨⟨⟨S, HB1⟩, HB2⟩, HB3⟩ | exact ⟨⟨⟨⟨S, HB1⟩, HB2⟩, HB3⟩, HB4⟩)) ?_
  rotate_left 1
  · intro w hSw
    clear hSw
    go_simp
    try with_reducible rfl
  simp only [Act.put, List.setIfInBounds_toArray, List.set_cons_zero, List.set_cons_succ]
  refine Upto.take (i := 27) (oi := { dst := some 45, op := Op.pick (Operand.tmp 29) (Operand.tmp 44) (Operand.const (Value.bool false)), type := 4, pos := "law.go:47", after := #[{ on := 11, ground := Ground.data }, { on := 26, ground := Ground.data }], guard := none }) (v := ?_) rfl (by kernel_rfl) (by kernel_rfl) (by kernel_rfl) (by kernel_rfl) (fun _ _ _ h => h) (Or.inl ⟨by rfl, ?_⟩) (by exact (by first | exact S | exact ⟨S, HB1⟩ | exact ⟨⟨S, HB1⟩, HB2⟩ | exact ⟨⟨⟨S, HB1⟩, HB2⟩, HB3⟩ | exact ⟨⟨⟨⟨S, HB1⟩, HB2⟩, HB3⟩, HB4⟩)) ?_
  rotate_left 1
  · intro w hSw
    clear hSw
    go_simp
    try with_reducible rfl
  simp only [Act.put, List.setIfInBounds_toArray, List.set_cons_zero, List.set_cons_succ]
  refine Upto.take (i := 28) (oi := { dst := some 46, op := Op.move (Operand.tmp 45), type := 4, pos := "law.go:47", after := #[{ on := 27, ground := Ground.data }, { on := 16, ground := Ground.chain }], guard := none }) (v := ?_) rfl (by kernel_rfl) (by kernel_rfl) (by kernel_rfl) (by kernel_rfl) (fun _ _ _ h => h) (Or.inl ⟨by rfl, ?_⟩) (by exact (by first | exact S | exact ⟨S, HB1⟩ | exact ⟨⟨S, HB1⟩, HB2⟩ | exact ⟨⟨⟨S, HB1⟩, HB2⟩, HB3⟩ | exact ⟨⟨⟨⟨S, HB1⟩, HB2⟩, HB3⟩, HB4⟩)) ?_
  rotate_left 1
  · intro w hSw
    clear hSw
    go_simp
    try with_reducible rfl
  simp only [Act.put, List.setIfInBounds_toArray, List.set_cons_zero, List.set_cons_succ]
  refine Upto.take (i := 29) (oi := { dst := some 47, op := Op.load 25 (Operand.tmp 5), type := 25, pos := "law.go:47", after := #[{ on := 28, ground := Ground.guard }], guard := some (28, true) }) (v := _) rfl (by kernel_rfl) (by kernel_rfl) (by kernel_rfl) (by kernel_rfl) (fun _ _ _ h => h) (YieldsIf.weak (S := fun w' => SH noZ w w' [(b9, Cel.any c.cs), (b5, Cel.any b.cs), (b4, Cel.any a.cs)]) (y_loadAll (by rfl) 25 _ rfl _ rfl 1 _ rfl _ Try.underlying25 rfl (szS HBLn.out)) (fun _ h => by first | exact h | exact h.1 | exact h.1.1 | exact h.1.1.1 | exact h.1.1.1.1)) (by exact (by first | exact S | exact ⟨S, HB1⟩ | exact ⟨⟨S, HB1⟩, HB2⟩ | exact ⟨⟨⟨S, HB1⟩, HB2⟩, HB3⟩ | exact ⟨⟨⟨⟨S, HB1⟩, HB2⟩, HB3⟩, HB4⟩)) ?_
  simp only [Act.put, List.setIfInBounds_toArray, List.set_cons_zero, List.set_cons_succ]
  refine Upto.ready (rs := [30]) (by kernel_rfl) (by simp) ?_
  refine Nexts.cons rfl (by decide) (fun K hK => ?_) Nexts.nil
  go_simp
  go_wp2_with (go_at_call 11; refine (CBb.out _).mono ?_; rintro e wf ⟨A5, c5, rfl, HB5, hbf⟩; replace S := S.below hbf; replace HB1 := HB1.below hbf; replace HB2 := HB2.below hbf; replace HB3 := HB3.below hbf; replace HB4 := HB4.below hbf; clear hbf)
  refine hK.out _ _ (by first | exact S | exact ⟨S, HB1⟩ | exact ⟨⟨S, HB1⟩, HB2⟩ | exact ⟨⟨⟨S, HB1⟩, HB2⟩, HB3⟩ | exact ⟨⟨⟨⟨S, HB1⟩, HB2⟩, HB3⟩, HB4⟩) ?_
  clear hK K
  refine Upto.take (i := 31) (oi := { dst := some 49, op := Op.call { callee := Callee.builtin Builtin.len, args := #[Operand.tmp 48], argTypes := #[31] }, type := 3, pos := "law.go:47", after := #[{ on := 30, ground := Ground.data }, { on := 28, ground := Ground.guard }], guard := some (28, true) }) (v := ?_) rfl (by kernel_rfl) (by kernel_rfl) (by kernel_rfl) (by kernel_rfl) (fun _ _ _ h => h) (Or.inl ⟨by rfl, ?_⟩) (by exact (by first | exact S | exact ⟨S, HB1⟩ | exact ⟨⟨S, HB1⟩, HB2⟩ | exact ⟨⟨⟨S, HB1⟩, HB2⟩, HB3⟩ | exact ⟨⟨⟨⟨S, HB1⟩, HB2⟩, HB3⟩, HB4⟩)) ?_
  rotate_left 1
  · intro w hSw
    clear hSw
    go_simp
    try with_reducible rfl
  simp only [Act.put, List.setIfInBounds_toArray, List.set_cons_zero, List.set_cons_succ]
  refine Upto.take (i := 32) (oi := { dst := some 50, op := Op.binOp BinOp.eql 3 (Operand.tmp 49) (Operand.const (Value.int IntKind.i64 66)) 3, type := 4, pos := "law.go:47", after := #[{ on := 31, ground := Ground.data }, { on := 28, ground := Ground.guard }], guard := some (28, true) }) (v := ?_) rfl (by kernel_rfl) (by kernel_rfl) (by kernel_rfl) (by kernel_rfl) (fun _ _ _ h => h) (Or.inl ⟨by rfl, ?_⟩) (by exact (by first | exact S | exact ⟨S, HB1⟩ | exact ⟨⟨S, HB1⟩, HB2⟩ | exact ⟨⟨⟨S, HB1⟩, HB2⟩, HB3⟩ | exact ⟨⟨⟨⟨S, HB1⟩, HB2⟩, HB3⟩, HB4⟩)) ?_
  rotate_left 1
  · intro w hSw
    clear hSw
    go_simp
    try with_reducible rfl
  simp only [Act.put, List.setIfInBounds_toArray, List.set_cons_zero, List.set_cons_succ]
  refine Upto.take (i := 33) (oi := { dst := some 51, op := Op.pick (Operand.tmp 46) (Operand.tmp 50) (Operand.const (Value.bool false)), type := 4, pos := "law.go:47", after := #[{ on := 28, ground := Ground.data }, { on := 32, ground := Ground.data }], guard := none }) (v := ?_) rfl (by kernel_rfl) (by kernel_rfl) (by kernel_rfl) (by kernel_rfl) (fun _ _ _ h => h) (Or.inl ⟨by rfl, ?_⟩) (by exact (by first | exact S | exact ⟨S, HB1⟩ | exact ⟨⟨S, HB1⟩, HB2⟩ | exact ⟨⟨⟨S, HB1⟩, HB2⟩, HB3⟩ | exact ⟨⟨⟨⟨S, HB1⟩, HB2⟩, HB3⟩, HB4⟩)) ?_
  rotate_left 1
  · intro w hSw
    clear hSw
    go_simp
    try with_reducible rfl
  simp only [Act.put, List.setIfInBounds_toArray, List.set_cons_zero, List.set_cons_succ]
  refine Upto.ready (rs := [34]) (by kernel_rfl) (by simp) ?_
  refine Nexts.last rfl (fun K hK => ?_)
  go_simp
  refine hK.out _ _ ?_
  clear hK K
  refine Upto.done (by kernel_rfl) ?_ _
  go_wp2
  go_ret
  exact ⟨rfl, S.low⟩
end Go.Proofs.Ytabipgncbbjcgaa
