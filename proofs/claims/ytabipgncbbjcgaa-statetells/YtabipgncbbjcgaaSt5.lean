/- Stage 12: the document's states. -/
import Derived.Test.YtabipgncbbjcgaaSt1
import Derived.Test.YtabipgncbbjcgaaSt4
namespace Go.Proofs.Ytabipgncbbjcgaa
open Go.ChangeShapes Go.WideShapes Go.ChangeAt Go.RowKit
set_option linter.unusedVariables false
set_option linter.unusedSimpArgs false

theorem and_same (a b : SV) : sameS a b = (decide (a.r = b.r) && ((a.f % 16 == b.f % 16) && (a.h == b.h))) := rfl
def pkL (s : SV) (k : Nat) : List Int := s.r.take k ++ List.replicate (32 - k) 0
theorem pkL_len {s : SV} (h : s.r.length = 16) {k : Nat} (hk : k ≤ 16) : (pkL s k).length = 32 := by
  simp only [pkL, List.length_append, List.length_take, List.length_replicate, h]
  omega
theorem pkL_set {s : SV} (h : s.r.length = 16) {k : Nat} {x : Int} (hx : s.r[k]? = some x) : (rc (pkL s k)).set k (.int .u32 x) = rc (pkL s (k + 1)) := by
  have hk := (List.getElem?_eq_some_iff.1 hx).1
  rw [rc_set, pkL, List.set_append_right _ _ (by rw [List.length_take]; omega), List.length_take, Nat.min_eq_left (by omega), Nat.sub_self, pkL, List.take_add_one, hx, List.append_assoc]
  rw [show 32 - k = (32 - (k + 1)) + 1 by omega, List.replicate_succ]
  rfl
theorem pkL_end {s : SV} (h : s.r.length = 16) : (rc (pkL s 16)).set 16 (.int .u32 (s.f % 16)) = rc (packL s) := by
  rw [rc_set, pkL, List.take_of_length_le (by omega), List.set_append_right _ _ (by omega), h]
  rfl
def rpkRel (w : World) (b1 b2 b3 : Nat) (s : SV) (i : Value) (wr : World) : Prop := ∃ k : Nat, k ≤ 16 ∧ i = .int .i64 k ∧ SH noZ w wr [(b3, Cel.any (rc (pkL s k))), (b2, Cel.any (rc (List.replicate 32 0))), (b1, Cel.any s.cs)]
def upS (R : List Int) (h : Bool) (k : Nat) : SV := ⟨R.take k ++ List.replicate (16 - k) 0, R.getD 16 0 % 16, h⟩
theorem upS_len {R : List Int} (h : R.length = 32) (b : Bool) {k : Nat} (hk : k ≤ 16) : (upS R b k).r.length = 16 := by
  simp only [upS, List.length_append, List.length_take, List.length_replicate, h]
  omega
theorem upS_set {R : List Int} (h : R.length = 32) (b : Bool) {k : Nat} {x : Int} (hk : k < 16) (hx : R[k]? = some x) : (upS R b k).cs.set k (.int .u32 x) = (upS R b (k + 1)).cs := by
  rw [SV.set_reg (by rw [upS_len h b (by omega)]; exact hk)]
  congr 1
  simp only [upS, SV.mk.injEq, and_true]
  rw [List.set_append_right _ _ (by rw [List.length_take]; omega), List.length_take, Nat.min_eq_left (by omega), Nat.sub_self, List.take_add_one, hx, List.append_assoc]
  rw [show 16 - k = (16 - (k + 1)) + 1 by omega, List.replicate_succ]
  rfl
theorem upS_end (R : List Int) (h : Bool) : upS R h 16 = unpackSV R h := by simp [upS, unpackSV]
def rupRel (w : World) (b2 b4 b5 : Nat) (R : List Int) (h : Bool) (i : Value) (wr : World) : Prop := ∃ k : Nat, k ≤ 16 ∧ i = .int .i64 k ∧ SH noZ w wr [(b5, Cel.any (upS R h k).cs), (b4, Cel.any zeroSV.cs), (b2, Cel.any (rc R))]
def rb1Rel (w : World) (b : Nat) (s : SV) (v i : Value) (wr : World) : Prop := ∃ k : Nat, k ≤ 16 ∧ i = .int .i64 k ∧ SH (rowZ w.heap.size 5 v (cb ((s.r.take k).flatMap byteL))) w wr [(b, Cel.any s.cs)]
def rb2Rel (w : World) (b : Nat) (s : SV) (k : Nat) (x : Int) (v i : Value) (wr : World) : Prop := ∃ l : Nat, l ≤ 4 ∧ i = .int .i64 l ∧ SH (rowZ w.heap.size 5 v (cb ((s.r.take k).flatMap byteL ++ (byteL x).take l))) w wr [(b, Cel.any s.cs)]
theorem build_fh (f : Int) (h : Bool) (w : World) : (Instr.build 25 #[(1, .int .i64 f), (2, .bool h)]).run Try.prog w = .ok (SV.mk (List.replicate 16 0) f h).val w := by kernel_rfl
theorem wpl_build2 {P : Program} {ops : Array Oper} {rest : List Oper} {o : Oper} {a : Act} {Q : Exit → Act → World → Prop} {w : World} (ty i j : Nat) (x y : Operand) (ho : o.op = .build ty #[(i, x), (j, y)]) (vx vy v : Value) (hx : a.eval x = vx) (hy : a.eval y = vy)
    (hr : ∀ w, (Instr.build ty #[(i, vx), (j, vy)]).run P w = .ok v w) (hw : Region.wanted o (yielded ops a.tmps) = true) (h : wpList P ops Q rest (a.put o.dst v) w) : wpList P ops Q (o :: rest) a w :=
  wpList_step fun K hK => by
    rw [if_pos hw]
    unfold Oper.wp execOp
    simp only [ho, List.map_toArray, List.map_cons, List.map_nil, hx, hy, Sem.run_bind, hr, Result.andThen_ok, Sem.run_pure]
    exact hK _ _ h
set_option maxHeartbeats 4000000 in
set_option maxRecDepth 100000 in
theorem rsame_c (a b : SV) (ha : a.ok) (hb : b.ok) (w : World) : Calls Try.prog 8 #[a.val, b.val] w fun e w' => e = .returned (.bool (sameS a b)) ∧ Below w.heap.size w w' := by
  obtain ⟨⟨hla0, _⟩, fa0, fa1⟩ := ha
  obtain ⟨⟨hlb0, _⟩, fb0, fb1⟩ := hb
  have hla : Hid (a.r.length = 16) := hla0
  have hlb : Hid (b.r.length = 16) := hlb0
  have haa : bits .and .i64 a.f 15 = a.f % 16 := and15 a.f fa0 fa1
  have hbb : bits .and .i64 b.f 15 = b.f % 16 := and15 b.f fb0 fb1
  rw [and_same]
  clear hla0 hlb0
  have HEQ : Hid (∀ w, (binOp .eql 23 (.agg (rc a.r).toArray) (.agg (rc b.r).toArray)).run Try.prog w = .ok (.bool (decide (a.r = b.r))) w) := fun w => regs16_eql hla.out hlb.out w
  generalize decide (a.r = b.r) = e1 at *
  obtain ⟨e2, he2⟩ : ∃ e2, (a.f % 16 == b.f % 16) = e2 := ⟨_, rfl⟩
  rw [he2]
  obtain ⟨x2, hx2⟩ : ∃ x, x = a.f % 16 := ⟨_, rfl⟩
  obtain ⟨y2, hy2⟩ : ∃ x, x = b.f % 16 := ⟨_, rfl⟩
  rw [← hx2] at haa he2
  rw [← hy2] at hbb he2
  clear hx2 hy2
  cases e1
  · go_enter Try.func8, Try.ntmps8
    have S := SH.start w
    go_wp2_with (first
      | ((with_reducible refine wpl_isDst 2 ?_); (first | refine S.boxA rfl 25 _ rfl a.cs rfl ?_ | refine SH.boxA (L := []) S rfl 25 _ rfl a.cs rfl ?_); clear S; intro b2 w2 S)
      | ((with_reducible refine wpl_isDst 3 ?_); (first | refine S.boxA rfl 25 _ rfl b.cs rfl ?_ | refine SH.boxA (L := []) S rfl 25 _ rfl b.cs rfl ?_); clear S; intro b3 w3 S)
      | ((with_reducible refine wpl_isDst 6 ?_); refine S.ldMid 23 _ rfl b2 0 rfl 1 _ rfl (rc a.r) SV.arr _ Try.underlying23 rfl (sz16L hla.out) rfl ?_)
      | ((with_reducible refine wpl_isDst 8 ?_); refine S.ldMid 23 _ rfl b3 0 rfl 0 _ rfl (rc b.r) SV.arr _ Try.underlying23 rfl (sz16L hlb.out) rfl ?_)
      | ((with_reducible refine wpl_isDst 9 ?_); refine wpl_eqS .eql 23 _ _ _ rfl (rc a.r) (rc b.r) rfl rfl (by kernel_rfl) _ HEQ.out rfl ?_)
      | ((with_reducible refine wpl_isDst 12 ?_); first | (refine wpl_skip rfl ?_) | refine S.ld 3 _ rfl b2 16 rfl 1 _ rfl _ (SV.fl hla.out) _ Try.underlying3 rfl rfl ?_)
      | ((with_reducible refine wpl_isDst 15 ?_); first | (refine wpl_skip rfl ?_) | refine S.ld 3 _ rfl b3 16 rfl 0 _ rfl _ (SV.fl hlb.out) _ Try.underlying3 rfl rfl ?_)
      | ((with_reducible refine wpl_isDst 21 ?_); first | (refine wpl_skip rfl ?_) | refine S.ld 4 _ rfl b2 17 rfl 1 _ rfl _ (SV.ha hla.out) _ Try.underlying4 rfl rfl ?_)
      | ((with_reducible refine wpl_isDst 23 ?_); first | (refine wpl_skip rfl ?_) | refine S.ld 4 _ rfl b3 17 rfl 0 _ rfl _ (SV.ha hlb.out) _ Try.underlying4 rfl rfl ?_))
    go_ret
    exact ⟨rfl, S.low⟩
  · cases e2
    · go_enter Try.func8, Try.ntmps8
      have S := SH.start w
      go_wp2_with (first
        | ((with_reducible refine wpl_isDst 2 ?_); (first | refine S.boxA rfl 25 _ rfl a.cs rfl ?_ | refine SH.boxA (L := []) S rfl 25 _ rfl a.cs rfl ?_); clear S; intro b2 w2 S)
        | ((with_reducible refine wpl_isDst 3 ?_); (first | refine S.boxA rfl 25 _ rfl b.cs rfl ?_ | refine SH.boxA (L := []) S rfl 25 _ rfl b.cs rfl ?_); clear S; intro b3 w3 S)
        | ((with_reducible refine wpl_isDst 6 ?_); refine S.ldMid 23 _ rfl b2 0 rfl 1 _ rfl (rc a.r) SV.arr _ Try.underlying23 rfl (sz16L hla.out) rfl ?_)
        | ((with_reducible refine wpl_isDst 8 ?_); refine S.ldMid 23 _ rfl b3 0 rfl 0 _ rfl (rc b.r) SV.arr _ Try.underlying23 rfl (sz16L hlb.out) rfl ?_)
        | ((with_reducible refine wpl_isDst 9 ?_); refine wpl_eqS .eql 23 _ _ _ rfl (rc a.r) (rc b.r) rfl rfl (by kernel_rfl) _ HEQ.out rfl ?_)
        | ((with_reducible refine wpl_isDst 12 ?_); first | (refine wpl_skip rfl ?_) | refine S.ld 3 _ rfl b2 16 rfl 1 _ rfl _ (SV.fl hla.out) _ Try.underlying3 rfl rfl ?_)
        | ((with_reducible refine wpl_isDst 15 ?_); first | (refine wpl_skip rfl ?_) | refine S.ld 3 _ rfl b3 16 rfl 0 _ rfl _ (SV.fl hlb.out) _ Try.underlying3 rfl rfl ?_)
        | ((with_reducible refine wpl_isDst 21 ?_); first | (refine wpl_skip rfl ?_) | refine S.ld 4 _ rfl b2 17 rfl 1 _ rfl _ (SV.ha hla.out) _ Try.underlying4 rfl rfl ?_)
        | ((with_reducible refine wpl_isDst 23 ?_); first | (refine wpl_skip rfl ?_) | refine S.ld 4 _ rfl b3 17 rfl 0 _ rfl _ (SV.ha hlb.out) _ Try.underlying4 rfl rfl ?_))
      go_ret
      exact ⟨rfl, S.low⟩
    · go_enter Try.func8, Try.ntmps8
      have S := SH.start w
      go_wp2_with (first
        | ((with_reducible refine wpl_isDst 2 ?_); (first | refine S.boxA rfl 25 _ rfl a.cs rfl ?_ | refine SH.boxA (L := []) S rfl 25 _ rfl a.cs rfl ?_); clear S; intro b2 w2 S)
        | ((with_reducible refine wpl_isDst 3 ?_); (first | refine S.boxA rfl 25 _ rfl b.cs rfl ?_ | refine SH.boxA (L := []) S rfl 25 _ rfl b.cs rfl ?_); clear S; intro b3 w3 S)
        | ((with_reducible refine wpl_isDst 6 ?_); refine S.ldMid 23 _ rfl b2 0 rfl 1 _ rfl (rc a.r) SV.arr _ Try.underlying23 rfl (sz16L hla.out) rfl ?_)
        | ((with_reducible refine wpl_isDst 8 ?_); refine S.ldMid 23 _ rfl b3 0 rfl 0 _ rfl (rc b.r) SV.arr _ Try.underlying23 rfl (sz16L hlb.out) rfl ?_)
        | ((with_reducible refine wpl_isDst 9 ?_); refine wpl_eqS .eql 23 _ _ _ rfl (rc a.r) (rc b.r) rfl rfl (by kernel_rfl) _ HEQ.out rfl ?_)
        | ((with_reducible refine wpl_isDst 12 ?_); first | (refine wpl_skip rfl ?_) | refine S.ld 3 _ rfl b2 16 rfl 1 _ rfl _ (SV.fl hla.out) _ Try.underlying3 rfl rfl ?_)
        | ((with_reducible refine wpl_isDst 15 ?_); first | (refine wpl_skip rfl ?_) | refine S.ld 3 _ rfl b3 16 rfl 0 _ rfl _ (SV.fl hlb.out) _ Try.underlying3 rfl rfl ?_)
        | ((with_reducible refine wpl_isDst 21 ?_); first | (refine wpl_skip rfl ?_) | refine S.ld 4 _ rfl b2 17 rfl 1 _ rfl _ (SV.ha hla.out) _ Try.underlying4 rfl rfl ?_)
        | ((with_reducible refine wpl_isDst 23 ?_); first | (refine wpl_skip rfl ?_) | refine S.ld 4 _ rfl b3 17 rfl 0 _ rfl _ (SV.ha hlb.out) _ Try.underlying4 rfl rfl ?_))
      go_ret
      exact ⟨rfl, S.low⟩
set_option maxHeartbeats 4000000 in
set_option maxRecDepth 100000 in
theorem rnew_c (p sp : Int) (w : World) : Calls Try.prog 15 #[.int .u32 p, .int .u32 sp] w fun e w' => e = .returned (newSV p sp).val ∧ Below w.heap.size w w' := by
  go_enter Try.func15, Try.ntmps15
  have S := SH.start w
  go_wp2_with (first
    | ((with_reducible refine wpl_isDst 4 ?_); (first | refine S.alloc rfl 25 rfl (Cel.any zeroSV.cs) zeroState ?_ | refine SH.alloc (L := []) S rfl 25 rfl (Cel.any zeroSV.cs) zeroState ?_); clear S; intro b4 w4 S)
    | ((with_reducible refine wpl_isDst 5 ?_); (first | refine S.alloc rfl 25 rfl (Cel.any zeroSV.cs) zeroState ?_ | refine SH.alloc (L := []) S rfl 25 rfl (Cel.any zeroSV.cs) zeroState ?_); clear S; intro b5 w5 S)
    | ((with_reducible refine wpl_isStoreAt 9 ?_); refine S.store1 rfl 22 _ _ rfl b5 13 (.int .u32 sp) rfl rfl 0 _ rfl rfl (by decide) (Cel.any [.int .u32 0, .int .u32 0, .int .u32 0, .int .u32 0, .int .u32 0, .int .u32 0, .int .u32 0, .int .u32 0, .int .u32 0, .int .u32 0, .int .u32 0, .int .u32 0, .int .u32 0, .int .u32 sp, .int .u32 0, .int .u32 0, .int .i64 0, .bool false]) (by kernel_rfl) szU ?_; clear S; intro w2 S; (try simp only [List.set_cons_zero, List.set_cons_succ] at S))
    | ((with_reducible refine wpl_isStoreAt 11 ?_); refine S.store1 rfl 22 _ _ rfl b5 14 (.int .u32 4294967295) rfl rfl 0 _ rfl rfl (by show 14 < 18; decide) (Cel.any [.int .u32 0, .int .u32 0, .int .u32 0, .int .u32 0, .int .u32 0, .int .u32 0, .int .u32 0, .int .u32 0, .int .u32 0, .int .u32 0, .int .u32 0, .int .u32 0, .int .u32 0, .int .u32 sp, .int .u32 4294967295, .int .u32 0, .int .i64 0, .bool false]) (by kernel_rfl) szU ?_; clear S; intro w2 S; (try simp only [List.set_cons_zero, List.set_cons_succ] at S))
    | ((with_reducible refine wpl_isStoreAt 13 ?_); refine S.store1 rfl 22 _ _ rfl b5 15 (.int .u32 p) rfl rfl 0 _ rfl rfl (by show 15 < 18; decide) (Cel.any (newSV p sp).cs) (by kernel_rfl) szU ?_; clear S; intro w2 S; (try simp only [List.set_cons_zero, List.set_cons_succ] at S))
    | ((with_reducible refine wpl_isDst 14 ?_); refine S.ldAll 25 _ rfl b5 rfl 0 _ rfl _ Try.underlying25 rfl (szS (s := newSV p sp) rfl) rfl ?_)
    | ((with_reducible refine wpl_isStoreAt 4 ?_); refine S.storeAll rfl 25 _ _ rfl b4 (Cel.any (newSV p sp).cs) rfl rfl 1 _ rfl rfl (SV.one _) (szS rfl) ?_; clear S; intro w2 S; (try simp only [List.set_cons_zero, List.set_cons_succ] at S)))
  (try simp only [Exit.inBlock, Exit.then])
  refine bodyPost_ret (S.results rfl _ _ rfl 1 _ rfl _ Try.underlying25 rfl (szS rfl)) rfl ?_
  exact ⟨rfl, S.low⟩
set_option maxHeartbeats 4000000 in
set_option maxRecDepth 100000 in
theorem rpack_c (s : SV) (hs : s.ok) (w : World) : Calls Try.prog 10 #[s.val] w fun e w' => e = .returned (Cel.any (rc (packL s))).val ∧ Below w.heap.size w w' := by
  obtain ⟨⟨hl, hu⟩, f0, f1⟩ := hs
  have HL : Hid (s.r.length = 16) := hl
  have HS : Hid (okN 16 s.r) := ⟨hl, hu⟩
  have ha : bits .and .i64 s.f 15 = s.f % 16 := and15 s.f f0 f1
  clear hl hu
  have hb : IntKind.u32.wrap (s.f % 16) = s.f % 16 := by rw [IntKind.wrap_u32]; omega
  go_enter Try.func10, Try.ntmps10
  have S := SH.start w
  go_upto_region 3 with (first
    | ((with_reducible refine wpl_isDst 1 ?_); (first | refine S.boxA rfl 25 _ rfl s.cs rfl ?_ | refine SH.boxA (L := []) S rfl 25 _ rfl s.cs rfl ?_); clear S; intro b1 w1 S)
    | ((with_reducible refine wpl_isDst 2 ?_); (first | refine S.alloc rfl 26 rfl (Cel.any (rc (List.replicate 32 0))) zeroRegs ?_ | refine SH.alloc (L := []) S rfl 26 rfl (Cel.any (rc (List.replicate 32 0))) zeroRegs ?_); clear S; intro b2 w2 S)
    | ((with_reducible refine wpl_isDst 3 ?_); (first | refine S.alloc rfl 26 rfl (Cel.any (rc (List.replicate 32 0))) zeroRegs ?_ | refine SH.alloc (L := []) S rfl 26 rfl (Cel.any (rc (List.replicate 32 0))) zeroRegs ?_); clear S; intro b3 w3 S))
  have ST : Hid (rpkRel w b1 b2 b3 s (.int .i64 0) w3) := ⟨0, Nat.zero_le _, rfl, S⟩
  clear S
  go_loopw [4] (fun i wr => rpkRel w b1 b2 b3 s i wr) (fun i _ => 16 - (intOf i).toNat)
  case atStart => exact ST.out
  case round =>
    clear ST
    obtain ⟨k, hk, rfl, S⟩ := hrel
    by_cases hlt : k < 16
    · have hlt' : (k : Int) < 16 := by omega
      have hlt2 : (k : Int) < 32 := by omega
      have h0 : 0 ≤ (k : Int) := by omega
      obtain ⟨x, hx, x0, x1⟩ := okN_at HS.out hlt
      have HX : Hid (s.r[k]? = some x) := hx
      clear hx
      go_wp2_with (first
        | ((with_reducible refine wpl_isDst 13 ?_); refine S.ld 22 _ rfl b1 k rfl 2 _ rfl _ (SV.reg HX.out) _ Try.underlying22 rfl rfl ?_)
        | ((with_reducible refine wpl_isStoreAt 14 ?_); refine S.store1 rfl 22 _ _ rfl b3 k (.int .u32 x) rfl rfl 0 _ rfl rfl (by rw [rc_length, pkL_len HL.out hk]; omega) (Cel.any (rc (pkL s (k + 1)))) (pkL_set HL.out HX.out) szU ?_; clear S; intro w2 S; (try simp only [List.set_cons_zero, List.set_cons_succ] at S)))
      go_roundw
      case rel => exact ⟨k + 1, hlt, by push_cast; rfl, S⟩
      case measure =>
        simp only [intOf]
        omega
    · have hlt' : ¬ (k : Int) < 16 := by omega
      have hk16 : k = 16 := by omega
      subst hk16
      go_wp2_with (first
        | ((with_reducible refine wpl_isDst 16 ?_); refine S.ld 3 _ rfl b1 16 rfl 2 _ rfl _ (SV.fl HL.out) _ Try.underlying3 rfl rfl ?_)
        | ((with_reducible refine wpl_isDst 18 ?_); refine wpl_dst 18 rfl (.int .u32 (s.f % 16)) (by go_simp) rfl ?_)
        | ((with_reducible refine wpl_isStoreAt 19 ?_); refine S.store1 rfl 22 _ _ rfl b3 16 (.int .u32 (s.f % 16)) rfl rfl 0 _ rfl rfl (by rw [rc_length, pkL_len HL.out (Nat.le_refl _)]; decide) (Cel.any (rc (packL s))) (pkL_end HL.out) szU ?_; clear S; intro w2 S; (try simp only [List.set_cons_zero, List.set_cons_succ] at S))
        | ((with_reducible refine wpl_isDst 20 ?_); refine S.ldAll 26 _ rfl b3 rfl 0 _ rfl _ Try.underlying26 rfl (szR (packL_len HL.out)) rfl ?_)
        | ((with_reducible refine wpl_isStoreAt 2 ?_); refine S.storeAll rfl 26 _ _ rfl b2 (Cel.any (rc (packL s))) rfl rfl 1 _ rfl (by rw [rc_length, rc_length, packL_len HL.out]; rfl) (rc_one _) (szR (packL_len HL.out)) ?_; clear S; intro w2 S; (try simp only [List.set_cons_zero, List.set_cons_succ] at S)))
      (try simp only [Exit.inBlock, Exit.then])
      refine bodyPost_ret (S.results rfl _ _ rfl 1 _ rfl _ Try.underlying26 rfl (szR (packL_len HL.out))) rfl ?_
      exact ⟨rfl, S.low⟩
set_option maxHeartbeats 4000000 in
set_option maxRecDepth 100000 in
theorem runpack_c (R : List Int) (hR : okN 32 R) (h : Bool) (w : World) : Calls Try.prog 16 #[(Cel.any (rc R)).val, .bool h] w fun e w' => e = .returned (unpackSV R h).val ∧ Below w.heap.size w w' := by
  have HL : Hid (R.length = 32) := hR.1
  have HR : Hid (okN 32 R) := hR
  obtain ⟨x, hx, hxu⟩ := okN_at hR (j := 16) (by decide)
  have HX : Hid (R[16]? = some x) := hx
  have ha : bits .and .u32 x 15 = x % 16 := and15u x hxu
  have h1 : 0 ≤ x := hxu.1
  have hb : IntKind.i64.wrap (x % 16) = x % 16 := by rw [IntKind.wrap_i64]; omega
  have he : Hid (upS R h 0 = ⟨List.replicate 16 0, x % 16, h⟩) := by
    have : upS R h 0 = ⟨List.replicate 16 0, x % 16, h⟩ := by simp [upS, List.getD_eq_getElem?_getD, hx]
    exact this
  clear hR hx hxu
  go_enter Try.func16, Try.ntmps16
  have S := SH.start w
  go_upto_region 3 with (first
    | ((with_reducible refine wpl_isDst 2 ?_); (first | refine S.boxA rfl 26 _ rfl (rc R) rfl ?_ | refine SH.boxA (L := []) S rfl 26 _ rfl (rc R) rfl ?_); clear S; intro b2 w2 S)
    | ((with_reducible refine wpl_isDst 4 ?_); (first | refine S.alloc rfl 25 rfl (Cel.any zeroSV.cs) zeroState ?_ | refine SH.alloc (L := []) S rfl 25 rfl (Cel.any zeroSV.cs) zeroState ?_); clear S; intro b4 w4 S)
    | ((with_reducible refine wpl_isDst 5 ?_); (first | refine S.alloc rfl 25 rfl (Cel.any zeroSV.cs) zeroState ?_ | refine SH.alloc (L := []) S rfl 25 rfl (Cel.any zeroSV.cs) zeroState ?_); clear S; intro b5 w5 S)
    | ((with_reducible refine wpl_isDst 8 ?_); refine S.ld 22 _ rfl b2 16 rfl 1 _ rfl _ (rc_at HX.out) _ Try.underlying22 rfl rfl ?_)
    | ((with_reducible refine wpl_isDst 12 ?_); refine wpl_build2 25 1 2 _ _ rfl (.int .i64 (x % 16)) (.bool h) (SV.mk (List.replicate 16 0) (x % 16) h).val rfl rfl (fun w => build_fh _ _ w) rfl ?_)
    | ((with_reducible refine wpl_isDst 10 ?_); refine wpl_dst 10 rfl (.int .i64 (x % 16)) (by go_simp; rw [hb]) rfl ?_)
    | ((with_reducible refine wpl_isStoreAt 5 ?_); refine S.storeAll rfl 25 _ _ rfl b5 (Cel.any (SV.mk (List.replicate 16 0) (x % 16) h).cs) rfl rfl 0 _ rfl rfl (SV.one _) (szS rfl) ?_; clear S; intro w2 S; (try simp only [List.set_cons_zero, List.set_cons_succ] at S)))
  rw [← he.out] at S
  have ST : Hid (rupRel w b2 b4 b5 R h (.int .i64 0) w2) := ⟨0, Nat.zero_le _, rfl, S⟩
  clear S
  go_loopw [6] (fun i wr => rupRel w b2 b4 b5 R h i wr) (fun i _ => 16 - (intOf i).toNat)
  case atStart => exact ST.out
  case round =>
    clear ST
    obtain ⟨k, hk, rfl, S⟩ := hrel
    by_cases hlt : k < 16
    · have hlt' : (k : Int) < 16 := by omega
      have hlt2 : (k : Int) < 32 := by omega
      have h0 : 0 ≤ (k : Int) := by omega
      obtain ⟨y, hy, y0, y1⟩ := okN_at HR.out (show k < 32 by omega)
      have HY : Hid (R[k]? = some y) := hy
      clear hy
      go_wp2_with (first
        | ((with_reducible refine wpl_isDst 20 ?_); refine S.ld 22 _ rfl b2 k rfl 2 _ rfl _ (rc_at HY.out) _ Try.underlying22 rfl rfl ?_)
        | ((with_reducible refine wpl_isStoreAt 22 ?_); refine S.store1 rfl 22 _ _ rfl b5 k (.int .u32 y) rfl rfl 0 _ rfl rfl (by show k < (upS R h k).cs.length; rw [SV.len (upS_len HL.out h hk)]; omega) (Cel.any (upS R h (k + 1)).cs) (upS_set HL.out h hlt HY.out) szU ?_; clear S; intro w2 S; (try simp only [List.set_cons_zero, List.set_cons_succ] at S)))
      go_roundw
      case rel => exact ⟨k + 1, hlt, by push_cast; rfl, S⟩
      case measure =>
        simp only [intOf]
        omega
    · have hlt' : ¬ (k : Int) < 16 := by omega
      have hk16 : k = 16 := by omega
      subst hk16
      have hul : Hid ((unpackSV R h).r.length = 16) := unp_len HL.out
      rw [upS_end] at S
      go_wp2_with (first
        | ((with_reducible refine wpl_isDst 23 ?_); refine S.ldAll 25 _ rfl b5 rfl 0 _ rfl _ Try.underlying25 rfl (szS hul.out) rfl ?_)
        | ((with_reducible refine wpl_isStoreAt 4 ?_); refine S.storeAll rfl 25 _ _ rfl b4 (Cel.any (unpackSV R h).cs) rfl rfl 1 _ rfl ((SV.len rfl).trans (SV.len hul.out).symm) (SV.one _) (szS hul.out) ?_; clear S; intro w2 S; (try simp only [List.set_cons_zero, List.set_cons_succ] at S)))
      (try simp only [Exit.inBlock, Exit.then])
      refine bodyPost_ret (S.results rfl _ _ rfl 1 _ rfl _ Try.underlying25 rfl (szS hul.out)) rfl ?_
      exact ⟨rfl, S.low⟩
set_option maxHeartbeats 4000000 in
set_option maxRecDepth 100000 in
theorem rbytes_c (s : SV) (hs : s.ok) (w : World) : Calls Try.prog 12 #[s.val] w fun e w' => OwnPost w (bytesL s) e w' := by
  obtain ⟨⟨hl, hu⟩, f0, f1⟩ := hs
  have HL : Hid (s.r.length = 16) := hl
  have HS : Hid (okN 16 s.r) := ⟨hl, hu⟩
  have ha : bits .and .i64 s.f 15 = s.f % 16 := and15 s.f f0 f1
  clear hl hu
  have hb : IntKind.u8.wrap (s.f % 16) = s.f % 16 := by rw [IntKind.wrap_u8]; omega
  go_enter Try.func12, Try.ntmps12
  have S := SH.start w
  go_upto_region 3 with (first
    | ((with_reducible refine wpl_isDst 1 ?_); (first | refine S.boxA rfl 25 _ rfl s.cs rfl ?_ | refine SH.boxA (L := []) S rfl 25 _ rfl s.cs rfl ?_); clear S; intro b1 w1 S))
  have ST : Hid (rb1Rel w b1 s (.slice none 0 0) (.int .i64 0) w1) := ⟨0, Nat.zero_le _, rfl, S.rowNil _⟩
  clear S
  go_loopw [3, 4] (fun v i wr => rb1Rel w b1 s v i wr) (fun _ i _ => 16 - (intOf i).toNat)
  case atStart => exact ST.out
  case round =>
    clear ST
    obtain ⟨k, hk, rfl, S⟩ := hrel
    by_cases hlt : k < 16
    · have hlt' : (k : Int) < 16 := by omega
      have hk0 : 0 ≤ (k : Int) := by omega
      obtain ⟨x, hx, x0, x1⟩ := okN_at HS.out hlt
      have HX : Hid (s.r[k]? = some x) := hx
      clear hx
      obtain ⟨wO, hwO⟩ : ∃ y, y = wr := ⟨_, rfl⟩
      rw [← hwO]
      rw [← hwO] at S
      clear hwO wr
      go_upto_region 6 with fail
      have ST : Hid (rb2Rel w b1 s k x u3 (.int .i64 0) wO) := ⟨0, Nat.zero_le _, rfl, by rw [List.take_zero, List.append_nil]; exact S⟩
      clear S
      go_loopw [3, 5] (fun v i wr => rb2Rel w b1 s k x v i wr) (fun _ i _ => 4 - (intOf i).toNat)
      case atStart => exact ST.out
      case round =>
        clear ST
        obtain ⟨l, hl, rfl, S⟩ := hrel
        by_cases hl4 : l < 4
        · rcases (show l = 0 ∨ l = 1 ∨ l = 2 ∨ l = 3 by omega) with rfl | rfl | rfl | rfl
          · have HB1 : Hid ((byteL x).take 0 ++ [x % 256] = (byteL x).take 1) := rfl
            have HB2 : Hid (((byteL x).take 0).length ≤ 4) := by show List.length _ ≤ 4; rw [List.length_take]; omega
            generalize (byteL x).take 0 = B at *
            go_wp2_with (first
              | ((with_reducible refine wpl_isDst 19 ?_); refine S.ld 22 _ rfl b1 k rfl 0 _ rfl _ (SV.reg HX.out) _ Try.underlying22 rfl rfl ?_)
              | ((with_reducible refine wpl_isDst 22 ?_); refine wpl_dst 22 rfl (.int .u32 (x)) (by go_simp; try rfl) rfl ?_)
              | ((with_reducible refine wpl_isDst 23 ?_); refine wpl_dst 23 rfl (.int .u8 (x % 256)) (by go_simp; try rfl) rfl ?_)
              | ((with_reducible refine wpl_isDst 24 ?_); refine S.sliceA rfl 31 1 _ rfl (cb [x % 256]) 5 (by kernel_rfl) ?_; clear S; intro g24 w24 S)
              | ((with_reducible refine wpl_isDst 25 ?_); refine S.appendG rfl 31 _ _ rfl Try.underlying31 (.int .u8 0) 1 infoByte rfl rfl g24 1 1 rfl 0 (cb [x % 256]) rfl rfl (cb_one _) (by decide) (by rw [cb_length, List.length_append, flat_len, List.length_take, HL.out]; have := HB2.out; omega) (by rw [cb_length, List.length_append, flat_len, List.length_take, HL.out]; have := HB2.out; omega) ?_; clear S; intro g25 c25 w25 S))
            go_roundw
            case rel =>
              have S1 := S.fewer 1
              rw [← cb_append, List.append_assoc, HB1.out] at S1
              exact ⟨1, hl4, rfl, S1⟩
            case measure =>
              simp only [intOf]
              decide
          · have HB1 : Hid ((byteL x).take 1 ++ [x / 256 % 256] = (byteL x).take 2) := rfl
            have HB2 : Hid (((byteL x).take 1).length ≤ 4) := by show List.length _ ≤ 4; rw [List.length_take]; omega
            generalize (byteL x).take 1 = B at *
            go_wp2_with (first
              | ((with_reducible refine wpl_isDst 19 ?_); refine S.ld 22 _ rfl b1 k rfl 0 _ rfl _ (SV.reg HX.out) _ Try.underlying22 rfl rfl ?_)
              | ((with_reducible refine wpl_isDst 22 ?_); refine wpl_dst 22 rfl (.int .u32 (x / 256)) (by go_simp; try rfl) rfl ?_)
              | ((with_reducible refine wpl_isDst 23 ?_); refine wpl_dst 23 rfl (.int .u8 (x / 256 % 256)) (by go_simp; try rfl) rfl ?_)
              | ((with_reducible refine wpl_isDst 24 ?_); refine S.sliceA rfl 31 1 _ rfl (cb [x / 256 % 256]) 5 (by kernel_rfl) ?_; clear S; intro g24 w24 S)
              | ((with_reducible refine wpl_isDst 25 ?_); refine S.appendG rfl 31 _ _ rfl Try.underlying31 (.int .u8 0) 1 infoByte rfl rfl g24 1 1 rfl 0 (cb [x / 256 % 256]) rfl rfl (cb_one _) (by decide) (by rw [cb_length, List.length_append, flat_len, List.length_take, HL.out]; have := HB2.out; omega) (by rw [cb_length, List.length_append, flat_len, List.length_take, HL.out]; have := HB2.out; omega) ?_; clear S; intro g25 c25 w25 S))
            go_roundw
            case rel =>
              have S1 := S.fewer 1
              rw [← cb_append, List.append_assoc, HB1.out] at S1
              exact ⟨2, hl4, rfl, S1⟩
            case measure =>
              simp only [intOf]
              decide
          · have HB1 : Hid ((byteL x).take 2 ++ [x / 65536 % 256] = (byteL x).take 3) := rfl
            have HB2 : Hid (((byteL x).take 2).length ≤ 4) := by show List.length _ ≤ 4; rw [List.length_take]; omega
            generalize (byteL x).take 2 = B at *
            go_wp2_with (first
              | ((with_reducible refine wpl_isDst 19 ?_); refine S.ld 22 _ rfl b1 k rfl 0 _ rfl _ (SV.reg HX.out) _ Try.underlying22 rfl rfl ?_)
              | ((with_reducible refine wpl_isDst 22 ?_); refine wpl_dst 22 rfl (.int .u32 (x / 65536)) (by go_simp; try rfl) rfl ?_)
              | ((with_reducible refine wpl_isDst 23 ?_); refine wpl_dst 23 rfl (.int .u8 (x / 65536 % 256)) (by go_simp; try rfl) rfl ?_)
              | ((with_reducible refine wpl_isDst 24 ?_); refine S.sliceA rfl 31 1 _ rfl (cb [x / 65536 % 256]) 5 (by kernel_rfl) ?_; clear S; intro g24 w24 S)
              | ((with_reducible refine wpl_isDst 25 ?_); refine S.appendG rfl 31 _ _ rfl Try.underlying31 (.int .u8 0) 1 infoByte rfl rfl g24 1 1 rfl 0 (cb [x / 65536 % 256]) rfl rfl (cb_one _) (by decide) (by rw [cb_length, List.length_append, flat_len, List.length_take, HL.out]; have := HB2.out; omega) (by rw [cb_length, List.length_append, flat_len, List.length_take, HL.out]; have := HB2.out; omega) ?_; clear S; intro g25 c25 w25 S))
            go_roundw
            case rel =>
              have S1 := S.fewer 1
              rw [← cb_append, List.append_assoc, HB1.out] at S1
              exact ⟨3, hl4, rfl, S1⟩
            case measure =>
              simp only [intOf]
              decide
          · have HB1 : Hid ((byteL x).take 3 ++ [x / 16777216 % 256] = (byteL x).take 4) := rfl
            have HB2 : Hid (((byteL x).take 3).length ≤ 4) := by show List.length _ ≤ 4; rw [List.length_take]; omega
            generalize (byteL x).take 3 = B at *
            go_wp2_with (first
              | ((with_reducible refine wpl_isDst 19 ?_); refine S.ld 22 _ rfl b1 k rfl 0 _ rfl _ (SV.reg HX.out) _ Try.underlying22 rfl rfl ?_)
              | ((with_reducible refine wpl_isDst 22 ?_); refine wpl_dst 22 rfl (.int .u32 (x / 16777216)) (by go_simp; try rfl) rfl ?_)
              | ((with_reducible refine wpl_isDst 23 ?_); refine wpl_dst 23 rfl (.int .u8 (x / 16777216 % 256)) (by go_simp; try rfl) rfl ?_)
              | ((with_reducible refine wpl_isDst 24 ?_); refine S.sliceA rfl 31 1 _ rfl (cb [x / 16777216 % 256]) 5 (by kernel_rfl) ?_; clear S; intro g24 w24 S)
              | ((with_reducible refine wpl_isDst 25 ?_); refine S.appendG rfl 31 _ _ rfl Try.underlying31 (.int .u8 0) 1 infoByte rfl rfl g24 1 1 rfl 0 (cb [x / 16777216 % 256]) rfl rfl (cb_one _) (by decide) (by rw [cb_length, List.length_append, flat_len, List.length_take, HL.out]; have := HB2.out; omega) (by rw [cb_length, List.length_append, flat_len, List.length_take, HL.out]; have := HB2.out; omega) ?_; clear S; intro g25 c25 w25 S))
            go_roundw
            case rel =>
              have S1 := S.fewer 1
              rw [← cb_append, List.append_assoc, HB1.out] at S1
              exact ⟨4, hl4, rfl, S1⟩
            case measure =>
              simp only [intOf]
              decide
        · have hl5 : l = 4 := by omega
          subst hl5
          rw [show (byteL x).take 4 = byteL x from rfl, ← take_snoc HX.out] at S
          go_wp2
          go_roundw
          case rel => exact ⟨k + 1, hlt, by push_cast; rfl, S⟩
          case measure =>
            simp only [intOf]
            omega
    · have hlt' : ¬ (k : Int) < 16 := by omega
      have hk16 : k = 16 := by omega
      subst hk16
      have e16 : s.r.take 16 = s.r := List.take_of_length_le (by rw [HL.out]; exact Nat.le_refl _)
      rw [e16] at S
      clear e16
      obtain ⟨hh, hhh⟩ : ∃ hh, s.h = hh := ⟨_, rfl⟩
      have HH : Hid (s.cs[17]? = some (.bool hh)) := by rw [← hhh]; exact SV.ha HL.out
      have HP : Hid (∀ (A : Option Addr) (c : Nat) (w' : World), w'.ownsRow w.heap.size 5 1 (.slice A ((cb (s.r.flatMap byteL)).length + 2) c) (cb (s.r.flatMap byteL) ++ cb [s.f % 16, bif hh then 1 else 0]).length (cb (s.r.flatMap byteL) ++ cb [s.f % 16, bif hh then 1 else 0]) ∧ Below w.heap.size w w' → OwnPost w (bytesL s) (.returned (.slice A ((cb (s.r.flatMap byteL)).length + 2) c)) w') := by
        rw [← hhh]
        exact fun A c w' h => own_post h
      clear hhh
      cases hh
      · go_wp2_with (first
          | ((with_reducible refine wpl_isDst 27 ?_); refine S.ld 4 _ rfl b1 17 rfl 0 _ rfl _ HH.out _ Try.underlying4 rfl rfl ?_)
          | ((with_reducible refine wpl_isDst 30 ?_); refine S.ld 3 _ rfl b1 16 rfl 0 _ rfl _ (SV.fl HL.out) _ Try.underlying3 rfl rfl ?_)
          | ((with_reducible refine wpl_isDst 32 ?_); refine wpl_dst 32 rfl (.int .u8 (s.f % 16)) (by go_simp) rfl ?_)
          | ((with_reducible refine wpl_isDst 34 ?_); refine S.sliceA rfl 31 2 _ rfl (cb [s.f % 16, 0]) 5 (by kernel_rfl) ?_; clear S; intro g34 w34 S)
          | ((with_reducible refine wpl_isDst 35 ?_); refine S.appendG rfl 31 _ _ rfl Try.underlying31 (.int .u8 0) 1 infoByte rfl rfl g34 2 2 rfl 0 (cb [s.f % 16, 0]) rfl rfl (cb_one _) (by decide) (by rw [cb_length, flat_len, HL.out]; omega) (by rw [cb_length, flat_len, HL.out]; omega) ?_; clear S; intro g35 c35 w35 S))
        go_ret
        exact HP.out _ _ _ S.rowOut
      · go_wp2_with (first
          | ((with_reducible refine wpl_isDst 27 ?_); refine S.ld 4 _ rfl b1 17 rfl 0 _ rfl _ HH.out _ Try.underlying4 rfl rfl ?_)
          | ((with_reducible refine wpl_isDst 30 ?_); refine S.ld 3 _ rfl b1 16 rfl 0 _ rfl _ (SV.fl HL.out) _ Try.underlying3 rfl rfl ?_)
          | ((with_reducible refine wpl_isDst 32 ?_); refine wpl_dst 32 rfl (.int .u8 (s.f % 16)) (by go_simp) rfl ?_)
          | ((with_reducible refine wpl_isDst 34 ?_); refine S.sliceA rfl 31 2 _ rfl (cb [s.f % 16, 1]) 5 (by kernel_rfl) ?_; clear S; intro g34 w34 S)
          | ((with_reducible refine wpl_isDst 35 ?_); refine S.appendG rfl 31 _ _ rfl Try.underlying31 (.int .u8 0) 1 infoByte rfl rfl g34 2 2 rfl 0 (cb [s.f % 16, 1]) rfl rfl (cb_one _) (by decide) (by rw [cb_length, flat_len, HL.out]; omega) (by rw [cb_length, flat_len, HL.out]; omega) ?_; clear S; intro g35 c35 w35 S))
        go_ret
        exact HP.out _ _ _ S.rowOut
end Go.Proofs.Ytabipgncbbjcgaa
