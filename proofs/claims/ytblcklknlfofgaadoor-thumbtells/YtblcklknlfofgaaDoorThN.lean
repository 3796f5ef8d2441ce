/- Stage 8: Encode, walked over whatever halves there are. -/
import Derived.Test.YtblcklknlfofgaaDoorThD
import Derived.Test.YtblcklknlfofgaaDoorThE
import Derived.Test.YtblcklknlfofgaaDoorUpt
namespace Go.Proofs.YtblcklknlfofgaaDoor
open Go.ChangeShapes Go.WideShapes Go.ChangeAt Go.RowKit
set_option linter.unusedVariables false
set_option linter.unusedSimpArgs false

section
variable {P : Program} {M : Zn} {w0 : World} {L : List (Nat × Cel)} {ops : Array Oper} {o : Oper} {a : Act}
theorem y_load1 (hw : Region.wanted o (yielded ops a.tmps) = true) (ty : TypeId) (x : Operand) (ho : o.op = .load ty x) (b j : Nat) (hx : a.eval x = .pointer (some ⟨b, j, none⟩)) (i : Nat) (c : Cel) (hL : L[i]? = some (b, c))
    (v : Value) (hv : c.cells[j]? = some v) (d : TypeDesc) (hu : P.underlying ty = some d) (hd : d.isRow = false) : YieldsIf P ops (fun w' => SH M w0 w' L) o v a :=
  .inl ⟨hw, fun w S => by
    unfold execOp
    simp only [ho, hx, Sem.run_bind, run_load1 w b j ty v d (((S.at hL).1.cell j).trans hv) hu hd, Result.andThen_ok, Sem.run_pure]⟩
theorem y_loadAll (hw : Region.wanted o (yielded ops a.tmps) = true) (ty : TypeId) (x : Operand) (ho : o.op = .load ty x) (b : Nat) (hx : a.eval x = .pointer (some ⟨b, 0, none⟩)) (i : Nat) (c : Cel) (hL : L[i]? = some (b, c))
    (d : TypeDesc) (hu : P.underlying ty = some d) (hd : d.isRow = true) (hi : (P.info? ty).map (·.size) = some c.cells.length) : YieldsIf P ops (fun w' => SH M w0 w' L) o c.val a :=
  yieldsIf_load_mid hw ty x ho b 0 hx c.cells d (fun w S => (S.at hL).1.range) hu hd hi
end
section
variable {ops : Array Oper} {rest : List Oper} {o : Oper} {a : Act} {Q : Exit → Act → World → Prop} {w : World} {K : Act → World → Prop}
theorem wp_eql (x y : Operand) (t : TypeId) (ho : o.op = .binOp .eql 29 x y t) (i j : IV) (hx : a.eval x = i.val) (hy : a.eval y = j.val) (h : K (a.put o.dst (.bool (ivEq i j))) w) : o.wp Tryd.prog a w K Q := by
  unfold Oper.wp execOp
  simp only [ho, hx, hy, Sem.run_bind, iv_guard, Result.andThen_ok, iv_eql, Sem.run_pure]
  exact h
theorem y_eql {S : World → Prop} (hw : Region.wanted o (yielded ops a.tmps) = true) (x y : Operand) (t : TypeId) (ho : o.op = .binOp .eql 29 x y t) (i j : IV) (hx : a.eval x = i.val) (hy : a.eval y = j.val) : YieldsIf Tryd.prog ops S o (.bool (ivEq i j)) a :=
  .inl ⟨hw, fun w _ => by
    unfold execOp
    simp only [ho, hx, hy, Sem.run_bind, iv_guard, Result.andThen_ok, iv_eql, Sem.run_pure]⟩
theorem SH.sliceAny {P : Program} {M : Zn} {w0 : World} {L : List (Nat × Cel)} (S : SH M w0 w L) (hgd : o.guard = none) (ty n : Nat) (xs : Array (Nat × Operand)) (ho : o.op = .buildSlice ty n xs) (cs : List Value) (e : TypeId)
    (hr : (execOp a.eval o).run P w = .ok (.value (.slice (some ⟨w.heap.size, 0, none⟩) n n)) (w.alloc (.cells cs.toArray e)))
    (h : ∀ g w1, SH M w0 w1 ((g, Cel.any cs) :: L) → wpList P ops Q rest (a.put o.dst (.slice (some ⟨g, 0, none⟩) n n)) w1) : wpList P ops Q (o :: rest) a w :=
  wpList_plain hgd fun K hK => by
    unfold Oper.wp
    rw [hr]
    exact hK _ _ (h _ _ (S.new (Cel.any cs) e))
theorem SH.wpSlice {P : Program} {M : Zn} {w0 : World} {L : List (Nat × Cel)} (S : SH M w0 w L) (k : Nat) (hd : o.dst = some k) (ty n : Nat) (xs : Array (Nat × Operand)) (ho : o.op = .buildSlice ty n xs) (cs : List Value) (e : TypeId)
    (hr : (execOp a.eval o).run P w = .ok (.value (.slice (some ⟨w.heap.size, 0, none⟩) n n)) (w.alloc (.cells cs.toArray e)))
    (h : ∀ g w1, SH M w0 w1 ((g, Cel.any cs) :: L) → K (a.put (some k) (.slice (some ⟨g, 0, none⟩) n n)) w1) : o.wp P a w K Q := by
  rw [← hd] at h
  unfold Oper.wp
  rw [hr]
  exact h _ _ (S.new (Cel.any cs) e)
end
/-- Words behind a slice. -/
def HLs (w : World) (v : Value) (hs : List Nat) : Prop := ∃ A c, v = .slice A hs.length c ∧ ∀ (k x : Nat), hs[k]? = some x → ∃ b o, A = some ⟨b, o, none⟩ ∧ w.cell? ⟨b, o + k, none⟩ = some (.int .u16 x)
theorem HLs.below {w w' : World} {v : Value} {hs : List Nat} (h : HLs w v hs) (hb : Below w.heap.size w w') : HLs w' v hs := by
  obtain ⟨A, c, rfl, h⟩ := h
  refine ⟨A, c, rfl, fun k x hk => ?_⟩
  obtain ⟨b, o, rfl, hc⟩ := h k x hk
  exact ⟨b, o, rfl, (hb.cell (World.block_lt_of_cell? w _ hc)).trans hc⟩
def uc (hs : List Nat) : List Value := hs.map fun x => .int .u16 (x : Nat)
theorem HLs.of_blk {w : World} {g c : Nat} {hs : List Nat} (h : Blk w g (uc hs)) : HLs w (.slice (some ⟨g, 0, none⟩) hs.length c) hs :=
  ⟨_, c, rfl, fun k x hk => ⟨g, 0, rfl, by rw [Nat.zero_add, h.cell]; simp [uc, hk]⟩⟩
theorem HLs.nil (w : World) : HLs w (.slice none 0 0) [] := ⟨none, 0, rfl, fun k x hk => by simp at hk⟩
def HRes (w : World) (hs : List Nat) (e : Ending) (w' : World) : Prop := ∃ v, e = .returned v ∧ HLs w' v hs ∧ Below w.heap.size w w'
def encN (i : IV) (b : Bool) : List Nat → Nat × Bool
  | [] => (0, false)
  | h :: t => if ivEq (decN h b).iv i then (h, true) else encN i b t
def encRel (w : World) (i : IV) (b : Bool) (hs : List Nat) (b2 : Nat) (v j : Value) (wr : World) : Prop := ∃ k : Nat, k ≤ hs.length ∧ j = .int .i64 k ∧ encN i b hs = encN i b (hs.drop k) ∧ HLs wr v hs ∧ SH noZ w wr [(b2, Cel.iv i)]
set_option maxHeartbeats 4000000 in
set_option maxRecDepth 100000 in
theorem encode_of (i : IV) (b : Bool) (hs : List Nat) (hhs : ∀ x ∈ hs, x < 65536) (hl : hs.length ≤ 10) (w : World) (HT : LT w) (C : ∀ w1, LT w1 → Calls Tryd.prog 28 #[i.val] w1 fun e w' => HRes w1 hs e w') :
    Calls Tryd.prog 14 #[i.val, .bool b] w fun e w' => e = .returned (.tuple #[.int .u16 ((encN i b hs).1 : Nat), .bool (encN i b hs).2]) ∧ Below w.heap.size w w' := by
  have CH : Hid (∀ w1, LT w1 → Calls Tryd.prog 28 #[i.val] w1 fun e w' => HRes w1 hs e w') := C
  have HL : Hid (∀ x ∈ hs, x < 65536) := hhs
  clear C hhs
  go_enter Tryd.func14, Tryd.ntmps14
  have S := SH.start w
  go_wp2_with (first
    | (go_at_call 28; refine (CH.out _ (HT.next S.low)).mono ?_; rintro e wf ⟨v, rfl, ⟨A, c, rfl, hc⟩, hbf⟩; replace S := S.below hbf; clear hbf)
    | ((with_reducible refine wpl_is ?_); first
      | (refine SH.box (L := []) S rfl 29 _ rfl (Cel.iv i) rfl ?_; clear S; intro b2 w0 S)
      | (refine S.ldAll 29 _ rfl _ rfl 0 (Cel.iv i) rfl _ Tryd.underlying29 rfl (szIV _) rfl ?_)))
  have ST : Hid (encRel w i b hs b2 (.slice A hs.length c) (.int .i64 0) wf) := ⟨0, Nat.zero_le _, rfl, rfl, ⟨A, c, rfl, hc⟩, S⟩
  clear S hc CH
  go_loopw [11] (fun j wr => encRel w i b hs b2 (.slice A hs.length c) j wr) (fun j _ => hs.length - (intOf j).toNat)
  case atStart => exact ST.out
  case round =>
    clear ST
    obtain ⟨k, hk, rfl, he, hv, S⟩ := hrel
    have HV : Hid (HLs wr (.slice A hs.length c) hs) := hv
    clear hv
    have hlen : (hs.length : Int) ≤ 10 := by omega
    by_cases hlt : k < hs.length
    · have hlt' : (k : Int) < hs.length := by omega
      obtain ⟨x, hx⟩ : ∃ x, hs[k]? = some x := ⟨hs[k], by simp [hlt]⟩
      have hx16 : x < 65536 := HL.out x (List.mem_of_getElem? hx)
      have hdr : hs.drop k = x :: hs.drop (k + 1) := by
        rw [List.drop_eq_getElem_cons hlt]
        rw [List.getElem?_eq_getElem hlt] at hx
        rw [Option.some.inj hx]
      rw [hdr] at he
      obtain ⟨bb, oo, rfl, hcx⟩ : ∃ bb oo, A = some ⟨bb, oo, none⟩ ∧ wr.cell? ⟨bb, oo + k, none⟩ = some (.int .u16 x) := by
        obtain ⟨A', c', e1, h2⟩ := HV.out
        simp only [Value.slice.injEq] at e1
        obtain ⟨rfl, _, _⟩ := e1
        exact h2 k x hx
      clear hdr hx
      have HE : Hid (encN i b hs = encN i b (x :: hs.drop (k + 1))) := he
      clear he
      go_wp2_with fail
      refine wp_region_held_drew (S := fun w' => SH noZ w w' [(b2, Cel.iv i)]) (by kernel_rfl) (by exact S.drew) (fun _ => ?_)
      replace S := S.drew
      refine wpAnyH_take (i := 0) (v := ?_) rfl (by kernel_rfl) (by kernel_rfl) (by kernel_rfl) (fun _ _ _ h => h) (Or.inl ⟨by rfl, ?_⟩) (by exact S) ?_
      rotate_left 1
      · intro w hSw
        clear hSw
        go_simp
        try with_reducible rfl
      simp only [Act.put, List.setIfInBounds_toArray, List.set_cons_zero, List.set_cons_succ]
      refine wpAnyH_take (i := 1) (v := ?_) rfl (by kernel_rfl) (by kernel_rfl) (by kernel_rfl) (fun _ _ _ h => h) (Or.inl ⟨by rfl, ?_⟩) (by exact S) ?_
      rotate_left 1
      · intro w hSw
        clear hSw
        go_simp
        try with_reducible rfl
      simp only [Act.put, List.setIfInBounds_toArray, List.set_cons_zero, List.set_cons_succ]
      refine wpAnyH_take (i := 3) (v := _) rfl (by kernel_rfl) (by kernel_rfl) (by kernel_rfl) (fun _ _ _ h => h) (y_loadAll (by rfl) _ _ rfl _ rfl 0 _ rfl _ Tryd.underlying29 rfl (szIV _)) (by exact S) ?_
      simp only [Act.put, List.setIfInBounds_toArray, List.set_cons_zero, List.set_cons_succ]
      refine wpAnyH_ready (rs := [2]) (by kernel_rfl) (by simp) ?_
      refine AllReadyH.cons rfl (fun K hK => ?_) AllReadyH.nil
      go_simp
      go_wp2_with (go_at_call 12; refine (decode_c x hx16 b _ (HT.next S.low)).mono ?_; rintro e wf ⟨rfl, hbf⟩)
      replace S := S.below hbf
      replace HV : Hid (HLs wf (.slice (some ⟨bb, oo, none⟩) hs.length c) hs) := HLs.below HV.out ((Below.refl _ _).drew.trans hbf)
      clear hbf
      refine hK.out _ _ (by exact S) (fun _ => ?_)
      clear hK K
      refine wpAnyH_take (i := 4) (oi := { dst := some 19, op := Op.binOp BinOp.eql 29 (Operand.tmp 17) (Operand.tmp 18) 29, type := 4, pos := "encode.go:12", after := #[{ on := 2, ground := Ground.data }, { on := 3, ground := Ground.data }], guard := none }) (v := _) rfl (by kernel_rfl) (by kernel_rfl) (by kernel_rfl) (fun _ _ _ h => h) (y_eql (by rfl) _ _ _ rfl (decN x b).iv i rfl rfl) (by exact S) ?_
      simp only [Act.put, List.setIfInBounds_toArray, List.set_cons_zero, List.set_cons_succ]
      refine wpAnyH_done (by kernel_rfl) ?_ _
      cases hm : ivEq (decN x b).iv i
      · go_wp2
        go_roundw
        case rel => exact ⟨k + 1, hlt, by push_cast; rfl, HE.out.trans (by simp [encN, hm]), HV.out, S⟩
        case measure =>
          simp only [intOf]
          omega
      · have hres : Hid (encN i b hs = (x, true)) := HE.out.trans (by simp [encN, hm])
        go_wp2
        go_ret2
        exact ⟨by rw [hres.out]; rfl, S.low⟩
    · have hlt' : ¬ (k : Int) < hs.length := by omega
      have hdr : hs.drop k = [] := List.drop_eq_nil_of_le (by omega)
      rw [hdr] at he
      have hres : encN i b hs = (0, false) := he
      have HRs : Hid (encN i b hs = (0, false)) := hres
      clear he hdr hres
      go_wp2
      go_ret2
      exact ⟨by rw [HRs.out]; rfl, S.low⟩
end Go.Proofs.YtblcklknlfofgaaDoor
