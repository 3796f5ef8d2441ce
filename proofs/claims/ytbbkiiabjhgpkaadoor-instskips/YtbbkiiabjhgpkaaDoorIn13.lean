/- Stage 7: InstSkips. -/
import Derived.Test.YtbbkiiabjhgpkaaDoorIn11
import Derived.Test.YtbbkiiabjhgpkaaDoorRdHy
namespace Go.Proofs.YtbbkiiabjhgpkaaDoor
open Go.ChangeShapes Go.WideShapes Go.ChangeAt Go.RowKit
set_option linter.unusedVariables false
set_option linter.unusedSimpArgs false

/-! ### What the lists hold -/
theorem bif_mem (b : Bool) (x d : Int) : x ∈ (bif b then [d] else []) ↔ b = true ∧ x = d := by cases b <;> simp
theorem listL_mem (W l k : Nat) (x : Int) : x ∈ listL W l k ↔ W.testBit 4 = true ∧ ∃ r : Nat, r < k ∧ l.testBit r = true ∧ x = (r : Int) := by
  unfold listL
  cases h : W.testBit 4
  · simp
  · simp only [cond_true, List.mem_map, List.mem_filter, List.mem_range, true_and]
    constructor
    · rintro ⟨r, ⟨h1, h2⟩, rfl⟩
      exact ⟨r, h1, h2, rfl⟩
    · rintro ⟨r, h1, h2, rfl⟩
      exact ⟨r, ⟨h1, h2⟩, rfl⟩
theorem regsL_or (d n m a : Int) (l T G : Nat) (x : Int) : x ∈ regsL d n m a l (T ||| G) ↔ x ∈ regsL d n m a l T ∨ x ∈ regsL d n m a l G := by
  simp only [regsL, fourL, restL, List.mem_append, bif_mem, listL_mem, Nat.testBit_or, Bool.or_eq_true]
  constructor
  · rintro ((⟨h | h, e⟩ | ⟨h | h, e⟩ | ⟨h | h, e⟩ | ⟨h | h, e⟩) | (⟨h | h, e⟩ | ⟨h | h, e⟩ | ⟨h | h, e⟩ | ⟨h | h, e⟩)) <;> simp [h, e]
  · rintro (((⟨h, e⟩ | ⟨h, e⟩ | ⟨h, e⟩ | ⟨h, e⟩) | (⟨h, e⟩ | ⟨h, e⟩ | ⟨h, e⟩ | ⟨h, e⟩)) | ((⟨h, e⟩ | ⟨h, e⟩ | ⟨h, e⟩ | ⟨h, e⟩) | (⟨h, e⟩ | ⟨h, e⟩ | ⟨h, e⟩ | ⟨h, e⟩))) <;> simp [h, e]
def withC (i : IV) (c : Int) : IV := { i with cond := c }
theorem writes_with (i : IV) (c : Int) (l : Nat) : writesI (withC i c) l = writesI i l := rfl
theorem sets_with (i : IV) (c : Int) : setsI (withC i c) = setsI i := rfl
theorem uses_with (i : IV) (c : Int) (h : c < 14) : usesI (withC i c) = true := by
  have : (c != 14) = true := by simp; omega
  simp [usesI, withC, this]
theorem reads_with (i : IV) (c : Int) (h : c < 14) (l : Nat) : readsI (withC i c) l = riseL 14 (regsL i.d i.n i.m i.a l (takesN i ||| givesN i)) := by
  have e : (c == 14) = false := by simp; omega
  unfold readsI readsW
  rw [show (withC i c).cond = c from rfl, e]
  rfl
theorem skip1 (i : IV) (c : Int) (h : c < 14) (l : Nat) (x : Int) (hx : x ∈ writesI i l) (h15 : x < 15) : x ∈ readsI (withC i c) l := by
  rw [reads_with i c h, riseL_mem, regsL_or]
  have := (riseL_mem _ _ _).1 hx
  exact ⟨.inr this.1, this.2.1, by omega⟩
theorem skip2 (i : IV) (c : Int) (h : c < 14) (l : Nat) (x : Int) (hx : x ∈ readsI i l) : x ∈ readsI (withC i c) l := by
  rw [reads_with i c h, riseL_mem, regsL_or]
  obtain ⟨h1, h2, h3⟩ := (riseL_mem _ _ _).1 hx
  refine ⟨?_, h2, h3⟩
  unfold readsW at h1
  cases e : (i.cond == 14)
  · rw [e] at h1
    exact (regsL_or _ _ _ _ _ _ _ _).1 h1
  · rw [e] at h1
    exact .inl h1
theorem skip3 (i : IV) (c : Int) (h : c < 14) (l : Nat) (x : Int) (hx : x ∈ readsI (withC i c) l) : x ∈ readsI i l ∨ x ∈ writesI i l := by
  rw [reads_with i c h, riseL_mem, regsL_or] at hx
  obtain ⟨h1, h2, h3⟩ := hx
  rcases h1 with h1 | h1
  · left
    unfold readsI
    rw [riseL_mem]
    refine ⟨?_, h2, h3⟩
    unfold readsW
    cases e : (i.cond == 14)
    · exact (regsL_or _ _ _ _ _ _ _ _).2 (.inl h1)
    · exact h1
  · right
    unfold writesI
    rw [riseL_mem]
    refine ⟨h1, h2, ?_⟩
    cases branchesI i l
    · exact h3
    · simp only [cond_true]
      omega
theorem rise_len (last : Nat) (xs : List Int) : (riseL last xs).length ≤ last + 1 := by
  unfold riseL
  exact Nat.le_trans (List.length_filter_le _ _) (by simp)
set_option maxRecDepth 100000 in
theorem list_lt_0 : allAt (fun h => Nat.blt (decN h true).list 65536) 0 = true := by kernel_rfl
set_option maxRecDepth 100000 in
theorem list_lt_1 : allAt (fun h => Nat.blt (decN h true).list 65536) 1 = true := by kernel_rfl
set_option maxRecDepth 100000 in
theorem list_lt_2 : allAt (fun h => Nat.blt (decN h true).list 65536) 2 = true := by kernel_rfl
set_option maxRecDepth 100000 in
theorem list_lt_3 : allAt (fun h => Nat.blt (decN h true).list 65536) 3 = true := by kernel_rfl
set_option maxRecDepth 100000 in
theorem list_lt_4 : allAt (fun h => Nat.blt (decN h true).list 65536) 4 = true := by kernel_rfl
set_option maxRecDepth 100000 in
theorem list_lt_5 : allAt (fun h => Nat.blt (decN h true).list 65536) 5 = true := by kernel_rfl
set_option maxRecDepth 100000 in
theorem list_lt_6 : allAt (fun h => Nat.blt (decN h true).list 65536) 6 = true := by kernel_rfl
set_option maxRecDepth 100000 in
theorem list_lt_7 : allAt (fun h => Nat.blt (decN h true).list 65536) 7 = true := by kernel_rfl
set_option maxRecDepth 100000 in
theorem list_lt_8 : allAt (fun h => Nat.blt (decN h true).list 65536) 8 = true := by kernel_rfl
set_option maxRecDepth 100000 in
theorem list_lt_9 : allAt (fun h => Nat.blt (decN h true).list 65536) 9 = true := by kernel_rfl
set_option maxRecDepth 100000 in
theorem list_lt_10 : allAt (fun h => Nat.blt (decN h true).list 65536) 10 = true := by kernel_rfl
set_option maxRecDepth 100000 in
theorem list_lt_11 : allAt (fun h => Nat.blt (decN h true).list 65536) 11 = true := by kernel_rfl
set_option maxRecDepth 100000 in
theorem list_lt_12 : allAt (fun h => Nat.blt (decN h true).list 65536) 12 = true := by kernel_rfl
set_option maxRecDepth 100000 in
theorem list_lt_13 : allAt (fun h => Nat.blt (decN h true).list 65536) 13 = true := by kernel_rfl
set_option maxRecDepth 100000 in
theorem list_lt_14 : allAt (fun h => Nat.blt (decN h true).list 65536) 14 = true := by kernel_rfl
set_option maxRecDepth 100000 in
theorem list_lt_15 : allAt (fun h => Nat.blt (decN h true).list 65536) 15 = true := by kernel_rfl
theorem list_lt (h : Nat) (hh : h < 65536) : (decN h true).list < 65536 := by
  have := allAt_at (p := fun h => Nat.blt (decN h true).list 65536) (fun a ha => by
    rcases (show a = 0 ∨ a = 1 ∨ a = 2 ∨ a = 3 ∨ a = 4 ∨ a = 5 ∨ a = 6 ∨ a = 7 ∨ a = 8 ∨ a = 9 ∨ a = 10 ∨ a = 11 ∨ a = 12 ∨ a = 13 ∨ a = 14 ∨ a = 15 by omega) with rfl | rfl | rfl | rfl | rfl | rfl | rfl | rfl | rfl | rfl | rfl | rfl | rfl | rfl | rfl | rfl
    · exact list_lt_0
    · exact list_lt_1
    · exact list_lt_2
    · exact list_lt_3
    · exact list_lt_4
    · exact list_lt_5
    · exact list_lt_6
    · exact list_lt_7
    · exact list_lt_8
    · exact list_lt_9
    · exact list_lt_10
    · exact list_lt_11
    · exact list_lt_12
    · exact list_lt_13
    · exact list_lt_14
    · exact list_lt_15) h hh
  rw [nblt] at this
  simpa using this

/-! ### Asked of a list -/
def inRel (w : World) (xs : List Int) (x : Int) (i : Value) (wr : World) : Prop := ∃ k : Nat, k ≤ xs.length ∧ i = .int .i64 k ∧ wr = w ∧ x ∉ xs.take k
set_option maxHeartbeats 4000000 in
set_option maxRecDepth 100000 in
theorem in_c (xs : List Int) (u : Value) (x : Int) (w : World) (hu : IL w u xs) (hn : xs.length < 1000) : Calls Tryd.prog 15 #[u, .int .i64 x] w fun e w' => e = .returned (.bool (decide (x ∈ xs))) ∧ w' = w := by
  obtain ⟨A, c, rfl, hA⟩ := hu
  rcases xs with _ | ⟨x0, xs⟩
  · go_enter Tryd.func15, Tryd.ntmps15
    go_upto_region 2 with fail
    go_loopw [5] (fun i wr => i = .int .i64 0 ∧ wr = w) (fun i _ => 0)
    case atStart => exact ⟨rfl, rfl⟩
    case round =>
      obtain ⟨rfl, rfl⟩ := hrel
      go_wp2
      go_ret
      exact ⟨by simp, rfl⟩
  · obtain ⟨ba, oa, rfl, _⟩ := hA 0 x0 rfl
    have HA : Hid (∀ j x, (x0 :: xs)[j]? = some x → w.cell? ⟨ba, oa + j, none⟩ = some (.int .i64 x)) := fun j x hx => by
      obtain ⟨b, o, e, h⟩ := hA j x hx
      simp only [Option.some.injEq, Addr.mk.injEq, and_true] at e
      obtain ⟨rfl, rfl⟩ := e
      exact h
    clear hA
    generalize hys : x0 :: xs = ys at *
    clear hys
    obtain ⟨n, hN⟩ : ∃ n, n = ys.length := ⟨_, rfl⟩
    have HN : Hid (n = ys.length) := hN
    rw [← hN] at hn ⊢
    clear hN
    go_enter Tryd.func15, Tryd.ntmps15
    go_upto_region 2 with fail
    go_loopw [5] (fun i wr => inRel w ys x i wr) (fun i _ => n - (intOf i).toNat)
    case atStart => exact ⟨0, Nat.zero_le _, rfl, rfl, by simp⟩
    case round =>
      obtain ⟨k, hk, rfl, rfl, hnot⟩ := hrel
      rw [← HN.out] at hk
      by_cases hlt : k < n
      · have hlt' : (k : Int) < (n : Int) := by omega
        have h0 : 0 ≤ (k : Int) := by omega
        obtain ⟨y, hy⟩ : ∃ y, ys[k]? = some y := ⟨ys[k]'(by have := HN.out; omega), List.getElem?_eq_getElem (by have := HN.out; omega)⟩
        have hcell : wr.cell? ⟨ba, oa + k, none⟩ = some (.int .i64 y) := HA.out k y hy
        by_cases he : y = x
        · have HD : Hid (decide (x ∈ ys) = true) := by
            show decide _ = true
            rw [decide_eq_true_eq, ← he]
            exact List.mem_of_getElem? hy
          subst he
          clear hnot hy
          go_wp2
          (try simp only [Exit.inBlock, Exit.then])
          go_ret
          exact ⟨by rw [HD.out]; rfl, rfl⟩
        · have hne : (y == x) = false := by simpa using he
          have HNN : Hid (x ∉ ys.take (k + 1)) := by
            show x ∉ _
            rw [List.take_add_one, hy]
            intro hc
            rcases List.mem_append.1 hc with h | h
            · exact hnot h
            · simp at h
              exact he h.symm
          clear hnot hy he
          go_wp2
          go_roundw
          case rel => exact ⟨k + 1, by rw [← HN.out]; exact hlt, by push_cast; rfl, rfl, HNN.out⟩
          case measure =>
            simp only [intOf]
            omega
      · have hlt' : ¬ (k : Int) < (n : Int) := by omega
        have HD : Hid (decide (x ∈ ys) = false) := by
          show decide _ = false
          rw [decide_eq_false_iff_not]
          rw [show ys.take k = ys from List.take_of_length_le (by have := HN.out; omega)] at hnot
          exact hnot
        clear hnot
        go_wp2
        (try simp only [Exit.inBlock, Exit.then])
        go_ret
        exact ⟨by rw [HD.out]; rfl, rfl⟩
/-- A load of a whole row that lay before. -/
theorem wpl_old {P : Program} {wk w : World} {ops : Array Oper} {rest : List Oper} {o : Oper} {a : Act} {Q : Exit → Act → World → Prop} {b : Nat} {cs : List Value} (hb : Blk wk b cs) (hw1 : Below wk.heap.size wk w) (ty : TypeId) (x : Operand) (ho : o.op = .load ty x) (hx : a.eval x = .pointer (some ⟨b, 0, none⟩))
    (d : TypeDesc) (hu : P.underlying ty = some d) (hd : d.isRow = true) (hi : (P.info? ty).map (·.size) = some cs.length) (hw : Region.wanted o (yielded ops a.tmps) = true)
    (h : wpList P ops Q rest (a.put o.dst (.agg cs.toArray)) w) : wpList P ops Q (o :: rest) a w :=
  wpList_step fun K hK => by
    rw [if_pos hw]
    exact wp_load_mid ty x ho b 0 hx cs d (hb.kept (hw1.block b hb.lt)).range hu hd hi (hK _ _ h)
theorem y_old {P : Program} {wk : World} {S : World → Prop} {ops : Array Oper} {o : Oper} {a : Act} {b : Nat} {cs : List Value} (hb : Blk wk b cs) (hS : ∀ w, S w → Below wk.heap.size wk w) (hw : Region.wanted o (yielded ops a.tmps) = true) (ty : TypeId) (x : Operand) (ho : o.op = .load ty x) (hx : a.eval x = .pointer (some ⟨b, 0, none⟩))
    (d : TypeDesc) (hu : P.underlying ty = some d) (hd : d.isRow = true) (hi : (P.info? ty).map (·.size) = some cs.length) : YieldsIf P ops S o (.agg cs.toArray) a :=
  yieldsIf_load_mid hw ty x ho b 0 hx cs d (fun w h => (hb.kept ((hS w h).block b hb.lt)).range) hu hd hi
set_option maxHeartbeats 8000000 in
set_option maxRecDepth 100000 in
theorem skips_i (k x c : Int) (hk : 0 ≤ k ∧ k ≤ 255) (hx : 0 ≤ x ∧ x ≤ 65535) (hc : 0 ≤ c ∧ c ≤ 255) (w : World) (hT : NT w) : Calls Tryd.prog 4 #[.int .u8 k, .int .u16 x, .int .u8 c] w fun e w' => e = .returned (.bool true) ∧ Below w.heap.size w w' := by
  obtain ⟨hc0, hc1⟩ := hc
  have HT : Hid (NT w) := hT
  have CK : Hid (∀ w1, NT w1 → Calls Tryd.prog 5 #[] w1 fun e w' => e = .returned (.bool true) ∧ Below w1.heap.size w1 w') := fun w1 h => known_c w1 h
  have CH : Hid (∀ w1, Calls Tryd.prog 10 #[.int .u8 k, .int .u16 x] w1 fun e w' => Some16 w1 e w') := fun w1 => half_c k x hk.1 hx.1 hx.2 w1
  obtain ⟨q, hq, hq0, hq1⟩ : ∃ q : Int, c.tmod 14 = q ∧ 0 ≤ q ∧ q < 14 := ⟨c % 14, by rw [Int.tmod_eq_emod_of_nonneg hc0], by omega, by omega⟩
  have hqw : IntKind.i64.wrap q = q := by rw [IntKind.wrap_i64]; omega
  clear hT hk hx hc0 hc1
  go_enter Tryd.func4, Tryd.ntmps4
  have S := SH.start w
  go_upto_region 4 with (first
    | (go_at_call 5; refine (CK.out _ HT.out).mono ?_; rintro e wf ⟨rfl, hbf⟩; replace S := S.below hbf; clear hbf)
    | (go_at_call 10; refine (CH.out _).mono ?_; rintro e wf ⟨⟨y, rfl, hy0, hy1⟩, hbf⟩; replace S := S.below hbf; clear hbf))
  obtain ⟨h, rfl⟩ : ∃ h : Nat, y = (h : Int) := ⟨y.toNat, by omega⟩
  have hh : h < 65536 := by omega
  clear hy0 hy1
  have CD : Hid (∀ w1, Calls Tryd.prog 11 #[.int .u16 h, .bool true] w1 fun e w' => e = .returned (decN h true).iv.val ∧ Below w1.heap.size w1 w') := fun w1 => rdecode_c h hh true w1
  obtain ⟨l, hl⟩ : ∃ l : Nat, l = (decN h true).list := ⟨_, rfl⟩
  have hl2 : l < 65536 := by rw [hl]; exact list_lt h hh
  have hl1 : (decN h true).iv.list = (l : Int) := by rw [hl]; rfl
  have CW : Hid (∀ w1, Calls Tryd.prog 12 #[.int .u16 h] w1 fun e w' => e = .returned (.bool (Nat.blt 28 (h / 2048))) ∧ w' = w1) := fun w1 => riswide_c h hh w1
  generalize (decN h true).iv = i at *
  have R1 : Hid (∀ w1, Calls Tryd.prog 13 #[(Cel.iv i).val] w1 fun e w' => ∃ u, e = .returned u ∧ IL w' u (readsI i l) ∧ Below w1.heap.size w1 w') := fun w1 => reads_c i l hl1 hl2 w1
  have W1 : Hid (∀ w1, Calls Tryd.prog 14 #[(Cel.iv i).val] w1 fun e w' => ∃ u, e = .returned u ∧ IL w' u (writesI i l) ∧ Below w1.heap.size w1 w') := fun w1 => writes_c i l hl1 hl2 w1
  have R2 : Hid (∀ w1, Calls Tryd.prog 13 #[(Cel.iv (withC i q)).val] w1 fun e w' => ∃ u, e = .returned u ∧ IL w' u (readsI (withC i q) l) ∧ Below w1.heap.size w1 w') := fun w1 => reads_c (withC i q) l hl1 hl2 w1
  have W2 : Hid (∀ w1, Calls Tryd.prog 14 #[(Cel.iv (withC i q)).val] w1 fun e w' => ∃ u, e = .returned u ∧ IL w' u (writesI i l) ∧ Below w1.heap.size w1 w') := fun w1 => writes_c (withC i q) l hl1 hl2 w1
  have U2 : Hid (∀ w1, Calls Tryd.prog 16 #[(Cel.iv (withC i q)).val] w1 fun e w' => e = .returned (.bool true) ∧ Below w1.heap.size w1 w') := fun w1 => (usesI_c (withC i q) w1).mono fun e w' h => ⟨by rw [h.1, uses_with i q hq1], by rw [h.2]; exact low_one _ _⟩
  have T1 : Hid (∀ w1, Calls Tryd.prog 18 #[(Cel.iv i).val] w1 fun e w' => e = .returned (.int .i64 (setsI i)) ∧ Below w1.heap.size w1 w') := fun w1 => sets_c i w1
  have T2 : Hid (∀ w1, Calls Tryd.prog 18 #[(Cel.iv (withC i q)).val] w1 fun e w' => e = .returned (.int .i64 (setsI i)) ∧ Below w1.heap.size w1 w') := fun w1 => sets_c (withC i q) w1
  have K1 : Hid (∀ y, y ∈ writesI i l → y < 15 → y ∈ readsI (withC i q) l) := fun y h1 h2 => skip1 i q hq1 l y h1 h2
  have K2 : Hid (∀ y, y ∈ readsI i l → y ∈ readsI (withC i q) l) := fun y h1 => skip2 i q hq1 l y h1
  have K3 : Hid (∀ y, y ∈ readsI (withC i q) l → y ∈ readsI i l ∨ y ∈ writesI i l) := fun y h1 => skip3 i q hq1 l y h1
  have N1 : Hid ((readsI i l).length < 1000) := Nat.lt_of_le_of_lt (rise_len _ _) (by decide)
  have N2 : Hid ((writesI i l).length < 1000) := Nat.lt_of_le_of_lt (rise_len _ _) (by cases branchesI i l <;> decide)
  have N3 : Hid ((readsI (withC i q) l).length < 1000) := Nat.lt_of_le_of_lt (rise_len _ _) (by decide)
  clear hl hl1 hl2
  generalize readsI i l = rs at *
  generalize writesI i l = ws at *
  generalize readsI (withC i q) l = ls at *
  generalize setsI i = st at *
  generalize Nat.blt 28 (h / 2048) = e0 at *
  obtain ⟨io, hio⟩ : ∃ io, i.op = io := ⟨_, rfl⟩
  have HOP : Hid ((Cel.iv i).cells[0]? = some (.int .i64 io)) := by
    show some (Value.int .i64 i.op) = _
    rw [hio]
  clear hio hh
  cases e0
  · cases e1 : (io == 64)
    · cases e2 : (io == 65)
      · cases e3 : (io == 60)
        · cases e4 : (io == 54)
          · go_upto_region 7 with (first
              | (go_at_call 11; refine (CD.out _).mono ?_; rintro e wf ⟨rfl, hbf⟩; replace S := S.below hbf; clear hbf)
              | ((with_reducible refine wpl_isDst 8 ?_); refine SH.alloc (L := []) S rfl 31 rfl (Cel.iv IV.zero) zeroIV ?_; clear S; intro b8 w8 S)
              | ((with_reducible refine wpl_isStoreAt 8 ?_); refine S.storeAll rfl 31 _ _ rfl b8 (Cel.iv i) rfl rfl 0 _ rfl rfl (one_iv _) (szIV _) ?_; clear S; intro w3 S; simp only [List.set_cons_zero, List.set_cons_succ] at S)
              | (go_at_call 12; refine (CW.out _).mono ?_; rintro e wf ⟨rfl, rfl⟩)
              | ((with_reducible refine wpl_isDst 27 ?_); first | (refine wpl_skip rfl ?_) | refine S.ld 3 _ rfl b8 0 rfl 0 _ rfl (.int .i64 io) HOP.out _ Tryd.underlying3 rfl rfl ?_)
              | ((with_reducible refine wpl_isDst 32 ?_); first | (refine wpl_skip rfl ?_) | refine S.ld 3 _ rfl b8 0 rfl 0 _ rfl (.int .i64 io) HOP.out _ Tryd.underlying3 rfl rfl ?_)
              | ((with_reducible refine wpl_isDst 37 ?_); first | (refine wpl_skip rfl ?_) | refine S.ld 3 _ rfl b8 0 rfl 0 _ rfl (.int .i64 io) HOP.out _ Tryd.underlying3 rfl rfl ?_)
              | ((with_reducible refine wpl_isDst 42 ?_); first | (refine wpl_skip rfl ?_) | refine S.ld 3 _ rfl b8 0 rfl 0 _ rfl (.int .i64 io) HOP.out _ Tryd.underlying3 rfl rfl ?_)
              )
            refine Upto.start (S := fun w' => SH noZ w w' [(b8, Cel.iv i)]) 5 (by kernel_rfl) ?_
            replace S := S.drew
            refine Upto.take (i := 0) (oi := { dst := some 45, op := Op.load 31 (Operand.tmp 8), type := 31, pos := "more.go:23", after := #[], guard := none }) (v := _) rfl (by kernel_rfl) (by kernel_rfl) (by kernel_rfl) (by kernel_rfl) (fun _ _ _ h => h) (y_loadAll (by rfl) _ _ rfl _ rfl 0 _ rfl _ Tryd.underlying31 rfl (szIV _)) (by exact S) ?_
            simp only [Act.put, List.setIfInBounds_toArray, List.set_cons_zero, List.set_cons_succ]
            refine Upto.take (i := 2) (oi := { dst := some 47, op := Op.load 31 (Operand.tmp 8), type := 31, pos := "more.go:23", after := #[], guard := none }) (v := _) rfl (by kernel_rfl) (by kernel_rfl) (by kernel_rfl) (by kernel_rfl) (fun _ _ _ h => h) (y_loadAll (by rfl) _ _ rfl _ rfl 0 _ rfl _ Tryd.underlying31 rfl (szIV _)) (by exact S) ?_
            simp only [Act.put, List.setIfInBounds_toArray, List.set_cons_zero, List.set_cons_succ]
            refine Upto.ready (rs := [1]) (by kernel_rfl) (by simp) ?_
            refine Nexts.cons rfl (by decide) (fun K hK => ?_) Nexts.nil
            go_simp
            go_wp2_with (go_at_call 13; refine (R1.out _).mono ?_; rintro e wf ⟨u9, rfl, hil, hbf⟩; replace S := S.below hbf; have HI9 : Hid (IL wf u9 rs) := hil; clear hil hbf)
            refine hK.out _ _ (by exact S) ?_
            clear hK K
            refine Upto.ready (rs := [3]) (by kernel_rfl) (by simp) ?_
            refine Nexts.cons rfl (by decide) (fun K hK => ?_) Nexts.nil
            go_simp
            go_wp2_with (go_at_call 14; refine (W1.out _).mono ?_; rintro e wk ⟨u10, rfl, hil, hbf⟩; replace S := S.below hbf; have HI10 : Hid (IL wk u10 ws) := hil; have HJ9 : Hid (IL wk u9 rs) := IL.below HI9.out hbf; clear hil hbf)
            refine hK.out _ _ (by exact S) ?_
            clear hK K
            refine Upto.take (i := 4) (oi := { dst := some 9, op := Op.assign (Operand.tmp 46), type := 23, pos := "more.go:23", after := #[{ on := 1, ground := Ground.data }, { on := 3, ground := Ground.chain }, { on := 0, ground := Ground.phase }, { on := 1, ground := Ground.phase }, { on := 2, ground := Ground.textOnly Departure.lateStores }, { on := 3, ground := Ground.textOnly Departure.lateStoresUnsure }], guard := none }) (v := ?_) rfl (by kernel_rfl) (by kernel_rfl) (by kernel_rfl) (by kernel_rfl) (fun _ _ _ h => h) (Or.inl ⟨by rfl, ?_⟩) (by exact S) ?_
            rotate_left 1
            · intro w hSw
              clear hSw
              go_simp
              try with_reducible rfl
            simp only [Act.put, List.setIfInBounds_toArray, List.set_cons_zero, List.set_cons_succ]
            refine Upto.ready (rs := [5]) (by kernel_rfl) (by simp) ?_
            refine Nexts.last rfl (fun K hK => ?_)
            go_simp
            refine hK.out _ _ ?_
            clear hK K
            refine Upto.done (by kernel_rfl) ?_ _
            have HB8 : Hid (Blk wk b8 (Cel.iv i).cells) := (S.at (i := 0) rfl).1
            have HBW : Hid (Below w.heap.size w wk) := S.low
            clear S HI9
            have S := SH.start wk
            go_upto_region 12 with (first
              | ((with_reducible refine wpl_isDst 49 ?_); refine wpl_old HB8.out S.low 31 _ rfl rfl _ Tryd.underlying31 rfl (szIV _) rfl ?_)
              | ((with_reducible refine wpl_isDst 11 ?_); refine SH.alloc (L := []) S rfl 31 rfl (Cel.iv IV.zero) zeroIV ?_; clear S; intro b11 w11 S)
              | ((with_reducible refine wpl_isStoreAt 11 ?_); refine S.storeAll rfl 31 _ _ rfl b11 (Cel.iv i) rfl rfl 0 _ rfl rfl (one_iv _) (szIV _) ?_; clear S; intro w3 S; simp only [List.set_cons_zero, List.set_cons_succ] at S)
              | ((with_reducible refine wpl_isDst 52 ?_); refine wpl_dst 52 rfl (.int .i64 q) (by go_simp; try exact hqw) rfl ?_)
              | ((with_reducible refine wpl_isStoreAt 53 ?_); refine S.store1 rfl 3 _ _ rfl b11 3 (.int .i64 q) rfl rfl 0 _ rfl rfl (by show 3 < 15; decide) (Cel.iv (withC i q)) rfl (by kernel_rfl) ?_; clear S; intro w3 S; simp only [List.set_cons_zero, List.set_cons_succ] at S)
              | ((with_reducible refine wpl_isDst 54 ?_); refine S.ldAll 31 _ rfl b11 rfl 0 (Cel.iv (withC i q)) rfl _ Tryd.underlying31 rfl (szIV _) rfl ?_)
              | (go_at_call 13; refine (R2.out _).mono ?_; rintro e wl ⟨u12, rfl, hil, hbf⟩; replace S := S.below hbf; have HI12 : Hid (IL wl u12 ls) := hil; clear hil hbf))
            have HL9 : Hid (IL wl u9 rs) := IL.below HJ9.out S.low
            have HL10 : Hid (IL wl u10 ws) := IL.below HI10.out S.low
            obtain ⟨A9, c9, he9, hA9⟩ := HL9.out
            obtain ⟨A10, c10, he10, hA10⟩ := HL10.out
            obtain ⟨A12, c12, he12, hA12⟩ := HI12.out
            have G9 : Hid (∀ j x, rs[j]? = some x → ∃ b o, A9 = some ⟨b, o, none⟩ ∧ wl.cell? ⟨b, o + j, none⟩ = some (.int .i64 x)) := hA9
            have G10 : Hid (∀ j x, ws[j]? = some x → ∃ b o, A10 = some ⟨b, o, none⟩ ∧ wl.cell? ⟨b, o + j, none⟩ = some (.int .i64 x)) := hA10
            have G12 : Hid (∀ j x, ls[j]? = some x → ∃ b o, A12 = some ⟨b, o, none⟩ ∧ wl.cell? ⟨b, o + j, none⟩ = some (.int .i64 x)) := hA12
            subst he9 he10 he12
            have IN12 : Hid (∀ y, Calls Tryd.prog 15 #[.slice A12 ls.length c12, .int .i64 y] wl fun e w' => e = .returned (.bool (decide (y ∈ ls))) ∧ w' = wl) := fun y => in_c ls _ y wl HI12.out N3.out
            have IN9 : Hid (∀ y, Calls Tryd.prog 15 #[.slice A9 rs.length c9, .int .i64 y] wl fun e w' => e = .returned (.bool (decide (y ∈ rs))) ∧ w' = wl) := fun y => in_c rs _ y wl HL9.out N1.out
            have IN10 : Hid (∀ y, Calls Tryd.prog 15 #[.slice A10 ws.length c10, .int .i64 y] wl fun e w' => e = .returned (.bool (decide (y ∈ ws))) ∧ w' = wl) := fun y => in_c ws _ y wl HL10.out N2.out
            clear hA9 hA10 hA12 HL9 HJ9 HI10 HI12
            have HS : Hid (SH noZ wk wl [(b11, Cel.iv (withC i q))]) := S
            clear S
            obtain ⟨nr, hnr⟩ : ∃ n, n = rs.length := ⟨_, rfl⟩
            obtain ⟨nw, hnw⟩ : ∃ n, n = ws.length := ⟨_, rfl⟩
            obtain ⟨nl, hnl⟩ : ∃ n, n = ls.length := ⟨_, rfl⟩
            have NR : Hid (nr = rs.length) := hnr
            have NW : Hid (nw = ws.length) := hnw
            have NL : Hid (nl = ls.length) := hnl
            rw [← hnr] at IN9
            rw [← hnw] at IN10 HL10
            rw [← hnl] at IN12
            rw [← hnr, ← hnw, ← hnl]
            clear hnr hnw hnl
            go_loopw [13] (fun i wr => ∃ k : Nat, k ≤ nw ∧ i = .int .i64 k ∧ wr = wl) (fun i _ => nw - (intOf i).toNat)
            case atStart => exact ⟨0, Nat.zero_le _, rfl, rfl⟩
            case round =>
              obtain ⟨k, hkn, rfl, rfl⟩ := hrel
              by_cases hlt : k < nw
              · have hlt' : (k : Int) < (nw : Int) := by omega
                have hM : nw < 1000 := by have := N2.out; have := NW.out; omega
                have h0 : 0 ≤ (k : Int) := by omega
                obtain ⟨y, hy⟩ : ∃ y, ws[k]? = some y := ⟨ws[k]'(by have := NW.out; omega), List.getElem?_eq_getElem (by have := NW.out; omega)⟩
                obtain ⟨b, o, hAe, hcell⟩ := G10.out k y hy
                subst hAe
                have HY : Hid (y ∈ ws) := List.mem_of_getElem? hy
                clear hy
                by_cases h15 : y < 15
                · have hin : decide (y ∈ ls) = true := decide_eq_true (K1.out y HY.out h15)
                  have CI := IN12.out y
                  rw [hin] at CI
                  have CI2 : Hid (Calls Tryd.prog 15 #[.slice A12 nl c12, .int .i64 y] wr fun e w' => e = .returned (.bool true) ∧ w' = wr) := CI
                  clear CI hin
                  go_wp2_with (go_at_call 15; refine CI2.out.mono ?_; rintro e wf ⟨rfl, rfl⟩)
                  go_roundw
                  case rel => exact ⟨k + 1, hlt, by push_cast; rfl, by trivial⟩
                  case measure =>
                    simp only [intOf]
                    omega
                · go_wp2
                  go_roundw
                  case rel => exact ⟨k + 1, hlt, by push_cast; rfl, by trivial⟩
                  case measure =>
                    simp only [intOf]
                    omega
              · have hlt' : ¬ (k : Int) < (nw : Int) := by omega
                go_upto_region 17 with fail
                go_loopw [14] (fun i wx => ∃ k : Nat, k ≤ nr ∧ i = .int .i64 k ∧ wx = wr) (fun i _ => nr - (intOf i).toNat)
                case atStart => exact ⟨0, Nat.zero_le _, rfl, rfl⟩
                case round =>
                  obtain ⟨k2, hkn2, rfl, rfl⟩ := hrel
                  by_cases hlt2 : k2 < nr
                  · have hlt2' : (k2 : Int) < (nr : Int) := by omega
                    have hM : nr < 1000 := by have := N1.out; have := NR.out; omega
                    have h0 : 0 ≤ (k2 : Int) := by omega
                    obtain ⟨y, hy⟩ : ∃ y, rs[k2]? = some y := ⟨rs[k2]'(by have := NR.out; omega), List.getElem?_eq_getElem (by have := NR.out; omega)⟩
                    obtain ⟨b, o, hAe, hcell⟩ := G9.out k2 y hy
                    subst hAe
                    have hin : decide (y ∈ ls) = true := decide_eq_true (K2.out y (List.mem_of_getElem? hy))
                    have CI := IN12.out y
                    rw [hin] at CI
                    have CI2 : Hid (Calls Tryd.prog 15 #[.slice A12 nl c12, .int .i64 y] wr fun e w' => e = .returned (.bool true) ∧ w' = wr) := CI
                    clear CI hin hy
                    go_wp2_with (go_at_call 15; refine CI2.out.mono ?_; rintro e wf ⟨rfl, rfl⟩)
                    go_roundw
                    case rel => exact ⟨k2 + 1, hlt2, by push_cast; rfl, by trivial⟩
                    case measure =>
                      simp only [intOf]
                      omega
                  · have hlt2' : ¬ (k2 : Int) < (nr : Int) := by omega
                    go_upto_region 22 with fail
                    go_loopw [15] (fun i wx => ∃ k : Nat, k ≤ nl ∧ i = .int .i64 k ∧ wx = wr) (fun i _ => nl - (intOf i).toNat)
                    case atStart => exact ⟨0, Nat.zero_le _, rfl, rfl⟩
                    case round =>
                      obtain ⟨k3, hkn3, rfl, rfl⟩ := hrel
                      by_cases hlt3 : k3 < nl
                      · have hlt3' : (k3 : Int) < (nl : Int) := by omega
                        have hM : nl < 1000 := by have := N3.out; have := NL.out; omega
                        have h0 : 0 ≤ (k3 : Int) := by omega
                        obtain ⟨y, hy⟩ : ∃ y, ls[k3]? = some y := ⟨ls[k3]'(by have := NL.out; omega), List.getElem?_eq_getElem (by have := NL.out; omega)⟩
                        obtain ⟨b, o, hAe, hcell⟩ := G12.out k3 y hy
                        subst hAe
                        have hor := K3.out y (List.mem_of_getElem? hy)
                        have C9 := IN9.out y
                        have C10 := IN10.out y
                        clear hy
                        by_cases hr : y ∈ rs
                        · rw [decide_eq_true hr] at C9
                          have CI2 : Hid (Calls Tryd.prog 15 #[.slice A9 nr c9, .int .i64 y] wr fun e w' => e = .returned (.bool true) ∧ w' = wr) := C9
                          clear C9 C10 hor hr
                          go_wp2_with (go_at_call 15; refine CI2.out.mono ?_; rintro e wf ⟨rfl, rfl⟩)
                          go_roundw
                          case rel => exact ⟨k3 + 1, hlt3, by push_cast; rfl, by trivial⟩
                          case measure =>
                            simp only [intOf]
                            omega
                        · rw [decide_eq_false hr] at C9
                          rw [decide_eq_true (hor.resolve_left hr)] at C10
                          have CI2 : Hid (Calls Tryd.prog 15 #[.slice A9 nr c9, .int .i64 y] wr fun e w' => e = .returned (.bool false) ∧ w' = wr) := C9
                          have CI3 : Hid (Calls Tryd.prog 15 #[.slice A10 nw c10, .int .i64 y] wr fun e w' => e = .returned (.bool true) ∧ w' = wr) := C10
                          clear C9 C10 hor hr
                          go_wp2_with (go_at_call 15; first | ((with_reducible refine CI2.out.mono ?_); rintro e wf ⟨rfl, rfl⟩) | ((with_reducible refine CI3.out.mono ?_); rintro e wf ⟨rfl, rfl⟩))
                          go_roundw
                          case rel => exact ⟨k3 + 1, hlt3, by push_cast; rfl, by trivial⟩
                          case measure =>
                            simp only [intOf]
                            omega
                      · have hlt3' : ¬ (k3 : Int) < (nl : Int) := by omega
                        have S := HS.out
                        have HI : Hid (IL wr (.slice A10 nw c10) ws) := HL10.out
                        clear HS HL10 IN9 IN10 IN12 G9 G10 G12 K1 K2 K3
                        go_upto_region 26 with fail
                        refine Upto.start (S := fun w' => SH noZ wk w' [(b11, Cel.iv (withC i q))]) 15 (by kernel_rfl) ?_
                        replace S := S.drew
                        refine Upto.take (i := 0) (oi := { dst := some 111, op := Op.load 31 (Operand.tmp 11), type := 31, pos := "more.go:42", after := #[], guard := none }) (v := _) rfl (by kernel_rfl) (by kernel_rfl) (by kernel_rfl) (by kernel_rfl) (fun _ _ _ h => h) (y_loadAll (by rfl) _ _ rfl _ rfl 0 _ rfl _ Tryd.underlying31 rfl (szIV _)) (by exact S) ?_
                        simp only [Act.put, List.setIfInBounds_toArray, List.set_cons_zero, List.set_cons_succ]
                        refine Upto.ready (rs := [1]) (by kernel_rfl) (by simp) ?_
                        refine Nexts.cons rfl (by decide) (fun K hK => ?_) Nexts.nil
                        go_simp
                        go_wp2_with (go_at_call 16; refine (U2.out _).mono ?_; rintro e wf ⟨rfl, hbf⟩; replace S := S.below hbf; have HI2 : Hid (IL wf (.slice A10 nw c10) ws) := IL.below (IL.below HI.out (Below.refl _ _).drew) hbf; clear hbf)
                        refine hK.out _ _ (by exact S) ?_
                        clear hK K
                        refine Upto.take (i := 2) (oi := { dst := some 113, op := Op.move (Operand.tmp 112), type := 4, pos := "more.go:42", after := #[{ on := 1, ground := Ground.data }, { on := 1, ground := Ground.chain }], guard := none }) (v := ?_) rfl (by kernel_rfl) (by kernel_rfl) (by kernel_rfl) (by kernel_rfl) (fun _ _ _ h => h) (Or.inl ⟨by rfl, ?_⟩) (by exact S) ?_
                        rotate_left 1
                        · intro w hSw
                          clear hSw
                          go_simp
                          try with_reducible rfl
                        simp only [Act.put, List.setIfInBounds_toArray, List.set_cons_zero, List.set_cons_succ]
                        refine Upto.take (i := 3) (oi := { dst := some 114, op := Op.load 31 (Operand.tmp 11), type := 31, pos := "more.go:42", after := #[{ on := 2, ground := Ground.guard }], guard := some (2, true) }) (v := _) rfl (by kernel_rfl) (by kernel_rfl) (by kernel_rfl) (by kernel_rfl) (fun _ _ _ h => h) (y_loadAll (by rfl) _ _ rfl _ rfl 0 _ rfl _ Tryd.underlying31 rfl (szIV _)) (by exact S) ?_
                        simp only [Act.put, List.setIfInBounds_toArray, List.set_cons_zero, List.set_cons_succ]
                        refine Upto.take (i := 5) (oi := { dst := some 116, op := Op.move (Operand.tmp 10), type := 23, pos := "more.go:42", after := #[{ on := 2, ground := Ground.guard }], guard := some (2, true) }) (v := ?_) rfl (by kernel_rfl) (by kernel_rfl) (by kernel_rfl) (by kernel_rfl) (fun _ _ _ h => h) (Or.inl ⟨by rfl, ?_⟩) (by exact S) ?_
                        rotate_left 1
                        · intro w hSw
                          clear hSw
                          go_simp
                          try with_reducible rfl
                        simp only [Act.put, List.setIfInBounds_toArray, List.set_cons_zero, List.set_cons_succ]
                        refine Upto.ready (rs := [4]) (by kernel_rfl) (by simp) ?_
                        refine Nexts.cons rfl (by decide) (fun K hK => ?_) Nexts.nil
                        go_simp
                        go_wp2_with (go_at_call 14; refine (W2.out _).mono ?_; rintro e wf ⟨u, rfl, hil, hbf⟩; replace S := S.below hbf; have HI3 : Hid (IL wf (.slice A10 nw c10) ws) := IL.below HI2.out hbf; have HI4 : Hid (IL wf u ws) := hil; clear hil hbf)
                        refine hK.out _ _ (by exact S) ?_
                        clear hK K
                        refine Upto.ready (rs := [6]) (by kernel_rfl) (by simp) ?_
                        refine Nexts.cons rfl (by decide) (fun K hK => ?_) Nexts.nil
                        go_simp
                        go_wp2_with (go_at_call 17; refine (ints_c ws _ _ _ HI4.out HI3.out N2.out).mono ?_; rintro e wf ⟨rfl, hbf⟩; replace S := S.below hbf; clear hbf)
                        refine hK.out _ _ (by exact S) ?_
                        clear hK K
                        refine Upto.take (i := 7) (oi := { dst := some 118, op := Op.pick (Operand.tmp 113) (Operand.tmp 117) (Operand.const (Value.bool false)), type := 4, pos := "more.go:42", after := #[{ on := 2, ground := Ground.data }, { on := 6, ground := Ground.data }], guard := none }) (v := ?_) rfl (by kernel_rfl) (by kernel_rfl) (by kernel_rfl) (by kernel_rfl) (fun _ _ _ h => h) (Or.inl ⟨by rfl, ?_⟩) (by exact S) ?_
                        rotate_left 1
                        · intro w hSw
                          clear hSw
                          go_simp
                          try with_reducible rfl
                        simp only [Act.put, List.setIfInBounds_toArray, List.set_cons_zero, List.set_cons_succ]
                        refine Upto.take (i := 8) (oi := { dst := some 119, op := Op.move (Operand.tmp 118), type := 4, pos := "more.go:42", after := #[{ on := 7, ground := Ground.data }, { on := 6, ground := Ground.chain }], guard := none }) (v := ?_) rfl (by kernel_rfl) (by kernel_rfl) (by kernel_rfl) (by kernel_rfl) (fun _ _ _ h => h) (Or.inl ⟨by rfl, ?_⟩) (by exact S) ?_
                        rotate_left 1
                        · intro w hSw
                          clear hSw
                          go_simp
                          try with_reducible rfl
                        simp only [Act.put, List.setIfInBounds_toArray, List.set_cons_zero, List.set_cons_succ]
                        refine Upto.take (i := 9) (oi := { dst := some 120, op := Op.load 31 (Operand.tmp 11), type := 31, pos := "more.go:42", after := #[{ on := 8, ground := Ground.guard }], guard := some (8, true) }) (v := _) rfl (by kernel_rfl) (by kernel_rfl) (by kernel_rfl) (by kernel_rfl) (fun _ _ _ h => h) (y_loadAll (by rfl) _ _ rfl _ rfl 0 _ rfl _ Tryd.underlying31 rfl (szIV _)) (by exact S) ?_
                        simp only [Act.put, List.setIfInBounds_toArray, List.set_cons_zero, List.set_cons_succ]
                        refine Upto.take (i := 11) (oi := { dst := some 122, op := Op.load 31 (Operand.tmp 8), type := 31, pos := "more.go:42", after := #[{ on := 8, ground := Ground.guard }], guard := some (8, true) }) (v := _) rfl (by kernel_rfl) (by kernel_rfl) (by kernel_rfl) (by kernel_rfl) (fun _ _ _ h => h) (y_old HB8.out (fun _ h => h.low) (by rfl) 31 _ rfl rfl _ Tryd.underlying31 rfl (szIV _)) (by exact S) ?_
                        simp only [Act.put, List.setIfInBounds_toArray, List.set_cons_zero, List.set_cons_succ]
                        refine Upto.ready (rs := [10]) (by kernel_rfl) (by simp) ?_
                        refine Nexts.cons rfl (by decide) (fun K hK => ?_) Nexts.nil
                        go_simp
                        go_wp2_with (go_at_call 18; refine (T2.out _).mono ?_; rintro e wf ⟨rfl, hbf⟩; replace S := S.below hbf; clear hbf)
                        refine hK.out _ _ (by exact S) ?_
                        clear hK K
                        refine Upto.ready (rs := [12]) (by kernel_rfl) (by simp) ?_
                        refine Nexts.cons rfl (by decide) (fun K hK => ?_) Nexts.nil
                        go_simp
                        go_wp2_with (go_at_call 18; refine (T1.out _).mono ?_; rintro e wf ⟨rfl, hbf⟩; replace S := S.below hbf; clear hbf)
                        refine hK.out _ _ (by exact S) ?_
                        clear hK K
                        refine Upto.take (i := 13) (oi := { dst := some 124, op := Op.binOp BinOp.eql 3 (Operand.tmp 121) (Operand.tmp 123) 3, type := 4, pos := "more.go:42", after := #[{ on := 10, ground := Ground.data }, { on := 12, ground := Ground.data }, { on := 8, ground := Ground.guard }], guard := some (8, true) }) (v := ?_) rfl (by kernel_rfl) (by kernel_rfl) (by kernel_rfl) (by kernel_rfl) (fun _ _ _ h => h) (Or.inl ⟨by rfl, ?_⟩) (by exact S) ?_
                        rotate_left 1
                        · intro w hSw
                          clear hSw
                          go_simp
                          try with_reducible rfl
                        simp only [Act.put, List.setIfInBounds_toArray, List.set_cons_zero, List.set_cons_succ]
                        refine Upto.take (i := 14) (oi := { dst := some 125, op := Op.pick (Operand.tmp 119) (Operand.tmp 124) (Operand.const (Value.bool false)), type := 4, pos := "more.go:42", after := #[{ on := 8, ground := Ground.data }, { on := 13, ground := Ground.data }], guard := none }) (v := ?_) rfl (by kernel_rfl) (by kernel_rfl) (by kernel_rfl) (by kernel_rfl) (fun _ _ _ h => h) (Or.inl ⟨by rfl, ?_⟩) (by exact S) ?_
                        rotate_left 1
                        · intro w hSw
                          clear hSw
                          go_simp
                          try with_reducible rfl
                        simp only [Act.put, List.setIfInBounds_toArray, List.set_cons_zero, List.set_cons_succ]
                        refine Upto.ready (rs := [15]) (by kernel_rfl) (by simp) ?_
                        refine Nexts.last rfl (fun K hK => ?_)
                        go_simp
                        refine hK.out _ _ ?_
                        clear hK K
                        refine Upto.done (by kernel_rfl) ?_ _
                        go_wp2
                        go_ret
                        exact ⟨rfl, HBW.out.trans (S.low.mono HBW.out.size)⟩
          · go_wp2_with (first
              | (go_at_call 11; refine (CD.out _).mono ?_; rintro e wf ⟨rfl, hbf⟩; replace S := S.below hbf; clear hbf)
              | ((with_reducible refine wpl_isDst 8 ?_); refine SH.alloc (L := []) S rfl 31 rfl (Cel.iv IV.zero) zeroIV ?_; clear S; intro b8 w8 S)
              | ((with_reducible refine wpl_isStoreAt 8 ?_); refine S.storeAll rfl 31 _ _ rfl b8 (Cel.iv i) rfl rfl 0 _ rfl rfl (one_iv _) (szIV _) ?_; clear S; intro w3 S; simp only [List.set_cons_zero, List.set_cons_succ] at S)
              | (go_at_call 12; refine (CW.out _).mono ?_; rintro e wf ⟨rfl, rfl⟩)
              | ((with_reducible refine wpl_isDst 27 ?_); first | (refine wpl_skip rfl ?_) | refine S.ld 3 _ rfl b8 0 rfl 0 _ rfl (.int .i64 io) HOP.out _ Tryd.underlying3 rfl rfl ?_)
              | ((with_reducible refine wpl_isDst 32 ?_); first | (refine wpl_skip rfl ?_) | refine S.ld 3 _ rfl b8 0 rfl 0 _ rfl (.int .i64 io) HOP.out _ Tryd.underlying3 rfl rfl ?_)
              | ((with_reducible refine wpl_isDst 37 ?_); first | (refine wpl_skip rfl ?_) | refine S.ld 3 _ rfl b8 0 rfl 0 _ rfl (.int .i64 io) HOP.out _ Tryd.underlying3 rfl rfl ?_)
              | ((with_reducible refine wpl_isDst 42 ?_); first | (refine wpl_skip rfl ?_) | refine S.ld 3 _ rfl b8 0 rfl 0 _ rfl (.int .i64 io) HOP.out _ Tryd.underlying3 rfl rfl ?_)
              )
            (try simp only [Exit.inBlock, Exit.then])
            go_ret
            exact ⟨rfl, S.low⟩
        · go_wp2_with (first
            | (go_at_call 11; refine (CD.out _).mono ?_; rintro e wf ⟨rfl, hbf⟩; replace S := S.below hbf; clear hbf)
            | ((with_reducible refine wpl_isDst 8 ?_); refine SH.alloc (L := []) S rfl 31 rfl (Cel.iv IV.zero) zeroIV ?_; clear S; intro b8 w8 S)
            | ((with_reducible refine wpl_isStoreAt 8 ?_); refine S.storeAll rfl 31 _ _ rfl b8 (Cel.iv i) rfl rfl 0 _ rfl rfl (one_iv _) (szIV _) ?_; clear S; intro w3 S; simp only [List.set_cons_zero, List.set_cons_succ] at S)
            | (go_at_call 12; refine (CW.out _).mono ?_; rintro e wf ⟨rfl, rfl⟩)
            | ((with_reducible refine wpl_isDst 27 ?_); first | (refine wpl_skip rfl ?_) | refine S.ld 3 _ rfl b8 0 rfl 0 _ rfl (.int .i64 io) HOP.out _ Tryd.underlying3 rfl rfl ?_)
            | ((with_reducible refine wpl_isDst 32 ?_); first | (refine wpl_skip rfl ?_) | refine S.ld 3 _ rfl b8 0 rfl 0 _ rfl (.int .i64 io) HOP.out _ Tryd.underlying3 rfl rfl ?_)
            | ((with_reducible refine wpl_isDst 37 ?_); first | (refine wpl_skip rfl ?_) | refine S.ld 3 _ rfl b8 0 rfl 0 _ rfl (.int .i64 io) HOP.out _ Tryd.underlying3 rfl rfl ?_)
            | ((with_reducible refine wpl_isDst 42 ?_); first | (refine wpl_skip rfl ?_) | refine S.ld 3 _ rfl b8 0 rfl 0 _ rfl (.int .i64 io) HOP.out _ Tryd.underlying3 rfl rfl ?_)
            )
          (try simp only [Exit.inBlock, Exit.then])
          go_ret
          exact ⟨rfl, S.low⟩
      · go_wp2_with (first
          | (go_at_call 11; refine (CD.out _).mono ?_; rintro e wf ⟨rfl, hbf⟩; replace S := S.below hbf; clear hbf)
          | ((with_reducible refine wpl_isDst 8 ?_); refine SH.alloc (L := []) S rfl 31 rfl (Cel.iv IV.zero) zeroIV ?_; clear S; intro b8 w8 S)
          | ((with_reducible refine wpl_isStoreAt 8 ?_); refine S.storeAll rfl 31 _ _ rfl b8 (Cel.iv i) rfl rfl 0 _ rfl rfl (one_iv _) (szIV _) ?_; clear S; intro w3 S; simp only [List.set_cons_zero, List.set_cons_succ] at S)
          | (go_at_call 12; refine (CW.out _).mono ?_; rintro e wf ⟨rfl, rfl⟩)
          | ((with_reducible refine wpl_isDst 27 ?_); first | (refine wpl_skip rfl ?_) | refine S.ld 3 _ rfl b8 0 rfl 0 _ rfl (.int .i64 io) HOP.out _ Tryd.underlying3 rfl rfl ?_)
          | ((with_reducible refine wpl_isDst 32 ?_); first | (refine wpl_skip rfl ?_) | refine S.ld 3 _ rfl b8 0 rfl 0 _ rfl (.int .i64 io) HOP.out _ Tryd.underlying3 rfl rfl ?_)
          | ((with_reducible refine wpl_isDst 37 ?_); first | (refine wpl_skip rfl ?_) | refine S.ld 3 _ rfl b8 0 rfl 0 _ rfl (.int .i64 io) HOP.out _ Tryd.underlying3 rfl rfl ?_)
          | ((with_reducible refine wpl_isDst 42 ?_); first | (refine wpl_skip rfl ?_) | refine S.ld 3 _ rfl b8 0 rfl 0 _ rfl (.int .i64 io) HOP.out _ Tryd.underlying3 rfl rfl ?_)
          )
        (try simp only [Exit.inBlock, Exit.then])
        go_ret
        exact ⟨rfl, S.low⟩
    · go_wp2_with (first
        | (go_at_call 11; refine (CD.out _).mono ?_; rintro e wf ⟨rfl, hbf⟩; replace S := S.below hbf; clear hbf)
        | ((with_reducible refine wpl_isDst 8 ?_); refine SH.alloc (L := []) S rfl 31 rfl (Cel.iv IV.zero) zeroIV ?_; clear S; intro b8 w8 S)
        | ((with_reducible refine wpl_isStoreAt 8 ?_); refine S.storeAll rfl 31 _ _ rfl b8 (Cel.iv i) rfl rfl 0 _ rfl rfl (one_iv _) (szIV _) ?_; clear S; intro w3 S; simp only [List.set_cons_zero, List.set_cons_succ] at S)
        | (go_at_call 12; refine (CW.out _).mono ?_; rintro e wf ⟨rfl, rfl⟩)
        | ((with_reducible refine wpl_isDst 27 ?_); first | (refine wpl_skip rfl ?_) | refine S.ld 3 _ rfl b8 0 rfl 0 _ rfl (.int .i64 io) HOP.out _ Tryd.underlying3 rfl rfl ?_)
        | ((with_reducible refine wpl_isDst 32 ?_); first | (refine wpl_skip rfl ?_) | refine S.ld 3 _ rfl b8 0 rfl 0 _ rfl (.int .i64 io) HOP.out _ Tryd.underlying3 rfl rfl ?_)
        | ((with_reducible refine wpl_isDst 37 ?_); first | (refine wpl_skip rfl ?_) | refine S.ld 3 _ rfl b8 0 rfl 0 _ rfl (.int .i64 io) HOP.out _ Tryd.underlying3 rfl rfl ?_)
        | ((with_reducible refine wpl_isDst 42 ?_); first | (refine wpl_skip rfl ?_) | refine S.ld 3 _ rfl b8 0 rfl 0 _ rfl (.int .i64 io) HOP.out _ Tryd.underlying3 rfl rfl ?_)
        )
      (try simp only [Exit.inBlock, Exit.then])
      go_ret
      exact ⟨rfl, S.low⟩
  · go_wp2_with (first
      | (go_at_call 11; refine (CD.out _).mono ?_; rintro e wf ⟨rfl, hbf⟩; replace S := S.below hbf; clear hbf)
      | ((with_reducible refine wpl_isDst 8 ?_); refine SH.alloc (L := []) S rfl 31 rfl (Cel.iv IV.zero) zeroIV ?_; clear S; intro b8 w8 S)
      | ((with_reducible refine wpl_isStoreAt 8 ?_); refine S.storeAll rfl 31 _ _ rfl b8 (Cel.iv i) rfl rfl 0 _ rfl rfl (one_iv _) (szIV _) ?_; clear S; intro w3 S; simp only [List.set_cons_zero, List.set_cons_succ] at S)
      | (go_at_call 12; refine (CW.out _).mono ?_; rintro e wf ⟨rfl, rfl⟩)
      | ((with_reducible refine wpl_isDst 27 ?_); first | (refine wpl_skip rfl ?_) | refine S.ld 3 _ rfl b8 0 rfl 0 _ rfl (.int .i64 io) HOP.out _ Tryd.underlying3 rfl rfl ?_)
      | ((with_reducible refine wpl_isDst 32 ?_); first | (refine wpl_skip rfl ?_) | refine S.ld 3 _ rfl b8 0 rfl 0 _ rfl (.int .i64 io) HOP.out _ Tryd.underlying3 rfl rfl ?_)
      | ((with_reducible refine wpl_isDst 37 ?_); first | (refine wpl_skip rfl ?_) | refine S.ld 3 _ rfl b8 0 rfl 0 _ rfl (.int .i64 io) HOP.out _ Tryd.underlying3 rfl rfl ?_)
      | ((with_reducible refine wpl_isDst 42 ?_); first | (refine wpl_skip rfl ?_) | refine S.ld 3 _ rfl b8 0 rfl 0 _ rfl (.int .i64 io) HOP.out _ Tryd.underlying3 rfl rfl ?_)
      )
    (try simp only [Exit.inBlock, Exit.then])
    go_ret
    exact ⟨rfl, S.low⟩
end Go.Proofs.YtbbkiiabjhgpkaaDoor
