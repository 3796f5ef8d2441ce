/- Stage 12: states as bytes; the document's states. -/
import Derived.Test.YtabipgncbbjcgaaSt1
import Derived.Test.YtabipgncbbjcgaaSt3
import Derived.Test.YtabipgncbbjcgaaSBy
namespace Go.Proofs.Ytabipgncbbjcgaa
open Go.ChangeShapes Go.WideShapes Go.ChangeAt Go.RowKit
set_option linter.unusedVariables false
set_option linter.unusedSimpArgs false

theorem wpl_skip {P : Program} {ops : Array Oper} {rest : List Oper} {o : Oper} {a : Act} {Q : Exit → Act → World → Prop} {w : World} (hw : Region.wanted o (yielded ops a.tmps) = false) (h : wpList P ops Q rest (a.put o.dst undef) w) : wpList P ops Q (o :: rest) a w :=
  wpList_step fun K hK => by
    rw [if_neg (by simp [hw])]
    exact hK _ _ h
theorem idx_run {w : World} (t : TypeId) (n : Nat) (cs : Array Value) (k : Nat) (v : Value) (h : Try.prog.underlying t = some (.array n 22)) (hk : k < n) (hs : cs.size = n) (hv : cs[k]? = some v) : (Instr.index t (.agg cs) (.int .i64 k)).run Try.prog w = .ok v w := by
  have hn : (0 ≤ (k : Int) ∧ (k : Int) < (n : Int)) := by omega
  have hi : ∃ i, Try.prog.info? 22 = some i ∧ i.size = 1 := by
    have : (Try.prog.info? 22).map (·.size) = some 1 := szU
    simpa using this
  obtain ⟨i, hi, h1⟩ := hi
  have hlt : k < cs.size := by omega
  have hv' : cs[k] = v := by
    rw [Array.getElem?_eq_getElem hlt] at hv
    exact Option.some.inj hv
  simp [Instr.index, run_underlying h, asIntOf, hn, go_sem, sizeOf, typeInfo, hi, h1, hlt, hv']
  intro h9
  omega
def byteL (v : Int) : List Int := [v % 256, v / 256 % 256, v / 65536 % 256, v / 16777216 % 256]
def bytesL (s : SV) : List Int := s.r.flatMap byteL ++ [s.f % 16, bif s.h then 1 else 0]
theorem byteL_ok (v : Int) : okB (byteL v) := by
  intro x hx
  simp only [byteL, List.mem_cons, List.not_mem_nil, or_false] at hx
  rcases hx with rfl | rfl | rfl | rfl <;> omega
theorem flat_ok (R : List Int) : okB (R.flatMap byteL) := by
  intro x hx
  obtain ⟨v, _, hv⟩ := List.mem_flatMap.1 hx
  exact byteL_ok v x hv
theorem bytesL_ok (s : SV) : okB (bytesL s) := by
  intro x hx
  rcases List.mem_append.1 hx with h | h
  · exact flat_ok _ x h
  · simp only [List.mem_cons, List.not_mem_nil, or_false] at h
    rcases h with rfl | rfl
    · omega
    · cases s.h <;> simp
theorem flat_len (R : List Int) : (R.flatMap byteL).length = 4 * R.length := by
  induction R with
  | nil => rfl
  | cons x R ih => simp only [List.flatMap_cons, List.length_append, ih, List.length_cons]; simp [byteL]; omega
theorem bytesL_len {s : SV} (h : s.r.length = 16) : (bytesL s).length = 66 := by rw [bytesL, List.length_append, flat_len, h]; rfl
theorem take_snoc {R : List Int} {k : Nat} {x : Int} (h : R[k]? = some x) : (R.take (k + 1)).flatMap byteL = (R.take k).flatMap byteL ++ byteL x := by
  rw [List.take_add_one, h]
  simp
theorem own_post {w w' : World} {s : SV} {A : Option Addr} {c : Nat} (h : w'.ownsRow w.heap.size 5 1 (.slice A ((cb (s.r.flatMap byteL)).length + 2) c) (cb (s.r.flatMap byteL) ++ cb [s.f % 16, bif s.h then 1 else 0]).length (cb (s.r.flatMap byteL) ++ cb [s.f % 16, bif s.h then 1 else 0]) ∧ Below w.heap.size w w') :
    OwnPost w (bytesL s) (.returned (.slice A ((cb (s.r.flatMap byteL)).length + 2) c)) w' := by
  have e : (cb (s.r.flatMap byteL)).length + 2 = (bytesL s).length := by rw [cb_length, bytesL, List.length_append]; rfl
  obtain ⟨h1, h2⟩ := h
  rw [e, ← cb_append, cb_length] at h1
  rw [e]
  exact ⟨A, c, rfl, h1, h2⟩
def btRel (w : World) (b : Nat) (s : SV) (v i : Value) (wr : World) : Prop := ∃ k : Nat, k ≤ 16 ∧ i = .int .i64 k ∧ SH (rowZ w.heap.size 5 v (cb ((s.r.take k).flatMap byteL))) w wr [(b, Cel.any s.cs)]
def rbtRel (w : World) (b : Nat) (s : SV) (v i : Value) (wr : World) : Prop := ∃ k : Nat, k ≤ 16 ∧ i = .int .i64 k ∧ SH (rowZ w.heap.size 5 v (cb ((s.r.take k).flatMap byteL))) w wr [(b, Cel.any s.cs)]
set_option maxHeartbeats 4000000 in
set_option maxRecDepth 100000 in
theorem one_c (h : Bool) (w : World) : Calls Try.prog 18 #[.bool h] w fun e w' => e = .returned (.int .u8 (bif h then 1 else 0)) ∧ w' = w := by
  cases h
  · go_enter Try.func18, Try.ntmps18
    go_wp2
    go_ret
    exact ⟨rfl, rfl⟩
  · go_enter Try.func18, Try.ntmps18
    go_wp2
    go_ret
    exact ⟨rfl, rfl⟩
set_option maxHeartbeats 4000000 in
set_option maxRecDepth 100000 in
theorem bytes_c (s : SV) (hs : s.ok) (w : World) : Calls Try.prog 11 #[s.val] w fun e w' => OwnPost w (bytesL s) e w' := by
  obtain ⟨⟨hl, hu⟩, f0, f1⟩ := hs
  have HL : Hid (s.r.length = 16) := hl
  have HS : Hid (okN 16 s.r) := ⟨hl, hu⟩
  have ha : bits .and .i64 s.f 15 = s.f % 16 := and15 s.f f0 f1
  clear hl hu
  have hb : IntKind.u8.wrap (s.f % 16) = s.f % 16 := by rw [IntKind.wrap_u8]; omega
  have CO : Hid _ := fun w => one_c s.h w
  go_enter Try.func11, Try.ntmps11
  have S := SH.start w
  go_upto_region 3 with (first
    | ((with_reducible refine wpl_isDst 1 ?_); (first | refine S.boxA rfl 25 _ rfl s.cs rfl ?_ | refine SH.boxA (L := []) S rfl 25 _ rfl s.cs rfl ?_); clear S; intro b1 w1 S)
    | ((with_reducible refine wpl_isDst 7 ?_); refine S.ldMid 23 _ rfl b1 0 rfl 0 _ rfl (rc s.r) SV.arr _ Try.underlying23 rfl (sz16L HL.out) rfl ?_))
  have ST : Hid (btRel w b1 s (.slice none 0 0) (.int .i64 0) w1) := ⟨0, Nat.zero_le _, rfl, S.rowNil _⟩
  clear S
  go_loopw [3, 8] (fun v i wr => btRel w b1 s v i wr) (fun _ i _ => 16 - (intOf i).toNat)
  case atStart => exact ST.out
  case round =>
    clear ST
    obtain ⟨k, hk, rfl, S⟩ := hrel
    by_cases hlt : k < 16
    · have hlt' : (k : Int) < 16 := by omega
      obtain ⟨x, hx, x0, x1⟩ := okN_at HS.out hlt
      have HX : Hid (s.r[k]? = some x) := hx
      clear hx
      go_wp2_with (first
        | ((with_reducible refine wpl_isDst 10 ?_); refine wpl_dst 10 rfl (.int .u32 x) (by go_simp; rw [idx_run 23 16 _ k (.int .u32 x) Try.underlying23 hlt (by simpa [rc] using HL.out) (by simpa using rc_at HX.out)]; rfl) rfl ?_)
        | ((with_reducible refine wpl_isDst 13 ?_); refine wpl_dst 13 rfl (.int .u8 (x % 256)) (by go_simp; rfl) rfl ?_)
        | ((with_reducible refine wpl_isDst 16 ?_); refine wpl_dst 16 rfl (.int .u8 (x / 256 % 256)) (by go_simp; rfl) rfl ?_)
        | ((with_reducible refine wpl_isDst 19 ?_); refine wpl_dst 19 rfl (.int .u8 (x / 65536 % 256)) (by go_simp; rfl) rfl ?_)
        | ((with_reducible refine wpl_isDst 22 ?_); refine wpl_dst 22 rfl (.int .u8 (x / 16777216 % 256)) (by go_simp; rfl) rfl ?_)
        | ((with_reducible refine wpl_isDst 23 ?_); refine S.sliceA rfl 31 4 _ rfl (cb (byteL x)) 5 (by kernel_rfl) ?_; clear S; intro g23 w23 S)
        | ((with_reducible refine wpl_isDst 24 ?_); refine S.appendG rfl 31 _ _ rfl Try.underlying31 (.int .u8 0) 1 infoByte rfl rfl g23 4 4 rfl 0 (cb (byteL x)) rfl rfl (cb_one _) (by decide) (by rw [cb_length, flat_len, List.length_take, HL.out]; omega) (by rw [cb_length, flat_len, List.length_take, HL.out]; omega) ?_; clear S; intro g24 c24 w24 S)
        )
      go_roundw
      case rel =>
        have S1 := S.fewer 1
        rw [← cb_append, ← take_snoc HX.out] at S1
        exact ⟨k + 1, hlt, by push_cast; rfl, S1⟩
      case measure =>
        simp only [intOf]
        omega
    · have hlt' : ¬ (k : Int) < 16 := by omega
      have hk16 : k = 16 := by omega
      subst hk16
      have e16 : s.r.take 16 = s.r := List.take_of_length_le (by rw [HL.out]; exact Nat.le_refl _)
      rw [e16] at S
      clear e16
      go_upto_region 7 with fail
      refine wp_region_held_drew (S := fun w' => SH noZ w w' [(b1, Cel.any s.cs)]) (by kernel_rfl) (by first | exact S.drew | exact S.drew.dropR) (fun _ => ?_)
      replace S := S.drew
      refine wpAnyH_take (i := 0) (oi := { dst := some 26, op := Op.move (Operand.tmp 3), type := 31, pos := "state.go:58", after := #[], guard := none }) (v := ?_) rfl (by kernel_rfl) (by kernel_rfl) (by kernel_rfl) (fun _ _ _ h => h) (Or.inl ⟨by rfl, ?_⟩) (by exact (by first | assumption | exact S.dropR | exact (S.fewer 1).dropR)) ?_
      rotate_left 1
      · intro w hSw
        clear hSw
        go_simp
        try with_reducible rfl
      simp only [Act.put, List.setIfInBounds_toArray, List.set_cons_zero, List.set_cons_succ]
      refine wpAnyH_take (i := 1) (oi := { dst := some 27, op := Op.fieldAddr 25 (Operand.tmp 1) 1, type := 0, pos := "state.go:58", after := #[], guard := none }) (v := ?_) rfl (by kernel_rfl) (by kernel_rfl) (by kernel_rfl) (fun _ _ _ h => h) (Or.inl ⟨by rfl, ?_⟩) (by exact (by first | assumption | exact S.dropR | exact (S.fewer 1).dropR)) ?_
      rotate_left 1
      · intro w hSw
        clear hSw
        go_simp
        try with_reducible rfl
      simp only [Act.put, List.setIfInBounds_toArray, List.set_cons_zero, List.set_cons_succ]
      refine wpAnyH_take (i := 2) (oi := { dst := some 28, op := Op.load 3 (Operand.tmp 27), type := 3, pos := "state.go:58", after := #[{ on := 1, ground := Ground.data }], guard := none }) (v := _) rfl (by kernel_rfl) (by kernel_rfl) (by kernel_rfl) (fun _ _ _ h => h) (y_load1 (by rfl) _ _ rfl _ _ rfl 0 _ rfl _ (SV.fl HL.out) _ Try.underlying3 rfl) (by exact (by first | assumption | exact S.dropR | exact (S.fewer 1).dropR)) ?_
      simp only [Act.put, List.setIfInBounds_toArray, List.set_cons_zero, List.set_cons_succ]
      refine wpAnyH_take (i := 3) (oi := { dst := some 29, op := Op.binOp BinOp.and 3 (Operand.tmp 28) (Operand.const (Value.int IntKind.i64 15)) 3, type := 3, pos := "state.go:58", after := #[{ on := 2, ground := Ground.data }], guard := none }) (v := ?_) rfl (by kernel_rfl) (by kernel_rfl) (by kernel_rfl) (fun _ _ _ h => h) (Or.inl ⟨by rfl, ?_⟩) (by exact (by first | assumption | exact S.dropR | exact (S.fewer 1).dropR)) ?_
      rotate_left 1
      · intro w hSw
        clear hSw
        go_simp
        try with_reducible rfl
      simp only [Act.put, List.setIfInBounds_toArray, List.set_cons_zero, List.set_cons_succ]
      refine wpAnyH_take (i := 4) (oi := { dst := some 30, op := Op.convert 3 5 (Operand.tmp 29), type := 5, pos := "state.go:58", after := #[{ on := 3, ground := Ground.data }], guard := none }) (v := ?_) rfl (by kernel_rfl) (by kernel_rfl) (by kernel_rfl) (fun _ _ _ h => h) (Or.inl ⟨by rfl, ?_⟩) (by exact (by first | assumption | exact S.dropR | exact (S.fewer 1).dropR)) ?_
      rotate_left 1
      · intro w hSw
        clear hSw
        go_simp
        try simp only [hb]
        try with_reducible rfl
      simp only [Act.put, List.setIfInBounds_toArray, List.set_cons_zero, List.set_cons_succ]
      refine wpAnyH_take (i := 5) (oi := { dst := some 31, op := Op.fieldAddr 25 (Operand.tmp 1) 2, type := 0, pos := "state.go:58", after := #[], guard := none }) (v := ?_) rfl (by kernel_rfl) (by kernel_rfl) (by kernel_rfl) (fun _ _ _ h => h) (Or.inl ⟨by rfl, ?_⟩) (by exact (by first | assumption | exact S.dropR | exact (S.fewer 1).dropR)) ?_
      rotate_left 1
      · intro w hSw
        clear hSw
        go_simp
        try with_reducible rfl
      simp only [Act.put, List.setIfInBounds_toArray, List.set_cons_zero, List.set_cons_succ]
      refine wpAnyH_take (i := 6) (oi := { dst := some 32, op := Op.load 4 (Operand.tmp 31), type := 4, pos := "state.go:58", after := #[{ on := 5, ground := Ground.data }], guard := none }) (v := _) rfl (by kernel_rfl) (by kernel_rfl) (by kernel_rfl) (fun _ _ _ h => h) (y_load1 (by rfl) _ _ rfl _ _ rfl 0 _ rfl _ (SV.ha HL.out) _ Try.underlying4 rfl) (by exact (by first | assumption | exact S.dropR | exact (S.fewer 1).dropR)) ?_
      simp only [Act.put, List.setIfInBounds_toArray, List.set_cons_zero, List.set_cons_succ]
      refine wpAnyH_ready (rs := [7]) (by kernel_rfl) (by simp) ?_
      refine AllReadyH.cons rfl (fun K hK => ?_) AllReadyH.nil
      go_simp
      go_wp2_with (go_at_call 18; refine (CO.out _).mono ?_; rintro e wf ⟨rfl, rfl⟩)
      refine hK.out _ _ (by exact S.dropR) (fun _ => ?_)
      clear hK K
      refine wpAnyH_ready (rs := [8]) (by kernel_rfl) (by simp) ?_
      refine AllReadyH.cons rfl (fun K hK => ?_) AllReadyH.nil
      rw [if_pos (show Region.wanted _ _ = true by rfl)]
      refine S.wpSliceG 34 rfl 31 2 _ rfl (cb [s.f % 16, bif s.h then 1 else 0]) 5 (by kernel_rfl) ?_
      clear S
      intro g34 w34 S
      refine hK.out _ _ (by exact (S.fewer 1).dropR) (fun _ => ?_)
      clear hK K
      refine wpAnyH_ready (rs := [9]) (by kernel_rfl) (by simp) ?_
      refine AllReadyH.cons rfl (fun K hK => ?_) AllReadyH.nil
      rw [if_pos (show Region.wanted _ _ = true by rfl)]
      refine S.wpAppendG 35 rfl 31 _ _ rfl Try.underlying31 (.int .u8 0) 1 infoByte rfl rfl g34 2 2 rfl 0 (cb [s.f % 16, bif s.h then 1 else 0]) rfl rfl (cb_one _) (by decide) (by rw [cb_length, flat_len, HL.out]; omega) (by rw [cb_length, flat_len, HL.out]; omega) ?_
      clear S
      intro g35 c35 w35 S
      have OUT : Hid (OwnPost w (bytesL s) (.returned (.slice (some ⟨g35, 0, none⟩) ((cb (s.r.flatMap byteL)).length + 2) c35)) w35) := own_post S.rowOut
      refine hK.out _ _ (by exact (S.fewer 1).dropR) (fun _ => ?_)
      clear hK K
      refine wpAnyH_take (i := 10) (oi := { dst := some 2, op := Op.assign (Operand.tmp 35), type := 31, pos := "state.go:58", after := #[{ on := 9, ground := Ground.data }, { on := 9, ground := Ground.chain }, { on := 0, ground := Ground.phase }, { on := 1, ground := Ground.phase }, { on := 2, ground := Ground.phase }, { on := 3, ground := Ground.phase }, { on := 4, ground := Ground.phase }, { on := 5, ground := Ground.phase }, { on := 6, ground := Ground.phase }, { on := 7, ground := Ground.phase }, { on := 8, ground := Ground.phase }, { on := 9, ground := Ground.phase }], guard := none }) (v := ?_) rfl (by kernel_rfl) (by kernel_rfl) (by kernel_rfl) (fun _ _ _ h => h) (Or.inl ⟨by rfl, ?_⟩) (by exact (by first | assumption | exact S.dropR | exact (S.fewer 1).dropR)) ?_
      rotate_left 1
      · intro w hSw
        clear hSw
        go_simp
        try with_reducible rfl
      simp only [Act.put, List.setIfInBounds_toArray, List.set_cons_zero, List.set_cons_succ]
      refine wpAnyH_done (by kernel_rfl) ?_ _
      go_wp2
      go_ret
      exact OUT.out
end Go.Proofs.Ytabipgncbbjcgaa
