/- Stage 9: WideTells, walked. -/
import Derived.Test.YtigmekboikgoaaaWe10
import Derived.Test.YtigmekboikgoaaaWg29
import Derived.Test.YtigmekboikgoaaaWh1
import Derived.Test.YtigmekboikgoaaaWd14
namespace Go.Proofs.Ytigmekboikgoaaa
open Go.ChangeShapes Go.WideShapes Go.ChangeAt Go.RowKit
set_option linter.unusedVariables false
set_option linter.unusedSimpArgs false

section
variable {P : Program} {M : Zn} {w0 w w1 : World} {L : List (Nat × Cel)} {ops : Array Oper} {rest : List Oper} {o : Oper} {a : Act} {Q : Exit → Act → World → Prop}
theorem SH.ldMid (S : SH M w0 w L) (ty : TypeId) (x : Operand) (ho : o.op = .load ty x) (b j : Nat) (hx : a.eval x = .pointer (some ⟨b, j, none⟩)) (i : Nat) (c : Cel) (hL : L[i]? = some (b, c))
    (cs : List Value) (hcs : ∀ t u, cs[t]? = some u → c.cells[j + t]? = some u) (d : TypeDesc) (hu : P.underlying ty = some d) (hd : d.isRow = true) (hi : (P.info? ty).map (·.size) = some cs.length) (hw : Region.wanted o (yielded ops a.tmps) = true)
    (h : wpList P ops Q rest (a.put o.dst (.agg cs.toArray)) w) : wpList P ops Q (o :: rest) a w :=
  wpList_step fun K hK => by
    rw [if_pos hw]
    exact wp_load_mid ty x ho b j hx cs d (fun t u hu' => ((S.at hL).1.cell (j + t)).trans (hcs t u hu')) hu hd hi (hK _ _ h)
end
def pw (T : List (Nat × Nat)) : List Value := T.flatMap fun t => [.int .u16 t.1, .int .u16 t.2]
theorem pw_at {T : List (Nat × Nat)} {i : Nat} {t : Nat × Nat} (h : T[i]? = some t) (j : Nat) (hj : j < 2) : (pw T)[i * 2 + j]? = ([.int .u16 t.1, .int .u16 t.2] : List Value)[j]? := by
  induction T generalizing i with
  | nil => simp at h
  | cons x T ih =>
    have e : pw (x :: T) = [.int .u16 x.1, .int .u16 x.2] ++ pw T := rfl
    rw [e]
    cases i with
    | zero =>
      simp only [List.getElem?_cons_zero, Option.some.injEq] at h
      subst h
      rw [List.getElem?_append_left (by simp; omega), Nat.zero_mul, Nat.zero_add]
    | succ i =>
      rw [List.getElem?_append_right (by simp; omega)]
      rw [show (i + 1) * 2 + j - ([.int .u16 x.1, .int .u16 x.2] : List Value).length = i * 2 + j by simp; omega]
      exact ih (by simpa using h)
theorem zeroP2 : (Try.prog.info? 26).map (fun i => i.zero) = some (some (Cel.any [.int .u16 0, .int .u16 0]).val) := by kernel_rfl
theorem szP2 : (Try.prog.info? 26).map (·.size) = some 2 := by kernel_rfl
def te1 (w : World) (i : Value) (wr : World) : Prop := ∃ k : Nat, k ≤ 32 ∧ i = .int .u16 k ∧ Below w.heap.size w wr
def te2 (w : World) (g : Nat) (T : List (Nat × Nat)) (j : Value) (wr : World) : Prop := ∃ k : Nat, k ≤ 8 ∧ j = .int .i64 k ∧ SH noZ w wr [(g, Cel.any (pw T))]
theorem nat16 (x : Int) (h : 0 ≤ x ∧ x ≤ 65535) : ∃ n : Nat, x = n ∧ n < 65536 := ⟨x.toNat, by omega, by omega⟩
theorem wrap16 (x : Int) : 0 ≤ IntKind.u16.wrap x ∧ IntKind.u16.wrap x ≤ 65535 := by rw [IntKind.wrap_u16]; omega
set_option maxHeartbeats 20000000 in
set_option maxRecDepth 100000 in
theorem tells_c (h k n x y : Nat) (b : Bool) (hh : h < 65536) (hk : k < 65536) (hn : n < 256) (hx : x < 65536) (hy : y < 65536) (w : World) : Calls Try.prog 3 #[.int .u16 h, .int .u16 k, .int .u8 n, .int .u16 x, .int .u16 y, .bool b] w fun e w' => e = .returned (.bool true) ∧ Below w.heap.size w w' := by
  have CK : Hid (∀ w1, Calls Try.prog 6 #[] w1 fun e w' => e = .returned (.bool true) ∧ Below w1.heap.size w1 w') := known_c
  go_enter Try.func3, Try.ntmps3
  go_wp2_with (go_at_call 6; refine (CK.out _).mono ?_; rintro e w2 ⟨rfl, hb2⟩)
  have ST : Hid (te1 w (.int .u16 0) w2) := ⟨0, by decide, rfl, hb2⟩
  clear hb2 CK
  go_loopw [13] (fun i wr => te1 w i wr) (fun i _ => 32 - (intOf i).toNat)
  case atStart => exact ST.out
  case round =>
    clear ST
    obtain ⟨q, q32, rfl, hb⟩ := hrel
    obtain ⟨wO, rfl⟩ : ∃ x, x = wr := ⟨wr, rfl⟩
    have HBB : Hid (Below w.heap.size w wO) := hb
    clear hb
    by_cases hlt : q < 32
    · have hlt' : (q : Int) < 32 := by omega
      have CP : Hid (∀ (v : Int) (w1 : World), 0 ≤ v → Calls Try.prog 7 #[.int .u8 v, .int .u16 x, .int .u16 y] w1 fun e w' => Pair16 w1 e w') := fun v w1 hv => by
        obtain ⟨v, rfl⟩ : ∃ v0 : Nat, v = v0 := ⟨v.toNat, by omega⟩
        exact pair_c v x y hx hy w1
      obtain ⟨n1, e1, m1⟩ := nat16 (bits .or .u16 (h : Int) 59392) (b16 _ _ _)
      obtain ⟨n2, e2, m2⟩ := nat16 (IntKind.u16.wrap ((k : Int) + (q : Int))) (wrap16 _)
      obtain ⟨n5, e5, m5⟩ := nat16 (bits .or .u16 61440 (bits .and .u16 (h : Int) 2047)) (b16 _ _ _)
      obtain ⟨n6, e6, m6⟩ := nat16 (bits .or .u16 32768 (k : Int)) (b16 _ _ _)
      obtain ⟨n7, e7, m7⟩ := nat16 (bits .or .u16 59392 (bits .and .u16 (h : Int) 511)) (b16 _ _ _)
      obtain ⟨n8, e8, m8⟩ := nat16 (bits .or .u16 63488 (bits .and .u16 (h : Int) 1023)) (b16 _ _ _)
      have S := SH.start wO
      go_wp2_with (first
        | ((with_reducible refine wpl_isDst 78 ?_); refine SH.sliceA (L := []) S rfl 27 8 _ rfl (pw [(n1, k), (h, n2), (pp, qq), (n3, qq), (pp, n4), (n5, n6), (n7, k), (n8, n2)]) 26 (by kernel_rfl) ?_; clear S; intro gs w1 S)
        | (go_at_call 7; refine (CP.out _ _ (by first | omega | (rw [IntKind.wrap_u8]; omega))).mono ?_; rintro e wf ⟨⟨pp, qq, rfl, hp16, hq16⟩, hbf⟩; obtain ⟨n3, e3, m3⟩ := nat16 (bits .xor .u16 (pp : Int) (IntKind.u16.wrap (2 ^ (q % 16)))) (b16 _ _ _); obtain ⟨n4, e4, m4⟩ := nat16 (bits .xor .u16 (qq : Int) (IntKind.u16.wrap (2 ^ (q % 16)))) (b16 _ _ _); replace S := S.below hbf; clear hbf))
      obtain ⟨T, hT⟩ : ∃ T : List (Nat × Nat), T = [(n1, k), (h, n2), (pp, qq), (n3, qq), (pp, n4), (n5, n6), (n7, k), (n8, n2)] := ⟨_, rfl⟩
      have HT : Hid (T.length = 8 ∧ ∀ t ∈ T, t.1 < 65536 ∧ t.2 < 65536) := by
        rw [hT]
        refine ⟨rfl, fun t ht => ?_⟩
        simp only [List.mem_cons, List.not_mem_nil, or_false] at ht
        rcases ht with rfl | rfl | rfl | rfl | rfl | rfl | rfl | rfl <;> exact ⟨by assumption, by assumption⟩
      rw [← hT] at S
      clear hT CP e1 e2 e3 e4 e5 e6 e7 e8 m1 m2 m3 m4 m5 m6 m7 m8 hp16 hq16
      have ST2 : Hid (te2 wO gs T (.int .i64 0) w1) := ⟨0, by decide, rfl, S⟩
      clear S
      go_loopw [80] (fun j wq => te2 wO gs T j wq) (fun j _ => 8 - (intOf j).toNat)
      case atStart => exact ST2.out
      case round =>
        clear ST2
        obtain ⟨j, hj8, rfl, S⟩ := hrel
        by_cases hj : j < 8
        · have hj' : (j : Int) < 8 := by omega
          obtain ⟨⟨za, zb⟩, ht⟩ : ∃ t, T[j]? = some t := ⟨T[j]'(by have := HT.out.1; omega), by simp⟩
          obtain ⟨ha16, hb16⟩ := HT.out.2 _ (List.mem_of_getElem? ht)
          have HTJ : Hid (∀ i u, ([.int .u16 za, .int .u16 zb] : List Value)[i]? = some u → (Cel.any (pw T)).cells[j * 2 + i]? = some u) := fun i u hu => by
            have hi : i < 2 := (List.getElem?_eq_some_iff.1 hu).1
            exact (pw_at ht i hi).trans hu
          have D0 : Hid (∀ w1, Calls Try.prog 8 #[.int .u16 (za : Int), .int .u16 (zb : Int), .bool b] w1 fun e w' => e = .returned (decI b (aloX (za * 65536 + zb)) (za * 65536 + zb)).val ∧ Below w1.heap.size w1 w') := fun w1 => wdecode_c za zb ha16 hb16 b w1
          have R0 : Hid (∀ w1, Calls Try.prog 9 #[.int .u16 (za : Int), .int .u16 (zb : Int), .bool b] w1 fun e w' => e = .returned (decI b (aloX (za * 65536 + zb)) (za * 65536 + zb)).val ∧ Below w1.heap.size w1 w') := fun w1 => rdecodeWide_c za zb ha16 hb16 b w1
          generalize decI b (aloX (za * 65536 + zb)) (za * 65536 + zb) = J at *
          clear ht ha16 hb16
          go_wp2_with (first
            | ((with_reducible refine wpl_isDst 83 ?_); refine S.ldMid 26 _ rfl gs (j * 2) rfl 0 (Cel.any (pw T)) rfl [.int .u16 za, .int .u16 zb] HTJ.out _ Try.underlying26 rfl szP2 rfl ?_)
            | ((with_reducible refine wpl_isDst 17 ?_); refine S.alloc rfl 26 rfl _ zeroP2 ?_; clear S; intro bz w12 S)
            | ((with_reducible refine wpl_isStoreAt 17 ?_); refine S.storeAll rfl 26 _ _ rfl _ (Cel.any [.int .u16 za, .int .u16 zb]) rfl rfl 0 _ rfl rfl (by simp [Cel.cells, Value.oneCell']) szP2 ?_; clear S; intro w13 S; simp only [List.set_cons_zero, List.set_cons_succ] at S))
          refine wp_region_held_drew (S := fun w' => SH noZ wO w' [(bz, Cel.any [.int .u16 za, .int .u16 zb]), (gs, Cel.any (pw T))]) (by kernel_rfl) (by exact S.drew) (fun _ => ?_)
          replace S := S.drew
          refine wpAnyH_take (i := 0) (oi := { dst := some 84, op := Op.indexAddr 26 (Operand.tmp 17) (Operand.const (Value.int IntKind.i64 0)), type := 0, pos := "law.go:27", after := #[], guard := none }) (v := ?_) rfl (by kernel_rfl) (by kernel_rfl) (by kernel_rfl) (fun _ _ _ h => h) (Or.inl ⟨by rfl, ?_⟩) (by exact S) ?_
          rotate_left 1
          · intro w hSw
            clear hSw
            go_simp
            try with_reducible rfl
          simp only [Act.put, List.setIfInBounds_toArray, List.set_cons_zero, List.set_cons_succ]
          refine wpAnyH_take (i := 1) (oi := { dst := some 85, op := Op.load 22 (Operand.tmp 84), type := 22, pos := "law.go:27", after := #[{ on := 0, ground := Ground.data }], guard := none }) (v := _) rfl (by kernel_rfl) (by kernel_rfl) (by kernel_rfl) (fun _ _ _ h => h) (y_load1 (by rfl) _ _ rfl _ _ rfl 0 _ rfl _ rfl _ Try.underlying22 rfl) (by exact S) ?_
          simp only [Act.put, List.setIfInBounds_toArray, List.set_cons_zero, List.set_cons_succ]
          refine wpAnyH_take (i := 2) (oi := { dst := some 86, op := Op.indexAddr 26 (Operand.tmp 17) (Operand.const (Value.int IntKind.i64 1)), type := 0, pos := "law.go:27", after := #[], guard := none }) (v := ?_) rfl (by kernel_rfl) (by kernel_rfl) (by kernel_rfl) (fun _ _ _ h => h) (Or.inl ⟨by rfl, ?_⟩) (by exact S) ?_
          rotate_left 1
          · intro w hSw
            clear hSw
            go_simp
            try with_reducible rfl
          simp only [Act.put, List.setIfInBounds_toArray, List.set_cons_zero, List.set_cons_succ]
          refine wpAnyH_take (i := 3) (oi := { dst := some 87, op := Op.load 22 (Operand.tmp 86), type := 22, pos := "law.go:27", after := #[{ on := 2, ground := Ground.data }], guard := none }) (v := _) rfl (by kernel_rfl) (by kernel_rfl) (by kernel_rfl) (fun _ _ _ h => h) (y_load1 (by rfl) _ _ rfl _ _ rfl 0 _ rfl _ rfl _ Try.underlying22 rfl) (by exact S) ?_
          simp only [Act.put, List.setIfInBounds_toArray, List.set_cons_zero, List.set_cons_succ]
          refine wpAnyH_take (i := 4) (oi := { dst := some 88, op := Op.move (Operand.tmp 5), type := 4, pos := "law.go:27", after := #[], guard := none }) (v := ?_) rfl (by kernel_rfl) (by kernel_rfl) (by kernel_rfl) (fun _ _ _ h => h) (Or.inl ⟨by rfl, ?_⟩) (by exact S) ?_
          rotate_left 1
          · intro w hSw
            clear hSw
            go_simp
            try with_reducible rfl
          simp only [Act.put, List.setIfInBounds_toArray, List.set_cons_zero, List.set_cons_succ]
          refine wpAnyH_take (i := 6) (oi := { dst := some 90, op := Op.indexAddr 26 (Operand.tmp 17) (Operand.const (Value.int IntKind.i64 0)), type := 0, pos := "law.go:27", after := #[], guard := none }) (v := ?_) rfl (by kernel_rfl) (by kernel_rfl) (by kernel_rfl) (fun _ _ _ h => h) (Or.inl ⟨by rfl, ?_⟩) (by exact S) ?_
          rotate_left 1
          · intro w hSw
            clear hSw
            go_simp
            try with_reducible rfl
          simp only [Act.put, List.setIfInBounds_toArray, List.set_cons_zero, List.set_cons_succ]
          refine wpAnyH_take (i := 7) (oi := { dst := some 91, op := Op.load 22 (Operand.tmp 90), type := 22, pos := "law.go:27", after := #[{ on := 6, ground := Ground.data }], guard := none }) (v := _) rfl (by kernel_rfl) (by kernel_rfl) (by kernel_rfl) (fun _ _ _ h => h) (y_load1 (by rfl) _ _ rfl _ _ rfl 0 _ rfl _ rfl _ Try.underlying22 rfl) (by exact S) ?_
          simp only [Act.put, List.setIfInBounds_toArray, List.set_cons_zero, List.set_cons_succ]
          refine wpAnyH_take (i := 8) (oi := { dst := some 92, op := Op.indexAddr 26 (Operand.tmp 17) (Operand.const (Value.int IntKind.i64 1)), type := 0, pos := "law.go:27", after := #[], guard := none }) (v := ?_) rfl (by kernel_rfl) (by kernel_rfl) (by kernel_rfl) (fun _ _ _ h => h) (Or.inl ⟨by rfl, ?_⟩) (by exact S) ?_
          rotate_left 1
          · intro w hSw
            clear hSw
            go_simp
            try with_reducible rfl
          simp only [Act.put, List.setIfInBounds_toArray, List.set_cons_zero, List.set_cons_succ]
          refine wpAnyH_take (i := 9) (oi := { dst := some 93, op := Op.load 22 (Operand.tmp 92), type := 22, pos := "law.go:27", after := #[{ on := 8, ground := Ground.data }], guard := none }) (v := _) rfl (by kernel_rfl) (by kernel_rfl) (by kernel_rfl) (fun _ _ _ h => h) (y_load1 (by rfl) _ _ rfl _ _ rfl 0 _ rfl _ rfl _ Try.underlying22 rfl) (by exact S) ?_
          simp only [Act.put, List.setIfInBounds_toArray, List.set_cons_zero, List.set_cons_succ]
          refine wpAnyH_take (i := 10) (oi := { dst := some 94, op := Op.move (Operand.tmp 5), type := 4, pos := "law.go:27", after := #[], guard := none }) (v := ?_) rfl (by kernel_rfl) (by kernel_rfl) (by kernel_rfl) (fun _ _ _ h => h) (Or.inl ⟨by rfl, ?_⟩) (by exact S) ?_
          rotate_left 1
          · intro w hSw
            clear hSw
            go_simp
            try with_reducible rfl
          simp only [Act.put, List.setIfInBounds_toArray, List.set_cons_zero, List.set_cons_succ]
          refine wpAnyH_ready (rs := [5]) (by kernel_rfl) (by simp) ?_
          refine AllReadyH.cons rfl (fun K hK => ?_) AllReadyH.nil
          go_simp
          go_wp2_with (go_at_call 8; refine (D0.out _).mono ?_; rintro e wf ⟨rfl, hbf⟩)
          replace S := S.below hbf
          clear hbf
          refine hK.out _ _ (by exact S) (fun _ => ?_)
          clear hK K
          refine wpAnyH_ready (rs := [11]) (by kernel_rfl) (by simp) ?_
          refine AllReadyH.cons rfl (fun K hK => ?_) AllReadyH.nil
          go_simp
          go_wp2_with (go_at_call 9; refine (R0.out _).mono ?_; rintro e wf ⟨rfl, hbf⟩)
          replace S := S.below hbf
          clear hbf
          refine hK.out _ _ (by exact S) (fun _ => ?_)
          clear hK K
          refine wpAnyH_take (i := 12) (oi := { dst := some 96, op := Op.binOp BinOp.neq 30 (Operand.tmp 89) (Operand.tmp 95) 30, type := 4, pos := "law.go:27", after := #[{ on := 5, ground := Ground.data }, { on := 11, ground := Ground.data }], guard := none }) (v := _) rfl (by kernel_rfl) (by kernel_rfl) (by kernel_rfl) (fun _ _ _ h => h) (y_neqB (by rfl) _ _ _ rfl J J rfl rfl false (by rw [ivEq_self]; rfl)) (by exact S) ?_
          simp only [Act.put, List.setIfInBounds_toArray, List.set_cons_zero, List.set_cons_succ]
          refine wpAnyH_done (by kernel_rfl) ?_ _
          go_wp2
          go_roundw
          case rel => exact ⟨j + 1, hj, by push_cast; rfl, S.fewer 1⟩
          case measure =>
            simp only [intOf]
            omega
        · have hj' : ¬ (j : Int) < 8 := by omega
          have SB : Hid (Below wO.heap.size wO wr) := S.low
          clear S
          go_wp2
          go_roundw
          case rel => exact ⟨q + 1, by omega, by push_cast; rfl, HBB.out.trans (SB.out.mono HBB.out.size)⟩
          case measure =>
            simp only [intOf]
            omega
    · have hlt' : ¬ (q : Int) < 32 := by omega
      go_wp2
      go_ret
      exact ⟨rfl, HBB.out⟩
theorem tells_i (h : Int) (h0 : 0 ≤ h) (h1 : h ≤ 65535) (k : Int) (k0 : 0 ≤ k) (k1 : k ≤ 65535) (n : Int) (n0 : 0 ≤ n) (n1 : n ≤ 255) (x : Int) (x0 : 0 ≤ x) (x1 : x ≤ 65535) (y : Int) (y0 : 0 ≤ y) (y1 : y ≤ 65535) (b : Bool) (w : World) : Calls Try.prog 3 #[.int .u16 h, .int .u16 k, .int .u8 n, .int .u16 x, .int .u16 y, .bool b] w fun e w' => e = .returned (.bool true) ∧ Below w.heap.size w w' := by
  obtain ⟨h, rfl⟩ : ∃ v : Nat, h = v := ⟨h.toNat, by omega⟩
  obtain ⟨k, rfl⟩ : ∃ v : Nat, k = v := ⟨k.toNat, by omega⟩
  obtain ⟨n, rfl⟩ : ∃ v : Nat, n = v := ⟨n.toNat, by omega⟩
  obtain ⟨x, rfl⟩ : ∃ v : Nat, x = v := ⟨x.toNat, by omega⟩
  obtain ⟨y, rfl⟩ : ∃ v : Nat, y = v := ⟨y.toNat, by omega⟩
  exact tells_c h k n x y b (by omega) (by omega) (by omega) (by omega) (by omega) w
end Go.Proofs.Ytigmekboikgoaaa
