/- Stage 8: rows of words of the call's own; the words that may be an instruction, in plain numbers. -/
import Derived.Test.YtblcklknlfofgaaDoorThQ
namespace Go.Proofs.YtblcklknlfofgaaDoor
open Go.ChangeShapes Go.WideShapes Go.ChangeAt Go.RowKit
set_option linter.unusedVariables false
set_option linter.unusedSimpArgs false

theorem infoU : (Tryd.prog.info? 22).map (fun i => (i.zero, i.size, i.bytes)) = some (some (.int .u16 0), 1, 2) := by kernel_rfl
theorem u_info : ∃ i : TypeInfo, Tryd.prog.info? 22 = some i ∧ i.zero = some (.int .u16 0) ∧ i.size = 1 ∧ i.bytes = 2 := by
  have h := infoU
  cases hq : Tryd.prog.info? 22 with
  | none => rw [hq] at h; cases h
  | some i =>
    rw [hq] at h
    simp only [Option.map_some, Option.some.injEq, Prod.mk.injEq] at h
    exact ⟨i, rfl, h.1, h.2.1, h.2.2⟩
theorem uc_length (hs : List Nat) : (uc hs).length = hs.length := by simp [uc]
theorem uc_append (a b : List Nat) : uc (a ++ b) = uc a ++ uc b := by simp [uc]
def rowZ (base : Nat) (v : Value) (xs : List Nat) : Zn := ⟨fun k => v.ownBlock = some k, fun w => w.ownsRow base 22 1 v xs.length (uc xs) ∧ base ≤ w.heap.size, 0, 0⟩
theorem ownsRow_same {w w' : World} {base : Nat} {v : Value} {xs : List Nat} (h : w.ownsRow base 22 1 v xs.length (uc xs)) (hb : ∀ g, v.ownBlock = some g → w'.heap[g]? = w.heap[g]?) : w'.ownsRow base 22 1 v xs.length (uc xs) := by
  refine ⟨h.1, ?_⟩
  rcases h.2 with h2 | ⟨g, cap, cur, h2, h3⟩
  · exact .inl h2
  · refine .inr ⟨g, cap, cur, h2, ?_⟩
    rw [hb g (by rw [h2]; rfl)]
    exact h3
theorem rowZ_ok (base : Nat) (v : Value) (xs : List Nat) : (rowZ base v xs).ok :=
  ⟨fun w w' h hs hk => ⟨ownsRow_same h.1 fun g hg => hk g hg (World.ownsRow.lt h.1 g hg).2, Nat.le_trans h.2 hs⟩, fun k h1 h2 => by simp only [rowZ] at h2; omega⟩
section
variable {w0 w w1 : World} {L : List (Nat × Cel)} {base g g0 n n0 c0 cap : Nat} {v : Value} {xs : List Nat} {ops : Array Oper} {o : Oper} {a : Act} {Q : Exit → Act → World → Prop} {K : Act → World → Prop}
theorem SH.dropR (S : SH (rowZ base v xs) w0 w L) : SH noZ w0 w L :=
  S.turn noZ_ok trivial (fun k hk => hk.elim) S.mid (fun _ _ => rfl) (fun p hp h => h)
theorem SH.wpSliceR (S : SH noZ w0 w L) (k : Nat) (hd : o.dst = some k) (x : Operand) (ho : o.op = .buildSlice 25 1 #[(0, x)]) (n : Nat) (hx : a.eval x = .int .u16 (n : Nat))
    (h : ∀ g w1, SH (rowZ w0.heap.size (.slice (some ⟨g, 0, none⟩) 1 1) [n]) w0 w1 L → Below w.heap.size w w1 → K (a.put (some k) (.slice (some ⟨g, 0, none⟩) 1 1)) w1) : o.wp Tryd.prog a w K Q := by
  rw [← hd] at h
  have hr : (Instr.buildSlice 25 1 #[(0, .int .u16 (n : Nat))]).run Tryd.prog w = .ok (.slice (some ⟨w.heap.size, 0, none⟩) 1 1) (w.alloc (Obj.cells #[.int .u16 (n : Nat)] 22)) := by kernel_rfl
  unfold Oper.wp execOp
  simp only [ho, List.map_toArray, List.map_cons, List.map_nil, hx, Sem.run_bind, hr, Result.andThen_ok, Sem.run_pure]
  have hs : w0.heap.size ≤ w.heap.size := S.low.size
  have hown := World.ownsRow_lit (base := w0.heap.size) (e := 22) (size := 1) w #[.int .u16 (n : Nat)] 1 hs (by decide) rfl
  have hb : Below w.heap.size w (w.alloc (Obj.cells #[.int .u16 (n : Nat)] 22)) := (Below.refl _ _).alloc (Nat.le_refl _) _
  have S' := S.below hb
  refine h w.heap.size _ (S'.turn (rowZ_ok _ _ _) ⟨hown, by rw [alloc_size']; omega⟩ (fun k hk => ?_) S'.mid (fun _ _ => rfl) (fun p hp hz => ?_)) hb
  · simp only [rowZ, Value.ownBlock, Option.some.injEq] at hk
    rw [← hk, alloc_size']
    omega
  · simp only [rowZ, Value.ownBlock, Option.some.injEq] at hz
    have := (S.blk p hp).lt
    omega
theorem SH.wpAppendR (S : SH (rowZ w0.heap.size (.slice (some ⟨g0, 0, none⟩) n0 c0) xs) w0 w L) (k : Nat) (hd : o.dst = some k) (s x : Operand)
    (ho : o.op = .call { callee := .builtin .append, args := #[s, x], argTypes := #[25, 25] }) (hs : a.eval s = .slice (some ⟨g0, 0, none⟩) n0 c0) (hn : n0 = xs.length) (y : Value) (hx : a.eval x = y) (hs2 : List Nat) (hy : HLs w y hs2) (h0 : 0 < hs2.length) (h9 : xs.length + hs2.length ≤ 1000)
    (h : ∀ g cap w1, SH (rowZ w0.heap.size (.slice (some ⟨g, 0, none⟩) (n0 + hs2.length) cap) (xs ++ hs2)) w0 w1 L → K (a.put (some k) (.slice (some ⟨g, 0, none⟩) (n0 + hs2.length) cap)) w1) : o.wp Tryd.prog a w K Q := by
  rw [← hd] at h
  subst hn
  obtain ⟨i, hi, hz, hsz, hby⟩ := u_info
  obtain ⟨A, c, rfl, hc⟩ := hy
  obtain ⟨b, of, rfl, _⟩ := hc 0 hs2[0] (by simp [h0])
  refine wp_append_lies w s x 25 ho w0.heap.size 22 i (.int .u16 0) 1 2 Tryd.underlying25 hi hz hsz hby rfl (by decide) _ xs.length (uc xs) hs S.inv.1 ⟨b, of, none⟩ hs2.length c (uc hs2) hx (by rw [uc_length]; omega) (fun j u hu => ?_) (fun u hu => ?_) h0 (by simp only [maxLen]; omega) (by omega) S.inv.2 _ rfl (fun g cap w1 hown hg hat hlt => ?_)
  · have hadd : (⟨b, of, none⟩ : Addr).add j = ⟨b, of + j, none⟩ := by unfold Addr.add; split <;> simp_all
    rw [hadd]
    simp only [uc, List.getElem?_map, Option.map_eq_some_iff] at hu
    obtain ⟨x, hx, rfl⟩ := hu
    obtain ⟨b', o', e1, e2⟩ := hc j x hx
    simp only [Option.some.injEq, Addr.mk.injEq, and_true] at e1
    rw [e1.1, e1.2]
    exact e2
  · simp only [uc, List.mem_map] at hu
    obtain ⟨x, _, rfl⟩ := hu
    rfl
  · refine h g cap w1 ?_
    have hv : ∀ k, (Value.slice (some ⟨g0, 0, none⟩) xs.length c0).ownBlock = some k → w0.heap.size ≤ k := fun k hk => (World.ownsRow.lt S.inv.1 k hk).1
    have hmid : Mid 0 0 w0 w1 := ⟨hg.os.trans S.mid.os, hg.tape.trans S.mid.tape, hg.output.trans S.mid.output, Nat.le_trans S.mid.size hg.size, fun k hk hk2 => (hg.block k (Nat.lt_of_lt_of_le hk S.mid.size) (fun e => by have := hv k e.symm; omega)).trans (S.mid.block k hk hk2)⟩
    have hk : ∀ p ∈ L, w1.heap[p.1]? = w.heap[p.1]? := fun p hp => hg.block _ (S.blk p hp).lt (fun e => (S.out p hp).2 e.symm)
    have hown' : w1.ownsRow w0.heap.size 22 1 (.slice (some ⟨g, 0, none⟩) (xs.length + hs2.length) cap) (xs ++ hs2).length (uc (xs ++ hs2)) := by
      rw [uc_append, List.length_append]
      exact hown
    refine S.turn (rowZ_ok _ _ _) ⟨hown', Nat.le_trans S.inv.2 hg.size⟩ (fun k hk => (World.ownsRow.lt hown' k hk).2) hmid hk (fun p hp hz => ?_)
    rcases hat with e | e
    · exact (S.out p hp).2 (e.trans (by simpa [rowZ, Value.ownBlock] using hz))
    · have := (S.blk p hp).lt
      simp only [rowZ, Value.ownBlock, Option.some.injEq] at hz
      omega
theorem SH.rowHLs (S : SH (rowZ base (.slice (some ⟨g, 0, none⟩) n cap) xs) w0 w L) (hn : n = xs.length) : HLs w (.slice (some ⟨g, 0, none⟩) n cap) xs := by
  subst hn
  refine ⟨_, cap, rfl, fun k x hk => ⟨g, 0, rfl, ?_⟩⟩
  rw [Nat.zero_add, World.ownsRow.cellAt S.inv.1 k (by have := (List.getElem?_eq_some_iff.1 hk).1; omega)]
  simp [uc, hk]
end

/-! ### The words, in plain numbers -/
def posIn : List Nat → Nat → Nat → Nat
  | [], _, _ => 99
  | h :: t, op, k => bif Nat.beq h op then k else posIn t op (k + 1)
def lowL : List Nat := [1, 2, 17, 18, 19, 6, 7, 20, 8, 4, 10, 11, 12, 21, 14, 15]
def extL : List Nat := [40, 39, 42, 41]
def revL : List Nat := [36, 37, 0, 38]
def memL : List Nat := [49, 51, 50, 47, 44, 46, 45, 48]
theorem low_at (k : Nat) (hk : k < 16) : lowL[k]? = some (lowOp k) := by
  unfold lowOp
  show lowL[k]? = some (lowL[k]?.getD 0)
  rw [List.getElem?_eq_getElem (show k < lowL.length from hk)]
  rfl
theorem ext_at (k : Nat) (hk : k < 4) : extL[k]? = some (extOp k) := by
  unfold extOp
  show extL[k]? = some (extL[k]?.getD 0)
  rw [List.getElem?_eq_getElem (show k < extL.length from hk)]
  rfl
theorem rev_at (k : Nat) (hk : k < 4) : revL[k]? = some (revOp k) := by
  unfold revOp
  show revL[k]? = some (revL[k]?.getD 0)
  rw [List.getElem?_eq_getElem (show k < revL.length from hk)]
  rfl
theorem mem_at (k : Nat) (hk : k < 8) : memL[k]? = some (memOp k) := by
  unfold memOp
  show memL[k]? = some (memL[k]?.getD 0)
  rw [List.getElem?_eq_getElem (show k < memL.length from hk)]
  rfl
theorem pos_drop (l : List Nat) (op k h : Nat) (hk : l[k]? = some h) : posIn (l.drop k) op k = bif Nat.beq h op then k else posIn (l.drop (k + 1)) op (k + 1) := by
  have hlt := (List.getElem?_eq_some_iff.1 hk).1
  have e : l.drop k = h :: l.drop (k + 1) := by
    rw [List.drop_eq_getElem_cons hlt]
    rw [List.getElem?_eq_getElem hlt] at hk
    rw [Option.some.inj hk]
  rw [e]
  rfl
def arr (l : List Nat) : Array Value := (l.map fun x => Value.int .i64 (x : Nat)).toArray
theorem arr_at (l : List Nat) (k h : Nat) (hk : l[k]? = some h) : (arr l)[k]? = some (.int .i64 (h : Nat)) := by
  simp [arr, hk]
def lowZ (i : IV) (op : Nat) : List Nat :=
  let d := bif Nat.beq op 8 || (Nat.beq op 10 || Nat.beq op 11) then i.n else i.d
  let m := bif Nat.beq op 4 || Nat.beq op 21 then i.n else i.m
  bif Nat.blt (posIn lowL op 0) 16 then [three4 16384 (posIn lowL op 0 : Nat) m d] else []
def dataZ (i : IV) (op : Nat) : List Nat :=
  bif Nat.beq op 13 then [three5 0 0 i.m i.d, two8 8192 i.d i.imm, hiN 17920 i.d i.m]
  else bif Nat.beq op 17 then three5 0 i.imm i.n i.d :: lowZ i op
  else bif Nat.beq op 18 then three5 2048 i.imm i.n i.d :: lowZ i op
  else bif Nat.beq op 19 then three5 4096 i.imm i.n i.d :: lowZ i op
  else bif Nat.beq op 5 then [three3 6144 i.m i.n i.d, three3 7168 i.imm i.n i.d, two8 12288 i.d i.imm, hiN 17408 i.d i.m, two8 43008 i.d (i.imm / 4), 45056 + putN (i.imm / 4) 0 7]
  else bif Nat.beq op 3 then [three3 6656 i.m i.n i.d, three3 7680 i.imm i.n i.d, two8 14336 i.d i.imm, 45184 + putN (i.imm / 4) 0 7]
  else bif Nat.beq op 10 then (two8 10240 i.n i.imm :: lowZ i op) ++ [hiN 17664 i.n i.m]
  else bif Nat.beq op 43 then [two8 40960 i.d (i.imm / 4)]
  else lowZ i op
def unaryZ (i : IV) (op : Nat) : List Nat :=
  bif Nat.blt (posIn extL op 0) 4 then [three2 45568 (posIn extL op 0 : Nat) i.m i.d]
  else bif Nat.blt (posIn revL op 0) 4 then [three2 47616 (posIn revL op 0 : Nat) i.m i.d] else []
def byRegZ (i : IV) (op : Nat) : Nat := three3 20480 i.m i.n i.d + (bif Nat.blt (posIn memL op 0) 8 then posIn memL op 0 * 512 else 0)
def memZ (i : IV) (op : Nat) : List Nat :=
  bif Nat.beq op 49 then [byRegZ i op, three5 24576 (i.imm / 4) i.n i.d, two8 36864 i.d (i.imm / 4)]
  else bif Nat.beq op 44 then [two8 18432 i.d (i.imm / 4), byRegZ i op, three5 26624 (i.imm / 4) i.n i.d, two8 38912 i.d (i.imm / 4)]
  else bif Nat.beq op 50 then [byRegZ i op, three5 28672 i.imm i.n i.d]
  else bif Nat.beq op 45 then [byRegZ i op, three5 30720 i.imm i.n i.d]
  else bif Nat.beq op 51 then [byRegZ i op, three5 32768 (i.imm / 2) i.n i.d]
  else bif Nat.beq op 46 then [byRegZ i op, three5 34816 (i.imm / 2) i.n i.d]
  else [byRegZ i op]
def manyZ (i : IV) (op : Nat) : List Nat :=
  bif Nat.beq op 52 then [48128 + putN (i.list / 32768) 8 1 + putN i.list 0 8, two8 51200 i.n i.list]
  else [46080 + putN (i.list / 16384) 8 1 + putN i.list 0 8, two8 49152 i.n i.list]
def cmpZ (page : Nat) (i : IV) : Nat := page + putN (i.imm / 64) 9 1 + putN (i.imm / 2) 3 5 + putN i.n 0 3
def brZ (i : IV) (op : Nat) : List Nat :=
  bif Nat.beq op 54 then brN i.cond i.imm
  else bif Nat.beq op 56 then [18176 + putN i.m 3 4]
  else bif Nat.beq op 57 then [18304 + putN i.m 3 4]
  else bif Nat.beq op 58 then [cmpZ 45312 i]
  else bif Nat.beq op 59 then [cmpZ 47360 i]
  else []
def othZ (i : IV) (op : Nat) : List Nat :=
  bif Nat.beq op 61 then [48896 + putN i.imm 4 4]
  else bif Nat.beq op 60 then [48896 + putN i.imm 0 8]
  else bif Nat.beq op 62 then [57088 + putN i.imm 0 8]
  else bif Nat.beq op 63 then [48640 + putN i.imm 0 8]
  else []
def halvesZ (i : IV) : List Nat :=
  let op := i.op.toNat
  bif Nat.beq op 0 then []
  else bif Nat.ble op 20 || Nat.beq op 43 then dataZ i op
  else bif Nat.ble op 29 then lowZ i op
  else bif Nat.ble op 42 then unaryZ i op
  else bif Nat.ble op 51 then memZ i op
  else bif Nat.ble op 53 then manyZ i op
  else bif Nat.ble op 59 then brZ i op
  else bif Nat.ble op 65 then othZ i op
  else []
end Go.Proofs.YtblcklknlfofgaaDoor
namespace Go.Proofs.YtblcklknlfofgaaDoor
open Go.ChangeShapes Go.WideShapes Go.ChangeAt Go.RowKit
set_option linter.unusedVariables false
set_option linter.unusedSimpArgs false

theorem wpl_tab {P : Program} {ops : Array Oper} {rest : List Oper} {o : Oper} {a : Act} {Q : Exit → Act → World → Prop} {w : World} (ty : TypeId) (x : Operand) (ho : o.op = .load ty x) (b : Nat) (hx : a.eval x = .pointer (some ⟨b, 0, none⟩)) (cs : List Value) (hr : w.rangeAt b 0 cs)
    (d : TypeDesc) (hu : P.underlying ty = some d) (hd : d.isRow = true) (hi : (P.info? ty).map (·.size) = some cs.length) (hw : Region.wanted o (yielded ops a.tmps) = true) (h : wpList P ops Q rest (a.put o.dst (.agg cs.toArray)) w) : wpList P ops Q (o :: rest) a w :=
  wpList_step fun K hK => by
    rw [if_pos hw]
    exact wp_load_mid ty x ho b 0 hx cs d hr hu hd hi (hK _ _ h)
def cl (l : List Nat) : List Value := l.map fun x => Value.int .i64 (x : Nat)
theorem range_of (w : World) (b : Nat) (l : List Nat) (h : ∀ k x, l[k]? = some x → w.cell? ⟨b, k, none⟩ = some (.int .i64 (x : Nat))) : w.rangeAt b 0 (cl l) := fun j v hv => by
  rw [Nat.zero_add]
  simp only [cl, List.getElem?_map, Option.map_eq_some_iff] at hv
  obtain ⟨x, hx, rfl⟩ := hv
  exact h j x hx
theorem low_range {w : World} (h : LT w) : w.rangeAt 3 0 (cl lowL) := range_of w 3 lowL fun k x hk => by
  have hlt : k < 16 := (List.getElem?_eq_some_iff.1 hk).1
  have := low_at k hlt
  rw [hk] at this
  rw [Option.some.inj this]
  exact h.low k hlt
theorem ext_range {w : World} (h : LT w) : w.rangeAt 1 0 (cl extL) := range_of w 1 extL fun k x hk => by
  have hlt : k < 4 := (List.getElem?_eq_some_iff.1 hk).1
  have := ext_at k hlt
  rw [hk] at this
  rw [Option.some.inj this]
  exact h.ext k hlt
theorem rev_range {w : World} (h : LT w) : w.rangeAt 2 0 (cl revL) := range_of w 2 revL fun k x hk => by
  have hlt : k < 4 := (List.getElem?_eq_some_iff.1 hk).1
  have := rev_at k hlt
  rw [hk] at this
  rw [Option.some.inj this]
  exact h.rev k hlt
theorem mem_range {w : World} (h : LT w) : w.rangeAt 0 0 (cl memL) := range_of w 0 memL fun k x hk => by
  have hlt : k < 8 := (List.getElem?_eq_some_iff.1 hk).1
  have := mem_at k hlt
  rw [hk] at this
  rw [Option.some.inj this]
  exact h.mem k hlt
def posRel (w : World) (l : List Nat) (op b2 : Nat) (i : IV) (j : Value) (wr : World) : Prop := ∃ k : Nat, k ≤ l.length ∧ j = .int .i64 k ∧ posIn l op 0 = posIn (l.drop k) op k ∧ SH noZ w wr [(b2, Cel.iv i)]
theorem nil_pos (op k : Nat) : posIn [] op k = 99 := rfl
theorem idx_run {w : World} (t : TypeId) (n : Nat) (cs : Array Value) (k : Nat) (v : Value) (h : Tryd.prog.underlying t = some (.array n 3)) (hk : k < n) (hs : cs.size = n) (hv : cs[k]? = some v) : (Instr.index t (.agg cs) (.int .i64 k)).run Tryd.prog w = .ok v w := by
  have hn : (0 ≤ (k : Int) ∧ (k : Int) < (n : Int)) := by omega
  have hi : ∃ i, Tryd.prog.info? 3 = some i ∧ i.size = 1 := by
    have : (Tryd.prog.info? 3).map (·.size) = some 1 := by kernel_rfl
    simpa using this
  obtain ⟨i, hi, h1⟩ := hi
  have hlt : k < cs.size := by omega
  have hv' : cs[k] = v := by
    rw [Array.getElem?_eq_getElem hlt] at hv
    exact Option.some.inj hv
  simp [Instr.index, run_underlying h, asIntOf, hn, go_sem, sizeOf, typeInfo, hi, h1, hlt, hv']
  intro h9
  omega
set_option maxHeartbeats 4000000 in
set_option maxRecDepth 100000 in
theorem lowh_c (i : IV) (op : Nat) (hop : i.op = (op : Nat)) (w : World) (HT : LT w) : Calls Tryd.prog 48 #[i.val] w fun e w' => HRes w (lowZ i op) e w' := by
  have HOP : Hid (i.op = (op : Nat)) := hop
  rcases (show (op = 8) ∨ (op = 10) ∨ (op = 11) ∨ (op = 4) ∨ (op = 21) ∨ (op ≠ 8 ∧ op ≠ 10 ∧ op ≠ 11 ∧ op ≠ 4 ∧ op ≠ 21) by omega) with q | q | q | q | q | q
  · have HD : Hid (lowZ i op = bif Nat.blt (posIn lowL op 0) 16 then [three4 16384 (posIn lowL op 0 : Nat) i.m i.n] else []) := by
      show lowZ i op = _
      unfold lowZ
      simp [nbeq, q]
    have t8 : (i.op == 8) = true := by rw [hop]; simp; omega
    have t10 : (i.op == 10) = false := by rw [hop]; simp; omega
    have t11 : (i.op == 11) = false := by rw [hop]; simp; omega
    have t4 : (i.op == 4) = false := by rw [hop]; simp; omega
    have t21 : (i.op == 21) = false := by rw [hop]; simp; omega
    clear hop q
    have HR : Hid (w.rangeAt 3 0 (cl lowL)) := low_range HT
    go_enter Tryd.func48, Tryd.ntmps48
    have S := SH.start w
    go_wp2_with (first
      | ((with_reducible refine wpl_is ?_); first
        | (refine SH.box (L := []) S rfl 29 _ rfl (Cel.iv i) rfl ?_; clear S; intro b2 w0 S)))
    refine wp_region_held_drew (S := fun w' => SH noZ w w' [(b2, Cel.iv i)]) (by kernel_rfl) (by exact S.drew) (fun _ => ?_)
    replace S := S.drew
    refine wpAnyH_take (i := 0) (v := ?_) rfl (by kernel_rfl) (by kernel_rfl) (by kernel_rfl) (fun _ _ _ h => h) (Or.inl ⟨by rfl, ?_⟩) (by exact (by assumption)) ?_
    rotate_left 1
    · intro w hSw
      clear hSw
      go_simp
      try with_reducible rfl
    simp only [Act.put, List.setIfInBounds_toArray, List.set_cons_zero, List.set_cons_succ]
    refine wpAnyH_take (i := 1) (v := _) rfl (by kernel_rfl) (by kernel_rfl) (by kernel_rfl) (fun _ _ _ h => h) (y_load1 (by rfl) _ _ rfl _ _ rfl 0 _ rfl _ rfl _ Tryd.underlying3 rfl) (by exact (by assumption)) ?_
    simp only [Act.put, List.setIfInBounds_toArray, List.set_cons_zero, List.set_cons_succ]
    refine wpAnyH_take (i := 2) (v := ?_) rfl (by kernel_rfl) (by kernel_rfl) (by kernel_rfl) (fun _ _ _ h => h) (Or.inl ⟨by rfl, ?_⟩) (by exact (by assumption)) ?_
    rotate_left 1
    · intro w hSw
      clear hSw
      go_simp
      try with_reducible rfl
    simp only [Act.put, List.setIfInBounds_toArray, List.set_cons_zero, List.set_cons_succ]
    refine wpAnyH_take (i := 3) (v := _) rfl (by kernel_rfl) (by kernel_rfl) (by kernel_rfl) (fun _ _ _ h => h) (y_load1 (by rfl) _ _ rfl _ _ rfl 0 _ rfl _ rfl _ Tryd.underlying3 rfl) (by exact (by assumption)) ?_
    simp only [Act.put, List.setIfInBounds_toArray, List.set_cons_zero, List.set_cons_succ]
    refine wpAnyH_take (i := 4) (v := ?_) rfl (by kernel_rfl) (by kernel_rfl) (by kernel_rfl) (fun _ _ _ h => h) (Or.inl ⟨by rfl, ?_⟩) (by exact (by assumption)) ?_
    rotate_left 1
    · intro w hSw
      clear hSw
      go_simp
      try with_reducible rfl
    simp only [Act.put, List.setIfInBounds_toArray, List.set_cons_zero, List.set_cons_succ]
    refine wpAnyH_take (i := 5) (oi := { dst := some 4, op := Op.assign (Operand.tmp 10), type := 3, pos := "encode.go:88", after := #[{ on := 3, ground := Ground.data }, { on := 4, ground := Ground.chain }, { on := 0, ground := Ground.phase }, { on := 1, ground := Ground.phase }, { on := 2, ground := Ground.phase }, { on := 3, ground := Ground.phase }, { on := 4, ground := Ground.phase }], guard := none }) (v := ?_) rfl (by kernel_rfl) (by kernel_rfl) (by kernel_rfl) (fun _ _ _ h => h) (Or.inl ⟨by rfl, ?_⟩) (by exact (by assumption)) ?_
    rotate_left 1
    · intro w hSw
      clear hSw
      go_simp
      try with_reducible rfl
    simp only [Act.put, List.setIfInBounds_toArray, List.set_cons_zero, List.set_cons_succ]
    refine wpAnyH_done (by kernel_rfl) ?_ _
    go_wp2_with (first
      | ((with_reducible refine wpl_isDst 24 ?_); refine wpl_tab _ _ rfl 3 rfl (cl lowL) (fun j v hv => ((S.low.cell (by have := HT.pos; show 3 < _; omega)).trans (HR.out j v hv))) _ Tryd.underlying65 rfl rfl rfl ?_)
      | ((with_reducible refine wpl_is ?_); first
        | (refine S.ld 3 _ rfl _ 0 rfl 0 (Cel.iv i) rfl _ rfl _ Tryd.underlying3 rfl rfl ?_)
        | (refine S.ld 3 _ rfl _ 5 rfl 0 (Cel.iv i) rfl _ rfl _ Tryd.underlying3 rfl rfl ?_)))
    have ST : Hid (posRel w lowL op b2 i (.int .i64 0) _) := ⟨0, Nat.zero_le _, rfl, rfl, S⟩
    clear S
    go_loopw [25] (fun j wr => posRel w lowL op b2 i j wr) (fun j _ => 16 - (intOf j).toNat)
    case atStart => exact ST.out
    case round =>
      clear ST
      obtain ⟨k, hk, rfl, he, S⟩ := hrel
      by_cases hlt : k < 16
      · have hlt' : (k : Int) < 16 := by omega
        have hat := arr_at lowL k (lowOp k) (low_at k hlt)
        have hd := pos_drop lowL op k (lowOp k) (low_at k hlt)
        rw [hd] at he
        clear hd
        generalize lowOp k = x at *
        by_cases hm : x = op
        · have hpos : Hid (posIn lowL op 0 = k) := he.trans (by simp [hm, nbeq])
          have hmm : ((x : Int) == i.op) = true := by rw [HOP.out, hm]; simp
          clear he hm
          have HA : Hid ((cl lowL).toArray[k]? = some (.int .i64 (x : Nat))) := hat
          clear hat
          go_wp2_with (first
            | (go_at_call 65; refine (three_4 16384 (by decide) (by decide) (k : Nat) i.m i.n _).mono ?_; rintro e wf ⟨rfl, rfl⟩)
            | ((with_reducible refine wpl_isDst 28 ?_); refine wpl_dst 28 rfl (.int .i64 (x : Nat)) (by go_simp; rw [idx_run _ 16 _ k (.int .i64 (x : Nat)) uT1 hlt rfl HA.out]; rfl) rfl ?_)
            | ((with_reducible refine wpl_is ?_); first
              | (refine S.sliceAny rfl 25 1 _ rfl (uc [three4 16384 (k : Nat) i.m i.n]) 22 (by kernel_rfl) ?_; clear S; intro g w1 S)
              | (refine S.ld 3 _ rfl _ 0 rfl 0 (Cel.iv i) rfl _ rfl _ Tryd.underlying3 rfl rfl ?_)))
          (try simp only [Exit.inBlock, Exit.then])
          go_ret
          refine ⟨_, rfl, ?_, S.low⟩
          rw [HD.out, hpos.out]
          rw [show Nat.blt k 16 = true by rw [nblt]; simpa using hlt]
          exact HLs.of_blk (S.at (i := 0) rfl).1
        · have hmm : ((x : Int) == i.op) = false := by rw [HOP.out]; simp; omega
          have he2 : Hid (posIn lowL op 0 = posIn (lowL.drop (k + 1)) op (k + 1)) := he.trans (by simp [hm, nbeq])
          clear he hm
          have HA : Hid ((cl lowL).toArray[k]? = some (.int .i64 (x : Nat))) := hat
          clear hat
          go_wp2_with (first
            | ((with_reducible refine wpl_isDst 28 ?_); refine wpl_dst 28 rfl (.int .i64 (x : Nat)) (by go_simp; rw [idx_run _ 16 _ k (.int .i64 (x : Nat)) uT1 hlt rfl HA.out]; rfl) rfl ?_)
            | ((with_reducible refine wpl_is ?_); first
              | (refine S.ld 3 _ rfl _ 0 rfl 0 (Cel.iv i) rfl _ rfl _ Tryd.underlying3 rfl rfl ?_)))
          go_roundw
          case rel => exact ⟨k + 1, hlt, by push_cast; rfl, he2.out, S⟩
          case measure =>
            simp only [intOf]
            omega
      · have hlt' : ¬ (k : Int) < 16 := by omega
        have hk16 : k = 16 := by have : k ≤ 16 := hk; omega
        subst hk16
        have hpos : Hid (posIn lowL op 0 = 99) := he
        clear he
        go_wp2
        go_ret
        refine ⟨_, rfl, ?_, S.low⟩
        rw [HD.out, hpos.out]
        exact HLs.nil _
  · have HD : Hid (lowZ i op = bif Nat.blt (posIn lowL op 0) 16 then [three4 16384 (posIn lowL op 0 : Nat) i.m i.n] else []) := by
      show lowZ i op = _
      unfold lowZ
      simp [nbeq, q]
    have t8 : (i.op == 8) = false := by rw [hop]; simp; omega
    have t10 : (i.op == 10) = true := by rw [hop]; simp; omega
    have t11 : (i.op == 11) = false := by rw [hop]; simp; omega
    have t4 : (i.op == 4) = false := by rw [hop]; simp; omega
    have t21 : (i.op == 21) = false := by rw [hop]; simp; omega
    clear hop q
    have HR : Hid (w.rangeAt 3 0 (cl lowL)) := low_range HT
    go_enter Tryd.func48, Tryd.ntmps48
    have S := SH.start w
    go_wp2_with (first
      | ((with_reducible refine wpl_is ?_); first
        | (refine SH.box (L := []) S rfl 29 _ rfl (Cel.iv i) rfl ?_; clear S; intro b2 w0 S)))
    refine wp_region_held_drew (S := fun w' => SH noZ w w' [(b2, Cel.iv i)]) (by kernel_rfl) (by exact S.drew) (fun _ => ?_)
    replace S := S.drew
    refine wpAnyH_take (i := 0) (v := ?_) rfl (by kernel_rfl) (by kernel_rfl) (by kernel_rfl) (fun _ _ _ h => h) (Or.inl ⟨by rfl, ?_⟩) (by exact (by assumption)) ?_
    rotate_left 1
    · intro w hSw
      clear hSw
      go_simp
      try with_reducible rfl
    simp only [Act.put, List.setIfInBounds_toArray, List.set_cons_zero, List.set_cons_succ]
    refine wpAnyH_take (i := 1) (v := _) rfl (by kernel_rfl) (by kernel_rfl) (by kernel_rfl) (fun _ _ _ h => h) (y_load1 (by rfl) _ _ rfl _ _ rfl 0 _ rfl _ rfl _ Tryd.underlying3 rfl) (by exact (by assumption)) ?_
    simp only [Act.put, List.setIfInBounds_toArray, List.set_cons_zero, List.set_cons_succ]
    refine wpAnyH_take (i := 2) (v := ?_) rfl (by kernel_rfl) (by kernel_rfl) (by kernel_rfl) (fun _ _ _ h => h) (Or.inl ⟨by rfl, ?_⟩) (by exact (by assumption)) ?_
    rotate_left 1
    · intro w hSw
      clear hSw
      go_simp
      try with_reducible rfl
    simp only [Act.put, List.setIfInBounds_toArray, List.set_cons_zero, List.set_cons_succ]
    refine wpAnyH_take (i := 3) (v := _) rfl (by kernel_rfl) (by kernel_rfl) (by kernel_rfl) (fun _ _ _ h => h) (y_load1 (by rfl) _ _ rfl _ _ rfl 0 _ rfl _ rfl _ Tryd.underlying3 rfl) (by exact (by assumption)) ?_
    simp only [Act.put, List.setIfInBounds_toArray, List.set_cons_zero, List.set_cons_succ]
    refine wpAnyH_take (i := 4) (v := ?_) rfl (by kernel_rfl) (by kernel_rfl) (by kernel_rfl) (fun _ _ _ h => h) (Or.inl ⟨by rfl, ?_⟩) (by exact (by assumption)) ?_
    rotate_left 1
    · intro w hSw
      clear hSw
      go_simp
      try with_reducible rfl
    simp only [Act.put, List.setIfInBounds_toArray, List.set_cons_zero, List.set_cons_succ]
    refine wpAnyH_take (i := 5) (oi := { dst := some 4, op := Op.assign (Operand.tmp 10), type := 3, pos := "encode.go:88", after := #[{ on := 3, ground := Ground.data }, { on := 4, ground := Ground.chain }, { on := 0, ground := Ground.phase }, { on := 1, ground := Ground.phase }, { on := 2, ground := Ground.phase }, { on := 3, ground := Ground.phase }, { on := 4, ground := Ground.phase }], guard := none }) (v := ?_) rfl (by kernel_rfl) (by kernel_rfl) (by kernel_rfl) (fun _ _ _ h => h) (Or.inl ⟨by rfl, ?_⟩) (by exact (by assumption)) ?_
    rotate_left 1
    · intro w hSw
      clear hSw
      go_simp
      try with_reducible rfl
    simp only [Act.put, List.setIfInBounds_toArray, List.set_cons_zero, List.set_cons_succ]
    refine wpAnyH_done (by kernel_rfl) ?_ _
    go_wp2_with (first
      | ((with_reducible refine wpl_isDst 24 ?_); refine wpl_tab _ _ rfl 3 rfl (cl lowL) (fun j v hv => ((S.low.cell (by have := HT.pos; show 3 < _; omega)).trans (HR.out j v hv))) _ Tryd.underlying65 rfl rfl rfl ?_)
      | ((with_reducible refine wpl_is ?_); first
        | (refine S.ld 3 _ rfl _ 0 rfl 0 (Cel.iv i) rfl _ rfl _ Tryd.underlying3 rfl rfl ?_)
        | (refine S.ld 3 _ rfl _ 5 rfl 0 (Cel.iv i) rfl _ rfl _ Tryd.underlying3 rfl rfl ?_)))
    have ST : Hid (posRel w lowL op b2 i (.int .i64 0) _) := ⟨0, Nat.zero_le _, rfl, rfl, S⟩
    clear S
    go_loopw [25] (fun j wr => posRel w lowL op b2 i j wr) (fun j _ => 16 - (intOf j).toNat)
    case atStart => exact ST.out
    case round =>
      clear ST
      obtain ⟨k, hk, rfl, he, S⟩ := hrel
      by_cases hlt : k < 16
      · have hlt' : (k : Int) < 16 := by omega
        have hat := arr_at lowL k (lowOp k) (low_at k hlt)
        have hd := pos_drop lowL op k (lowOp k) (low_at k hlt)
        rw [hd] at he
        clear hd
        generalize lowOp k = x at *
        by_cases hm : x = op
        · have hpos : Hid (posIn lowL op 0 = k) := he.trans (by simp [hm, nbeq])
          have hmm : ((x : Int) == i.op) = true := by rw [HOP.out, hm]; simp
          clear he hm
          have HA : Hid ((cl lowL).toArray[k]? = some (.int .i64 (x : Nat))) := hat
          clear hat
          go_wp2_with (first
            | (go_at_call 65; refine (three_4 16384 (by decide) (by decide) (k : Nat) i.m i.n _).mono ?_; rintro e wf ⟨rfl, rfl⟩)
            | ((with_reducible refine wpl_isDst 28 ?_); refine wpl_dst 28 rfl (.int .i64 (x : Nat)) (by go_simp; rw [idx_run _ 16 _ k (.int .i64 (x : Nat)) uT1 hlt rfl HA.out]; rfl) rfl ?_)
            | ((with_reducible refine wpl_is ?_); first
              | (refine S.sliceAny rfl 25 1 _ rfl (uc [three4 16384 (k : Nat) i.m i.n]) 22 (by kernel_rfl) ?_; clear S; intro g w1 S)
              | (refine S.ld 3 _ rfl _ 0 rfl 0 (Cel.iv i) rfl _ rfl _ Tryd.underlying3 rfl rfl ?_)))
          (try simp only [Exit.inBlock, Exit.then])
          go_ret
          refine ⟨_, rfl, ?_, S.low⟩
          rw [HD.out, hpos.out]
          rw [show Nat.blt k 16 = true by rw [nblt]; simpa using hlt]
          exact HLs.of_blk (S.at (i := 0) rfl).1
        · have hmm : ((x : Int) == i.op) = false := by rw [HOP.out]; simp; omega
          have he2 : Hid (posIn lowL op 0 = posIn (lowL.drop (k + 1)) op (k + 1)) := he.trans (by simp [hm, nbeq])
          clear he hm
          have HA : Hid ((cl lowL).toArray[k]? = some (.int .i64 (x : Nat))) := hat
          clear hat
          go_wp2_with (first
            | ((with_reducible refine wpl_isDst 28 ?_); refine wpl_dst 28 rfl (.int .i64 (x : Nat)) (by go_simp; rw [idx_run _ 16 _ k (.int .i64 (x : Nat)) uT1 hlt rfl HA.out]; rfl) rfl ?_)
            | ((with_reducible refine wpl_is ?_); first
              | (refine S.ld 3 _ rfl _ 0 rfl 0 (Cel.iv i) rfl _ rfl _ Tryd.underlying3 rfl rfl ?_)))
          go_roundw
          case rel => exact ⟨k + 1, hlt, by push_cast; rfl, he2.out, S⟩
          case measure =>
            simp only [intOf]
            omega
      · have hlt' : ¬ (k : Int) < 16 := by omega
        have hk16 : k = 16 := by have : k ≤ 16 := hk; omega
        subst hk16
        have hpos : Hid (posIn lowL op 0 = 99) := he
        clear he
        go_wp2
        go_ret
        refine ⟨_, rfl, ?_, S.low⟩
        rw [HD.out, hpos.out]
        exact HLs.nil _
  · have HD : Hid (lowZ i op = bif Nat.blt (posIn lowL op 0) 16 then [three4 16384 (posIn lowL op 0 : Nat) i.m i.n] else []) := by
      show lowZ i op = _
      unfold lowZ
      simp [nbeq, q]
    have t8 : (i.op == 8) = false := by rw [hop]; simp; omega
    have t10 : (i.op == 10) = false := by rw [hop]; simp; omega
    have t11 : (i.op == 11) = true := by rw [hop]; simp; omega
    have t4 : (i.op == 4) = false := by rw [hop]; simp; omega
    have t21 : (i.op == 21) = false := by rw [hop]; simp; omega
    clear hop q
    have HR : Hid (w.rangeAt 3 0 (cl lowL)) := low_range HT
    go_enter Tryd.func48, Tryd.ntmps48
    have S := SH.start w
    go_wp2_with (first
      | ((with_reducible refine wpl_is ?_); first
        | (refine SH.box (L := []) S rfl 29 _ rfl (Cel.iv i) rfl ?_; clear S; intro b2 w0 S)))
    refine wp_region_held_drew (S := fun w' => SH noZ w w' [(b2, Cel.iv i)]) (by kernel_rfl) (by exact S.drew) (fun _ => ?_)
    replace S := S.drew
    refine wpAnyH_take (i := 0) (v := ?_) rfl (by kernel_rfl) (by kernel_rfl) (by kernel_rfl) (fun _ _ _ h => h) (Or.inl ⟨by rfl, ?_⟩) (by exact (by assumption)) ?_
    rotate_left 1
    · intro w hSw
      clear hSw
      go_simp
      try with_reducible rfl
    simp only [Act.put, List.setIfInBounds_toArray, List.set_cons_zero, List.set_cons_succ]
    refine wpAnyH_take (i := 1) (v := _) rfl (by kernel_rfl) (by kernel_rfl) (by kernel_rfl) (fun _ _ _ h => h) (y_load1 (by rfl) _ _ rfl _ _ rfl 0 _ rfl _ rfl _ Tryd.underlying3 rfl) (by exact (by assumption)) ?_
    simp only [Act.put, List.setIfInBounds_toArray, List.set_cons_zero, List.set_cons_succ]
    refine wpAnyH_take (i := 2) (v := ?_) rfl (by kernel_rfl) (by kernel_rfl) (by kernel_rfl) (fun _ _ _ h => h) (Or.inl ⟨by rfl, ?_⟩) (by exact (by assumption)) ?_
    rotate_left 1
    · intro w hSw
      clear hSw
      go_simp
      try with_reducible rfl
    simp only [Act.put, List.setIfInBounds_toArray, List.set_cons_zero, List.set_cons_succ]
    refine wpAnyH_take (i := 3) (v := _) rfl (by kernel_rfl) (by kernel_rfl) (by kernel_rfl) (fun _ _ _ h => h) (y_load1 (by rfl) _ _ rfl _ _ rfl 0 _ rfl _ rfl _ Tryd.underlying3 rfl) (by exact (by assumption)) ?_
    simp only [Act.put, List.setIfInBounds_toArray, List.set_cons_zero, List.set_cons_succ]
    refine wpAnyH_take (i := 4) (v := ?_) rfl (by kernel_rfl) (by kernel_rfl) (by kernel_rfl) (fun _ _ _ h => h) (Or.inl ⟨by rfl, ?_⟩) (by exact (by assumption)) ?_
    rotate_left 1
    · intro w hSw
      clear hSw
      go_simp
      try with_reducible rfl
    simp only [Act.put, List.setIfInBounds_toArray, List.set_cons_zero, List.set_cons_succ]
    refine wpAnyH_take (i := 5) (oi := { dst := some 4, op := Op.assign (Operand.tmp 10), type := 3, pos := "encode.go:88", after := #[{ on := 3, ground := Ground.data }, { on := 4, ground := Ground.chain }, { on := 0, ground := Ground.phase }, { on := 1, ground := Ground.phase }, { on := 2, ground := Ground.phase }, { on := 3, ground := Ground.phase }, { on := 4, ground := Ground.phase }], guard := none }) (v := ?_) rfl (by kernel_rfl) (by kernel_rfl) (by kernel_rfl) (fun _ _ _ h => h) (Or.inl ⟨by rfl, ?_⟩) (by exact (by assumption)) ?_
    rotate_left 1
    · intro w hSw
      clear hSw
      go_simp
      try with_reducible rfl
    simp only [Act.put, List.setIfInBounds_toArray, List.set_cons_zero, List.set_cons_succ]
    refine wpAnyH_done (by kernel_rfl) ?_ _
    go_wp2_with (first
      | ((with_reducible refine wpl_isDst 24 ?_); refine wpl_tab _ _ rfl 3 rfl (cl lowL) (fun j v hv => ((S.low.cell (by have := HT.pos; show 3 < _; omega)).trans (HR.out j v hv))) _ Tryd.underlying65 rfl rfl rfl ?_)
      | ((with_reducible refine wpl_is ?_); first
        | (refine S.ld 3 _ rfl _ 0 rfl 0 (Cel.iv i) rfl _ rfl _ Tryd.underlying3 rfl rfl ?_)
        | (refine S.ld 3 _ rfl _ 5 rfl 0 (Cel.iv i) rfl _ rfl _ Tryd.underlying3 rfl rfl ?_)))
    have ST : Hid (posRel w lowL op b2 i (.int .i64 0) _) := ⟨0, Nat.zero_le _, rfl, rfl, S⟩
    clear S
    go_loopw [25] (fun j wr => posRel w lowL op b2 i j wr) (fun j _ => 16 - (intOf j).toNat)
    case atStart => exact ST.out
    case round =>
      clear ST
      obtain ⟨k, hk, rfl, he, S⟩ := hrel
      by_cases hlt : k < 16
      · have hlt' : (k : Int) < 16 := by omega
        have hat := arr_at lowL k (lowOp k) (low_at k hlt)
        have hd := pos_drop lowL op k (lowOp k) (low_at k hlt)
        rw [hd] at he
        clear hd
        generalize lowOp k = x at *
        by_cases hm : x = op
        · have hpos : Hid (posIn lowL op 0 = k) := he.trans (by simp [hm, nbeq])
          have hmm : ((x : Int) == i.op) = true := by rw [HOP.out, hm]; simp
          clear he hm
          have HA : Hid ((cl lowL).toArray[k]? = some (.int .i64 (x : Nat))) := hat
          clear hat
          go_wp2_with (first
            | (go_at_call 65; refine (three_4 16384 (by decide) (by decide) (k : Nat) i.m i.n _).mono ?_; rintro e wf ⟨rfl, rfl⟩)
            | ((with_reducible refine wpl_isDst 28 ?_); refine wpl_dst 28 rfl (.int .i64 (x : Nat)) (by go_simp; rw [idx_run _ 16 _ k (.int .i64 (x : Nat)) uT1 hlt rfl HA.out]; rfl) rfl ?_)
            | ((with_reducible refine wpl_is ?_); first
              | (refine S.sliceAny rfl 25 1 _ rfl (uc [three4 16384 (k : Nat) i.m i.n]) 22 (by kernel_rfl) ?_; clear S; intro g w1 S)
              | (refine S.ld 3 _ rfl _ 0 rfl 0 (Cel.iv i) rfl _ rfl _ Tryd.underlying3 rfl rfl ?_)))
          (try simp only [Exit.inBlock, Exit.then])
          go_ret
          refine ⟨_, rfl, ?_, S.low⟩
          rw [HD.out, hpos.out]
          rw [show Nat.blt k 16 = true by rw [nblt]; simpa using hlt]
          exact HLs.of_blk (S.at (i := 0) rfl).1
        · have hmm : ((x : Int) == i.op) = false := by rw [HOP.out]; simp; omega
          have he2 : Hid (posIn lowL op 0 = posIn (lowL.drop (k + 1)) op (k + 1)) := he.trans (by simp [hm, nbeq])
          clear he hm
          have HA : Hid ((cl lowL).toArray[k]? = some (.int .i64 (x : Nat))) := hat
          clear hat
          go_wp2_with (first
            | ((with_reducible refine wpl_isDst 28 ?_); refine wpl_dst 28 rfl (.int .i64 (x : Nat)) (by go_simp; rw [idx_run _ 16 _ k (.int .i64 (x : Nat)) uT1 hlt rfl HA.out]; rfl) rfl ?_)
            | ((with_reducible refine wpl_is ?_); first
              | (refine S.ld 3 _ rfl _ 0 rfl 0 (Cel.iv i) rfl _ rfl _ Tryd.underlying3 rfl rfl ?_)))
          go_roundw
          case rel => exact ⟨k + 1, hlt, by push_cast; rfl, he2.out, S⟩
          case measure =>
            simp only [intOf]
            omega
      · have hlt' : ¬ (k : Int) < 16 := by omega
        have hk16 : k = 16 := by have : k ≤ 16 := hk; omega
        subst hk16
        have hpos : Hid (posIn lowL op 0 = 99) := he
        clear he
        go_wp2
        go_ret
        refine ⟨_, rfl, ?_, S.low⟩
        rw [HD.out, hpos.out]
        exact HLs.nil _
  · have HD : Hid (lowZ i op = bif Nat.blt (posIn lowL op 0) 16 then [three4 16384 (posIn lowL op 0 : Nat) i.n i.d] else []) := by
      show lowZ i op = _
      unfold lowZ
      simp [nbeq, q]
    have t8 : (i.op == 8) = false := by rw [hop]; simp; omega
    have t10 : (i.op == 10) = false := by rw [hop]; simp; omega
    have t11 : (i.op == 11) = false := by rw [hop]; simp; omega
    have t4 : (i.op == 4) = true := by rw [hop]; simp; omega
    have t21 : (i.op == 21) = false := by rw [hop]; simp; omega
    clear hop q
    have HR : Hid (w.rangeAt 3 0 (cl lowL)) := low_range HT
    go_enter Tryd.func48, Tryd.ntmps48
    have S := SH.start w
    go_wp2_with (first
      | ((with_reducible refine wpl_is ?_); first
        | (refine SH.box (L := []) S rfl 29 _ rfl (Cel.iv i) rfl ?_; clear S; intro b2 w0 S)))
    refine wp_region_held_drew (S := fun w' => SH noZ w w' [(b2, Cel.iv i)]) (by kernel_rfl) (by exact S.drew) (fun _ => ?_)
    replace S := S.drew
    refine wpAnyH_take (i := 0) (v := ?_) rfl (by kernel_rfl) (by kernel_rfl) (by kernel_rfl) (fun _ _ _ h => h) (Or.inl ⟨by rfl, ?_⟩) (by exact (by assumption)) ?_
    rotate_left 1
    · intro w hSw
      clear hSw
      go_simp
      try with_reducible rfl
    simp only [Act.put, List.setIfInBounds_toArray, List.set_cons_zero, List.set_cons_succ]
    refine wpAnyH_take (i := 1) (v := _) rfl (by kernel_rfl) (by kernel_rfl) (by kernel_rfl) (fun _ _ _ h => h) (y_load1 (by rfl) _ _ rfl _ _ rfl 0 _ rfl _ rfl _ Tryd.underlying3 rfl) (by exact (by assumption)) ?_
    simp only [Act.put, List.setIfInBounds_toArray, List.set_cons_zero, List.set_cons_succ]
    refine wpAnyH_take (i := 2) (v := ?_) rfl (by kernel_rfl) (by kernel_rfl) (by kernel_rfl) (fun _ _ _ h => h) (Or.inl ⟨by rfl, ?_⟩) (by exact (by assumption)) ?_
    rotate_left 1
    · intro w hSw
      clear hSw
      go_simp
      try with_reducible rfl
    simp only [Act.put, List.setIfInBounds_toArray, List.set_cons_zero, List.set_cons_succ]
    refine wpAnyH_take (i := 3) (v := _) rfl (by kernel_rfl) (by kernel_rfl) (by kernel_rfl) (fun _ _ _ h => h) (y_load1 (by rfl) _ _ rfl _ _ rfl 0 _ rfl _ rfl _ Tryd.underlying3 rfl) (by exact (by assumption)) ?_
    simp only [Act.put, List.setIfInBounds_toArray, List.set_cons_zero, List.set_cons_succ]
    refine wpAnyH_take (i := 4) (v := ?_) rfl (by kernel_rfl) (by kernel_rfl) (by kernel_rfl) (fun _ _ _ h => h) (Or.inl ⟨by rfl, ?_⟩) (by exact (by assumption)) ?_
    rotate_left 1
    · intro w hSw
      clear hSw
      go_simp
      try with_reducible rfl
    simp only [Act.put, List.setIfInBounds_toArray, List.set_cons_zero, List.set_cons_succ]
    refine wpAnyH_take (i := 5) (oi := { dst := some 4, op := Op.assign (Operand.tmp 10), type := 3, pos := "encode.go:88", after := #[{ on := 3, ground := Ground.data }, { on := 4, ground := Ground.chain }, { on := 0, ground := Ground.phase }, { on := 1, ground := Ground.phase }, { on := 2, ground := Ground.phase }, { on := 3, ground := Ground.phase }, { on := 4, ground := Ground.phase }], guard := none }) (v := ?_) rfl (by kernel_rfl) (by kernel_rfl) (by kernel_rfl) (fun _ _ _ h => h) (Or.inl ⟨by rfl, ?_⟩) (by exact (by assumption)) ?_
    rotate_left 1
    · intro w hSw
      clear hSw
      go_simp
      try with_reducible rfl
    simp only [Act.put, List.setIfInBounds_toArray, List.set_cons_zero, List.set_cons_succ]
    refine wpAnyH_done (by kernel_rfl) ?_ _
    go_wp2_with (first
      | ((with_reducible refine wpl_isDst 24 ?_); refine wpl_tab _ _ rfl 3 rfl (cl lowL) (fun j v hv => ((S.low.cell (by have := HT.pos; show 3 < _; omega)).trans (HR.out j v hv))) _ Tryd.underlying65 rfl rfl rfl ?_)
      | ((with_reducible refine wpl_is ?_); first
        | (refine S.ld 3 _ rfl _ 0 rfl 0 (Cel.iv i) rfl _ rfl _ Tryd.underlying3 rfl rfl ?_)
        | (refine S.ld 3 _ rfl _ 5 rfl 0 (Cel.iv i) rfl _ rfl _ Tryd.underlying3 rfl rfl ?_)))
    have ST : Hid (posRel w lowL op b2 i (.int .i64 0) _) := ⟨0, Nat.zero_le _, rfl, rfl, S⟩
    clear S
    go_loopw [25] (fun j wr => posRel w lowL op b2 i j wr) (fun j _ => 16 - (intOf j).toNat)
    case atStart => exact ST.out
    case round =>
      clear ST
      obtain ⟨k, hk, rfl, he, S⟩ := hrel
      by_cases hlt : k < 16
      · have hlt' : (k : Int) < 16 := by omega
        have hat := arr_at lowL k (lowOp k) (low_at k hlt)
        have hd := pos_drop lowL op k (lowOp k) (low_at k hlt)
        rw [hd] at he
        clear hd
        generalize lowOp k = x at *
        by_cases hm : x = op
        · have hpos : Hid (posIn lowL op 0 = k) := he.trans (by simp [hm, nbeq])
          have hmm : ((x : Int) == i.op) = true := by rw [HOP.out, hm]; simp
          clear he hm
          have HA : Hid ((cl lowL).toArray[k]? = some (.int .i64 (x : Nat))) := hat
          clear hat
          go_wp2_with (first
            | (go_at_call 65; refine (three_4 16384 (by decide) (by decide) (k : Nat) i.n i.d _).mono ?_; rintro e wf ⟨rfl, rfl⟩)
            | ((with_reducible refine wpl_isDst 28 ?_); refine wpl_dst 28 rfl (.int .i64 (x : Nat)) (by go_simp; rw [idx_run _ 16 _ k (.int .i64 (x : Nat)) uT1 hlt rfl HA.out]; rfl) rfl ?_)
            | ((with_reducible refine wpl_is ?_); first
              | (refine S.sliceAny rfl 25 1 _ rfl (uc [three4 16384 (k : Nat) i.n i.d]) 22 (by kernel_rfl) ?_; clear S; intro g w1 S)
              | (refine S.ld 3 _ rfl _ 0 rfl 0 (Cel.iv i) rfl _ rfl _ Tryd.underlying3 rfl rfl ?_)))
          (try simp only [Exit.inBlock, Exit.then])
          go_ret
          refine ⟨_, rfl, ?_, S.low⟩
          rw [HD.out, hpos.out]
          rw [show Nat.blt k 16 = true by rw [nblt]; simpa using hlt]
          exact HLs.of_blk (S.at (i := 0) rfl).1
        · have hmm : ((x : Int) == i.op) = false := by rw [HOP.out]; simp; omega
          have he2 : Hid (posIn lowL op 0 = posIn (lowL.drop (k + 1)) op (k + 1)) := he.trans (by simp [hm, nbeq])
          clear he hm
          have HA : Hid ((cl lowL).toArray[k]? = some (.int .i64 (x : Nat))) := hat
          clear hat
          go_wp2_with (first
            | ((with_reducible refine wpl_isDst 28 ?_); refine wpl_dst 28 rfl (.int .i64 (x : Nat)) (by go_simp; rw [idx_run _ 16 _ k (.int .i64 (x : Nat)) uT1 hlt rfl HA.out]; rfl) rfl ?_)
            | ((with_reducible refine wpl_is ?_); first
              | (refine S.ld 3 _ rfl _ 0 rfl 0 (Cel.iv i) rfl _ rfl _ Tryd.underlying3 rfl rfl ?_)))
          go_roundw
          case rel => exact ⟨k + 1, hlt, by push_cast; rfl, he2.out, S⟩
          case measure =>
            simp only [intOf]
            omega
      · have hlt' : ¬ (k : Int) < 16 := by omega
        have hk16 : k = 16 := by have : k ≤ 16 := hk; omega
        subst hk16
        have hpos : Hid (posIn lowL op 0 = 99) := he
        clear he
        go_wp2
        go_ret
        refine ⟨_, rfl, ?_, S.low⟩
        rw [HD.out, hpos.out]
        exact HLs.nil _
  · have HD : Hid (lowZ i op = bif Nat.blt (posIn lowL op 0) 16 then [three4 16384 (posIn lowL op 0 : Nat) i.n i.d] else []) := by
      show lowZ i op = _
      unfold lowZ
      simp [nbeq, q]
    have t8 : (i.op == 8) = false := by rw [hop]; simp; omega
    have t10 : (i.op == 10) = false := by rw [hop]; simp; omega
    have t11 : (i.op == 11) = false := by rw [hop]; simp; omega
    have t4 : (i.op == 4) = false := by rw [hop]; simp; omega
    have t21 : (i.op == 21) = true := by rw [hop]; simp; omega
    clear hop q
    have HR : Hid (w.rangeAt 3 0 (cl lowL)) := low_range HT
    go_enter Tryd.func48, Tryd.ntmps48
    have S := SH.start w
    go_wp2_with (first
      | ((with_reducible refine wpl_is ?_); first
        | (refine SH.box (L := []) S rfl 29 _ rfl (Cel.iv i) rfl ?_; clear S; intro b2 w0 S)))
    refine wp_region_held_drew (S := fun w' => SH noZ w w' [(b2, Cel.iv i)]) (by kernel_rfl) (by exact S.drew) (fun _ => ?_)
    replace S := S.drew
    refine wpAnyH_take (i := 0) (v := ?_) rfl (by kernel_rfl) (by kernel_rfl) (by kernel_rfl) (fun _ _ _ h => h) (Or.inl ⟨by rfl, ?_⟩) (by exact (by assumption)) ?_
    rotate_left 1
    · intro w hSw
      clear hSw
      go_simp
      try with_reducible rfl
    simp only [Act.put, List.setIfInBounds_toArray, List.set_cons_zero, List.set_cons_succ]
    refine wpAnyH_take (i := 1) (v := _) rfl (by kernel_rfl) (by kernel_rfl) (by kernel_rfl) (fun _ _ _ h => h) (y_load1 (by rfl) _ _ rfl _ _ rfl 0 _ rfl _ rfl _ Tryd.underlying3 rfl) (by exact (by assumption)) ?_
    simp only [Act.put, List.setIfInBounds_toArray, List.set_cons_zero, List.set_cons_succ]
    refine wpAnyH_take (i := 2) (v := ?_) rfl (by kernel_rfl) (by kernel_rfl) (by kernel_rfl) (fun _ _ _ h => h) (Or.inl ⟨by rfl, ?_⟩) (by exact (by assumption)) ?_
    rotate_left 1
    · intro w hSw
      clear hSw
      go_simp
      try with_reducible rfl
    simp only [Act.put, List.setIfInBounds_toArray, List.set_cons_zero, List.set_cons_succ]
    refine wpAnyH_take (i := 3) (v := _) rfl (by kernel_rfl) (by kernel_rfl) (by kernel_rfl) (fun _ _ _ h => h) (y_load1 (by rfl) _ _ rfl _ _ rfl 0 _ rfl _ rfl _ Tryd.underlying3 rfl) (by exact (by assumption)) ?_
    simp only [Act.put, List.setIfInBounds_toArray, List.set_cons_zero, List.set_cons_succ]
    refine wpAnyH_take (i := 4) (v := ?_) rfl (by kernel_rfl) (by kernel_rfl) (by kernel_rfl) (fun _ _ _ h => h) (Or.inl ⟨by rfl, ?_⟩) (by exact (by assumption)) ?_
    rotate_left 1
    · intro w hSw
      clear hSw
      go_simp
      try with_reducible rfl
    simp only [Act.put, List.setIfInBounds_toArray, List.set_cons_zero, List.set_cons_succ]
    refine wpAnyH_take (i := 5) (oi := { dst := some 4, op := Op.assign (Operand.tmp 10), type := 3, pos := "encode.go:88", after := #[{ on := 3, ground := Ground.data }, { on := 4, ground := Ground.chain }, { on := 0, ground := Ground.phase }, { on := 1, ground := Ground.phase }, { on := 2, ground := Ground.phase }, { on := 3, ground := Ground.phase }, { on := 4, ground := Ground.phase }], guard := none }) (v := ?_) rfl (by kernel_rfl) (by kernel_rfl) (by kernel_rfl) (fun _ _ _ h => h) (Or.inl ⟨by rfl, ?_⟩) (by exact (by assumption)) ?_
    rotate_left 1
    · intro w hSw
      clear hSw
      go_simp
      try with_reducible rfl
    simp only [Act.put, List.setIfInBounds_toArray, List.set_cons_zero, List.set_cons_succ]
    refine wpAnyH_done (by kernel_rfl) ?_ _
    go_wp2_with (first
      | ((with_reducible refine wpl_isDst 24 ?_); refine wpl_tab _ _ rfl 3 rfl (cl lowL) (fun j v hv => ((S.low.cell (by have := HT.pos; show 3 < _; omega)).trans (HR.out j v hv))) _ Tryd.underlying65 rfl rfl rfl ?_)
      | ((with_reducible refine wpl_is ?_); first
        | (refine S.ld 3 _ rfl _ 0 rfl 0 (Cel.iv i) rfl _ rfl _ Tryd.underlying3 rfl rfl ?_)
        | (refine S.ld 3 _ rfl _ 5 rfl 0 (Cel.iv i) rfl _ rfl _ Tryd.underlying3 rfl rfl ?_)))
    have ST : Hid (posRel w lowL op b2 i (.int .i64 0) _) := ⟨0, Nat.zero_le _, rfl, rfl, S⟩
    clear S
    go_loopw [25] (fun j wr => posRel w lowL op b2 i j wr) (fun j _ => 16 - (intOf j).toNat)
    case atStart => exact ST.out
    case round =>
      clear ST
      obtain ⟨k, hk, rfl, he, S⟩ := hrel
      by_cases hlt : k < 16
      · have hlt' : (k : Int) < 16 := by omega
        have hat := arr_at lowL k (lowOp k) (low_at k hlt)
        have hd := pos_drop lowL op k (lowOp k) (low_at k hlt)
        rw [hd] at he
        clear hd
        generalize lowOp k = x at *
        by_cases hm : x = op
        · have hpos : Hid (posIn lowL op 0 = k) := he.trans (by simp [hm, nbeq])
          have hmm : ((x : Int) == i.op) = true := by rw [HOP.out, hm]; simp
          clear he hm
          have HA : Hid ((cl lowL).toArray[k]? = some (.int .i64 (x : Nat))) := hat
          clear hat
          go_wp2_with (first
            | (go_at_call 65; refine (three_4 16384 (by decide) (by decide) (k : Nat) i.n i.d _).mono ?_; rintro e wf ⟨rfl, rfl⟩)
            | ((with_reducible refine wpl_isDst 28 ?_); refine wpl_dst 28 rfl (.int .i64 (x : Nat)) (by go_simp; rw [idx_run _ 16 _ k (.int .i64 (x : Nat)) uT1 hlt rfl HA.out]; rfl) rfl ?_)
            | ((with_reducible refine wpl_is ?_); first
              | (refine S.sliceAny rfl 25 1 _ rfl (uc [three4 16384 (k : Nat) i.n i.d]) 22 (by kernel_rfl) ?_; clear S; intro g w1 S)
              | (refine S.ld 3 _ rfl _ 0 rfl 0 (Cel.iv i) rfl _ rfl _ Tryd.underlying3 rfl rfl ?_)))
          (try simp only [Exit.inBlock, Exit.then])
          go_ret
          refine ⟨_, rfl, ?_, S.low⟩
          rw [HD.out, hpos.out]
          rw [show Nat.blt k 16 = true by rw [nblt]; simpa using hlt]
          exact HLs.of_blk (S.at (i := 0) rfl).1
        · have hmm : ((x : Int) == i.op) = false := by rw [HOP.out]; simp; omega
          have he2 : Hid (posIn lowL op 0 = posIn (lowL.drop (k + 1)) op (k + 1)) := he.trans (by simp [hm, nbeq])
          clear he hm
          have HA : Hid ((cl lowL).toArray[k]? = some (.int .i64 (x : Nat))) := hat
          clear hat
          go_wp2_with (first
            | ((with_reducible refine wpl_isDst 28 ?_); refine wpl_dst 28 rfl (.int .i64 (x : Nat)) (by go_simp; rw [idx_run _ 16 _ k (.int .i64 (x : Nat)) uT1 hlt rfl HA.out]; rfl) rfl ?_)
            | ((with_reducible refine wpl_is ?_); first
              | (refine S.ld 3 _ rfl _ 0 rfl 0 (Cel.iv i) rfl _ rfl _ Tryd.underlying3 rfl rfl ?_)))
          go_roundw
          case rel => exact ⟨k + 1, hlt, by push_cast; rfl, he2.out, S⟩
          case measure =>
            simp only [intOf]
            omega
      · have hlt' : ¬ (k : Int) < 16 := by omega
        have hk16 : k = 16 := by have : k ≤ 16 := hk; omega
        subst hk16
        have hpos : Hid (posIn lowL op 0 = 99) := he
        clear he
        go_wp2
        go_ret
        refine ⟨_, rfl, ?_, S.low⟩
        rw [HD.out, hpos.out]
        exact HLs.nil _
  · have HD : Hid (lowZ i op = bif Nat.blt (posIn lowL op 0) 16 then [three4 16384 (posIn lowL op 0 : Nat) i.m i.d] else []) := by
      show lowZ i op = _
      unfold lowZ
      simp [nbeq, q]
    have t8 : (i.op == 8) = false := by rw [hop]; simp; omega
    have t10 : (i.op == 10) = false := by rw [hop]; simp; omega
    have t11 : (i.op == 11) = false := by rw [hop]; simp; omega
    have t4 : (i.op == 4) = false := by rw [hop]; simp; omega
    have t21 : (i.op == 21) = false := by rw [hop]; simp; omega
    clear hop q
    have HR : Hid (w.rangeAt 3 0 (cl lowL)) := low_range HT
    go_enter Tryd.func48, Tryd.ntmps48
    have S := SH.start w
    go_wp2_with (first
      | ((with_reducible refine wpl_is ?_); first
        | (refine SH.box (L := []) S rfl 29 _ rfl (Cel.iv i) rfl ?_; clear S; intro b2 w0 S)))
    refine wp_region_held_drew (S := fun w' => SH noZ w w' [(b2, Cel.iv i)]) (by kernel_rfl) (by exact S.drew) (fun _ => ?_)
    replace S := S.drew
    refine wpAnyH_take (i := 0) (v := ?_) rfl (by kernel_rfl) (by kernel_rfl) (by kernel_rfl) (fun _ _ _ h => h) (Or.inl ⟨by rfl, ?_⟩) (by exact (by assumption)) ?_
    rotate_left 1
    · intro w hSw
      clear hSw
      go_simp
      try with_reducible rfl
    simp only [Act.put, List.setIfInBounds_toArray, List.set_cons_zero, List.set_cons_succ]
    refine wpAnyH_take (i := 1) (v := _) rfl (by kernel_rfl) (by kernel_rfl) (by kernel_rfl) (fun _ _ _ h => h) (y_load1 (by rfl) _ _ rfl _ _ rfl 0 _ rfl _ rfl _ Tryd.underlying3 rfl) (by exact (by assumption)) ?_
    simp only [Act.put, List.setIfInBounds_toArray, List.set_cons_zero, List.set_cons_succ]
    refine wpAnyH_take (i := 2) (v := ?_) rfl (by kernel_rfl) (by kernel_rfl) (by kernel_rfl) (fun _ _ _ h => h) (Or.inl ⟨by rfl, ?_⟩) (by exact (by assumption)) ?_
    rotate_left 1
    · intro w hSw
      clear hSw
      go_simp
      try with_reducible rfl
    simp only [Act.put, List.setIfInBounds_toArray, List.set_cons_zero, List.set_cons_succ]
    refine wpAnyH_take (i := 3) (v := _) rfl (by kernel_rfl) (by kernel_rfl) (by kernel_rfl) (fun _ _ _ h => h) (y_load1 (by rfl) _ _ rfl _ _ rfl 0 _ rfl _ rfl _ Tryd.underlying3 rfl) (by exact (by assumption)) ?_
    simp only [Act.put, List.setIfInBounds_toArray, List.set_cons_zero, List.set_cons_succ]
    refine wpAnyH_take (i := 4) (v := ?_) rfl (by kernel_rfl) (by kernel_rfl) (by kernel_rfl) (fun _ _ _ h => h) (Or.inl ⟨by rfl, ?_⟩) (by exact (by assumption)) ?_
    rotate_left 1
    · intro w hSw
      clear hSw
      go_simp
      try with_reducible rfl
    simp only [Act.put, List.setIfInBounds_toArray, List.set_cons_zero, List.set_cons_succ]
    refine wpAnyH_take (i := 5) (oi := { dst := some 4, op := Op.assign (Operand.tmp 10), type := 3, pos := "encode.go:88", after := #[{ on := 3, ground := Ground.data }, { on := 4, ground := Ground.chain }, { on := 0, ground := Ground.phase }, { on := 1, ground := Ground.phase }, { on := 2, ground := Ground.phase }, { on := 3, ground := Ground.phase }, { on := 4, ground := Ground.phase }], guard := none }) (v := ?_) rfl (by kernel_rfl) (by kernel_rfl) (by kernel_rfl) (fun _ _ _ h => h) (Or.inl ⟨by rfl, ?_⟩) (by exact (by assumption)) ?_
    rotate_left 1
    · intro w hSw
      clear hSw
      go_simp
      try with_reducible rfl
    simp only [Act.put, List.setIfInBounds_toArray, List.set_cons_zero, List.set_cons_succ]
    refine wpAnyH_done (by kernel_rfl) ?_ _
    go_wp2_with (first
      | ((with_reducible refine wpl_isDst 24 ?_); refine wpl_tab _ _ rfl 3 rfl (cl lowL) (fun j v hv => ((S.low.cell (by have := HT.pos; show 3 < _; omega)).trans (HR.out j v hv))) _ Tryd.underlying65 rfl rfl rfl ?_)
      | ((with_reducible refine wpl_is ?_); first
        | (refine S.ld 3 _ rfl _ 0 rfl 0 (Cel.iv i) rfl _ rfl _ Tryd.underlying3 rfl rfl ?_)
        | (refine S.ld 3 _ rfl _ 5 rfl 0 (Cel.iv i) rfl _ rfl _ Tryd.underlying3 rfl rfl ?_)))
    have ST : Hid (posRel w lowL op b2 i (.int .i64 0) _) := ⟨0, Nat.zero_le _, rfl, rfl, S⟩
    clear S
    go_loopw [25] (fun j wr => posRel w lowL op b2 i j wr) (fun j _ => 16 - (intOf j).toNat)
    case atStart => exact ST.out
    case round =>
      clear ST
      obtain ⟨k, hk, rfl, he, S⟩ := hrel
      by_cases hlt : k < 16
      · have hlt' : (k : Int) < 16 := by omega
        have hat := arr_at lowL k (lowOp k) (low_at k hlt)
        have hd := pos_drop lowL op k (lowOp k) (low_at k hlt)
        rw [hd] at he
        clear hd
        generalize lowOp k = x at *
        by_cases hm : x = op
        · have hpos : Hid (posIn lowL op 0 = k) := he.trans (by simp [hm, nbeq])
          have hmm : ((x : Int) == i.op) = true := by rw [HOP.out, hm]; simp
          clear he hm
          have HA : Hid ((cl lowL).toArray[k]? = some (.int .i64 (x : Nat))) := hat
          clear hat
          go_wp2_with (first
            | (go_at_call 65; refine (three_4 16384 (by decide) (by decide) (k : Nat) i.m i.d _).mono ?_; rintro e wf ⟨rfl, rfl⟩)
            | ((with_reducible refine wpl_isDst 28 ?_); refine wpl_dst 28 rfl (.int .i64 (x : Nat)) (by go_simp; rw [idx_run _ 16 _ k (.int .i64 (x : Nat)) uT1 hlt rfl HA.out]; rfl) rfl ?_)
            | ((with_reducible refine wpl_is ?_); first
              | (refine S.sliceAny rfl 25 1 _ rfl (uc [three4 16384 (k : Nat) i.m i.d]) 22 (by kernel_rfl) ?_; clear S; intro g w1 S)
              | (refine S.ld 3 _ rfl _ 0 rfl 0 (Cel.iv i) rfl _ rfl _ Tryd.underlying3 rfl rfl ?_)))
          (try simp only [Exit.inBlock, Exit.then])
          go_ret
          refine ⟨_, rfl, ?_, S.low⟩
          rw [HD.out, hpos.out]
          rw [show Nat.blt k 16 = true by rw [nblt]; simpa using hlt]
          exact HLs.of_blk (S.at (i := 0) rfl).1
        · have hmm : ((x : Int) == i.op) = false := by rw [HOP.out]; simp; omega
          have he2 : Hid (posIn lowL op 0 = posIn (lowL.drop (k + 1)) op (k + 1)) := he.trans (by simp [hm, nbeq])
          clear he hm
          have HA : Hid ((cl lowL).toArray[k]? = some (.int .i64 (x : Nat))) := hat
          clear hat
          go_wp2_with (first
            | ((with_reducible refine wpl_isDst 28 ?_); refine wpl_dst 28 rfl (.int .i64 (x : Nat)) (by go_simp; rw [idx_run _ 16 _ k (.int .i64 (x : Nat)) uT1 hlt rfl HA.out]; rfl) rfl ?_)
            | ((with_reducible refine wpl_is ?_); first
              | (refine S.ld 3 _ rfl _ 0 rfl 0 (Cel.iv i) rfl _ rfl _ Tryd.underlying3 rfl rfl ?_)))
          go_roundw
          case rel => exact ⟨k + 1, hlt, by push_cast; rfl, he2.out, S⟩
          case measure =>
            simp only [intOf]
            omega
      · have hlt' : ¬ (k : Int) < 16 := by omega
        have hk16 : k = 16 := by have : k ≤ 16 := hk; omega
        subst hk16
        have hpos : Hid (posIn lowL op 0 = 99) := he
        clear he
        go_wp2
        go_ret
        refine ⟨_, rfl, ?_, S.low⟩
        rw [HD.out, hpos.out]
        exact HLs.nil _
end Go.Proofs.YtblcklknlfofgaaDoor
namespace Go.Proofs.YtblcklknlfofgaaDoor
open Go.ChangeShapes Go.WideShapes Go.ChangeAt Go.RowKit
set_option linter.unusedVariables false
set_option linter.unusedSimpArgs false

set_option maxHeartbeats 4000000 in
set_option maxRecDepth 100000 in
theorem unaryh_c (i : IV) (op : Nat) (hop : i.op = (op : Nat)) (w : World) (HT : LT w) : Calls Tryd.prog 49 #[i.val] w fun e w' => HRes w (unaryZ i op) e w' := by
  have HOP : Hid (i.op = (op : Nat)) := hop
  have HD : Hid (unaryZ i op = bif Nat.blt (posIn extL op 0) 4 then [three2 45568 (posIn extL op 0 : Nat) i.m i.d] else bif Nat.blt (posIn revL op 0) 4 then [three2 47616 (posIn revL op 0 : Nat) i.m i.d] else []) := rfl
  have HR : Hid (w.rangeAt 1 0 (cl extL)) := ext_range HT
  have HR2 : Hid (w.rangeAt 2 0 (cl revL)) := rev_range HT
  clear hop
  go_enter Tryd.func49, Tryd.ntmps49
  have S := SH.start w
  go_wp2_with (first
    | ((with_reducible refine wpl_isDst 7 ?_); refine wpl_tab _ _ rfl 1 rfl (cl extL) (fun j v hv => ((S.low.cell (by have := HT.pos; show 1 < _; omega)).trans (HR.out j v hv))) _ Tryd.underlying59 rfl rfl rfl ?_)
    | ((with_reducible refine wpl_is ?_); first
      | (refine SH.box (L := []) S rfl 29 _ rfl (Cel.iv i) rfl ?_; clear S; intro b2 w0 S) | fail))
  have ST : Hid (posRel w extL op b2 i (.int .i64 0) _) := ⟨0, Nat.zero_le _, rfl, rfl, S⟩
  clear S
  go_loopw [8] (fun j wr => posRel w extL op b2 i j wr) (fun j _ => 4 - (intOf j).toNat)
  case atStart => exact ST.out
  case round =>
    clear ST
    obtain ⟨k, hk, rfl, he, S⟩ := hrel
    by_cases hlt : k < 4
    · have hlt' : (k : Int) < 4 := by omega
      have hat := arr_at extL k (extOp k) (ext_at k hlt)
      have hd := pos_drop extL op k (extOp k) (ext_at k hlt)
      rw [hd] at he
      clear hd
      generalize extOp k = x at *
      have HA : Hid ((cl extL).toArray[k]? = some (.int .i64 (x : Nat))) := hat
      clear hat
      by_cases hm : x = op
      · have hpos : Hid (posIn extL op 0 = k) := he.trans (by simp [hm, nbeq])
        have hmm : ((x : Int) == i.op) = true := by rw [HOP.out, hm]; simp
        clear he hm
        go_wp2_with (first
          | (go_at_call 65; refine (three_2 45568 (by decide) (by decide) (k : Nat) i.m i.d _).mono ?_; rintro e wf ⟨rfl, rfl⟩)
          | ((with_reducible refine wpl_isDst 11 ?_); refine wpl_dst 11 rfl (.int .i64 (x : Nat)) (by go_simp; rw [idx_run _ 4 _ k (.int .i64 (x : Nat)) uT3 hlt rfl HA.out]; rfl) rfl ?_)
          | ((with_reducible refine wpl_is ?_); first
            | (refine S.sliceAny rfl 25 1 _ rfl (uc [three2 45568 (k : Nat) i.m i.d]) 22 (by kernel_rfl) ?_; clear S; intro g w1 S)
            | (refine S.ld 3 _ rfl _ 0 rfl 0 (Cel.iv i) rfl _ rfl _ Tryd.underlying3 rfl rfl ?_)
            | (refine S.ld 3 _ rfl _ 3 rfl 0 (Cel.iv i) rfl _ rfl _ Tryd.underlying3 rfl rfl ?_)
            | (refine S.ld 3 _ rfl _ 4 rfl 0 (Cel.iv i) rfl _ rfl _ Tryd.underlying3 rfl rfl ?_)
            | (refine S.ld 3 _ rfl _ 5 rfl 0 (Cel.iv i) rfl _ rfl _ Tryd.underlying3 rfl rfl ?_)
            | (refine S.ld 3 _ rfl _ 6 rfl 0 (Cel.iv i) rfl _ rfl _ Tryd.underlying3 rfl rfl ?_)
            | (refine S.ld 27 _ rfl _ 8 rfl 0 (Cel.iv i) rfl _ rfl _ Tryd.underlying27 rfl rfl ?_)
            | (refine S.ld 3 _ rfl _ 12 rfl 0 (Cel.iv i) rfl _ rfl _ Tryd.underlying3 rfl rfl ?_)))
        (try simp only [Exit.inBlock, Exit.then])
        go_ret
        refine ⟨_, rfl, ?_, S.low⟩
        rw [HD.out, hpos.out]
        rw [show Nat.blt k 4 = true by rw [nblt]; simpa using hlt]
        exact HLs.of_blk (S.at (i := 0) rfl).1
      · have hmm : ((x : Int) == i.op) = false := by rw [HOP.out]; simp; omega
        have he2 : Hid (posIn extL op 0 = posIn (extL.drop (k + 1)) op (k + 1)) := he.trans (by simp [hm, nbeq])
        clear he hm
        go_wp2_with (first
          | ((with_reducible refine wpl_isDst 11 ?_); refine wpl_dst 11 rfl (.int .i64 (x : Nat)) (by go_simp; rw [idx_run _ 4 _ k (.int .i64 (x : Nat)) uT3 hlt rfl HA.out]; rfl) rfl ?_)
          | ((with_reducible refine wpl_is ?_); first
            | (refine S.ld 3 _ rfl _ 0 rfl 0 (Cel.iv i) rfl _ rfl _ Tryd.underlying3 rfl rfl ?_)
            | (refine S.ld 3 _ rfl _ 3 rfl 0 (Cel.iv i) rfl _ rfl _ Tryd.underlying3 rfl rfl ?_)
            | (refine S.ld 3 _ rfl _ 4 rfl 0 (Cel.iv i) rfl _ rfl _ Tryd.underlying3 rfl rfl ?_)
            | (refine S.ld 3 _ rfl _ 5 rfl 0 (Cel.iv i) rfl _ rfl _ Tryd.underlying3 rfl rfl ?_)
            | (refine S.ld 3 _ rfl _ 6 rfl 0 (Cel.iv i) rfl _ rfl _ Tryd.underlying3 rfl rfl ?_)
            | (refine S.ld 27 _ rfl _ 8 rfl 0 (Cel.iv i) rfl _ rfl _ Tryd.underlying27 rfl rfl ?_)
            | (refine S.ld 3 _ rfl _ 12 rfl 0 (Cel.iv i) rfl _ rfl _ Tryd.underlying3 rfl rfl ?_)))
        go_roundw
        case rel => exact ⟨k + 1, hlt, by push_cast; rfl, he2.out, S⟩
        case measure =>
          simp only [intOf]
          omega
    · have hlt' : ¬ (k : Int) < 4 := by omega
      have hk4 : k = 4 := by have : k ≤ 4 := hk; omega
      subst hk4
      have hp1 : Hid (posIn extL op 0 = 99) := he
      clear he hlt hk
      go_wp2_with (first
        | ((with_reducible refine wpl_isDst 24 ?_); refine wpl_tab _ _ rfl 2 rfl (cl revL) (fun j v hv => ((S.low.cell (by have := HT.pos; show 2 < _; omega)).trans (HR2.out j v hv))) _ Tryd.underlying59 rfl rfl rfl ?_))
      obtain ⟨wO, rfl⟩ : ∃ x, x = wr := ⟨wr, rfl⟩
      have ST : Hid (posRel w revL op b2 i (.int .i64 0) wO) := ⟨0, Nat.zero_le _, rfl, rfl, S⟩
      clear S
      go_loopw [25] (fun j wq => posRel w revL op b2 i j wq) (fun j _ => 4 - (intOf j).toNat)
      case atStart => exact ST.out
      case round =>
        clear ST
        obtain ⟨k, hk, rfl, he, S⟩ := hrel
        by_cases hlt : k < 4
        · have hlt' : (k : Int) < 4 := by omega
          have hat := arr_at revL k (revOp k) (rev_at k hlt)
          have hd := pos_drop revL op k (revOp k) (rev_at k hlt)
          rw [hd] at he
          clear hd
          generalize revOp k = x at *
          have HA : Hid ((cl revL).toArray[k]? = some (.int .i64 (x : Nat))) := hat
          clear hat
          by_cases hm : x = op
          · have hpos : Hid (posIn revL op 0 = k) := he.trans (by simp [hm, nbeq])
            have hmm : ((x : Int) == i.op) = true := by rw [HOP.out, hm]; simp
            clear he hm
            go_wp2_with (first
              | (go_at_call 65; refine (three_2 47616 (by decide) (by decide) (k : Nat) i.m i.d _).mono ?_; rintro e wf ⟨rfl, rfl⟩)
              | ((with_reducible refine wpl_isDst 28 ?_); refine wpl_dst 28 rfl (.int .i64 (x : Nat)) (by go_simp; rw [idx_run _ 4 _ k (.int .i64 (x : Nat)) uT4 hlt rfl HA.out]; rfl) rfl ?_)
              | ((with_reducible refine wpl_is ?_); first
                | (refine S.sliceAny rfl 25 1 _ rfl (uc [three2 47616 (k : Nat) i.m i.d]) 22 (by kernel_rfl) ?_; clear S; intro g w1 S)
                | (refine S.ld 3 _ rfl _ 0 rfl 0 (Cel.iv i) rfl _ rfl _ Tryd.underlying3 rfl rfl ?_)
                | (refine S.ld 3 _ rfl _ 3 rfl 0 (Cel.iv i) rfl _ rfl _ Tryd.underlying3 rfl rfl ?_)
                | (refine S.ld 3 _ rfl _ 4 rfl 0 (Cel.iv i) rfl _ rfl _ Tryd.underlying3 rfl rfl ?_)
                | (refine S.ld 3 _ rfl _ 5 rfl 0 (Cel.iv i) rfl _ rfl _ Tryd.underlying3 rfl rfl ?_)
                | (refine S.ld 3 _ rfl _ 6 rfl 0 (Cel.iv i) rfl _ rfl _ Tryd.underlying3 rfl rfl ?_)
                | (refine S.ld 27 _ rfl _ 8 rfl 0 (Cel.iv i) rfl _ rfl _ Tryd.underlying27 rfl rfl ?_)
                | (refine S.ld 3 _ rfl _ 12 rfl 0 (Cel.iv i) rfl _ rfl _ Tryd.underlying3 rfl rfl ?_)))
            (try simp only [Exit.inBlock, Exit.then])
            go_ret
            refine ⟨_, rfl, ?_, S.low⟩
            rw [HD.out, hp1.out, hpos.out]
            rw [show Nat.blt k 4 = true by rw [nblt]; simpa using hlt]
            exact HLs.of_blk (S.at (i := 0) rfl).1
          · have hmm : ((x : Int) == i.op) = false := by rw [HOP.out]; simp; omega
            have he2 : Hid (posIn revL op 0 = posIn (revL.drop (k + 1)) op (k + 1)) := he.trans (by simp [hm, nbeq])
            clear he hm
            go_wp2_with (first
              | ((with_reducible refine wpl_isDst 28 ?_); refine wpl_dst 28 rfl (.int .i64 (x : Nat)) (by go_simp; rw [idx_run _ 4 _ k (.int .i64 (x : Nat)) uT4 hlt rfl HA.out]; rfl) rfl ?_)
              | ((with_reducible refine wpl_is ?_); first
                | (refine S.ld 3 _ rfl _ 0 rfl 0 (Cel.iv i) rfl _ rfl _ Tryd.underlying3 rfl rfl ?_)
                | (refine S.ld 3 _ rfl _ 3 rfl 0 (Cel.iv i) rfl _ rfl _ Tryd.underlying3 rfl rfl ?_)
                | (refine S.ld 3 _ rfl _ 4 rfl 0 (Cel.iv i) rfl _ rfl _ Tryd.underlying3 rfl rfl ?_)
                | (refine S.ld 3 _ rfl _ 5 rfl 0 (Cel.iv i) rfl _ rfl _ Tryd.underlying3 rfl rfl ?_)
                | (refine S.ld 3 _ rfl _ 6 rfl 0 (Cel.iv i) rfl _ rfl _ Tryd.underlying3 rfl rfl ?_)
                | (refine S.ld 27 _ rfl _ 8 rfl 0 (Cel.iv i) rfl _ rfl _ Tryd.underlying27 rfl rfl ?_)
                | (refine S.ld 3 _ rfl _ 12 rfl 0 (Cel.iv i) rfl _ rfl _ Tryd.underlying3 rfl rfl ?_)))
            go_roundw
            case rel => exact ⟨k + 1, hlt, by push_cast; rfl, he2.out, S⟩
            case measure =>
              simp only [intOf]
              omega
        · have hlt' : ¬ (k : Int) < 4 := by omega
          have hk4 : k = 4 := by have : k ≤ 4 := hk; omega
          subst hk4
          have hpos : Hid (posIn revL op 0 = 99) := he
          clear he
          go_wp2
          go_ret
          refine ⟨_, rfl, ?_, S.low⟩
          rw [HD.out, hp1.out, hpos.out]
          exact HLs.nil _
end Go.Proofs.YtblcklknlfofgaaDoor
namespace Go.Proofs.YtblcklknlfofgaaDoor
open Go.ChangeShapes Go.WideShapes Go.ChangeAt Go.RowKit
set_option linter.unusedVariables false
set_option linter.unusedSimpArgs false

theorem orMem (v k : Nat) (hv : v < 512) (hk : k < 8) : bits .or .u16 ((20480 + v : Nat) : Int) ((k * 512 : Nat) : Int) = ((20480 + v + k * 512 : Nat) : Int) := by
  rw [u16_or_nat _ _ (by omega) (by omega)]
  have e3 : (2 ^ 9 * 40 ||| 2 ^ 9 * k : Nat) = 2 ^ 9 * (40 + k) := by
    rcases (show k = 0 ∨ k = 1 ∨ k = 2 ∨ k = 3 ∨ k = 4 ∨ k = 5 ∨ k = 6 ∨ k = 7 by omega) with rfl | rfl | rfl | rfl | rfl | rfl | rfl | rfl <;> decide
  have h1 : ((2 ^ 9 * 40 + v) ||| (2 ^ 9 * k) : Nat) = 2 ^ 9 * (40 + k) + v := by
    rw [Nat.two_pow_add_eq_or_of_lt hv 40, Nat.two_pow_add_eq_or_of_lt hv (40 + k), Nat.or_assoc, Nat.or_comm v, ← Nat.or_assoc, e3]
  have h2 : ((20480 + v) ||| (k * 512) : Nat) = 20480 + v + k * 512 := by
    rw [show (20480 + v : Nat) = 2 ^ 9 * 40 + v by omega, show (k * 512 : Nat) = 2 ^ 9 * k by omega, h1]
    omega
  rw [h2]
theorem mem_once : ((List.range 8).all fun k => (List.range 8).all fun j => decide (memOp k = memOp j → k = j)) = true := by decide
/-- The word so far: the place of op, once it has been gone by. -/
def byV (b op k : Nat) : Nat := b + (bif Nat.blt (posIn memL op 0) k then posIn memL op 0 * 512 else 0)
def byRel (w : World) (b op b2 : Nat) (i : IV) (v j : Value) (wr : World) : Prop := ∃ k : Nat, k ≤ 8 ∧ j = .int .i64 k ∧ v = .int .u16 (byV b op k : Nat) ∧ (k ≤ posIn memL op 0 → posIn memL op 0 = posIn (memL.drop k) op k) ∧ SH noZ w wr [(b2, Cel.iv i)]
theorem pos_lt : ∀ (l : List Nat) (op k : Nat), posIn l op k = 99 ∨ (k ≤ posIn l op k ∧ posIn l op k < k + l.length)
  | [], op, k => .inl rfl
  | h :: t, op, k => by
    unfold posIn
    cases hb : Nat.beq h op
    · simp only [cond_false]
      rcases pos_lt t op (k + 1) with e | ⟨e1, e2⟩
      · exact .inl e
      · refine .inr ⟨by omega, ?_⟩
        simp only [List.length_cons]
        omega
    · simp only [cond_true, List.length_cons]
      exact .inr ⟨Nat.le_refl _, by omega⟩
theorem pos_none : ∀ (l : List Nat) (op k : Nat), (∀ x ∈ l, x ≠ op) → posIn l op k = 99
  | [], op, k, _ => rfl
  | h :: t, op, k, hx => by
    unfold posIn
    rw [nbeq]
    have : h ≠ op := hx h (by simp)
    simp only [this, decide_false, cond_false]
    exact pos_none t op (k + 1) fun x hx' => hx x (by simp [hx'])
theorem pos_is : ∀ (l : List Nat) (op j : Nat), j ≠ 99 → posIn l op 0 = j → l[j]? = some op := by
  have key : ∀ (l : List Nat) (op j k : Nat), j ≠ 99 → posIn l op k = j → k ≤ j ∧ l[j - k]? = some op := by
    intro l
    induction l with
    | nil => intro op j k h1 h2; exact absurd h2.symm h1
    | cons h t ih =>
      intro op j k h1 h2
      unfold posIn at h2
      rw [nbeq] at h2
      by_cases e : h = op
      · simp only [e, decide_true, cond_true] at h2
        subst h2
        simp [e]
      · simp only [e, decide_false, cond_false] at h2
        obtain ⟨h3, h4⟩ := ih op j (k + 1) h1 h2
        refine ⟨by omega, ?_⟩
        rw [show j - k = (j - (k + 1)) + 1 by omega, List.getElem?_cons_succ]
        exact h4
  intro l op j h1 h2
  have := (key l op j 0 h1 h2).2
  simpa using this
set_option maxHeartbeats 4000000 in
set_option maxRecDepth 100000 in
theorem byReg_c (i : IV) (op : Nat) (hop : i.op = (op : Nat)) (w : World) (HT : LT w) : Calls Tryd.prog 69 #[i.val] w fun e w' => e = .returned (.int .u16 (byRegZ i op : Nat)) ∧ Below w.heap.size w w' := by
  have HOP : Hid (i.op = (op : Nat)) := hop
  obtain ⟨B, hB⟩ : ∃ B, three3 20480 i.m i.n i.d = B := ⟨_, rfl⟩
  have hB1 : ∃ v, v < 512 ∧ B = 20480 + v := by
    have a1 : putN i.m 6 3 < 512 := putN_lt _ 6 3
    have a2 : putN i.n 3 3 < 64 := putN_lt _ 3 3
    have a3 : putN i.d 0 3 < 8 := putN_lt _ 0 3
    have m1 : putN i.m 6 3 % 64 = 0 := putN_mod _ 6 3 6 (by decide)
    have m2 : putN i.n 3 3 % 8 = 0 := putN_mod _ 3 3 3 (by decide)
    exact ⟨putN i.m 6 3 + putN i.n 3 3 + putN i.d 0 3, by omega, by rw [← hB]; unfold three3; omega⟩
  have HD : Hid (byRegZ i op = byV B op 8) := by
    show byRegZ i op = _
    unfold byRegZ byV
    rw [hB]
  have C3 : Hid (∀ w, Calls Tryd.prog 65 #[.int .u16 20480, .int .i64 i.m, .int .i64 3, .int .i64 i.n, .int .i64 i.d] w fun e w' => e = .returned (.int .u16 (B : Nat)) ∧ w' = w) := fun w => by
    have := three_3 20480 (by decide) (by decide) i.m i.n i.d w
    rw [hB] at this
    exact this
  have HR : Hid (w.rangeAt 0 0 (cl memL)) := mem_range HT
  have HB1 : Hid (∃ v, v < 512 ∧ B = 20480 + v) := hB1
  have BB : B < 65536 := by obtain ⟨v, h1, h2⟩ := hB1; omega
  clear hop hB hB1
  go_enter Tryd.func69, Tryd.ntmps69
  have S := SH.start w
  go_wp2_with (first
    | (go_at_call 65; with_reducible refine (C3.out _).mono ?_; rintro e wf ⟨rfl, rfl⟩)
    | ((with_reducible refine wpl_isDst 13 ?_); refine wpl_tab _ _ rfl 0 rfl (cl memL) (fun j v hv => ((S.low.cell (by have := HT.pos; show 0 < _; omega)).trans (HR.out j v hv))) _ Tryd.underlying50 rfl rfl rfl ?_)
    | ((with_reducible refine wpl_is ?_); first
      | (refine SH.box (L := []) S rfl 29 _ rfl (Cel.iv i) rfl ?_; clear S; intro b2 w0 S)
      | (refine S.ld 3 _ rfl _ 0 rfl 0 (Cel.iv i) rfl _ rfl _ Tryd.underlying3 rfl rfl ?_)
      | (refine S.ld 3 _ rfl _ 3 rfl 0 (Cel.iv i) rfl _ rfl _ Tryd.underlying3 rfl rfl ?_)
      | (refine S.ld 3 _ rfl _ 4 rfl 0 (Cel.iv i) rfl _ rfl _ Tryd.underlying3 rfl rfl ?_)
      | (refine S.ld 3 _ rfl _ 5 rfl 0 (Cel.iv i) rfl _ rfl _ Tryd.underlying3 rfl rfl ?_)
      | (refine S.ld 3 _ rfl _ 6 rfl 0 (Cel.iv i) rfl _ rfl _ Tryd.underlying3 rfl rfl ?_)
      | (refine S.ld 27 _ rfl _ 8 rfl 0 (Cel.iv i) rfl _ rfl _ Tryd.underlying27 rfl rfl ?_)
      | (refine S.ld 3 _ rfl _ 12 rfl 0 (Cel.iv i) rfl _ rfl _ Tryd.underlying3 rfl rfl ?_)))
  have ST : Hid (byRel w B op b2 i (.int .u16 (B : Nat)) (.int .i64 0) _) := ⟨0, Nat.zero_le _, rfl, by simp [byV, nblt], fun _ => rfl, S⟩
  clear S
  go_loopw [3, 14] (fun v j wr => byRel w B op b2 i v j wr) (fun _ j _ => 8 - (intOf j).toNat)
  case atStart => exact ST.out
  case round =>
    clear ST
    obtain ⟨k, hk, rfl, rfl, he, S⟩ := hrel
    by_cases hlt : k < 8
    · have hlt' : (k : Int) < 8 := by omega
      have hat := arr_at memL k (memOp k) (mem_at k hlt)
      have hd := pos_drop memL op k (memOp k) (mem_at k hlt)
      have hone : ∀ j, j < 8 → memOp k = memOp j → k = j := fun j hj e => by
        have h := mem_once
        simp only [List.all_eq_true, List.mem_range, decide_eq_true_eq] at h
        exact h k hlt j hj e
      have hplt := pos_lt memL op 0
      -- where op stands
      have hst : memOp k = op → posIn memL op 0 = k := fun e => by
        rcases Nat.lt_or_ge (posIn memL op 0) k with hl | hg
        · exfalso
          have h8 : posIn memL op 0 < 8 := by omega
          have hx := pos_is memL op (posIn memL op 0) (by omega) rfl
          have := mem_at _ h8
          rw [hx] at this
          have h2 := hone _ h8 (e.trans (Option.some.inj this))
          omega
        · rw [he hg, hd, nbeq]
          simp [e]
      have hns : memOp k ≠ op → k ≤ posIn memL op 0 → k + 1 ≤ posIn memL op 0 ∧ posIn memL op 0 = posIn (memL.drop (k + 1)) op (k + 1) := fun e hg => by
        have h1 := he hg
        rw [hd, nbeq] at h1
        simp only [e, decide_false, cond_false] at h1
        refine ⟨?_, h1⟩
        rcases pos_lt (memL.drop (k + 1)) op (k + 1) with h2 | h2 <;> omega
      clear hd hone he
      generalize memOp k = x at *
      have HA : Hid ((cl memL).toArray[k]? = some (.int .i64 (x : Nat))) := hat
      have HS : Hid (x = op → posIn memL op 0 = k) := hst
      have HN : Hid (x ≠ op → k ≤ posIn memL op 0 → k + 1 ≤ posIn memL op 0 ∧ posIn memL op 0 = posIn (memL.drop (k + 1)) op (k + 1)) := hns
      clear hat hst hns hplt
      by_cases hm : x = op
      · have hpos := HS.out hm
        have hV : Hid (byV B op k = B ∧ byV B op (k + 1) = B + k * 512) := by
          unfold byV
          rw [hpos, nblt, nblt]
          constructor
          · simp
          · simp
        obtain ⟨v, hv1, hv2⟩ := HB1.out
        have ho : bits .or .u16 (B : Int) ((k * 512 : Nat) : Int) = ((B + k * 512 : Nat) : Int) := by rw [hv2]; exact orMem v k hv1 hlt
        have hp9 : putN (k : Nat) 9 3 = k * 512 := by
          unfold putN
          have : ((k : Int) % 2 ^ 3).toNat = k := by omega
          rw [this]
        have CP : Hid (∀ w, Calls Tryd.prog 68 #[.int .i64 (k : Nat), .int .i64 9, .int .i64 3] w fun e w' => e = .returned (.int .u16 ((k * 512 : Nat) : Int)) ∧ w' = w) := fun w => by
          have := put_9_3 (k : Nat) w
          rw [hp9] at this
          exact this
        have hmm : ((x : Int) == i.op) = true := by rw [HOP.out, hm]; simp
        have HPP : Hid (posIn memL op 0 = k) := hpos
        rw [hV.out.1]
        generalize hKK : k * 512 = KK at *
        generalize hBK : B + KK = BK at *
        have HV2 : Hid (byV B op (k + 1) = BK) := hV.out.2
        clear hm hpos hV hv1 hv2 hp9
        go_wp2_with (first
          | (go_at_call 68; with_reducible refine (CP.out _).mono ?_; rintro e wf ⟨rfl, rfl⟩)
          | ((with_reducible refine wpl_isDst 17 ?_); refine wpl_dst 17 rfl (.int .i64 (x : Nat)) (by go_simp; rw [idx_run _ 8 _ k (.int .i64 (x : Nat)) uT2 hlt rfl HA.out]; rfl) rfl ?_)
          | ((with_reducible refine wpl_is ?_); first
            | (refine S.ld 3 _ rfl _ 0 rfl 0 (Cel.iv i) rfl _ rfl _ Tryd.underlying3 rfl rfl ?_)
            | (refine S.ld 3 _ rfl _ 3 rfl 0 (Cel.iv i) rfl _ rfl _ Tryd.underlying3 rfl rfl ?_)
            | (refine S.ld 3 _ rfl _ 4 rfl 0 (Cel.iv i) rfl _ rfl _ Tryd.underlying3 rfl rfl ?_)
            | (refine S.ld 3 _ rfl _ 5 rfl 0 (Cel.iv i) rfl _ rfl _ Tryd.underlying3 rfl rfl ?_)
            | (refine S.ld 3 _ rfl _ 6 rfl 0 (Cel.iv i) rfl _ rfl _ Tryd.underlying3 rfl rfl ?_)
            | (refine S.ld 27 _ rfl _ 8 rfl 0 (Cel.iv i) rfl _ rfl _ Tryd.underlying27 rfl rfl ?_)
            | (refine S.ld 3 _ rfl _ 12 rfl 0 (Cel.iv i) rfl _ rfl _ Tryd.underlying3 rfl rfl ?_)))
        go_roundw
        case rel => exact ⟨k + 1, hlt, by push_cast; rfl, by rw [HV2.out], fun h => by have := HPP.out; omega, S⟩
        case measure =>
          simp only [intOf]
          omega
      · have hmm : ((x : Int) == i.op) = false := by rw [HOP.out]; simp; omega
        have HV : Hid (byV B op k = byV B op (k + 1)) := by
          show byV B op k = byV B op (k + 1)
          unfold byV
          rw [nblt, nblt]
          rcases Nat.lt_or_ge (posIn memL op 0) k with hl | hg
          · simp [hl, Nat.lt_succ_of_lt hl]
          · have := (HN.out hm hg).1
            simp [Nat.not_lt_of_ge hg, Nat.not_lt_of_ge this]
        have HN2 : Hid (k + 1 ≤ posIn memL op 0 → posIn memL op 0 = posIn (memL.drop (k + 1)) op (k + 1)) := fun h => (HN.out hm (by omega)).2
        clear hm
        generalize hVV : byV B op k = VV at *
        go_wp2_with (first
          | ((with_reducible refine wpl_isDst 17 ?_); refine wpl_dst 17 rfl (.int .i64 (x : Nat)) (by go_simp; rw [idx_run _ 8 _ k (.int .i64 (x : Nat)) uT2 hlt rfl HA.out]; rfl) rfl ?_)
          | ((with_reducible refine wpl_is ?_); first
            | (refine S.ld 3 _ rfl _ 0 rfl 0 (Cel.iv i) rfl _ rfl _ Tryd.underlying3 rfl rfl ?_)
            | (refine S.ld 3 _ rfl _ 3 rfl 0 (Cel.iv i) rfl _ rfl _ Tryd.underlying3 rfl rfl ?_)
            | (refine S.ld 3 _ rfl _ 4 rfl 0 (Cel.iv i) rfl _ rfl _ Tryd.underlying3 rfl rfl ?_)
            | (refine S.ld 3 _ rfl _ 5 rfl 0 (Cel.iv i) rfl _ rfl _ Tryd.underlying3 rfl rfl ?_)
            | (refine S.ld 3 _ rfl _ 6 rfl 0 (Cel.iv i) rfl _ rfl _ Tryd.underlying3 rfl rfl ?_)
            | (refine S.ld 27 _ rfl _ 8 rfl 0 (Cel.iv i) rfl _ rfl _ Tryd.underlying27 rfl rfl ?_)
            | (refine S.ld 3 _ rfl _ 12 rfl 0 (Cel.iv i) rfl _ rfl _ Tryd.underlying3 rfl rfl ?_)))
        go_roundw
        case rel => exact ⟨k + 1, hlt, by push_cast; rfl, by rw [← HV.out], HN2.out, S⟩
        case measure =>
          simp only [intOf]
          omega
    · have hlt' : ¬ (k : Int) < 8 := by omega
      have hk8 : k = 8 := by omega
      subst hk8
      clear he
      generalize byV B op 8 = VV at *
      go_wp2
      go_ret
      exact ⟨by rw [HD.out]; rfl, S.low⟩
end Go.Proofs.YtblcklknlfofgaaDoor
namespace Go.Proofs.YtblcklknlfofgaaDoor
open Go.RowKit
set_option linter.unusedVariables false
set_option linter.unusedSimpArgs false

def pN (v a s : Nat) : Nat := v % 2 ^ s * 2 ^ a
theorem putN_nat (v a s : Nat) : putN (v : Int) a s = pN v a s := by
  unfold putN pN
  rw [show ((v : Int) % 2 ^ s) = ((v % 2 ^ s : Nat) : Int) by push_cast; rfl, Int.toNat_natCast]
theorem div_nat (v k : Nat) : ((v : Int) / (k : Int)) = ((v / k : Nat) : Int) := by simp
def t5 (row v n d : Nat) : Nat := row + pN v 6 5 + pN n 3 3 + pN d 0 3
def t4 (row v n d : Nat) : Nat := row + pN v 6 4 + pN n 3 3 + pN d 0 3
def t3 (row v n d : Nat) : Nat := row + pN v 6 3 + pN n 3 3 + pN d 0 3
def t2 (row v n d : Nat) : Nat := row + pN v 6 2 + pN n 3 3 + pN d 0 3
def t8 (row r v : Nat) : Nat := row + pN r 8 3 + pN v 0 8
def tH (page d m : Nat) : Nat := page + pN (d / 8) 7 1 + pN m 3 4 + pN d 0 3
theorem t5_nat (row v n d : Nat) : three5 row v n d = t5 row v n d := by simp only [three5, t5, putN_nat]
theorem t4_nat (row v n d : Nat) : three4 row v n d = t4 row v n d := by simp only [three4, t4, putN_nat]
theorem t3_nat (row v n d : Nat) : three3 row v n d = t3 row v n d := by simp only [three3, t3, putN_nat]
theorem t2_nat (row v n d : Nat) : three2 row v n d = t2 row v n d := by simp only [three2, t2, putN_nat]
theorem t8_nat (row r v : Nat) : two8 row r v = t8 row r v := by simp only [two8, t8, putN_nat]
theorem tH_nat (page d m : Nat) : hiN page d m = tH page d m := by
  unfold hiN tH
  rw [show ((d : Int) / 8) = ((d / 8 : Nat) : Int) by simp]
  simp only [putN_nat]
theorem cond_cast (b : Bool) (x y : Nat) : (bif b then (x : Int) else (y : Int)) = ((bif b then x else y : Nat) : Int) := by cases b <;> rfl
def lowNn (i : NV) (op : Nat) : List Nat :=
  bif Nat.blt (posIn lowL op 0) 16 then [t4 16384 (posIn lowL op 0) (bif Nat.beq op 4 || Nat.beq op 21 then i.n else i.m) (bif Nat.beq op 8 || (Nat.beq op 10 || Nat.beq op 11) then i.n else i.d)] else []
def dataNn (i : NV) (op : Nat) : List Nat :=
  bif Nat.beq op 13 then [t5 0 0 i.m i.d, t8 8192 i.d i.imm, tH 17920 i.d i.m]
  else bif Nat.beq op 17 then t5 0 i.imm i.n i.d :: lowNn i op
  else bif Nat.beq op 18 then t5 2048 i.imm i.n i.d :: lowNn i op
  else bif Nat.beq op 19 then t5 4096 i.imm i.n i.d :: lowNn i op
  else bif Nat.beq op 5 then [t3 6144 i.m i.n i.d, t3 7168 i.imm i.n i.d, t8 12288 i.d i.imm, tH 17408 i.d i.m, t8 43008 i.d (i.imm / 4), 45056 + pN (i.imm / 4) 0 7]
  else bif Nat.beq op 3 then [t3 6656 i.m i.n i.d, t3 7680 i.imm i.n i.d, t8 14336 i.d i.imm, 45184 + pN (i.imm / 4) 0 7]
  else bif Nat.beq op 10 then (t8 10240 i.n i.imm :: lowNn i op) ++ [tH 17664 i.n i.m]
  else bif Nat.beq op 43 then [t8 40960 i.d (i.imm / 4)]
  else lowNn i op
def unaryNn (i : NV) (op : Nat) : List Nat :=
  bif Nat.blt (posIn extL op 0) 4 then [t2 45568 (posIn extL op 0) i.m i.d]
  else bif Nat.blt (posIn revL op 0) 4 then [t2 47616 (posIn revL op 0) i.m i.d] else []
def byRegNn (i : NV) (op : Nat) : Nat := t3 20480 i.m i.n i.d + (bif Nat.blt (posIn memL op 0) 8 then posIn memL op 0 * 512 else 0)
def memNn (i : NV) (op : Nat) : List Nat :=
  bif Nat.beq op 49 then [byRegNn i op, t5 24576 (i.imm / 4) i.n i.d, t8 36864 i.d (i.imm / 4)]
  else bif Nat.beq op 44 then [t8 18432 i.d (i.imm / 4), byRegNn i op, t5 26624 (i.imm / 4) i.n i.d, t8 38912 i.d (i.imm / 4)]
  else bif Nat.beq op 50 then [byRegNn i op, t5 28672 i.imm i.n i.d]
  else bif Nat.beq op 45 then [byRegNn i op, t5 30720 i.imm i.n i.d]
  else bif Nat.beq op 51 then [byRegNn i op, t5 32768 (i.imm / 2) i.n i.d]
  else bif Nat.beq op 46 then [byRegNn i op, t5 34816 (i.imm / 2) i.n i.d]
  else [byRegNn i op]
def manyNn (i : NV) (op : Nat) : List Nat :=
  bif Nat.beq op 52 then [48128 + pN (i.list / 32768) 8 1 + pN i.list 0 8, t8 51200 i.n i.list]
  else [46080 + pN (i.list / 16384) 8 1 + pN i.list 0 8, t8 49152 i.n i.list]
def cmpNn (page : Nat) (i : NV) : Nat := page + pN (i.imm / 64) 9 1 + pN (i.imm / 2) 3 5 + pN i.n 0 3
def brNn (i : NV) (op : Nat) : List Nat :=
  bif Nat.beq op 54 then [53248 + pN i.cond 8 4 + pN (i.imm / 2) 0 8, 57344 + pN (i.imm / 2) 0 11]
  else bif Nat.beq op 56 then [18176 + pN i.m 3 4]
  else bif Nat.beq op 57 then [18304 + pN i.m 3 4]
  else bif Nat.beq op 58 then [cmpNn 45312 i]
  else bif Nat.beq op 59 then [cmpNn 47360 i]
  else []
def othNn (i : NV) (op : Nat) : List Nat :=
  bif Nat.beq op 61 then [48896 + pN i.imm 4 4]
  else bif Nat.beq op 60 then [48896 + pN i.imm 0 8]
  else bif Nat.beq op 62 then [57088 + pN i.imm 0 8]
  else bif Nat.beq op 63 then [48640 + pN i.imm 0 8]
  else []
def halvesNn (i : NV) : List Nat :=
  bif Nat.beq i.op 0 then []
  else bif Nat.ble i.op 20 || Nat.beq i.op 43 then dataNn i i.op
  else bif Nat.ble i.op 29 then lowNn i i.op
  else bif Nat.ble i.op 42 then unaryNn i i.op
  else bif Nat.ble i.op 51 then memNn i i.op
  else bif Nat.ble i.op 53 then manyNn i i.op
  else bif Nat.ble i.op 59 then brNn i i.op
  else bif Nat.ble i.op 65 then othNn i i.op
  else []
theorem d4 (v : Nat) : ((v : Int) / 4) = ((v / 4 : Nat) : Int) := by simp
theorem d2 (v : Nat) : ((v : Int) / 2) = ((v / 2 : Nat) : Int) := by simp
theorem d64 (v : Nat) : ((v : Int) / 64) = ((v / 64 : Nat) : Int) := by simp
theorem d15 (v : Nat) : ((v : Int) / 32768) = ((v / 32768 : Nat) : Int) := by simp
theorem d14 (v : Nat) : ((v : Int) / 16384) = ((v / 16384 : Nat) : Int) := by simp
theorem lowZ_nat (i : NV) (op : Nat) : lowZ i.iv op = lowNn i op := by
  simp only [lowZ, lowNn, NV.iv, cond_cast, t4_nat]
theorem dataZ_nat (i : NV) (op : Nat) : dataZ i.iv op = dataNn i op := by
  unfold dataZ dataNn
  rw [lowZ_nat]
  simp only [NV.iv, d4, t5_nat, t3_nat, t8_nat, tH_nat, putN_nat]
  rfl
theorem unaryZ_nat (i : NV) (op : Nat) : unaryZ i.iv op = unaryNn i op := by
  simp only [unaryZ, unaryNn, NV.iv, t2_nat]
theorem byRegZ_nat (i : NV) (op : Nat) : byRegZ i.iv op = byRegNn i op := by
  simp only [byRegZ, byRegNn, NV.iv, t3_nat]
theorem memZ_nat (i : NV) (op : Nat) : memZ i.iv op = memNn i op := by
  unfold memZ memNn
  rw [byRegZ_nat]
  simp only [NV.iv, d4, d2, t5_nat, t8_nat]
theorem manyZ_nat (i : NV) (op : Nat) : manyZ i.iv op = manyNn i op := by
  simp only [manyZ, manyNn, NV.iv, d14, d15, t8_nat, putN_nat]
theorem brZ_nat (i : NV) (op : Nat) : brZ i.iv op = brNn i op := by
  simp only [brZ, brNn, brN, cmpZ, cmpNn, NV.iv, d2, d64, putN_nat]
theorem othZ_nat (i : NV) (op : Nat) : othZ i.iv op = othNn i op := by
  simp only [othZ, othNn, NV.iv, putN_nat]
theorem halvesZ_nat (i : NV) : halvesZ i.iv = halvesNn i := by
  unfold halvesZ halvesNn
  rw [show i.iv.op.toNat = i.op from Int.toNat_natCast _]
  simp only [dataZ_nat, lowZ_nat, unaryZ_nat, memZ_nat, manyZ_nat, brZ_nat, othZ_nat]
def encNn (i : NV) (b : Bool) : List Nat → Nat × Bool
  | [] => (0, false)
  | h :: t => bif NV.beq (decN h b) i then (h, true) else encNn i b t
theorem encN_nat (i : NV) (b : Bool) (hs : List Nat) : encN i.iv b hs = encNn i b hs := by
  induction hs with
  | nil => rfl
  | cons h t ih =>
    unfold encN encNn
    rw [ivEq_nv, ih]
    cases NV.beq (decN h b) i <;> rfl
/-- The upper five bits of the words that may be of an op. -/
def grpL (op : Nat) : List Nat :=
  bif Nat.beq op 17 then [0, 8] else bif Nat.beq op 18 then [1, 8] else bif Nat.beq op 19 then [2, 8] else bif Nat.beq op 13 then [0, 4, 8]
  else bif Nat.beq op 5 then [3, 6, 8, 21, 22] else bif Nat.beq op 3 then [3, 7, 22] else bif Nat.beq op 10 then [5, 8]
  else bif Nat.ble 49 op && Nat.ble op 51 then [10, 12, 14, 16, 18] else bif Nat.ble 44 op && Nat.ble op 48 then [9, 10, 11, 13, 15, 17, 19]
  else bif Nat.beq op 43 then [20]
  else bif Nat.beq op 53 || (Nat.beq op 52 || (Nat.beq op 58 || (Nat.beq op 59 || (Nat.beq op 39 || (Nat.beq op 40 || (Nat.beq op 41 || (Nat.beq op 42 || (Nat.beq op 36 || (Nat.beq op 37 || (Nat.beq op 38 || (Nat.beq op 63 || (Nat.beq op 61 || Nat.beq op 60)))))))))))) then [22, 23, 24, 25]
  else bif Nat.beq op 54 || Nat.beq op 62 then [26, 27, 28] else [8]
def hasN : List Nat → Nat → Bool
  | [], _ => false
  | h :: t, x => bif Nat.beq h x then true else hasN t x
def chkW (b : Bool) (h : Nat) : Bool :=
  let i := decN h b
  let r := encNn i b (halvesNn i)
  bif undec i then !r.2 else r.2 && (Nat.ble r.1 h && hasN (grpL i.op) (h / 2048))
def all4k (p : Nat → Bool) (k : Nat) : Bool := (List.range 64).all fun a => (List.range 64).all fun c => p (k * 4096 + a * 64 + c)
theorem all4k_at {p : Nat → Bool} {k : Nat} (h : all4k p k = true) (n : Nat) (h1 : n / 4096 = k) : p n = true := by
  simp only [all4k, List.all_eq_true, List.mem_range] at h
  have := h (n / 64 % 64) (by omega) (n % 64) (by omega)
  rwa [show k * 4096 + n / 64 % 64 * 64 + n % 64 = n by omega] at this
end Go.Proofs.YtblcklknlfofgaaDoor
