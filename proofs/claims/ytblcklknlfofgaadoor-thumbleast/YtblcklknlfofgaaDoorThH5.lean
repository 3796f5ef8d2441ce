/- Stage 8: what Encode comes to, whatever it is handed: the least word that tells it, if there is one. -/
import Derived.Test.YtblcklknlfofgaaDoorThH3
import Derived.Test.YtblcklknlfofgaaDoorThH4
import Derived.Test.YtblcklknlfofgaaDoorThH2
import Derived.Test.YtblcklknlfofgaaDoorThH1
import Derived.Test.YtblcklknlfofgaaDoorThK
import Derived.Test.YtblcklknlfofgaaDoorRd18
import Derived.Test.YtblcklknlfofgaaDoorThQ
import Derived.Deep.Fields
import Derived.Lib.SmallJoins
import Derived.Carry
namespace Go.Proofs.YtblcklknlfofgaaDoor
open Go.RowKit
set_option linter.unusedVariables false
set_option linter.unusedSimpArgs false

/-! ### Its halves are words, ten at most -/
def OKl (l : List Nat) : Prop := l.length ≤ 10 ∧ ∀ x ∈ l, x < 65536
theorem OKl.cond {b : Bool} {x y : List Nat} (hx : OKl x) (hy : OKl y) : OKl (bif b then x else y) := by cases b <;> assumption
theorem three5_ok (row : Nat) (v n d : Int) (h : row ≤ 63000) : three5 row v n d < 65536 := by
  have a1 : putN v 6 5 < 2048 := putN_lt v 6 5
  have a2 : putN n 3 3 < 64 := putN_lt n 3 3
  have a3 : putN d 0 3 < 8 := putN_lt d 0 3
  unfold three5; omega
theorem three4_ok (row : Nat) (v n d : Int) (h : row ≤ 63000) : three4 row v n d < 65536 := by
  have a1 : putN v 6 4 < 1024 := putN_lt v 6 4
  have a2 : putN n 3 3 < 64 := putN_lt n 3 3
  have a3 : putN d 0 3 < 8 := putN_lt d 0 3
  unfold three4; omega
theorem three3_lt (row : Nat) (v n d : Int) : three3 row v n d < row + 584 := by
  have a1 : putN v 6 3 < 512 := putN_lt v 6 3
  have a2 : putN n 3 3 < 64 := putN_lt n 3 3
  have a3 : putN d 0 3 < 8 := putN_lt d 0 3
  unfold three3; omega
theorem three3_ok (row : Nat) (v n d : Int) (h : row ≤ 63000) : three3 row v n d < 65536 := by have := three3_lt row v n d; omega
theorem three2_ok (row : Nat) (v n d : Int) (h : row ≤ 63000) : three2 row v n d < 65536 := by
  have a1 : putN v 6 2 < 256 := putN_lt v 6 2
  have a2 : putN n 3 3 < 64 := putN_lt n 3 3
  have a3 : putN d 0 3 < 8 := putN_lt d 0 3
  unfold three2; omega
theorem two8_ok (row : Nat) (r v : Int) (h : row ≤ 63000) : two8 row r v < 65536 := by
  have a1 : putN r 8 3 < 2048 := putN_lt r 8 3
  have a2 : putN v 0 8 < 256 := putN_lt v 0 8
  unfold two8; omega
theorem hi_ok (page : Nat) (d m : Int) (h : page ≤ 63000) : hiN page d m < 65536 := by
  have a1 : putN (d / 8) 7 1 < 256 := putN_lt _ 7 1
  have a2 : putN m 3 4 < 128 := putN_lt _ 3 4
  have a3 : putN d 0 3 < 8 := putN_lt d 0 3
  unfold hiN; omega
theorem p_ok (row : Nat) (v : Int) (a s : Nat) (h : row + 2 ^ (a + s) ≤ 65536) : row + putN v a s < 65536 := by
  have := putN_lt v a s
  omega
theorem OKl.one {a : Nat} (h : a < 65536) : OKl [a] := ⟨by simp, fun x hx => by simp at hx; omega⟩
theorem OKl.two {a b : Nat} (h : a < 65536) (h2 : b < 65536) : OKl [a, b] := ⟨by simp, fun x hx => by simp at hx; omega⟩
theorem OKl.three {a b c : Nat} (h : a < 65536) (h2 : b < 65536) (h3 : c < 65536) : OKl [a, b, c] := ⟨by simp, fun x hx => by simp at hx; omega⟩
theorem OKl.four {a b c d : Nat} (h : a < 65536) (h2 : b < 65536) (h3 : c < 65536) (h4 : d < 65536) : OKl [a, b, c, d] := ⟨by simp, fun x hx => by simp at hx; omega⟩
theorem OKl.nil : OKl [] := ⟨by simp, fun x hx => by simp at hx⟩
theorem lowZ_ok (i : IV) (op : Nat) : (lowZ i op).length ≤ 1 ∧ ∀ x ∈ lowZ i op, x < 65536 := by
  unfold lowZ
  cases Nat.blt (posIn lowL op 0) 16
  · exact ⟨by simp, fun x hx => by simp at hx⟩
  · refine ⟨by simp, fun x hx => ?_⟩
    simp only [cond_true, List.mem_cons, List.not_mem_nil, or_false] at hx
    rw [hx]
    exact three4_ok _ _ _ _ (by decide)
theorem lowZ_ok' (i : IV) (op : Nat) : OKl (lowZ i op) := ⟨by have := (lowZ_ok i op).1; omega, (lowZ_ok i op).2⟩
theorem OKl.consLow (i : IV) (op : Nat) {a : Nat} (h : a < 65536) : OKl (a :: lowZ i op) := ⟨by have := (lowZ_ok i op).1; simp only [List.length_cons]; omega, fun x hx => by
  rcases List.mem_cons.1 hx with e | e
  · omega
  · exact (lowZ_ok i op).2 x e⟩
theorem dataZ_ok (i : IV) (op : Nat) : OKl (dataZ i op) := by
  unfold dataZ
  refine OKl.cond (.three (three5_ok _ _ _ _ (by decide)) (two8_ok _ _ _ (by decide)) (hi_ok _ _ _ (by decide))) ?_
  refine OKl.cond (.consLow i op (three5_ok _ _ _ _ (by decide))) ?_
  refine OKl.cond (.consLow i op (three5_ok _ _ _ _ (by decide))) ?_
  refine OKl.cond (.consLow i op (three5_ok _ _ _ _ (by decide))) ?_
  refine OKl.cond ⟨by simp, fun x hx => ?_⟩ ?_
  · have h1 := three3_ok 6144 i.m i.n i.d (by decide)
    have h2 := three3_ok 7168 i.imm i.n i.d (by decide)
    have h3 := two8_ok 12288 i.d i.imm (by decide)
    have h4 := hi_ok 17408 i.d i.m (by decide)
    have h5 := two8_ok 43008 i.d (i.imm / 4) (by decide)
    have h6 := p_ok 45056 (i.imm / 4) 0 7 (by decide)
    simp only [List.mem_cons, List.not_mem_nil, or_false] at hx
    rcases hx with e | e | e | e | e | e <;> rw [e] <;> assumption
  refine OKl.cond (.four (three3_ok _ _ _ _ (by decide)) (three3_ok _ _ _ _ (by decide)) (two8_ok _ _ _ (by decide)) (p_ok _ _ _ _ (by decide))) ?_
  refine OKl.cond ?_ ?_
  · have hl := lowZ_ok i op
    refine ⟨by simp only [List.length_append, List.length_cons, List.length_nil]; omega, fun x hx => ?_⟩
    rcases List.mem_append.1 hx with e | e
    · rcases List.mem_cons.1 e with e | e
      · rw [e]; exact two8_ok _ _ _ (by decide)
      · exact hl.2 x e
    · simp only [List.mem_cons, List.not_mem_nil, or_false] at e
      rw [e]; exact hi_ok _ _ _ (by decide)
  exact OKl.cond (.one (two8_ok _ _ _ (by decide))) (lowZ_ok' i op)
theorem byRegZ_ok (i : IV) (op : Nat) : byRegZ i op < 65536 := by
  unfold byRegZ
  have := three3_lt 20480 i.m i.n i.d
  cases hb : Nat.blt (posIn memL op 0) 8
  · simp only [cond_false]; omega
  · rw [nblt] at hb
    simp only [decide_eq_true_eq] at hb
    simp only [cond_true]; omega
theorem memZ_ok (i : IV) (op : Nat) : OKl (memZ i op) := by
  have hb := byRegZ_ok i op
  unfold memZ
  refine OKl.cond (.three hb (three5_ok _ _ _ _ (by decide)) (two8_ok _ _ _ (by decide))) ?_
  refine OKl.cond (.four (two8_ok _ _ _ (by decide)) hb (three5_ok _ _ _ _ (by decide)) (two8_ok _ _ _ (by decide))) ?_
  refine OKl.cond (.two hb (three5_ok _ _ _ _ (by decide))) ?_
  refine OKl.cond (.two hb (three5_ok _ _ _ _ (by decide))) ?_
  refine OKl.cond (.two hb (three5_ok _ _ _ _ (by decide))) ?_
  exact OKl.cond (.two hb (three5_ok _ _ _ _ (by decide))) (.one hb)
theorem many_ok (page : Nat) (x y : Int) (h : page ≤ 60000) : page + putN x 8 1 + putN y 0 8 < 65536 := by
  have a1 : putN x 8 1 < 512 := putN_lt _ 8 1
  have a2 : putN y 0 8 < 256 := putN_lt _ 0 8
  omega
theorem cmpZ_ok (page : Nat) (i : IV) (h : page ≤ 60000) : cmpZ page i < 65536 := by
  have a1 : putN (i.imm / 64) 9 1 < 1024 := putN_lt _ 9 1
  have a2 : putN (i.imm / 2) 3 5 < 256 := putN_lt _ 3 5
  have a3 : putN i.n 0 3 < 8 := putN_lt _ 0 3
  unfold cmpZ; omega
theorem brN_ok (c v : Int) : OKl (brN c v) := by
  have a1 : putN c 8 4 < 4096 := putN_lt _ 8 4
  have m1 : putN c 8 4 % 256 = 0 := putN_mod _ 8 4 8 (by decide)
  have a2 : putN (v / 2) 0 8 < 256 := putN_lt _ 0 8
  exact .two (by omega) (p_ok _ _ _ _ (by decide))
theorem halves_ok (i : IV) : OKl (halvesZ i) := by
  unfold halvesZ
  refine OKl.cond .nil ?_
  refine OKl.cond (dataZ_ok i _) ?_
  refine OKl.cond (lowZ_ok' i _) ?_
  refine OKl.cond (.cond (.one (three2_ok _ _ _ _ (by decide))) (.cond (.one (three2_ok _ _ _ _ (by decide))) .nil)) ?_
  refine OKl.cond (memZ_ok i _) ?_
  refine OKl.cond (.cond (.two (many_ok _ _ _ (by decide)) (two8_ok _ _ _ (by decide))) (.two (many_ok _ _ _ (by decide)) (two8_ok _ _ _ (by decide)))) ?_
  refine OKl.cond (.cond (brN_ok _ _) (.cond (.one (p_ok _ _ _ _ (by decide))) (.cond (.one (p_ok _ _ _ _ (by decide))) (.cond (.one (cmpZ_ok _ _ (by decide))) (.cond (.one (cmpZ_ok _ _ (by decide))) .nil))))) ?_
  exact OKl.cond (.cond (.one (p_ok _ _ _ _ (by decide))) (.cond (.one (p_ok _ _ _ _ (by decide))) (.cond (.one (p_ok _ _ _ _ (by decide))) (.cond (.one (p_ok _ _ _ _ (by decide))) .nil)))) .nil

/-! ### The least -/
theorem encN_tells (i : IV) (b : Bool) (hs : List Nat) : (encN i b hs).2 = true → (encN i b hs).1 ∈ hs ∧ (decN (encN i b hs).1 b).iv = i := by
  induction hs with
  | nil => intro h; simp [encN] at h
  | cons h t ih =>
    intro hq
    unfold encN at hq ⊢
    by_cases e : ivEq (decN h b).iv i = true
    · simp only [e, if_true] at hq ⊢
      exact ⟨by simp, (ivEq_iff _ _).1 e⟩
    · simp only [e, if_false] at hq ⊢
      exact ⟨List.mem_cons_of_mem _ (ih hq).1, (ih hq).2⟩
theorem encN_none (i : IV) (b : Bool) (hs : List Nat) : (encN i b hs).2 = false → (encN i b hs).1 = 0 := by
  induction hs with
  | nil => intro _; rfl
  | cons h t ih =>
    intro hq
    unfold encN at hq ⊢
    by_cases e : ivEq (decN h b).iv i = true
    · simp [e] at hq
    · simp only [e, if_false] at hq ⊢
      exact ih hq
def encZ (i : IV) (b : Bool) : Nat × Bool := encN i b (halvesZ i)
theorem chk_at (b : Bool) (h : Nat) (hh : h < 65536) : chkW b h = true := by
  cases b
  · exact chkW_false h hh
  · exact chkW_true h hh
/-- Of a word: what Encode makes of what it tells. -/
theorem encZ_word (b : Bool) (h : Nat) (hh : h < 65536) : (undec (decN h b) = true → (encZ (decN h b).iv b).2 = false) ∧ (undec (decN h b) = false → (encZ (decN h b).iv b).2 = true ∧ (encZ (decN h b).iv b).1 ≤ h ∧ hasN (grpL (decN h b).op) (h / 2048) = true) := by
  have hc := chk_at b h hh
  unfold encZ
  rw [halvesZ_nat, encN_nat]
  unfold chkW at hc
  dsimp only at hc
  cases hu : undec (decN h b)
  · rw [hu] at hc
    simp only [cond_false, Bool.and_eq_true, nble, decide_eq_true_eq] at hc
    exact ⟨fun h => (by cases h), fun _ => hc⟩
  · rw [hu] at hc
    simp only [cond_true, Bool.not_eq_true'] at hc
    exact ⟨fun _ => hc, fun h => (by cases h)⟩
/-- Whatever it is handed. -/
theorem encZ_T (i : IV) (b : Bool) (h : (encZ i b).2 = true) : (encZ i b).1 < 65536 ∧ (decN (encZ i b).1 b).iv = i ∧ undec (decN (encZ i b).1 b) = false ∧ hasN (grpL i.op.toNat) ((encZ i b).1 / 2048) = true := by
  obtain ⟨h1, h2⟩ := encN_tells i b _ h
  have h3 := (halves_ok i).2 _ h1
  have hw := encZ_word b (encN i b (halvesZ i)).1 h3
  rw [h2] at hw
  have hu : undec (decN (encN i b (halvesZ i)).1 b) = false := by
    cases hu : undec (decN (encN i b (halvesZ i)).1 b)
    · rfl
    · have := hw.1 hu
      rw [show (encZ i b).2 = (encN i b (halvesZ i)).2 from rfl] at h
      unfold encZ at this
      rw [h] at this
      cases this
  refine ⟨h3, h2, hu, ?_⟩
  have hg := (hw.2 hu).2.2
  have e : i.op.toNat = (decN (encN i b (halvesZ i)).1 b).op := by rw [← congrArg IV.op h2]; exact Int.toNat_natCast _
  rw [e]
  exact hg
theorem encZ_F (i : IV) (b : Bool) (h : Nat) (hh : h < 65536) (he : (decN h b).iv = i) (hu : undec (decN h b) = false) : (encZ i b).2 = true ∧ (encZ i b).1 ≤ h := by
  have hw := (encZ_word b h hh).2 hu
  rw [he] at hw
  exact ⟨hw.1, hw.2.1⟩
theorem encZ_N (i : IV) (b : Bool) (h : (encZ i b).2 = false) : (encZ i b).1 = 0 := encN_none i b _ h
end Go.Proofs.YtblcklknlfofgaaDoor
namespace Go.Proofs.YtblcklknlfofgaaDoor
open Go.ChangeShapes Go.WideShapes Go.ChangeAt Go.RowKit
set_option linter.unusedVariables false
set_option linter.unusedSimpArgs false

def ic (l : List Nat) : List Value := l.map fun x => .int .i64 (x : Nat)
/-- Numbers behind a slice. -/
def HLi (w : World) (v : Value) (l : List Nat) : Prop := ∃ b c, v = .slice (some ⟨b, 0, none⟩) l.length c ∧ ∀ (k x : Nat), l[k]? = some x → w.cell? ⟨b, k, none⟩ = some (.int .i64 (x : Nat))
theorem HLi.below {w w' : World} {v : Value} {l : List Nat} (h : HLi w v l) (hb : Below w.heap.size w w') : HLi w' v l := by
  obtain ⟨b, c, rfl, h⟩ := h
  exact ⟨b, c, rfl, fun k x hk => (hb.cell (World.block_lt_of_cell? w _ (h k x hk))).trans (h k x hk)⟩
theorem HLi.of_blk {w : World} {g c : Nat} {l : List Nat} (h : Blk w g (ic l)) : HLi w (.slice (some ⟨g, 0, none⟩) l.length c) l :=
  ⟨_, c, rfl, fun k x hk => by rw [h.cell]; simp [ic, hk]⟩
def IRes (w : World) (l : List Nat) (e : Ending) (w' : World) : Prop := ∃ v, e = .returned v ∧ HLi w' v l ∧ Below w.heap.size w w'
set_option maxHeartbeats 4000000 in
set_option maxRecDepth 100000 in
theorem grp_3 (w : World) : Calls Tryd.prog 29 #[.int .i64 3] w fun e w' => IRes w [3, 7, 22] e w' := by
  go_enter Tryd.func29, Tryd.ntmps29
  have S := SH.start w
  go_wp2_with ((with_reducible refine wpl_is ?_); refine S.sliceAny rfl 44 3 _ rfl (ic [3, 7, 22]) 3 (by kernel_rfl) ?_; clear S; intro g w1 S)
  (try simp only [Exit.inBlock, Exit.then])
  go_ret
  exact ⟨_, rfl, HLi.of_blk (S.at (i := 0) rfl).1, S.low⟩
set_option maxHeartbeats 4000000 in
set_option maxRecDepth 100000 in
theorem grp_5 (w : World) : Calls Tryd.prog 29 #[.int .i64 5] w fun e w' => IRes w [3, 6, 8, 21, 22] e w' := by
  go_enter Tryd.func29, Tryd.ntmps29
  have S := SH.start w
  go_wp2_with ((with_reducible refine wpl_is ?_); refine S.sliceAny rfl 44 5 _ rfl (ic [3, 6, 8, 21, 22]) 3 (by kernel_rfl) ?_; clear S; intro g w1 S)
  (try simp only [Exit.inBlock, Exit.then])
  go_ret
  exact ⟨_, rfl, HLi.of_blk (S.at (i := 0) rfl).1, S.low⟩
set_option maxHeartbeats 4000000 in
set_option maxRecDepth 100000 in
theorem grp_10 (w : World) : Calls Tryd.prog 29 #[.int .i64 10] w fun e w' => IRes w [5, 8] e w' := by
  go_enter Tryd.func29, Tryd.ntmps29
  have S := SH.start w
  go_wp2_with ((with_reducible refine wpl_is ?_); refine S.sliceAny rfl 44 2 _ rfl (ic [5, 8]) 3 (by kernel_rfl) ?_; clear S; intro g w1 S)
  (try simp only [Exit.inBlock, Exit.then])
  go_ret
  exact ⟨_, rfl, HLi.of_blk (S.at (i := 0) rfl).1, S.low⟩
set_option maxHeartbeats 4000000 in
set_option maxRecDepth 100000 in
theorem grp_13 (w : World) : Calls Tryd.prog 29 #[.int .i64 13] w fun e w' => IRes w [0, 4, 8] e w' := by
  go_enter Tryd.func29, Tryd.ntmps29
  have S := SH.start w
  go_wp2_with ((with_reducible refine wpl_is ?_); refine S.sliceAny rfl 44 3 _ rfl (ic [0, 4, 8]) 3 (by kernel_rfl) ?_; clear S; intro g w1 S)
  (try simp only [Exit.inBlock, Exit.then])
  go_ret
  exact ⟨_, rfl, HLi.of_blk (S.at (i := 0) rfl).1, S.low⟩
set_option maxHeartbeats 4000000 in
set_option maxRecDepth 100000 in
theorem grp_17 (w : World) : Calls Tryd.prog 29 #[.int .i64 17] w fun e w' => IRes w [0, 8] e w' := by
  go_enter Tryd.func29, Tryd.ntmps29
  have S := SH.start w
  go_wp2_with ((with_reducible refine wpl_is ?_); refine S.sliceAny rfl 44 2 _ rfl (ic [0, 8]) 3 (by kernel_rfl) ?_; clear S; intro g w1 S)
  (try simp only [Exit.inBlock, Exit.then])
  go_ret
  exact ⟨_, rfl, HLi.of_blk (S.at (i := 0) rfl).1, S.low⟩
set_option maxHeartbeats 4000000 in
set_option maxRecDepth 100000 in
theorem grp_18 (w : World) : Calls Tryd.prog 29 #[.int .i64 18] w fun e w' => IRes w [1, 8] e w' := by
  go_enter Tryd.func29, Tryd.ntmps29
  have S := SH.start w
  go_wp2_with ((with_reducible refine wpl_is ?_); refine S.sliceAny rfl 44 2 _ rfl (ic [1, 8]) 3 (by kernel_rfl) ?_; clear S; intro g w1 S)
  (try simp only [Exit.inBlock, Exit.then])
  go_ret
  exact ⟨_, rfl, HLi.of_blk (S.at (i := 0) rfl).1, S.low⟩
set_option maxHeartbeats 4000000 in
set_option maxRecDepth 100000 in
theorem grp_19 (w : World) : Calls Tryd.prog 29 #[.int .i64 19] w fun e w' => IRes w [2, 8] e w' := by
  go_enter Tryd.func29, Tryd.ntmps29
  have S := SH.start w
  go_wp2_with ((with_reducible refine wpl_is ?_); refine S.sliceAny rfl 44 2 _ rfl (ic [2, 8]) 3 (by kernel_rfl) ?_; clear S; intro g w1 S)
  (try simp only [Exit.inBlock, Exit.then])
  go_ret
  exact ⟨_, rfl, HLi.of_blk (S.at (i := 0) rfl).1, S.low⟩
set_option maxHeartbeats 4000000 in
set_option maxRecDepth 100000 in
theorem grp_36 (w : World) : Calls Tryd.prog 29 #[.int .i64 36] w fun e w' => IRes w [22, 23, 24, 25] e w' := by
  go_enter Tryd.func29, Tryd.ntmps29
  have S := SH.start w
  go_wp2_with ((with_reducible refine wpl_is ?_); refine S.sliceAny rfl 44 4 _ rfl (ic [22, 23, 24, 25]) 3 (by kernel_rfl) ?_; clear S; intro g w1 S)
  (try simp only [Exit.inBlock, Exit.then])
  go_ret
  exact ⟨_, rfl, HLi.of_blk (S.at (i := 0) rfl).1, S.low⟩
set_option maxHeartbeats 4000000 in
set_option maxRecDepth 100000 in
theorem grp_37 (w : World) : Calls Tryd.prog 29 #[.int .i64 37] w fun e w' => IRes w [22, 23, 24, 25] e w' := by
  go_enter Tryd.func29, Tryd.ntmps29
  have S := SH.start w
  go_wp2_with ((with_reducible refine wpl_is ?_); refine S.sliceAny rfl 44 4 _ rfl (ic [22, 23, 24, 25]) 3 (by kernel_rfl) ?_; clear S; intro g w1 S)
  (try simp only [Exit.inBlock, Exit.then])
  go_ret
  exact ⟨_, rfl, HLi.of_blk (S.at (i := 0) rfl).1, S.low⟩
set_option maxHeartbeats 4000000 in
set_option maxRecDepth 100000 in
theorem grp_38 (w : World) : Calls Tryd.prog 29 #[.int .i64 38] w fun e w' => IRes w [22, 23, 24, 25] e w' := by
  go_enter Tryd.func29, Tryd.ntmps29
  have S := SH.start w
  go_wp2_with ((with_reducible refine wpl_is ?_); refine S.sliceAny rfl 44 4 _ rfl (ic [22, 23, 24, 25]) 3 (by kernel_rfl) ?_; clear S; intro g w1 S)
  (try simp only [Exit.inBlock, Exit.then])
  go_ret
  exact ⟨_, rfl, HLi.of_blk (S.at (i := 0) rfl).1, S.low⟩
set_option maxHeartbeats 4000000 in
set_option maxRecDepth 100000 in
theorem grp_39 (w : World) : Calls Tryd.prog 29 #[.int .i64 39] w fun e w' => IRes w [22, 23, 24, 25] e w' := by
  go_enter Tryd.func29, Tryd.ntmps29
  have S := SH.start w
  go_wp2_with ((with_reducible refine wpl_is ?_); refine S.sliceAny rfl 44 4 _ rfl (ic [22, 23, 24, 25]) 3 (by kernel_rfl) ?_; clear S; intro g w1 S)
  (try simp only [Exit.inBlock, Exit.then])
  go_ret
  exact ⟨_, rfl, HLi.of_blk (S.at (i := 0) rfl).1, S.low⟩
set_option maxHeartbeats 4000000 in
set_option maxRecDepth 100000 in
theorem grp_40 (w : World) : Calls Tryd.prog 29 #[.int .i64 40] w fun e w' => IRes w [22, 23, 24, 25] e w' := by
  go_enter Tryd.func29, Tryd.ntmps29
  have S := SH.start w
  go_wp2_with ((with_reducible refine wpl_is ?_); refine S.sliceAny rfl 44 4 _ rfl (ic [22, 23, 24, 25]) 3 (by kernel_rfl) ?_; clear S; intro g w1 S)
  (try simp only [Exit.inBlock, Exit.then])
  go_ret
  exact ⟨_, rfl, HLi.of_blk (S.at (i := 0) rfl).1, S.low⟩
set_option maxHeartbeats 4000000 in
set_option maxRecDepth 100000 in
theorem grp_41 (w : World) : Calls Tryd.prog 29 #[.int .i64 41] w fun e w' => IRes w [22, 23, 24, 25] e w' := by
  go_enter Tryd.func29, Tryd.ntmps29
  have S := SH.start w
  go_wp2_with ((with_reducible refine wpl_is ?_); refine S.sliceAny rfl 44 4 _ rfl (ic [22, 23, 24, 25]) 3 (by kernel_rfl) ?_; clear S; intro g w1 S)
  (try simp only [Exit.inBlock, Exit.then])
  go_ret
  exact ⟨_, rfl, HLi.of_blk (S.at (i := 0) rfl).1, S.low⟩
set_option maxHeartbeats 4000000 in
set_option maxRecDepth 100000 in
theorem grp_42 (w : World) : Calls Tryd.prog 29 #[.int .i64 42] w fun e w' => IRes w [22, 23, 24, 25] e w' := by
  go_enter Tryd.func29, Tryd.ntmps29
  have S := SH.start w
  go_wp2_with ((with_reducible refine wpl_is ?_); refine S.sliceAny rfl 44 4 _ rfl (ic [22, 23, 24, 25]) 3 (by kernel_rfl) ?_; clear S; intro g w1 S)
  (try simp only [Exit.inBlock, Exit.then])
  go_ret
  exact ⟨_, rfl, HLi.of_blk (S.at (i := 0) rfl).1, S.low⟩
set_option maxHeartbeats 4000000 in
set_option maxRecDepth 100000 in
theorem grp_43 (w : World) : Calls Tryd.prog 29 #[.int .i64 43] w fun e w' => IRes w [20] e w' := by
  go_enter Tryd.func29, Tryd.ntmps29
  have S := SH.start w
  go_wp2_with ((with_reducible refine wpl_is ?_); refine S.sliceAny rfl 44 1 _ rfl (ic [20]) 3 (by kernel_rfl) ?_; clear S; intro g w1 S)
  (try simp only [Exit.inBlock, Exit.then])
  go_ret
  exact ⟨_, rfl, HLi.of_blk (S.at (i := 0) rfl).1, S.low⟩
set_option maxHeartbeats 4000000 in
set_option maxRecDepth 100000 in
theorem grp_44 (w : World) : Calls Tryd.prog 29 #[.int .i64 44] w fun e w' => IRes w [9, 10, 11, 13, 15, 17, 19] e w' := by
  go_enter Tryd.func29, Tryd.ntmps29
  have S := SH.start w
  go_wp2_with ((with_reducible refine wpl_is ?_); refine S.sliceAny rfl 44 7 _ rfl (ic [9, 10, 11, 13, 15, 17, 19]) 3 (by kernel_rfl) ?_; clear S; intro g w1 S)
  (try simp only [Exit.inBlock, Exit.then])
  go_ret
  exact ⟨_, rfl, HLi.of_blk (S.at (i := 0) rfl).1, S.low⟩
set_option maxHeartbeats 4000000 in
set_option maxRecDepth 100000 in
theorem grp_45 (w : World) : Calls Tryd.prog 29 #[.int .i64 45] w fun e w' => IRes w [9, 10, 11, 13, 15, 17, 19] e w' := by
  go_enter Tryd.func29, Tryd.ntmps29
  have S := SH.start w
  go_wp2_with ((with_reducible refine wpl_is ?_); refine S.sliceAny rfl 44 7 _ rfl (ic [9, 10, 11, 13, 15, 17, 19]) 3 (by kernel_rfl) ?_; clear S; intro g w1 S)
  (try simp only [Exit.inBlock, Exit.then])
  go_ret
  exact ⟨_, rfl, HLi.of_blk (S.at (i := 0) rfl).1, S.low⟩
set_option maxHeartbeats 4000000 in
set_option maxRecDepth 100000 in
theorem grp_46 (w : World) : Calls Tryd.prog 29 #[.int .i64 46] w fun e w' => IRes w [9, 10, 11, 13, 15, 17, 19] e w' := by
  go_enter Tryd.func29, Tryd.ntmps29
  have S := SH.start w
  go_wp2_with ((with_reducible refine wpl_is ?_); refine S.sliceAny rfl 44 7 _ rfl (ic [9, 10, 11, 13, 15, 17, 19]) 3 (by kernel_rfl) ?_; clear S; intro g w1 S)
  (try simp only [Exit.inBlock, Exit.then])
  go_ret
  exact ⟨_, rfl, HLi.of_blk (S.at (i := 0) rfl).1, S.low⟩
set_option maxHeartbeats 4000000 in
set_option maxRecDepth 100000 in
theorem grp_47 (w : World) : Calls Tryd.prog 29 #[.int .i64 47] w fun e w' => IRes w [9, 10, 11, 13, 15, 17, 19] e w' := by
  go_enter Tryd.func29, Tryd.ntmps29
  have S := SH.start w
  go_wp2_with ((with_reducible refine wpl_is ?_); refine S.sliceAny rfl 44 7 _ rfl (ic [9, 10, 11, 13, 15, 17, 19]) 3 (by kernel_rfl) ?_; clear S; intro g w1 S)
  (try simp only [Exit.inBlock, Exit.then])
  go_ret
  exact ⟨_, rfl, HLi.of_blk (S.at (i := 0) rfl).1, S.low⟩
set_option maxHeartbeats 4000000 in
set_option maxRecDepth 100000 in
theorem grp_48 (w : World) : Calls Tryd.prog 29 #[.int .i64 48] w fun e w' => IRes w [9, 10, 11, 13, 15, 17, 19] e w' := by
  go_enter Tryd.func29, Tryd.ntmps29
  have S := SH.start w
  go_wp2_with ((with_reducible refine wpl_is ?_); refine S.sliceAny rfl 44 7 _ rfl (ic [9, 10, 11, 13, 15, 17, 19]) 3 (by kernel_rfl) ?_; clear S; intro g w1 S)
  (try simp only [Exit.inBlock, Exit.then])
  go_ret
  exact ⟨_, rfl, HLi.of_blk (S.at (i := 0) rfl).1, S.low⟩
set_option maxHeartbeats 4000000 in
set_option maxRecDepth 100000 in
theorem grp_49 (w : World) : Calls Tryd.prog 29 #[.int .i64 49] w fun e w' => IRes w [10, 12, 14, 16, 18] e w' := by
  go_enter Tryd.func29, Tryd.ntmps29
  have S := SH.start w
  go_wp2_with ((with_reducible refine wpl_is ?_); refine S.sliceAny rfl 44 5 _ rfl (ic [10, 12, 14, 16, 18]) 3 (by kernel_rfl) ?_; clear S; intro g w1 S)
  (try simp only [Exit.inBlock, Exit.then])
  go_ret
  exact ⟨_, rfl, HLi.of_blk (S.at (i := 0) rfl).1, S.low⟩
set_option maxHeartbeats 4000000 in
set_option maxRecDepth 100000 in
theorem grp_50 (w : World) : Calls Tryd.prog 29 #[.int .i64 50] w fun e w' => IRes w [10, 12, 14, 16, 18] e w' := by
  go_enter Tryd.func29, Tryd.ntmps29
  have S := SH.start w
  go_wp2_with ((with_reducible refine wpl_is ?_); refine S.sliceAny rfl 44 5 _ rfl (ic [10, 12, 14, 16, 18]) 3 (by kernel_rfl) ?_; clear S; intro g w1 S)
  (try simp only [Exit.inBlock, Exit.then])
  go_ret
  exact ⟨_, rfl, HLi.of_blk (S.at (i := 0) rfl).1, S.low⟩
set_option maxHeartbeats 4000000 in
set_option maxRecDepth 100000 in
theorem grp_51 (w : World) : Calls Tryd.prog 29 #[.int .i64 51] w fun e w' => IRes w [10, 12, 14, 16, 18] e w' := by
  go_enter Tryd.func29, Tryd.ntmps29
  have S := SH.start w
  go_wp2_with ((with_reducible refine wpl_is ?_); refine S.sliceAny rfl 44 5 _ rfl (ic [10, 12, 14, 16, 18]) 3 (by kernel_rfl) ?_; clear S; intro g w1 S)
  (try simp only [Exit.inBlock, Exit.then])
  go_ret
  exact ⟨_, rfl, HLi.of_blk (S.at (i := 0) rfl).1, S.low⟩
set_option maxHeartbeats 4000000 in
set_option maxRecDepth 100000 in
theorem grp_52 (w : World) : Calls Tryd.prog 29 #[.int .i64 52] w fun e w' => IRes w [22, 23, 24, 25] e w' := by
  go_enter Tryd.func29, Tryd.ntmps29
  have S := SH.start w
  go_wp2_with ((with_reducible refine wpl_is ?_); refine S.sliceAny rfl 44 4 _ rfl (ic [22, 23, 24, 25]) 3 (by kernel_rfl) ?_; clear S; intro g w1 S)
  (try simp only [Exit.inBlock, Exit.then])
  go_ret
  exact ⟨_, rfl, HLi.of_blk (S.at (i := 0) rfl).1, S.low⟩
set_option maxHeartbeats 4000000 in
set_option maxRecDepth 100000 in
theorem grp_53 (w : World) : Calls Tryd.prog 29 #[.int .i64 53] w fun e w' => IRes w [22, 23, 24, 25] e w' := by
  go_enter Tryd.func29, Tryd.ntmps29
  have S := SH.start w
  go_wp2_with ((with_reducible refine wpl_is ?_); refine S.sliceAny rfl 44 4 _ rfl (ic [22, 23, 24, 25]) 3 (by kernel_rfl) ?_; clear S; intro g w1 S)
  (try simp only [Exit.inBlock, Exit.then])
  go_ret
  exact ⟨_, rfl, HLi.of_blk (S.at (i := 0) rfl).1, S.low⟩
set_option maxHeartbeats 4000000 in
set_option maxRecDepth 100000 in
theorem grp_54 (w : World) : Calls Tryd.prog 29 #[.int .i64 54] w fun e w' => IRes w [26, 27, 28] e w' := by
  go_enter Tryd.func29, Tryd.ntmps29
  have S := SH.start w
  go_wp2_with ((with_reducible refine wpl_is ?_); refine S.sliceAny rfl 44 3 _ rfl (ic [26, 27, 28]) 3 (by kernel_rfl) ?_; clear S; intro g w1 S)
  (try simp only [Exit.inBlock, Exit.then])
  go_ret
  exact ⟨_, rfl, HLi.of_blk (S.at (i := 0) rfl).1, S.low⟩
set_option maxHeartbeats 4000000 in
set_option maxRecDepth 100000 in
theorem grp_58 (w : World) : Calls Tryd.prog 29 #[.int .i64 58] w fun e w' => IRes w [22, 23, 24, 25] e w' := by
  go_enter Tryd.func29, Tryd.ntmps29
  have S := SH.start w
  go_wp2_with ((with_reducible refine wpl_is ?_); refine S.sliceAny rfl 44 4 _ rfl (ic [22, 23, 24, 25]) 3 (by kernel_rfl) ?_; clear S; intro g w1 S)
  (try simp only [Exit.inBlock, Exit.then])
  go_ret
  exact ⟨_, rfl, HLi.of_blk (S.at (i := 0) rfl).1, S.low⟩
set_option maxHeartbeats 4000000 in
set_option maxRecDepth 100000 in
theorem grp_59 (w : World) : Calls Tryd.prog 29 #[.int .i64 59] w fun e w' => IRes w [22, 23, 24, 25] e w' := by
  go_enter Tryd.func29, Tryd.ntmps29
  have S := SH.start w
  go_wp2_with ((with_reducible refine wpl_is ?_); refine S.sliceAny rfl 44 4 _ rfl (ic [22, 23, 24, 25]) 3 (by kernel_rfl) ?_; clear S; intro g w1 S)
  (try simp only [Exit.inBlock, Exit.then])
  go_ret
  exact ⟨_, rfl, HLi.of_blk (S.at (i := 0) rfl).1, S.low⟩
set_option maxHeartbeats 4000000 in
set_option maxRecDepth 100000 in
theorem grp_60 (w : World) : Calls Tryd.prog 29 #[.int .i64 60] w fun e w' => IRes w [22, 23, 24, 25] e w' := by
  go_enter Tryd.func29, Tryd.ntmps29
  have S := SH.start w
  go_wp2_with ((with_reducible refine wpl_is ?_); refine S.sliceAny rfl 44 4 _ rfl (ic [22, 23, 24, 25]) 3 (by kernel_rfl) ?_; clear S; intro g w1 S)
  (try simp only [Exit.inBlock, Exit.then])
  go_ret
  exact ⟨_, rfl, HLi.of_blk (S.at (i := 0) rfl).1, S.low⟩
set_option maxHeartbeats 4000000 in
set_option maxRecDepth 100000 in
theorem grp_61 (w : World) : Calls Tryd.prog 29 #[.int .i64 61] w fun e w' => IRes w [22, 23, 24, 25] e w' := by
  go_enter Tryd.func29, Tryd.ntmps29
  have S := SH.start w
  go_wp2_with ((with_reducible refine wpl_is ?_); refine S.sliceAny rfl 44 4 _ rfl (ic [22, 23, 24, 25]) 3 (by kernel_rfl) ?_; clear S; intro g w1 S)
  (try simp only [Exit.inBlock, Exit.then])
  go_ret
  exact ⟨_, rfl, HLi.of_blk (S.at (i := 0) rfl).1, S.low⟩
set_option maxHeartbeats 4000000 in
set_option maxRecDepth 100000 in
theorem grp_62 (w : World) : Calls Tryd.prog 29 #[.int .i64 62] w fun e w' => IRes w [26, 27, 28] e w' := by
  go_enter Tryd.func29, Tryd.ntmps29
  have S := SH.start w
  go_wp2_with ((with_reducible refine wpl_is ?_); refine S.sliceAny rfl 44 3 _ rfl (ic [26, 27, 28]) 3 (by kernel_rfl) ?_; clear S; intro g w1 S)
  (try simp only [Exit.inBlock, Exit.then])
  go_ret
  exact ⟨_, rfl, HLi.of_blk (S.at (i := 0) rfl).1, S.low⟩
set_option maxHeartbeats 4000000 in
set_option maxRecDepth 100000 in
theorem grp_63 (w : World) : Calls Tryd.prog 29 #[.int .i64 63] w fun e w' => IRes w [22, 23, 24, 25] e w' := by
  go_enter Tryd.func29, Tryd.ntmps29
  have S := SH.start w
  go_wp2_with ((with_reducible refine wpl_is ?_); refine S.sliceAny rfl 44 4 _ rfl (ic [22, 23, 24, 25]) 3 (by kernel_rfl) ?_; clear S; intro g w1 S)
  (try simp only [Exit.inBlock, Exit.then])
  go_ret
  exact ⟨_, rfl, HLi.of_blk (S.at (i := 0) rfl).1, S.low⟩
set_option maxHeartbeats 4000000 in
set_option maxRecDepth 100000 in
theorem grp_other (x : Int) (h : x ≠ 17 ∧ x ≠ 18 ∧ x ≠ 19 ∧ x ≠ 13 ∧ x ≠ 5 ∧ x ≠ 3 ∧ x ≠ 10 ∧ x ≠ 49 ∧ x ≠ 50 ∧ x ≠ 51 ∧ x ≠ 44 ∧ x ≠ 45 ∧ x ≠ 46 ∧ x ≠ 47 ∧ x ≠ 48 ∧ x ≠ 43 ∧ x ≠ 53 ∧ x ≠ 52 ∧ x ≠ 58 ∧ x ≠ 59 ∧ x ≠ 39 ∧ x ≠ 40 ∧ x ≠ 41 ∧ x ≠ 42 ∧ x ≠ 36 ∧ x ≠ 37 ∧ x ≠ 38 ∧ x ≠ 63 ∧ x ≠ 61 ∧ x ≠ 60 ∧ x ≠ 54 ∧ x ≠ 62) (w : World) : Calls Tryd.prog 29 #[.int .i64 x] w fun e w' => IRes w [8] e w' := by
  have t17 : (x == 17) = false := by simp; omega
  have t18 : (x == 18) = false := by simp; omega
  have t19 : (x == 19) = false := by simp; omega
  have t13 : (x == 13) = false := by simp; omega
  have t5 : (x == 5) = false := by simp; omega
  have t3 : (x == 3) = false := by simp; omega
  have t10 : (x == 10) = false := by simp; omega
  have t49 : (x == 49) = false := by simp; omega
  have t50 : (x == 50) = false := by simp; omega
  have t51 : (x == 51) = false := by simp; omega
  have t44 : (x == 44) = false := by simp; omega
  have t45 : (x == 45) = false := by simp; omega
  have t46 : (x == 46) = false := by simp; omega
  have t47 : (x == 47) = false := by simp; omega
  have t48 : (x == 48) = false := by simp; omega
  have t43 : (x == 43) = false := by simp; omega
  have t53 : (x == 53) = false := by simp; omega
  have t52 : (x == 52) = false := by simp; omega
  have t58 : (x == 58) = false := by simp; omega
  have t59 : (x == 59) = false := by simp; omega
  have t39 : (x == 39) = false := by simp; omega
  have t40 : (x == 40) = false := by simp; omega
  have t41 : (x == 41) = false := by simp; omega
  have t42 : (x == 42) = false := by simp; omega
  have t36 : (x == 36) = false := by simp; omega
  have t37 : (x == 37) = false := by simp; omega
  have t38 : (x == 38) = false := by simp; omega
  have t63 : (x == 63) = false := by simp; omega
  have t61 : (x == 61) = false := by simp; omega
  have t60 : (x == 60) = false := by simp; omega
  have t54 : (x == 54) = false := by simp; omega
  have t62 : (x == 62) = false := by simp; omega
  clear h
  go_enter Tryd.func29, Tryd.ntmps29
  have S := SH.start w
  go_wp2_with ((with_reducible refine wpl_is ?_); refine S.sliceAny rfl 44 1 _ rfl (ic [8]) 3 (by kernel_rfl) ?_; clear S; intro g w1 S)
  (try simp only [Exit.inBlock, Exit.then])
  go_ret
  exact ⟨_, rfl, HLi.of_blk (S.at (i := 0) rfl).1, S.low⟩
theorem groups_c (x : Int) (w : World) : Calls Tryd.prog 29 #[.int .i64 x] w fun e w' => IRes w (grpL x.toNat) e w' := by
  by_cases h17 : x = 17
  · subst h17
    exact grp_17 w
  by_cases h18 : x = 18
  · subst h18
    exact grp_18 w
  by_cases h19 : x = 19
  · subst h19
    exact grp_19 w
  by_cases h13 : x = 13
  · subst h13
    exact grp_13 w
  by_cases h5 : x = 5
  · subst h5
    exact grp_5 w
  by_cases h3 : x = 3
  · subst h3
    exact grp_3 w
  by_cases h10 : x = 10
  · subst h10
    exact grp_10 w
  by_cases h49 : x = 49
  · subst h49
    exact grp_49 w
  by_cases h50 : x = 50
  · subst h50
    exact grp_50 w
  by_cases h51 : x = 51
  · subst h51
    exact grp_51 w
  by_cases h44 : x = 44
  · subst h44
    exact grp_44 w
  by_cases h45 : x = 45
  · subst h45
    exact grp_45 w
  by_cases h46 : x = 46
  · subst h46
    exact grp_46 w
  by_cases h47 : x = 47
  · subst h47
    exact grp_47 w
  by_cases h48 : x = 48
  · subst h48
    exact grp_48 w
  by_cases h43 : x = 43
  · subst h43
    exact grp_43 w
  by_cases h53 : x = 53
  · subst h53
    exact grp_53 w
  by_cases h52 : x = 52
  · subst h52
    exact grp_52 w
  by_cases h58 : x = 58
  · subst h58
    exact grp_58 w
  by_cases h59 : x = 59
  · subst h59
    exact grp_59 w
  by_cases h39 : x = 39
  · subst h39
    exact grp_39 w
  by_cases h40 : x = 40
  · subst h40
    exact grp_40 w
  by_cases h41 : x = 41
  · subst h41
    exact grp_41 w
  by_cases h42 : x = 42
  · subst h42
    exact grp_42 w
  by_cases h36 : x = 36
  · subst h36
    exact grp_36 w
  by_cases h37 : x = 37
  · subst h37
    exact grp_37 w
  by_cases h38 : x = 38
  · subst h38
    exact grp_38 w
  by_cases h63 : x = 63
  · subst h63
    exact grp_63 w
  by_cases h61 : x = 61
  · subst h61
    exact grp_61 w
  by_cases h60 : x = 60
  · subst h60
    exact grp_60 w
  by_cases h54 : x = 54
  · subst h54
    exact grp_54 w
  by_cases h62 : x = 62
  · subst h62
    exact grp_62 w
  have e : grpL x.toNat = [8] := by
    unfold grpL
    simp only [nbeq, nble]
    rw [show decide (x.toNat = 17) = false by simp; omega]
    rw [show decide (x.toNat = 18) = false by simp; omega]
    rw [show decide (x.toNat = 19) = false by simp; omega]
    rw [show decide (x.toNat = 13) = false by simp; omega]
    rw [show decide (x.toNat = 5) = false by simp; omega]
    rw [show decide (x.toNat = 3) = false by simp; omega]
    rw [show decide (x.toNat = 10) = false by simp; omega]
    rw [show (decide (49 ≤ x.toNat) && decide (x.toNat ≤ 51)) = false by simp; omega, show (decide (44 ≤ x.toNat) && decide (x.toNat ≤ 48)) = false by simp; omega]
    rw [show decide (x.toNat = 43) = false by simp; omega]
    rw [show decide (x.toNat = 53) = false by simp; omega]
    rw [show decide (x.toNat = 52) = false by simp; omega]
    rw [show decide (x.toNat = 58) = false by simp; omega]
    rw [show decide (x.toNat = 59) = false by simp; omega]
    rw [show decide (x.toNat = 39) = false by simp; omega]
    rw [show decide (x.toNat = 40) = false by simp; omega]
    rw [show decide (x.toNat = 41) = false by simp; omega]
    rw [show decide (x.toNat = 42) = false by simp; omega]
    rw [show decide (x.toNat = 36) = false by simp; omega]
    rw [show decide (x.toNat = 37) = false by simp; omega]
    rw [show decide (x.toNat = 38) = false by simp; omega]
    rw [show decide (x.toNat = 63) = false by simp; omega]
    rw [show decide (x.toNat = 61) = false by simp; omega]
    rw [show decide (x.toNat = 60) = false by simp; omega]
    rw [show decide (x.toNat = 54) = false by simp; omega]
    rw [show decide (x.toNat = 62) = false by simp; omega]
    rfl
  rw [e]
  exact grp_other x ⟨h17, h18, h19, h13, h5, h3, h10, h49, h50, h51, h44, h45, h46, h47, h48, h43, h53, h52, h58, h59, h39, h40, h41, h42, h36, h37, h38, h63, h61, h60, h54, h62⟩ w
end Go.Proofs.YtblcklknlfofgaaDoor
namespace Go.Proofs.YtblcklknlfofgaaDoor
open Go.ChangeShapes Go.WideShapes Go.ChangeAt Go.RowKit
set_option linter.unusedVariables false
set_option linter.unusedSimpArgs false

theorem encode_c (i : IV) (hi : OKi i) (b : Bool) (w : World) (HT : LT w) :
    Calls Tryd.prog 14 #[i.val, .bool b] w fun e w' => e = .returned (.tuple #[.int .u16 ((encZ i b).1 : Nat), .bool (encZ i b).2]) ∧ Below w.heap.size w w' :=
  encode_of i b (halvesZ i) (halves_ok i).2 (halves_ok i).1 w HT fun w1 h1 => halves_all i hi w1 h1

/-- Its groups rise, and are below 32. -/
def rises : List Nat → Bool
  | [] => true
  | h :: t => Nat.blt h 32 && (rises t && t.all fun x => Nat.blt h x)
def GOK (l : List Nat) : Prop := rises l = true ∧ l.length ≤ 7
theorem GOK.cond {b : Bool} {x y : List Nat} (hx : GOK x) (hy : GOK y) : GOK (bif b then x else y) := by cases b <;> assumption
theorem grp_ok (op : Nat) : GOK (grpL op) := by
  unfold grpL
  have k : ∀ l, rises l && Nat.ble l.length 7 = true → GOK l := fun l h => by
    simp only [Bool.and_eq_true, nble, decide_eq_true_eq] at h
    exact h
  repeat (refine GOK.cond (k _ (by decide)) ?_)
  exact k _ (by decide)
theorem rises_at : ∀ (l : List Nat) (k g : Nat), rises l = true → l[k]? = some g → g < 32 ∧ ∀ x, hasN (l.drop (k + 1)) x = true → g < x
  | [], k, g, _, h => by simp at h
  | a :: t, k, g, hr, h => by
    simp only [rises, Bool.and_eq_true, nblt, decide_eq_true_eq, List.all_eq_true] at hr
    obtain ⟨h1, h2, h3⟩ := hr
    cases k with
    | zero =>
      simp only [List.getElem?_cons_zero, Option.some.injEq] at h
      subst h
      refine ⟨h1, fun x hx => ?_⟩
      have : ∀ (l : List Nat), hasN l x = true → x ∈ l := by
        intro l
        induction l with
        | nil => intro h; simp [hasN] at h
        | cons c l ih =>
          intro h
          unfold hasN at h
          rw [nbeq] at h
          by_cases e : c = x
          · simp [e]
          · simp only [e, decide_false, cond_false] at h
            exact List.mem_cons_of_mem _ (ih h)
      exact h3 x (this t (by simpa using hx))
    | succ k =>
      simp only [List.getElem?_cons_succ] at h
      exact rises_at t k g h2 h
theorem hasN_drop (l : List Nat) (k g x : Nat) (hk : l[k]? = some g) : hasN (l.drop k) x = bif Nat.beq g x then true else hasN (l.drop (k + 1)) x := by
  have hlt := (List.getElem?_eq_some_iff.1 hk).1
  have e : l.drop k = g :: l.drop (k + 1) := by
    rw [List.drop_eq_getElem_cons hlt]
    rw [List.getElem?_eq_getElem hlt] at hk
    rw [Option.some.inj hk]
  rw [e]
  rfl
def ouRel (w : World) (R : Nat × Bool) (l : List Nat) (gb gc b2 : Nat) (i : IV) (j : Value) (wr : World) : Prop := ∃ k : Nat, k ≤ l.length ∧ j = .int .i64 k ∧ (R.2 = true → hasN (l.drop k) (R.1 / 2048) = true) ∧ HLi wr (.slice (some ⟨gb, 0, none⟩) l.length gc) l ∧ SH noZ w wr [(b2, Cel.iv i)]
def inRel (w : World) (R : Nat × Bool) (l : List Nat) (g gb gc b2 : Nat) (i : IV) (j : Value) (wr : World) : Prop := ∃ h : Nat, g * 2048 ≤ h ∧ h ≤ (g + 1) * 2048 ∧ j = .int .i64 h ∧ (R.2 = true → R.1 / 2048 = g → h ≤ R.1) ∧ HLi wr (.slice (some ⟨gb, 0, none⟩) l.length gc) l ∧ SH noZ w wr [(b2, Cel.iv i)]
set_option maxHeartbeats 4000000 in
set_option maxRecDepth 100000 in
theorem renc_no (i : IV) (b : Bool) (hx : i.wide = true ∨ (i.wide = false ∧ i.op = 64) ∨ (i.wide = false ∧ i.op = 65)) (w : World) :
    Calls Tryd.prog 15 #[i.val, .bool b] w fun e w' => e = .returned (.tuple #[.int .u16 ((0 : Nat) : Int), .bool false]) ∧ Below w.heap.size w w' := by
  rcases hx with h1 | ⟨h1, h2⟩ | ⟨h1, h2⟩
  all_goals
    go_enter Tryd.func15, Tryd.ntmps15
    have S := SH.start w
    go_wp2_with (first
      | ((with_reducible refine wpl_is ?_); first
        | (refine SH.box (L := []) S rfl 29 _ rfl (Cel.iv i) rfl ?_; clear S; intro b2 w0 S)
        | (refine S.ld 3 _ rfl b2 0 rfl 0 (Cel.iv i) rfl _ rfl _ Tryd.underlying3 rfl rfl ?_)
        | (refine S.ld 4 _ rfl b2 1 rfl 0 (Cel.iv i) rfl _ rfl _ Tryd.underlying4 rfl rfl ?_)))
    go_ret2
    exact ⟨rfl, S.low⟩
set_option maxHeartbeats 4000000 in
set_option maxRecDepth 100000 in
theorem renc_of (i : IV) (b : Bool) (R : Nat × Bool) (hw0 : i.wide = false) (h64 : i.op ≠ 64) (h65 : i.op ≠ 65) (hT : R.2 = true → R.1 < 65536 ∧ (decN R.1 b).iv = i ∧ hasN (grpL i.op.toNat) (R.1 / 2048) = true)
    (hF : ∀ h, h < 65536 → (decN h b).iv = i → R.2 = true ∧ R.1 ≤ h) (hN : R.2 = false → R.1 = 0) (w : World) :
    Calls Tryd.prog 15 #[i.val, .bool b] w fun e w' => e = .returned (.tuple #[.int .u16 (R.1 : Nat), .bool R.2]) ∧ Below w.heap.size w w' := by
  have CG : Hid (∀ w, Calls Tryd.prog 29 #[.int .i64 i.op] w fun e w' => IRes w (grpL i.op.toNat) e w') := fun w => groups_c i.op w
  obtain ⟨hr, hl7⟩ := grp_ok i.op.toNat
  have HF : Hid (∀ h, h < 65536 → (decN h b).iv = i → R.2 = true ∧ R.1 ≤ h) := hF
  have HNN : Hid (R.2 = false → R.1 = 0) := hN
  generalize grpL i.op.toNat = l at *
  have HTT : Hid (R.2 = true → R.1 < 65536 ∧ (decN R.1 b).iv = i ∧ hasN l (R.1 / 2048) = true) := hT
  have HRR : Hid (rises l = true) := hr
  have t64 : (i.op == 64) = false := by simpa using h64
  have t65 : (i.op == 65) = false := by simpa using h65
  clear hT hF hN hr h64 h65
  go_enter Tryd.func15, Tryd.ntmps15
  have S := SH.start w
  go_wp2_with (first
    | (go_at_call 29; refine (CG.out _).mono ?_; rintro e wf ⟨v, rfl, ⟨gb, gc, rfl, hcl⟩, hbf⟩; replace S := S.below hbf; clear hbf)
    | ((with_reducible refine wpl_is ?_); first
      | (refine SH.box (L := []) S rfl 29 _ rfl (Cel.iv i) rfl ?_; clear S; intro b2 w0 S)
      | (refine S.ld 3 _ rfl b2 0 rfl 0 (Cel.iv i) rfl _ rfl _ Tryd.underlying3 rfl rfl ?_)
      | (refine S.ld 4 _ rfl b2 1 rfl 0 (Cel.iv i) rfl _ rfl _ Tryd.underlying4 rfl rfl ?_)))
  have ST : Hid (ouRel w R l gb gc b2 i (.int .i64 0) wf) := ⟨0, Nat.zero_le _, rfl, fun h => (HTT.out h).2.2, ⟨gb, gc, rfl, hcl⟩, S⟩
  clear S hcl CG
  go_loopw [7] (fun j wr => ouRel w R l gb gc b2 i j wr) (fun j _ => l.length - (intOf j).toNat)
  case atStart => exact ST.out
  case round =>
    clear ST
    obtain ⟨k, hk, rfl, he, hv, S⟩ := hrel
    obtain ⟨wO, rfl⟩ : ∃ x, x = wr := ⟨wr, rfl⟩
    have HE : Hid (R.2 = true → hasN (l.drop k) (R.1 / 2048) = true) := he
    have HV : Hid (HLi wO (.slice (some ⟨gb, 0, none⟩) l.length gc) l) := hv
    clear he hv
    by_cases hlt : k < l.length
    · have hlt' : (k : Int) < l.length := by omega
      obtain ⟨g, hg⟩ : ∃ g, l[k]? = some g := ⟨l[k], by simp [hlt]⟩
      obtain ⟨hg32, hup⟩ := rises_at l k g HRR.out hg
      have HD : Hid (∀ x, hasN (l.drop k) x = bif Nat.beq g x then true else hasN (l.drop (k + 1)) x) := fun x => hasN_drop l k g x hg
      have HU : Hid (∀ x, hasN (l.drop (k + 1)) x = true → g < x) := hup
      have HG : Hid (l[k]? = some g) := hg
      have hcell : wO.cell? ⟨gb, k, none⟩ = some (.int .i64 (g : Nat)) := by
        obtain ⟨b', c', e1, h2⟩ := HV.out
        simp only [Value.slice.injEq, Option.some.injEq, Addr.mk.injEq, and_true] at e1
        rw [e1.1]
        exact h2 k g hg
      have hs1 : IntKind.i64.wrap ((g : Int) * 2048) = ((g * 2048 : Nat) : Int) := by rw [IntKind.wrap_i64]; omega
      have hs2 : IntKind.i64.wrap (((g : Int) + 1) * 2048) = (((g + 1) * 2048 : Nat) : Int) := by rw [IntKind.wrap_i64]; omega
      have HSH : Hid (IntKind.i64.wrap (((g : Int) + 1) * 2048) = (((g + 1) * 2048 : Nat) : Int)) := hs2
      clear hg hup
      go_wp2_with (first | ((with_reducible refine wpl_isDst 34 ?_); refine wpl_dst 34 rfl (.int .i64 ((g * 2048 : Nat) : Int)) (by go_simp; try simp only [hs1]) rfl ?_))
      clear hs2 hs1
      have ST : Hid (inRel w R l g gb gc b2 i (.int .i64 ((g * 2048 : Nat) : Int)) wO) := ⟨g * 2048, Nat.le_refl _, by omega, rfl, fun _ _ => by omega, HV.out, S⟩
      clear S hcell HV
      go_loopw [8] (fun j wq => inRel w R l g gb gc b2 i j wq) (fun j _ => (g + 1) * 2048 - (intOf j).toNat)
      case atStart => exact ST.out
      case round =>
        clear ST
        obtain ⟨x, hx0, hx1, rfl, he, hv, S⟩ := hrel
        have HI : Hid (R.2 = true → R.1 / 2048 = g → x ≤ R.1) := he
        have HV : Hid (HLi wr (.slice (some ⟨gb, 0, none⟩) l.length gc) l) := hv
        have hcell : wr.cell? ⟨gb, k, none⟩ = some (.int .i64 (g : Nat)) := by
          obtain ⟨b', c', e1, h2⟩ := HV.out
          simp only [Value.slice.injEq, Option.some.injEq, Addr.mk.injEq, and_true] at e1
          rw [e1.1]
          exact h2 k g HG.out
        clear he hv
        obtain ⟨top, htop⟩ : ∃ top : Nat, top = (g + 1) * 2048 := ⟨_, rfl⟩
        have hs2 : IntKind.i64.wrap (((g : Int) + 1) * 2048) = (top : Int) := HSH.out.trans (by rw [htop])
        rw [← htop] at hx1
        have HTP : Hid (top = (g + 1) * 2048) := htop
        have htop2 : top ≤ 65536 := by omega
        clear htop
        by_cases hxt : x < top
        · have hxt' : (x : Int) < top := by omega
          have hx16 : x < 65536 := by omega
          have hwx : IntKind.u16.wrap (x : Int) = (x : Int) := by rw [IntKind.wrap_u16]; omega
          go_wp2_with (first | ((with_reducible refine wpl_isDst 41 ?_); refine wpl_dst 41 rfl (.int .i64 (top : Nat)) (by go_simp; try simp only [hs2]) rfl ?_))
          refine wp_region_held_drew (S := fun w' => SH noZ w w' [(b2, Cel.iv i)]) (by kernel_rfl) (by exact S.drew) (fun _ => ?_)
          replace S := S.drew
          refine wpAnyH_take (i := 0) (v := ?_) rfl (by kernel_rfl) (by kernel_rfl) (by kernel_rfl) (fun _ _ _ h => h) (Or.inl ⟨by rfl, ?_⟩) (by exact S) ?_
          rotate_left 1
          · intro w hSw
            clear hSw
            go_simp
            try with_reducible rfl
          simp only [Act.put, List.setIfInBounds_toArray, List.set_cons_zero, List.set_cons_succ]
          refine wpAnyH_take (i := 1) (v := ?_) rfl (by kernel_rfl) (by kernel_rfl) (by kernel_rfl) (fun _ _ _ h => h) (Or.inl ⟨by rfl, ?_⟩) (by exact S) ?_
          rotate_left 1
          · intro w hSw
            clear hSw
            go_simp
            try with_reducible rfl
          simp only [Act.put, List.setIfInBounds_toArray, List.set_cons_zero, List.set_cons_succ]
          refine wpAnyH_take (i := 2) (v := ?_) rfl (by kernel_rfl) (by kernel_rfl) (by kernel_rfl) (fun _ _ _ h => h) (Or.inl ⟨by rfl, ?_⟩) (by exact S) ?_
          rotate_left 1
          · intro w hSw
            clear hSw
            go_simp
            try with_reducible rfl
          simp only [Act.put, List.setIfInBounds_toArray, List.set_cons_zero, List.set_cons_succ]
          refine wpAnyH_take (i := 4) (v := _) rfl (by kernel_rfl) (by kernel_rfl) (by kernel_rfl) (fun _ _ _ h => h) (y_loadAll (by rfl) _ _ rfl _ rfl 0 _ rfl _ Tryd.underlying29 rfl (szIV _)) (by exact S) ?_
          simp only [Act.put, List.setIfInBounds_toArray, List.set_cons_zero, List.set_cons_succ]
          refine wpAnyH_ready (rs := [3]) (by kernel_rfl) (by simp) ?_
          refine AllReadyH.cons rfl (fun K hK => ?_) AllReadyH.nil
          go_simp
          go_wp2_with (go_at_call 13; refine (rdecode_c x hx16 b _).mono ?_; rintro e wf ⟨rfl, hbf⟩)
          replace S := S.below hbf
          replace HV : Hid (HLi wf (.slice (some ⟨gb, 0, none⟩) l.length gc) l) := HLi.below HV.out ((Below.refl _ _).drew.trans hbf)
          clear hbf
          refine hK.out _ _ (by exact S) (fun _ => ?_)
          clear hK K
          refine wpAnyH_take (i := 5) (oi := { dst := some 50, op := Op.binOp BinOp.eql 29 (Operand.tmp 48) (Operand.tmp 49) 29, type := 4, pos := "sourdineref7.go:463", after := #[{ on := 3, ground := Ground.data }, { on := 4, ground := Ground.data }], guard := none }) (v := _) rfl (by kernel_rfl) (by kernel_rfl) (by kernel_rfl) (fun _ _ _ h => h) (y_eql (by rfl) _ _ _ rfl (decN x b).iv i rfl rfl) (by exact S) ?_
          simp only [Act.put, List.setIfInBounds_toArray, List.set_cons_zero, List.set_cons_succ]
          refine wpAnyH_done (by kernel_rfl) ?_ _
          cases hm : ivEq (decN x b).iv i
          · have hne : R.2 = true → R.1 / 2048 = g → x + 1 ≤ R.1 := fun h2 hgx => by
              have h3 := HI.out h2 hgx
              have h4 := (HTT.out h2).2.1
              rcases Nat.lt_or_ge x R.1 with h5 | h5
              · exact h5
              · have : R.1 = x := by omega
                rw [this] at h4
                rw [(ivEq_iff _ _).2 h4] at hm
                cases hm
            have HNE : Hid (R.2 = true → R.1 / 2048 = g → x + 1 ≤ R.1) := hne
            clear hne hm hcell hs2
            go_wp2
            go_roundw
            case rel => exact ⟨x + 1, by omega, by have := HTP.out; omega, by push_cast; rfl, HNE.out, HV.out, S⟩
            case measure =>
              simp only [intOf]
              have := HTP.out
              omega
          · have h1 := HF.out x hx16 ((ivEq_iff _ _).1 hm)
            have hRx : R.1 = x := by
              have h2 := HE.out h1.1
              rw [HD.out, nbeq] at h2
              have h7 := HTP.out
              by_cases e : g = R.1 / 2048
              · have := HI.out h1.1 e.symm
                omega
              · simp only [e, decide_false, cond_false] at h2
                have := HU.out _ h2
                omega
            have hq : (.tuple #[.int .u16 (R.1 : Nat), .bool R.2] : Value) = .tuple #[.int .u16 (x : Nat), .bool true] := by rw [h1.1, hRx]
            have HRx : Hid ((.tuple #[.int .u16 (R.1 : Nat), .bool R.2] : Value) = .tuple #[.int .u16 (x : Nat), .bool true]) := hq
            clear hq h1 hRx hcell hs2 hm
            go_wp2
            go_ret2
            exact ⟨by rw [HRx.out]; rfl, S.low⟩
        · have hxt' : ¬ (x : Int) < top := by omega
          have hxe : x = top := by omega
          have hnext : R.2 = true → hasN (l.drop (k + 1)) (R.1 / 2048) = true := fun h2 => by
            have h3 := HE.out h2
            rw [HD.out, nbeq] at h3
            by_cases e : g = R.1 / 2048
            · have := HI.out h2 e.symm
              have h7 := HTP.out
              omega
            · simpa only [e, decide_false, cond_false] using h3
          have HNX : Hid (R.2 = true → hasN (l.drop (k + 1)) (R.1 / 2048) = true) := hnext
          clear hnext hxe
          go_wp2_with (first | ((with_reducible refine wpl_isDst 41 ?_); refine wpl_dst 41 rfl (.int .i64 (top : Nat)) (by go_simp; try simp only [hs2]) rfl ?_))
          go_roundw
          case rel => exact ⟨k + 1, hlt, by push_cast; rfl, HNX.out, HV.out, S⟩
          case measure =>
            simp only [intOf]
            omega
    · have hlt' : ¬ (k : Int) < l.length := by omega
      have hR : R.2 = false := by
        cases h2 : R.2
        · rfl
        · have h3 := HE.out h2
          rw [List.drop_eq_nil_of_le (by omega)] at h3
          cases h3
      have hq : (.tuple #[.int .u16 (R.1 : Nat), .bool R.2] : Value) = .tuple #[.int .u16 0, .bool false] := by
        have e := HNN.out hR
        rw [e, hR]
        rfl
      have HRx : Hid ((.tuple #[.int .u16 (R.1 : Nat), .bool R.2] : Value) = .tuple #[.int .u16 0, .bool false]) := hq
      clear hq
      clear hR
      go_wp2
      go_ret2
      exact ⟨by rw [HRx.out]; rfl, S.low⟩
theorem rencode_c (i : IV) (b : Bool) (w : World) :
    Calls Tryd.prog 15 #[i.val, .bool b] w fun e w' => e = .returned (.tuple #[.int .u16 ((encZ i b).1 : Nat), .bool (encZ i b).2]) ∧ Below w.heap.size w w' := by
  by_cases hx : i.wide = true ∨ (i.wide = false ∧ i.op = 64) ∨ (i.wide = false ∧ i.op = 65)
  · have h2 : (encZ i b).2 = false := by
      cases h : (encZ i b).2
      · rfl
      · obtain ⟨_, h4, h5, _⟩ := encZ_T i b h
        rw [← h4] at hx
        unfold undec at h5
        simp only [nbeq] at h5
        rcases hx with e | ⟨_, e⟩ | ⟨_, e⟩
        · exact absurd e (by simp [NV.iv])
        · simp only [NV.iv] at e
          have : (decN (encZ i b).1 b).op = 64 := by omega
          simp [this] at h5
        · simp only [NV.iv] at e
          have : (decN (encZ i b).1 b).op = 65 := by omega
          simp [this] at h5
    rw [h2, encZ_N i b h2]
    exact renc_no i b hx w
  · have hw : i.wide = false := by cases h : i.wide <;> simp_all
    have h64 : i.op ≠ 64 := fun e => hx (.inr (.inl ⟨hw, e⟩))
    have h65 : i.op ≠ 65 := fun e => hx (.inr (.inr ⟨hw, e⟩))
    refine renc_of i b (encZ i b) hw h64 h65 (fun h => ?_) (fun h hh he => ?_) (encZ_N i b) w
    · obtain ⟨h1, h2, _, h3⟩ := encZ_T i b h
      exact ⟨h1, h2, h3⟩
    · refine encZ_F i b h hh he ?_
      unfold undec
      simp only [nbeq, Bool.or_eq_false_iff, decide_eq_false_iff_not]
      have e : i.op = ((decN h b).op : Nat) := by rw [← he]; rfl
      exact ⟨by omega, by omega⟩
end Go.Proofs.YtblcklknlfofgaaDoor
namespace Go.Proofs.YtblcklknlfofgaaDoor
open Go.ChangeShapes Go.WideShapes Go.ChangeAt Go.RowKit Go.Deep
set_option linter.unusedVariables false
set_option linter.unusedSimpArgs false

theorem cellsInstr : Tryd.prog.cellsOf 29 = 15 := by kernel_rfl
theorem cells_int : Tryd.prog.cellsOf 3 = 1 := by kernel_rfl
theorem cells_bool : Tryd.prog.cellsOf 4 = 1 := by kernel_rfl
theorem cells_uint32 : Tryd.prog.cellsOf 27 = 1 := by kernel_rfl
theorem array15 {α : Type} {cs : Array α} (h : cs.size = 15) : ∃ c0 c1 c2 c3 c4 c5 c6 c7 c8 c9 c10 c11 c12 c13 c14, cs = #[c0, c1, c2, c3, c4, c5, c6, c7, c8, c9, c10, c11, c12, c13, c14] := by
  obtain ⟨l⟩ := cs
  match l, h with
  | [c0, c1, c2, c3, c4, c5, c6, c7, c8, c9, c10, c11, c12, c13, c14], _ => exact ⟨c0, c1, c2, c3, c4, c5, c6, c7, c8, c9, c10, c11, c12, c13, c14, rfl⟩
theorem lst15 {α : Type} {l : List α} (h : l.length = 15) : ∃ c0 c1 c2 c3 c4 c5 c6 c7 c8 c9 c10 c11 c12 c13 c14, l = [c0, c1, c2, c3, c4, c5, c6, c7, c8, c9, c10, c11, c12, c13, c14] := by
  match l, h with
  | [c0, c1, c2, c3, c4, c5, c6, c7, c8, c9, c10, c11, c12, c13, c14], _ => exact ⟨c0, c1, c2, c3, c4, c5, c6, c7, c8, c9, c10, c11, c12, c13, c14, rfl⟩
section
variable {H : Type} {enc : TypeId × Value → H} {W : World} {d : DataW H} {p : List MemPlace}
theorem instr_of {v : Value} {r : Reach} {b0 : Nat} (hv : Value.okWide Tryd.prog W r b0 29 v) (h : DataW.Trod enc Tryd.prog W 0 (fun _ => true) true 29 v d p) : ∃ i : IV, v = i.val ∧ OKi i := by
  obtain ⟨cs, rfl, hsz⟩ := okWide_struct Tryd.underlying29 hv
  obtain ⟨c0, c1, c2, c3, c4, c5, c6, c7, c8, c9, c10, c11, c12, c13, c14, rfl⟩ := array15 (hsz.trans cellsInstr)
  obtain ⟨fuel, hf⟩ := h
  obtain ⟨xs, n2, _, _, _, hxl, hfl⟩ := DataW.trod_struct Tryd.underlying29 hf
  have hx15 : xs.length = 15 := hxl
  obtain ⟨y0, y1, y2, y3, y4, y5, y6, y7, y8, y9, y10, y11, y12, y13, y14, rfl⟩ := lst15 hx15
  have g0 : DataW.trod enc Tryd.prog W 0 (fun _ => true) true n2 3 [c0] = some y0 := by simpa [Value.cells, cells_int] using hfl 0 _ rfl
  have g1 : DataW.trod enc Tryd.prog W 0 (fun _ => true) true n2 4 [c1] = some y1 := by simpa [Value.cells, cells_bool] using hfl 1 _ rfl
  have g2 : DataW.trod enc Tryd.prog W 0 (fun _ => true) true n2 4 [c2] = some y2 := by simpa [Value.cells, cells_bool] using hfl 2 _ rfl
  have g3 : DataW.trod enc Tryd.prog W 0 (fun _ => true) true n2 3 [c3] = some y3 := by simpa [Value.cells, cells_int] using hfl 3 _ rfl
  have g4 : DataW.trod enc Tryd.prog W 0 (fun _ => true) true n2 3 [c4] = some y4 := by simpa [Value.cells, cells_int] using hfl 4 _ rfl
  have g5 : DataW.trod enc Tryd.prog W 0 (fun _ => true) true n2 3 [c5] = some y5 := by simpa [Value.cells, cells_int] using hfl 5 _ rfl
  have g6 : DataW.trod enc Tryd.prog W 0 (fun _ => true) true n2 3 [c6] = some y6 := by simpa [Value.cells, cells_int] using hfl 6 _ rfl
  have g7 : DataW.trod enc Tryd.prog W 0 (fun _ => true) true n2 3 [c7] = some y7 := by simpa [Value.cells, cells_int] using hfl 7 _ rfl
  have g8 : DataW.trod enc Tryd.prog W 0 (fun _ => true) true n2 27 [c8] = some y8 := by simpa [Value.cells, cells_uint32] using hfl 8 _ rfl
  have g9 : DataW.trod enc Tryd.prog W 0 (fun _ => true) true n2 4 [c9] = some y9 := by simpa [Value.cells, cells_bool] using hfl 9 _ rfl
  have g10 : DataW.trod enc Tryd.prog W 0 (fun _ => true) true n2 3 [c10] = some y10 := by simpa [Value.cells, cells_int] using hfl 10 _ rfl
  have g11 : DataW.trod enc Tryd.prog W 0 (fun _ => true) true n2 3 [c11] = some y11 := by simpa [Value.cells, cells_int] using hfl 11 _ rfl
  have g12 : DataW.trod enc Tryd.prog W 0 (fun _ => true) true n2 3 [c12] = some y12 := by simpa [Value.cells, cells_int] using hfl 12 _ rfl
  have g13 : DataW.trod enc Tryd.prog W 0 (fun _ => true) true n2 4 [c13] = some y13 := by simpa [Value.cells, cells_bool] using hfl 13 _ rfl
  have g14 : DataW.trod enc Tryd.prog W 0 (fun _ => true) true n2 4 [c14] = some y14 := by simpa [Value.cells, cells_bool] using hfl 14 _ rfl
  obtain ⟨x0, hx0, _, w0⟩ := DataW.trod_int Tryd.underlying3 g0
  obtain ⟨x1, hx1, _⟩ := DataW.trod_bool Tryd.underlying4 g1
  obtain ⟨x2, hx2, _⟩ := DataW.trod_bool Tryd.underlying4 g2
  obtain ⟨x3, hx3, _, w3⟩ := DataW.trod_int Tryd.underlying3 g3
  obtain ⟨x4, hx4, _, w4⟩ := DataW.trod_int Tryd.underlying3 g4
  obtain ⟨x5, hx5, _, w5⟩ := DataW.trod_int Tryd.underlying3 g5
  obtain ⟨x6, hx6, _, w6⟩ := DataW.trod_int Tryd.underlying3 g6
  obtain ⟨x7, hx7, _, w7⟩ := DataW.trod_int Tryd.underlying3 g7
  obtain ⟨x8, hx8, _, w8⟩ := DataW.trod_int Tryd.underlying27 g8
  obtain ⟨x9, hx9, _⟩ := DataW.trod_bool Tryd.underlying4 g9
  obtain ⟨x10, hx10, _, w10⟩ := DataW.trod_int Tryd.underlying3 g10
  obtain ⟨x11, hx11, _, w11⟩ := DataW.trod_int Tryd.underlying3 g11
  obtain ⟨x12, hx12, _, w12⟩ := DataW.trod_int Tryd.underlying3 g12
  obtain ⟨x13, hx13, _⟩ := DataW.trod_bool Tryd.underlying4 g13
  obtain ⟨x14, hx14, _⟩ := DataW.trod_bool Tryd.underlying4 g14
  simp only [List.cons.injEq, and_true] at hx0 hx1 hx2 hx3 hx4 hx5 hx6 hx7 hx8 hx9 hx10 hx11 hx12 hx13 hx14
  subst hx0 hx1 hx2 hx3 hx4 hx5 hx6 hx7 hx8 hx9 hx10 hx11 hx12 hx13 hx14
  have hb := bounds_u32 w8
  exact ⟨⟨x0, x1, x2, x3, x4, x5, x6, x7, x8, x9, x10, x11, x12, x13, x14⟩, rfl, hb⟩
end
end Go.Proofs.YtblcklknlfofgaaDoor
