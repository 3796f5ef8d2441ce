/- Stage 9: the document: DecodeWide, at every pair of halves. -/
import Derived.Test.YtigmekboikgoaaaWg28
import Derived.Test.YtigmekboikgoaaaXm
import Derived.Test.YtigmekboikgoaaaWg10
import Derived.Test.YtigmekboikgoaaaWg14
import Derived.Test.YtigmekboikgoaaaXb
import Derived.Test.YtigmekboikgoaaaWg20
import Derived.Test.YtigmekboikgoaaaWg22
import Derived.Test.YtigmekboikgoaaaWg24
import Derived.Test.YtigmekboikgoaaaWg27
namespace Go.Proofs.Ytigmekboikgoaaa
open Go.ChangeShapes Go.WideShapes Go.ChangeAt Go.RowKit
set_option linter.unusedVariables false
set_option linter.unusedSimpArgs false

theorem dec14 (b : Bool) (i : IV) (x : Nat) (h : i.cond = 14) : decI b i x = i := by
  unfold decI
  rw [h, show ((14 : Int) != 14) = false from rfl, Bool.and_false, Bool.and_false]
  rfl
theorem chk14 (i : IV) (ok : Bool) (x : Nat) (h : i.cond = 14) : (checkedI i ok x).cond = 14 := by
  unfold checkedI
  cases (!ok || (resS i.m || (resS i.a || (!mayD i || !mayN i))))
  · exact h
  · rfl
theorem b14 (c : Bool) (i j : IV) (hi : i.cond = 14) (hj : j.cond = 14) : (bif c then i else j).cond = 14 := by
  cases c
  · exact hj
  · exact hi
theorem data14 (x : Nat) : (dataX x).cond = 14 := by
  unfold dataX dataJ
  repeat (first | apply b14 | rfl)
theorem mod14 (x : Nat) : (modX x).cond = 14 := by
  unfold modX
  refine b14 _ _ _ rfl (chk14 _ _ _ (data14 x))
theorem shi14 (x : Nat) : (shiX x).cond = 14 := by
  unfold shiX
  refine b14 _ _ _ rfl (chk14 _ _ _ (data14 x))
theorem bit14 (op : Int) (x : Nat) : (bitX op x).cond = 14 := by
  unfold bitX
  refine b14 _ _ _ rfl (chk14 _ _ _ rfl)
theorem pla14 (x : Nat) : (plaX x).cond = 14 := by
  unfold plaX
  repeat (first | apply b14 | apply chk14 | apply bit14 | rfl)
theorem lit14 (op d n : Int) (x : Nat) : (litX (startI op d n) x).cond = 14 := by
  unfold litX
  repeat (first | apply b14 | apply chk14 | rfl)
theorem mem14 (x : Nat) : (memX x).cond = 14 := by
  unfold memX
  repeat (first | apply b14 | apply chk14 | apply lit14 | rfl)
theorem man14 (x : Nat) : (manX x).cond = 14 := by
  unfold manX
  repeat (first | apply b14 | apply chk14 | rfl)
theorem una14 (p d n m : Int) (x : Nat) : (unaG p d n m x).cond = 14 := by
  unfold unaG
  repeat (first | apply b14 | apply chk14 | rfl)
theorem reg14 (x : Nat) : (regX x).cond = 14 := by
  unfold regX regG
  repeat (first | apply b14 | apply chk14 | apply una14 | rfl)
def aloK (a p q x : Nat) : IV :=
  bif Nat.beq a 30 && Nat.beq p 1 then branchI x
  else bif Nat.beq q 116 then manX x
  else bif Nat.beq q 117 then shiX x
  else bif Nat.beq q 120 || Nat.beq q 122 then modX x
  else bif Nat.beq q 121 || Nat.beq q 123 then plaX x
  else bif Nat.beq q 124 then memX x
  else bif Nat.beq q 125 then regX x
  else noneI 64 x
theorem aloX_k (x : Nat) : aloX x = aloK (fd x 27 5) (fd x 15 1) (fd x 25 7) x := rfl
def unaQ (r l : Nat) : Bool := unaRS r l == 64 || (!(unaRS r l == 25 || (unaRS r l == 24 || (unaRS r l == 27 || unaRS r l == 26))) && !(unaRS r l == 22 || unaRS r l == 23))
theorem unaQ_all : (List.range 16).all (fun r => (List.range 16).all fun l => unaQ r l) = true := by decide +kernel
theorem reg_none (x : Nat) (h : fd x 24 8 = 250) (h12 : fd x 12 4 ≠ 15) : regX x = noneI 64 x := by
  have c := List.all_eq_true.1 (List.all_eq_true.1 unaQ_all (fd x 20 4) (List.mem_range.2 (fd_lt x 20 4))) (fd x 4 4) (List.mem_range.2 (fd_lt x 4 4))
  unfold regX
  rw [regOp_una x h]
  unfold unaQ at c
  generalize unaRS (fd x 20 4) (fd x 4 4) = p at *
  have e15 : (((fd x 12 4 : Nat) : Int) != 15) = true := by simp; omega
  unfold regG
  rw [e15]
  cases e : (p == 64)
  · rw [e, Bool.false_or] at c
    simp only [Bool.and_eq_true, Bool.not_eq_true'] at c
    rw [c.1, c.2]
    rfl
  · rfl
theorem rwords_c (h k x : Nat) (hh : h < 65536) (hk : k < 65536) (hx0 : x = h * 65536 + k) (b : Bool) (w : World) : Calls Try.prog 14 #[.int .u16 h, .int .u16 k, .bool b] w fun e w' => Two w (decI b (aloX x) x) x e w' := by
  have k11 : (h : Int) / 2048 = ((fd x 27 5 : Nat) : Int) := by
    rw [hx0, fdh h k 11 5 hk]
    unfold fd
    omega
  have k9 : (h : Int) / 512 = ((fd x 25 7 : Nat) : Int) := by
    rw [hx0, fdh h k 9 7 hk]
    unfold fd
    omega
  have k8 : (h : Int) / 256 = ((fd x 24 8 : Nat) : Int) := by
    rw [hx0, fdh h k 8 8 hk]
    unfold fd
    omega
  have k15 : (k : Int) / 32768 = ((fd x 15 1 : Nat) : Int) := by
    rw [hx0, fdk h k 15 1 (by decide)]
    unfold fd
    omega
  have k12 : (k : Int) / 4096 = ((fd x 12 4 : Nat) : Int) := by
    rw [hx0, fdk h k 12 4 (by decide)]
    unfold fd
    omega
  have kb : bits .and .u16 ((fd x 25 7 : Nat) : Int) 1 = ((fd x 25 1 : Nat) : Int) := by
    have h7 := fd_lt x 25 7
    have := fd_u16 (fd x 25 7) 0 1 (by omega) (by decide) ((fd x 25 7 : Nat) : Int) 1 (by simp) rfl
    rw [this]
    congr 1
    unfold fd
    omega
  have h6_1 : bits .and .u16 ((h : Int) / 64) 1 = ((fd x 22 1 : Nat) : Int) := by rw [hx0, fdh h k 6 1 hk]; exact fd_u16 h 6 1 hh (by decide) _ _ (by simp) rfl
  have e98 : fd x 25 7 = fd x 24 8 / 2 := by unfold fd; omega
  have e11 : fd x 27 5 = fd x 24 8 / 8 := by unfold fd; omega
  have e25 : fd x 25 1 = fd x 25 7 % 2 := by unfold fd; omega
  have e275 : fd x 27 5 = fd x 25 7 / 4 := by unfold fd; omega
  refine rwords_g h k (fd x 27 5) (fd x 15 1) (fd x 25 7) (fd x 25 1) (fd x 24 8) (fd x 12 4) (fd x 22 1) x b (decI b (aloX x) x) k11 k15 k9 kb k8 k12 h6_1 (fd_lt x 15 1) (fd_lt x 25 1) (fd_lt x 22 1) e98 e11 ?_ ?_ ?_ ?_ ?_ ?_ ?_ ?_ ?_ w
  · intro c w
    have e : aloX x = modX x := by
      rw [aloX_k, c.1, c.2.1]
      rcases (show fd x 25 7 = 120 ∨ fd x 25 7 = 122 by omega) with q | q <;> rw [q] <;> rfl
    rw [e, dec14 b _ x (mod14 x)]
    exact rmodified_c h k x hh hk hx0 w
  · intro c w
    have e : aloX x = plaX x := by
      rw [aloX_k, c.1, c.2.1]
      rcases (show fd x 25 7 = 121 ∨ fd x 25 7 = 123 by omega) with q | q <;> rw [q] <;> rfl
    rw [e, dec14 b _ x (pla14 x)]
    exact rnumbers_c h k x hh hk hx0 w
  · intro c w
    have e : aloX x = branchI x := by
      rw [aloX_k, c.1, c.2]
      rfl
    rw [e]
    exact rbranch_c h k x hh hk hx0 b w
  · intro c w
    have e : aloX x = shiX x := by
      rw [aloX_k, show fd x 27 5 = 29 by omega, c]
      rfl
    rw [e, dec14 b _ x (shi14 x)]
    exact rshifted_c h k x hh hk hx0 w
  · intro c w
    have e : aloX x = regX x := by
      rw [aloX_k, show fd x 27 5 = 31 by omega, show fd x 25 7 = 125 by omega]
      rfl
    rw [e, dec14 b _ x (reg14 x)]
    exact runary_c h k x hh hk hx0 c.1 c.2 w
  · intro c w
    have e : aloX x = regX x := by
      rw [aloX_k, show fd x 27 5 = 31 by omega, show fd x 25 7 = 125 by omega]
      rfl
    rw [e, dec14 b _ x (reg14 x)]
    exact rmultiply_c h k x hh hk hx0 c w
  · intro c w
    have e : aloX x = memX x := by
      rw [aloX_k, show fd x 27 5 = 31 by omega, c]
      rfl
    rw [e, dec14 b _ x (mem14 x)]
    exact rmemory_c h k x hh hk hx0 w
  · intro c w
    have e : aloX x = manX x := by
      rw [aloX_k, show fd x 27 5 = 29 by omega, c.1]
      rfl
    rw [e, dec14 b _ x (man14 x)]
    exact rmany_c h k x hh hk hx0 c.2 w
  · intro c
    have hf : fin IV.zero false x = noneI 64 x := rfl
    have hd : decI b (noneI 64 x) x = noneI 64 x := dec14 b _ x rfl
    rw [hf]
    rcases c with ⟨c1, c2⟩ | ⟨c1, c2⟩ | ⟨c1, c2, c3, c4, c5, c6⟩
    · have e : aloX x = noneI 64 x := by
        rw [aloX_k, show fd x 27 5 = 29 by omega, c1]
        show manX x = _
        have e22 : fd x 22 3 % 2 = 1 := by unfold fd at *; omega
        unfold manX
        rw [show Nat.beq (fd x 22 3) 2 = false by rw [nbeq]; simp; omega, show Nat.beq (fd x 22 3) 4 = false by rw [nbeq]; simp; omega]
        rfl
      rw [e, hd]
    · have e : aloX x = noneI 64 x := by
        rw [aloX_k, show fd x 27 5 = 31 by omega, show fd x 25 7 = 125 by omega]
        exact reg_none x c1 c2
      rw [e, hd]
    · have e : aloX x = noneI 64 x := by
        rw [aloX_k]
        unfold aloK
        rw [show Nat.beq (fd x 27 5) 30 = false by rw [nbeq]; simp; omega, Bool.false_and, show Nat.beq (fd x 25 7) 116 = false by rw [nbeq]; simp; omega, show Nat.beq (fd x 25 7) 117 = false by rw [nbeq]; simp; omega, show Nat.beq (fd x 25 7) 120 = false by rw [nbeq]; simp; omega, show Nat.beq (fd x 25 7) 122 = false by rw [nbeq]; simp; omega, show Nat.beq (fd x 25 7) 121 = false by rw [nbeq]; simp; omega, show Nat.beq (fd x 25 7) 123 = false by rw [nbeq]; simp; omega, show Nat.beq (fd x 25 7) 124 = false by rw [nbeq]; simp; omega, show Nat.beq (fd x 25 7) 125 = false by rw [nbeq]; simp; omega]
        rfl
      rw [e, hd]
set_option maxHeartbeats 20000000 in
set_option maxRecDepth 100000 in
theorem rdw_g (h k x : Nat) (b : Bool) (X : IV) (bh : h < 65536) (bk : k < 65536) (j1 : bits .or .u32 ((h : Int) * 65536) (k : Int) = (x : Int)) (CW : ∀ w, Calls Try.prog 14 #[.int .u16 h, .int .u16 k, .bool b] w fun e w' => Two w X x e w')
    (w : World) : Calls Try.prog 9 #[.int .u16 h, .int .u16 k, .bool b] w fun e w' => e = .returned X.val ∧ Below w.heap.size w w' := by
  have QW : Hid _ := CW
  clear CW
  go_enter Try.func9, Try.ntmps9
  have S := SH.start w
  go_wp2_with (first
    | ((with_reducible refine wpl_isDst 6 ?_); (first | refine S.alloc rfl 30 rfl (Cel.any zeroL) zeroA ?_ | refine SH.alloc (L := []) S rfl 30 rfl (Cel.any zeroL) zeroA ?_); clear S; intro b6 w6 S)
    | ((with_reducible refine wpl_isDst 8 ?_); (first | refine S.alloc rfl 30 rfl (Cel.any zeroL) zeroA ?_ | refine SH.alloc (L := []) S rfl 30 rfl (Cel.any zeroL) zeroA ?_); clear S; intro b8 w8 S)
    | ((with_reducible refine wpl_isStoreAt 8 ?_); (first | refine S.storeA rfl 30 _ _ rfl b8 _ rfl rfl 0 _ rfl rfl rfl (szA _ rfl) ?_ | refine S.storeA rfl 30 _ _ rfl b8 _ rfl rfl 1 _ rfl rfl rfl (szA _ rfl) ?_); clear S; intro w2 S; (simp only [Cel.cells, IV.cellsL, zeroL, List.set_cons_zero, List.set_cons_succ, startI, secondI, noneI, startI] at S))
    | (go_at_call 15; refine (rundef_c _ _).mono ?_; rintro e wf ⟨rfl, hbf⟩; replace S := S.below hbf; clear hbf)
    | ((with_reducible refine wpl_isStoreAt 27 ?_); (first | refine S.store1 rfl 4 _ _ rfl b8 1 (.bool _) rfl rfl 0 _ rfl rfl (of_decide_eq_true rfl) (Cel.any _) rfl (by kernel_rfl) ?_ | refine S.store1 rfl 4 _ _ rfl b8 1 (.bool _) rfl rfl 1 _ rfl rfl (of_decide_eq_true rfl) (Cel.any _) rfl (by kernel_rfl) ?_); clear S; intro w2 S; (simp only [Cel.cells, IV.cellsL, zeroL, List.set_cons_zero, List.set_cons_succ, startI, secondI, noneI, startI] at S))
    | ((with_reducible refine wpl_isDst 29 ?_); (first | refine S.ld 3 _ rfl b8 0 rfl 0 _ rfl _ rfl _ Try.underlying3 rfl rfl ?_ | refine S.ld 3 _ rfl b8 0 rfl 1 _ rfl _ rfl _ Try.underlying3 rfl rfl ?_))
    | (go_at_call 16; refine (rbad_c _ _).mono ?_; rintro e wf ⟨rfl, hbf⟩; replace S := S.below hbf; clear hbf)
    | ((with_reducible refine wpl_isStoreAt 33 ?_); (first | refine S.store1 rfl 4 _ _ rfl b8 1 (.bool _) rfl rfl 0 _ rfl rfl (of_decide_eq_true rfl) (Cel.any _) rfl (by kernel_rfl) ?_ | refine S.store1 rfl 4 _ _ rfl b8 1 (.bool _) rfl rfl 1 _ rfl rfl (of_decide_eq_true rfl) (Cel.any _) rfl (by kernel_rfl) ?_); clear S; intro w2 S; (simp only [Cel.cells, IV.cellsL, zeroL, List.set_cons_zero, List.set_cons_succ, startI, secondI, noneI, startI] at S))
    | ((with_reducible refine wpl_isDst 34 ?_); (first | refine S.ldAll 30 _ rfl b8 rfl 0 _ rfl _ Try.underlying30 rfl (szA _ rfl) rfl ?_ | refine S.ldAll 30 _ rfl b8 rfl 1 _ rfl _ Try.underlying30 rfl (szA _ rfl) rfl ?_))
    | ((with_reducible refine wpl_isStoreAt 6 ?_); (first | refine S.storeA rfl 30 _ _ rfl b6 _ rfl rfl 0 _ rfl rfl rfl (szA _ rfl) ?_ | refine S.storeA rfl 30 _ _ rfl b6 _ rfl rfl 1 _ rfl rfl rfl (szA _ rfl) ?_); clear S; intro w2 S; (simp only [Cel.cells, IV.cellsL, zeroL, List.set_cons_zero, List.set_cons_succ, startI, secondI, noneI, startI] at S)))
  refine (QW.out _).mono ?_
  rintro e wf ⟨i, ok, rfl, HX, hbf⟩
  clear QW
  replace S := S.below hbf
  clear hbf
  have HX2 : Hid _ := HX
  clear HX
  cases ok
  · obtain rfl : noneI 64 x = X := HX2.out
    clear HX2
    go_wp2_with (first
      | ((with_reducible refine wpl_isDst 6 ?_); (first | refine S.alloc rfl 30 rfl (Cel.any zeroL) zeroA ?_ | refine SH.alloc (L := []) S rfl 30 rfl (Cel.any zeroL) zeroA ?_); clear S; intro b6 w6 S)
      | ((with_reducible refine wpl_isDst 8 ?_); (first | refine S.alloc rfl 30 rfl (Cel.any zeroL) zeroA ?_ | refine SH.alloc (L := []) S rfl 30 rfl (Cel.any zeroL) zeroA ?_); clear S; intro b8 w8 S)
      | ((with_reducible refine wpl_isStoreAt 8 ?_); (first | refine S.storeA rfl 30 _ _ rfl b8 _ rfl rfl 0 _ rfl rfl rfl (szA _ rfl) ?_ | refine S.storeA rfl 30 _ _ rfl b8 _ rfl rfl 1 _ rfl rfl rfl (szA _ rfl) ?_); clear S; intro w2 S; (simp only [Cel.cells, IV.cellsL, zeroL, List.set_cons_zero, List.set_cons_succ, startI, secondI, noneI, startI] at S))
      | (go_at_call 15; refine (rundef_c _ _).mono ?_; rintro e wf ⟨rfl, hbf⟩; replace S := S.below hbf; clear hbf)
      | ((with_reducible refine wpl_isStoreAt 27 ?_); (first | refine S.store1 rfl 4 _ _ rfl b8 1 (.bool _) rfl rfl 0 _ rfl rfl (of_decide_eq_true rfl) (Cel.any _) rfl (by kernel_rfl) ?_ | refine S.store1 rfl 4 _ _ rfl b8 1 (.bool _) rfl rfl 1 _ rfl rfl (of_decide_eq_true rfl) (Cel.any _) rfl (by kernel_rfl) ?_); clear S; intro w2 S; (simp only [Cel.cells, IV.cellsL, zeroL, List.set_cons_zero, List.set_cons_succ, startI, secondI, noneI, startI] at S))
      | ((with_reducible refine wpl_isDst 29 ?_); (first | refine S.ld 3 _ rfl b8 0 rfl 0 _ rfl _ rfl _ Try.underlying3 rfl rfl ?_ | refine S.ld 3 _ rfl b8 0 rfl 1 _ rfl _ rfl _ Try.underlying3 rfl rfl ?_))
      | (go_at_call 16; refine (rbad_c _ _).mono ?_; rintro e wf ⟨rfl, hbf⟩; replace S := S.below hbf; clear hbf)
      | ((with_reducible refine wpl_isStoreAt 33 ?_); (first | refine S.store1 rfl 4 _ _ rfl b8 1 (.bool _) rfl rfl 0 _ rfl rfl (of_decide_eq_true rfl) (Cel.any _) rfl (by kernel_rfl) ?_ | refine S.store1 rfl 4 _ _ rfl b8 1 (.bool _) rfl rfl 1 _ rfl rfl (of_decide_eq_true rfl) (Cel.any _) rfl (by kernel_rfl) ?_); clear S; intro w2 S; (simp only [Cel.cells, IV.cellsL, zeroL, List.set_cons_zero, List.set_cons_succ, startI, secondI, noneI, startI] at S))
      | ((with_reducible refine wpl_isDst 34 ?_); (first | refine S.ldAll 30 _ rfl b8 rfl 0 _ rfl _ Try.underlying30 rfl (szA _ rfl) rfl ?_ | refine S.ldAll 30 _ rfl b8 rfl 1 _ rfl _ Try.underlying30 rfl (szA _ rfl) rfl ?_))
      | ((with_reducible refine wpl_isStoreAt 6 ?_); (first | refine S.storeA rfl 30 _ _ rfl b6 _ rfl rfl 0 _ rfl rfl rfl (szA _ rfl) ?_ | refine S.storeA rfl 30 _ _ rfl b6 _ rfl rfl 1 _ rfl rfl rfl (szA _ rfl) ?_); clear S; intro w2 S; (simp only [Cel.cells, IV.cellsL, zeroL, List.set_cons_zero, List.set_cons_succ, startI, secondI, noneI, startI] at S)))
    (try simp only [Exit.inBlock, Exit.then])
    (first | refine bodyPost_ret (S.results rfl _ _ rfl 0 _ rfl _ Try.underlying30 rfl (szA _ rfl)) rfl ?_ | refine bodyPost_ret (S.results rfl _ _ rfl 1 _ rfl _ Try.underlying30 rfl (szA _ rfl)) rfl ?_)
    exact ⟨rfl, S.low⟩
  · cases hq : (i.op == 65)
    · obtain rfl : i = X := by
        have := HX2.out
        unfold fin at this
        rw [hq] at this
        exact this
      clear HX2
      go_wp2_with (first
        | ((with_reducible refine wpl_isDst 6 ?_); (first | refine S.alloc rfl 30 rfl (Cel.any zeroL) zeroA ?_ | refine SH.alloc (L := []) S rfl 30 rfl (Cel.any zeroL) zeroA ?_); clear S; intro b6 w6 S)
        | ((with_reducible refine wpl_isDst 8 ?_); (first | refine S.alloc rfl 30 rfl (Cel.any zeroL) zeroA ?_ | refine SH.alloc (L := []) S rfl 30 rfl (Cel.any zeroL) zeroA ?_); clear S; intro b8 w8 S)
        | ((with_reducible refine wpl_isStoreAt 8 ?_); (first | refine S.storeA rfl 30 _ _ rfl b8 _ rfl rfl 0 _ rfl rfl rfl (szA _ rfl) ?_ | refine S.storeA rfl 30 _ _ rfl b8 _ rfl rfl 1 _ rfl rfl rfl (szA _ rfl) ?_); clear S; intro w2 S; (simp only [Cel.cells, IV.cellsL, zeroL, List.set_cons_zero, List.set_cons_succ, startI, secondI, noneI, startI] at S))
        | (go_at_call 15; refine (rundef_c _ _).mono ?_; rintro e wf ⟨rfl, hbf⟩; replace S := S.below hbf; clear hbf)
        | ((with_reducible refine wpl_isStoreAt 27 ?_); (first | refine S.store1 rfl 4 _ _ rfl b8 1 (.bool _) rfl rfl 0 _ rfl rfl (of_decide_eq_true rfl) (Cel.any _) rfl (by kernel_rfl) ?_ | refine S.store1 rfl 4 _ _ rfl b8 1 (.bool _) rfl rfl 1 _ rfl rfl (of_decide_eq_true rfl) (Cel.any _) rfl (by kernel_rfl) ?_); clear S; intro w2 S; (simp only [Cel.cells, IV.cellsL, zeroL, List.set_cons_zero, List.set_cons_succ, startI, secondI, noneI, startI] at S))
        | ((with_reducible refine wpl_isDst 29 ?_); (first | refine S.ld 3 _ rfl b8 0 rfl 0 _ rfl _ rfl _ Try.underlying3 rfl rfl ?_ | refine S.ld 3 _ rfl b8 0 rfl 1 _ rfl _ rfl _ Try.underlying3 rfl rfl ?_))
        | (go_at_call 16; refine (rbad_c _ _).mono ?_; rintro e wf ⟨rfl, hbf⟩; replace S := S.below hbf; clear hbf)
        | ((with_reducible refine wpl_isStoreAt 33 ?_); (first | refine S.store1 rfl 4 _ _ rfl b8 1 (.bool _) rfl rfl 0 _ rfl rfl (of_decide_eq_true rfl) (Cel.any _) rfl (by kernel_rfl) ?_ | refine S.store1 rfl 4 _ _ rfl b8 1 (.bool _) rfl rfl 1 _ rfl rfl (of_decide_eq_true rfl) (Cel.any _) rfl (by kernel_rfl) ?_); clear S; intro w2 S; (simp only [Cel.cells, IV.cellsL, zeroL, List.set_cons_zero, List.set_cons_succ, startI, secondI, noneI, startI] at S))
        | ((with_reducible refine wpl_isDst 34 ?_); (first | refine S.ldAll 30 _ rfl b8 rfl 0 _ rfl _ Try.underlying30 rfl (szA _ rfl) rfl ?_ | refine S.ldAll 30 _ rfl b8 rfl 1 _ rfl _ Try.underlying30 rfl (szA _ rfl) rfl ?_))
        | ((with_reducible refine wpl_isStoreAt 6 ?_); (first | refine S.storeA rfl 30 _ _ rfl b6 _ rfl rfl 0 _ rfl rfl rfl (szA _ rfl) ?_ | refine S.storeA rfl 30 _ _ rfl b6 _ rfl rfl 1 _ rfl rfl rfl (szA _ rfl) ?_); clear S; intro w2 S; (simp only [Cel.cells, IV.cellsL, zeroL, List.set_cons_zero, List.set_cons_succ, startI, secondI, noneI, startI] at S)))
      (try simp only [Exit.inBlock, Exit.then])
      (first | refine bodyPost_ret (S.results rfl _ _ rfl 0 _ rfl _ Try.underlying30 rfl (szA _ rfl)) rfl ?_ | refine bodyPost_ret (S.results rfl _ _ rfl 1 _ rfl _ Try.underlying30 rfl (szA _ rfl)) rfl ?_)
      exact ⟨rfl, S.low⟩
    · obtain rfl : noneI 65 x = X := by
        have := HX2.out
        unfold fin at this
        rw [hq] at this
        exact this
      clear HX2
      go_wp2_with (first
        | ((with_reducible refine wpl_isDst 6 ?_); (first | refine S.alloc rfl 30 rfl (Cel.any zeroL) zeroA ?_ | refine SH.alloc (L := []) S rfl 30 rfl (Cel.any zeroL) zeroA ?_); clear S; intro b6 w6 S)
        | ((with_reducible refine wpl_isDst 8 ?_); (first | refine S.alloc rfl 30 rfl (Cel.any zeroL) zeroA ?_ | refine SH.alloc (L := []) S rfl 30 rfl (Cel.any zeroL) zeroA ?_); clear S; intro b8 w8 S)
        | ((with_reducible refine wpl_isStoreAt 8 ?_); (first | refine S.storeA rfl 30 _ _ rfl b8 _ rfl rfl 0 _ rfl rfl rfl (szA _ rfl) ?_ | refine S.storeA rfl 30 _ _ rfl b8 _ rfl rfl 1 _ rfl rfl rfl (szA _ rfl) ?_); clear S; intro w2 S; (simp only [Cel.cells, IV.cellsL, zeroL, List.set_cons_zero, List.set_cons_succ, startI, secondI, noneI, startI] at S))
        | (go_at_call 15; refine (rundef_c _ _).mono ?_; rintro e wf ⟨rfl, hbf⟩; replace S := S.below hbf; clear hbf)
        | ((with_reducible refine wpl_isStoreAt 27 ?_); (first | refine S.store1 rfl 4 _ _ rfl b8 1 (.bool _) rfl rfl 0 _ rfl rfl (of_decide_eq_true rfl) (Cel.any _) rfl (by kernel_rfl) ?_ | refine S.store1 rfl 4 _ _ rfl b8 1 (.bool _) rfl rfl 1 _ rfl rfl (of_decide_eq_true rfl) (Cel.any _) rfl (by kernel_rfl) ?_); clear S; intro w2 S; (simp only [Cel.cells, IV.cellsL, zeroL, List.set_cons_zero, List.set_cons_succ, startI, secondI, noneI, startI] at S))
        | ((with_reducible refine wpl_isDst 29 ?_); (first | refine S.ld 3 _ rfl b8 0 rfl 0 _ rfl _ rfl _ Try.underlying3 rfl rfl ?_ | refine S.ld 3 _ rfl b8 0 rfl 1 _ rfl _ rfl _ Try.underlying3 rfl rfl ?_))
        | (go_at_call 16; refine (rbad_c _ _).mono ?_; rintro e wf ⟨rfl, hbf⟩; replace S := S.below hbf; clear hbf)
        | ((with_reducible refine wpl_isStoreAt 33 ?_); (first | refine S.store1 rfl 4 _ _ rfl b8 1 (.bool _) rfl rfl 0 _ rfl rfl (of_decide_eq_true rfl) (Cel.any _) rfl (by kernel_rfl) ?_ | refine S.store1 rfl 4 _ _ rfl b8 1 (.bool _) rfl rfl 1 _ rfl rfl (of_decide_eq_true rfl) (Cel.any _) rfl (by kernel_rfl) ?_); clear S; intro w2 S; (simp only [Cel.cells, IV.cellsL, zeroL, List.set_cons_zero, List.set_cons_succ, startI, secondI, noneI, startI] at S))
        | ((with_reducible refine wpl_isDst 34 ?_); (first | refine S.ldAll 30 _ rfl b8 rfl 0 _ rfl _ Try.underlying30 rfl (szA _ rfl) rfl ?_ | refine S.ldAll 30 _ rfl b8 rfl 1 _ rfl _ Try.underlying30 rfl (szA _ rfl) rfl ?_))
        | ((with_reducible refine wpl_isStoreAt 6 ?_); (first | refine S.storeA rfl 30 _ _ rfl b6 _ rfl rfl 0 _ rfl rfl rfl (szA _ rfl) ?_ | refine S.storeA rfl 30 _ _ rfl b6 _ rfl rfl 1 _ rfl rfl rfl (szA _ rfl) ?_); clear S; intro w2 S; (simp only [Cel.cells, IV.cellsL, zeroL, List.set_cons_zero, List.set_cons_succ, startI, secondI, noneI, startI] at S)))
      (try simp only [Exit.inBlock, Exit.then])
      (first | refine bodyPost_ret (S.results rfl _ _ rfl 0 _ rfl _ Try.underlying30 rfl (szA _ rfl)) rfl ?_ | refine bodyPost_ret (S.results rfl _ _ rfl 1 _ rfl _ Try.underlying30 rfl (szA _ rfl)) rfl ?_)
      exact ⟨rfl, S.low⟩
theorem rdecodeWide_c (h k : Nat) (hh : h < 65536) (hk : k < 65536) (b : Bool) (w : World) : Calls Try.prog 9 #[.int .u16 h, .int .u16 k, .bool b] w fun e w' => e = .returned (decI b (aloX (h * 65536 + k)) (h * 65536 + k)).val ∧ Below w.heap.size w w' :=
  rdw_g h k (h * 65536 + k) b _ hh hk (u32_join (h * 65536) k 16 (by omega) (by omega) hk (by omega)) (rwords_c h k _ hh hk rfl b) w
end Go.Proofs.Ytigmekboikgoaaa
