/- Stage 9: bits of a wide word; the small functions of package wide, walked. -/
import Derived.Test.YtigmekboikgoaaaXi
import Derived.Laws.BitsAllLaws
namespace Go.Proofs.Ytigmekboikgoaaa
open Go.ChangeShapes Go.WideShapes Go.ChangeAt Go.RowKit
set_option linter.unusedVariables false
set_option linter.unusedSimpArgs false

/-- Bits of a word. -/
def fd (h a s : Nat) : Nat := h / 2 ^ a % 2 ^ s
theorem fd_lt (h a s : Nat) : fd h a s < 2 ^ s := Nat.mod_lt _ (Nat.two_pow_pos s)
theorem fd_land (h a s : Nat) : (h / 2 ^ a) &&& (2 ^ s - 1) = fd h a s := Nat.and_two_pow_sub_one_eq_mod _ _
theorem fd_u32 (h a s : Nat) (hh : h < 4294967296) (hs : s ≤ 31) (x y : Int) (hx : x = ((h / 2 ^ a : Nat) : Int)) (hy : y = ((2 ^ s - 1 : Nat) : Int)) : bits .and .u32 x y = ((fd h a s : Nat) : Int) := by
  have h2 : 2 ^ s ≤ 2 ^ 31 := Nat.pow_le_pow_right (by decide) hs
  have h3 := Nat.two_pow_pos s
  rw [hx, hy, u32_and_nat _ _ (Nat.lt_of_le_of_lt (Nat.div_le_self _ _) hh) (by omega), fd_land]
theorem fd_wrap (h a s : Nat) (hs : s ≤ 16) : wrap64 (fd h a s : Nat) = (fd h a s : Nat) := by
  have h2 : 2 ^ s ≤ 2 ^ 16 := Nat.pow_le_pow_right (by decide) hs
  have := fd_lt h a s
  unfold wrap64
  omega
/-- What is no instruction that may be; what begins one. -/
def noneI (op w : Nat) : IV := ⟨op, true, false, 14, 0, 0, 0, 0, w, false, 0, 0, 0, false, false⟩
def startI (op d n : Int) : IV := ⟨op, true, false, 14, d, n, 0, 0, 0, false, 0, 0, 0, false, false⟩
def Says (w : World) (i : IV) (e : Ending) (w' : World) : Prop := e = .returned i.val ∧ Below w.heap.size w w'
theorem field_21_4 (h : Nat) (hh : h < 4294967296) (w : World) : Calls Try.prog 46 #[.int .u32 h, .int .i64 21, .int .i64 4] w fun e w' => e = .returned (.int .i64 (fd h 21 4 : Nat)) ∧ Below w.heap.size w w' := by
  have key : bits .and .u32 ((h : Int) / 2097152) 15 = (fd h 21 4 : Nat) := fd_u32 h 21 4 hh (by decide) _ _ (by first | rfl | simp) rfl
  have hv := fd_wrap h 21 4 (by decide)
  go_enter Try.func46, Try.ntmps46
  go_wp2
  go_region
  go_wp2
  go_ret
  exact ⟨by first | (rw [hv]; rfl) | rfl, (Below.refl _ _).drew⟩
theorem field_8_4 (h : Nat) (hh : h < 4294967296) (w : World) : Calls Try.prog 46 #[.int .u32 h, .int .i64 8, .int .i64 4] w fun e w' => e = .returned (.int .i64 (fd h 8 4 : Nat)) ∧ Below w.heap.size w w' := by
  have key : bits .and .u32 ((h : Int) / 256) 15 = (fd h 8 4 : Nat) := fd_u32 h 8 4 hh (by decide) _ _ (by first | rfl | simp) rfl
  have hv := fd_wrap h 8 4 (by decide)
  go_enter Try.func46, Try.ntmps46
  go_wp2
  go_region
  go_wp2
  go_ret
  exact ⟨by first | (rw [hv]; rfl) | rfl, (Below.refl _ _).drew⟩
theorem field_16_4 (h : Nat) (hh : h < 4294967296) (w : World) : Calls Try.prog 46 #[.int .u32 h, .int .i64 16, .int .i64 4] w fun e w' => e = .returned (.int .i64 (fd h 16 4 : Nat)) ∧ Below w.heap.size w w' := by
  have key : bits .and .u32 ((h : Int) / 65536) 15 = (fd h 16 4 : Nat) := fd_u32 h 16 4 hh (by decide) _ _ (by first | rfl | simp) rfl
  have hv := fd_wrap h 16 4 (by decide)
  go_enter Try.func46, Try.ntmps46
  go_wp2
  go_region
  go_wp2
  go_ret
  exact ⟨by first | (rw [hv]; rfl) | rfl, (Below.refl _ _).drew⟩
theorem field_26_1 (h : Nat) (hh : h < 4294967296) (w : World) : Calls Try.prog 46 #[.int .u32 h, .int .i64 26, .int .i64 1] w fun e w' => e = .returned (.int .i64 (fd h 26 1 : Nat)) ∧ Below w.heap.size w w' := by
  have key : bits .and .u32 ((h : Int) / 67108864) 1 = (fd h 26 1 : Nat) := fd_u32 h 26 1 hh (by decide) _ _ (by first | rfl | simp) rfl
  have hv := fd_wrap h 26 1 (by decide)
  go_enter Try.func46, Try.ntmps46
  go_wp2
  go_region
  go_wp2
  go_ret
  exact ⟨by first | (rw [hv]; rfl) | rfl, (Below.refl _ _).drew⟩
theorem field_12_3 (h : Nat) (hh : h < 4294967296) (w : World) : Calls Try.prog 46 #[.int .u32 h, .int .i64 12, .int .i64 3] w fun e w' => e = .returned (.int .i64 (fd h 12 3 : Nat)) ∧ Below w.heap.size w w' := by
  have key : bits .and .u32 ((h : Int) / 4096) 7 = (fd h 12 3 : Nat) := fd_u32 h 12 3 hh (by decide) _ _ (by first | rfl | simp) rfl
  have hv := fd_wrap h 12 3 (by decide)
  go_enter Try.func46, Try.ntmps46
  go_wp2
  go_region
  go_wp2
  go_ret
  exact ⟨by first | (rw [hv]; rfl) | rfl, (Below.refl _ _).drew⟩
theorem field_0_8 (h : Nat) (hh : h < 4294967296) (w : World) : Calls Try.prog 46 #[.int .u32 h, .int .i64 0, .int .i64 8] w fun e w' => e = .returned (.int .i64 (fd h 0 8 : Nat)) ∧ Below w.heap.size w w' := by
  have key : bits .and .u32 ((h : Int)) 255 = (fd h 0 8 : Nat) := fd_u32 h 0 8 hh (by decide) _ _ (by first | rfl | simp) rfl
  have hv := fd_wrap h 0 8 (by decide)
  go_enter Try.func46, Try.ntmps46
  go_wp2
  go_region
  go_wp2
  go_ret
  exact ⟨by first | (rw [hv]; rfl) | rfl, (Below.refl _ _).drew⟩
theorem field_4_2 (h : Nat) (hh : h < 4294967296) (w : World) : Calls Try.prog 46 #[.int .u32 h, .int .i64 4, .int .i64 2] w fun e w' => e = .returned (.int .i64 (fd h 4 2 : Nat)) ∧ Below w.heap.size w w' := by
  have key : bits .and .u32 ((h : Int) / 16) 3 = (fd h 4 2 : Nat) := fd_u32 h 4 2 hh (by decide) _ _ (by first | rfl | simp) rfl
  have hv := fd_wrap h 4 2 (by decide)
  go_enter Try.func46, Try.ntmps46
  go_wp2
  go_region
  go_wp2
  go_ret
  exact ⟨by first | (rw [hv]; rfl) | rfl, (Below.refl _ _).drew⟩
theorem field_6_2 (h : Nat) (hh : h < 4294967296) (w : World) : Calls Try.prog 46 #[.int .u32 h, .int .i64 6, .int .i64 2] w fun e w' => e = .returned (.int .i64 (fd h 6 2 : Nat)) ∧ Below w.heap.size w w' := by
  have key : bits .and .u32 ((h : Int) / 64) 3 = (fd h 6 2 : Nat) := fd_u32 h 6 2 hh (by decide) _ _ (by first | rfl | simp) rfl
  have hv := fd_wrap h 6 2 (by decide)
  go_enter Try.func46, Try.ntmps46
  go_wp2
  go_region
  go_wp2
  go_ret
  exact ⟨by first | (rw [hv]; rfl) | rfl, (Below.refl _ _).drew⟩
theorem field_0_4 (h : Nat) (hh : h < 4294967296) (w : World) : Calls Try.prog 46 #[.int .u32 h, .int .i64 0, .int .i64 4] w fun e w' => e = .returned (.int .i64 (fd h 0 4 : Nat)) ∧ Below w.heap.size w w' := by
  have key : bits .and .u32 ((h : Int)) 15 = (fd h 0 4 : Nat) := fd_u32 h 0 4 hh (by decide) _ _ (by first | rfl | simp) rfl
  have hv := fd_wrap h 0 4 (by decide)
  go_enter Try.func46, Try.ntmps46
  go_wp2
  go_region
  go_wp2
  go_ret
  exact ⟨by first | (rw [hv]; rfl) | rfl, (Below.refl _ _).drew⟩
theorem field_12_4 (h : Nat) (hh : h < 4294967296) (w : World) : Calls Try.prog 46 #[.int .u32 h, .int .i64 12, .int .i64 4] w fun e w' => e = .returned (.int .i64 (fd h 12 4 : Nat)) ∧ Below w.heap.size w w' := by
  have key : bits .and .u32 ((h : Int) / 4096) 15 = (fd h 12 4 : Nat) := fd_u32 h 12 4 hh (by decide) _ _ (by first | rfl | simp) rfl
  have hv := fd_wrap h 12 4 (by decide)
  go_enter Try.func46, Try.ntmps46
  go_wp2
  go_region
  go_wp2
  go_ret
  exact ⟨by first | (rw [hv]; rfl) | rfl, (Below.refl _ _).drew⟩
theorem field_0_5 (h : Nat) (hh : h < 4294967296) (w : World) : Calls Try.prog 46 #[.int .u32 h, .int .i64 0, .int .i64 5] w fun e w' => e = .returned (.int .i64 (fd h 0 5 : Nat)) ∧ Below w.heap.size w w' := by
  have key : bits .and .u32 ((h : Int)) 31 = (fd h 0 5 : Nat) := fd_u32 h 0 5 hh (by decide) _ _ (by first | rfl | simp) rfl
  have hv := fd_wrap h 0 5 (by decide)
  go_enter Try.func46, Try.ntmps46
  go_wp2
  go_region
  go_wp2
  go_ret
  exact ⟨by first | (rw [hv]; rfl) | rfl, (Below.refl _ _).drew⟩
theorem field_22_4 (h : Nat) (hh : h < 4294967296) (w : World) : Calls Try.prog 46 #[.int .u32 h, .int .i64 22, .int .i64 4] w fun e w' => e = .returned (.int .i64 (fd h 22 4 : Nat)) ∧ Below w.heap.size w w' := by
  have key : bits .and .u32 ((h : Int) / 4194304) 15 = (fd h 22 4 : Nat) := fd_u32 h 22 4 hh (by decide) _ _ (by first | rfl | simp) rfl
  have hv := fd_wrap h 22 4 (by decide)
  go_enter Try.func46, Try.ntmps46
  go_wp2
  go_region
  go_wp2
  go_ret
  exact ⟨by first | (rw [hv]; rfl) | rfl, (Below.refl _ _).drew⟩
theorem field_11_1 (h : Nat) (hh : h < 4294967296) (w : World) : Calls Try.prog 46 #[.int .u32 h, .int .i64 11, .int .i64 1] w fun e w' => e = .returned (.int .i64 (fd h 11 1 : Nat)) ∧ Below w.heap.size w w' := by
  have key : bits .and .u32 ((h : Int) / 2048) 1 = (fd h 11 1 : Nat) := fd_u32 h 11 1 hh (by decide) _ _ (by first | rfl | simp) rfl
  have hv := fd_wrap h 11 1 (by decide)
  go_enter Try.func46, Try.ntmps46
  go_wp2
  go_region
  go_wp2
  go_ret
  exact ⟨by first | (rw [hv]; rfl) | rfl, (Below.refl _ _).drew⟩
theorem field_13_1 (h : Nat) (hh : h < 4294967296) (w : World) : Calls Try.prog 46 #[.int .u32 h, .int .i64 13, .int .i64 1] w fun e w' => e = .returned (.int .i64 (fd h 13 1 : Nat)) ∧ Below w.heap.size w w' := by
  have key : bits .and .u32 ((h : Int) / 8192) 1 = (fd h 13 1 : Nat) := fd_u32 h 13 1 hh (by decide) _ _ (by first | rfl | simp) rfl
  have hv := fd_wrap h 13 1 (by decide)
  go_enter Try.func46, Try.ntmps46
  go_wp2
  go_region
  go_wp2
  go_ret
  exact ⟨by first | (rw [hv]; rfl) | rfl, (Below.refl _ _).drew⟩
theorem field_16_6 (h : Nat) (hh : h < 4294967296) (w : World) : Calls Try.prog 46 #[.int .u32 h, .int .i64 16, .int .i64 6] w fun e w' => e = .returned (.int .i64 (fd h 16 6 : Nat)) ∧ Below w.heap.size w w' := by
  have key : bits .and .u32 ((h : Int) / 65536) 63 = (fd h 16 6 : Nat) := fd_u32 h 16 6 hh (by decide) _ _ (by first | rfl | simp) rfl
  have hv := fd_wrap h 16 6 (by decide)
  go_enter Try.func46, Try.ntmps46
  go_wp2
  go_region
  go_wp2
  go_ret
  exact ⟨by first | (rw [hv]; rfl) | rfl, (Below.refl _ _).drew⟩
theorem field_0_11 (h : Nat) (hh : h < 4294967296) (w : World) : Calls Try.prog 46 #[.int .u32 h, .int .i64 0, .int .i64 11] w fun e w' => e = .returned (.int .i64 (fd h 0 11 : Nat)) ∧ Below w.heap.size w w' := by
  have key : bits .and .u32 ((h : Int)) 2047 = (fd h 0 11 : Nat) := fd_u32 h 0 11 hh (by decide) _ _ (by first | rfl | simp) rfl
  have hv := fd_wrap h 0 11 (by decide)
  go_enter Try.func46, Try.ntmps46
  go_wp2
  go_region
  go_wp2
  go_ret
  exact ⟨by first | (rw [hv]; rfl) | rfl, (Below.refl _ _).drew⟩
theorem field_16_10 (h : Nat) (hh : h < 4294967296) (w : World) : Calls Try.prog 46 #[.int .u32 h, .int .i64 16, .int .i64 10] w fun e w' => e = .returned (.int .i64 (fd h 16 10 : Nat)) ∧ Below w.heap.size w w' := by
  have key : bits .and .u32 ((h : Int) / 65536) 1023 = (fd h 16 10 : Nat) := fd_u32 h 16 10 hh (by decide) _ _ (by first | rfl | simp) rfl
  have hv := fd_wrap h 16 10 (by decide)
  go_enter Try.func46, Try.ntmps46
  go_wp2
  go_region
  go_wp2
  go_ret
  exact ⟨by first | (rw [hv]; rfl) | rfl, (Below.refl _ _).drew⟩
theorem field_0_16 (h : Nat) (hh : h < 4294967296) (w : World) : Calls Try.prog 46 #[.int .u32 h, .int .i64 0, .int .i64 16] w fun e w' => e = .returned (.int .i64 (fd h 0 16 : Nat)) ∧ Below w.heap.size w w' := by
  have key : bits .and .u32 ((h : Int)) 65535 = (fd h 0 16 : Nat) := fd_u32 h 0 16 hh (by decide) _ _ (by first | rfl | simp) rfl
  have hv := fd_wrap h 0 16 (by decide)
  go_enter Try.func46, Try.ntmps46
  go_wp2
  go_region
  go_wp2
  go_ret
  exact ⟨by first | (rw [hv]; rfl) | rfl, (Below.refl _ _).drew⟩
set_option maxHeartbeats 4000000 in
set_option maxRecDepth 100000 in
theorem none_c (op w0 : Nat) (hw : w0 < 4294967296) (w : World) : Calls Try.prog 13 #[.int .i64 op, .int .u32 w0] w fun e w' => Says w (noneI op w0) e w' := by
  unfold Says
  go_enter Try.func13, Try.ntmps13
  have S := SH.start w
  go_wp2_with ((with_reducible refine wpl_is ?_); first
    | (refine SH.alloc (L := []) S rfl 30 rfl (Cel.iv IV.zero) zeroIV ?_; clear S; intro b1 w1 S)
    | (refine S.storeAll rfl 30 _ _ rfl b1 (Cel.iv (noneI op w0)) rfl rfl 0 _ rfl rfl (one_iv _) (szIV _) ?_; clear S; intro w2 S; simp only [List.set_cons_zero] at S))
  (try simp only [Exit.inBlock, Exit.then])
  refine bodyPost_ret (S.results rfl _ _ rfl 0 _ rfl _ Try.underlying30 rfl (szIV _)) rfl ⟨rfl, S.low⟩
set_option maxHeartbeats 4000000 in
set_option maxRecDepth 100000 in
theorem start_c (op d n : Int) (w : World) : Calls Try.prog 45 #[.int .i64 op, .int .i64 d, .int .i64 n] w fun e w' => Says w (startI op d n) e w' := by
  unfold Says
  go_enter Try.func45, Try.ntmps45
  have S := SH.start w
  go_wp2_with ((with_reducible refine wpl_is ?_); first
    | (refine SH.alloc (L := []) S rfl 30 rfl (Cel.iv IV.zero) zeroIV ?_; clear S; intro b1 w1 S)
    | (refine S.storeAll rfl 30 _ _ rfl b1 (Cel.iv (startI op d n)) rfl rfl 0 _ rfl rfl (one_iv _) (szIV _) ?_; clear S; intro w2 S; simp only [List.set_cons_zero] at S))
  (try simp only [Exit.inBlock, Exit.then])
  refine bodyPost_ret (S.results rfl _ _ rfl 0 _ rfl _ Try.underlying30 rfl (szIV _)) rfl ⟨rfl, S.low⟩
def secondI (i : IV) (v a : Int) : IV := { i with imm := v, useImm := true, a := a }
set_option maxHeartbeats 4000000 in
set_option maxRecDepth 100000 in
theorem sec_c (i : IV) (v a : Int) (w : World) : Calls Try.prog 53 #[i.val, .int .u32 v, .int .i64 a] w fun e w' => Says w (secondI i v a) e w' := by
  unfold Says
  go_enter Try.func53, Try.ntmps53
  have S := SH.start w
  go_wp2_with ((with_reducible refine wpl_is ?_); first
    | (refine SH.box (L := []) S rfl 30 _ rfl (Cel.iv i) rfl ?_; clear S; intro b2 w0 S)
    | (refine S.alloc rfl 30 rfl (Cel.iv IV.zero) zeroIV ?_; clear S; intro b1 w1 S)
    | (refine S.store1 rfl 28 _ _ rfl b2 8 _ rfl rfl 1 (Cel.iv i) rfl rfl (by simp [Cel.cells, IV.cellsL]) (Cel.iv { i with imm := v }) rfl (by kernel_rfl) ?_; clear S; intro w2 S; simp only [List.set_cons_zero, List.set_cons_succ] at S)
    | (refine S.store1 rfl 4 _ _ rfl b2 9 _ rfl rfl 1 (Cel.iv { i with imm := v }) rfl rfl (by simp [Cel.cells, IV.cellsL]) (Cel.iv { i with imm := v, useImm := true }) rfl (by kernel_rfl) ?_; clear S; intro w2 S; simp only [List.set_cons_zero, List.set_cons_succ] at S)
    | (refine S.store1 rfl 3 _ _ rfl b2 7 _ rfl rfl 1 (Cel.iv { i with imm := v, useImm := true }) rfl rfl (by simp [Cel.cells, IV.cellsL]) (Cel.iv (secondI i v a)) rfl (by kernel_rfl) ?_; clear S; intro w2 S; simp only [List.set_cons_zero, List.set_cons_succ] at S)
    | (refine S.ldAll 30 _ rfl b2 rfl 1 (Cel.iv (secondI i v a)) rfl _ Try.underlying30 rfl (szIV _) rfl ?_)
    | (refine S.storeAll rfl 30 _ _ rfl b1 (Cel.iv (secondI i v a)) rfl rfl 0 _ rfl rfl (one_iv _) (szIV _) ?_; clear S; intro w2 S; simp only [List.set_cons_zero] at S))
  (try simp only [Exit.inBlock, Exit.then])
  refine bodyPost_ret (S.results rfl _ _ rfl 0 _ rfl _ Try.underlying30 rfl (szIV _)) rfl ⟨rfl, S.low⟩
def dataOpS (o : Int) : Int := if o = 0 then 1 else if o = 1 then 14 else if o = 2 then 12 else if o = 3 then 16 else if o = 4 then 2 else if o = 8 then 5 else if o = 10 then 6 else if o = 11 then 7 else if o = 13 then 3 else if o = 14 then 4 else 64
theorem dataOp_c (o : Int) (w : World) : Calls Try.prog 85 #[.int .i64 o] w fun e w' => e = .returned (.int .i64 (dataOpS o)) ∧ w' = w := by
  by_cases h0 : o = 0
  · subst h0
    show Calls _ _ _ _ fun e w' => e = .returned (.int .i64 1) ∧ w' = w
    go_enter Try.func85, Try.ntmps85
    go_wp2
    go_ret
    exact ⟨rfl, rfl⟩
  by_cases h1 : o = 1
  · subst h1
    show Calls _ _ _ _ fun e w' => e = .returned (.int .i64 14) ∧ w' = w
    go_enter Try.func85, Try.ntmps85
    go_wp2
    go_ret
    exact ⟨rfl, rfl⟩
  by_cases h2 : o = 2
  · subst h2
    show Calls _ _ _ _ fun e w' => e = .returned (.int .i64 12) ∧ w' = w
    go_enter Try.func85, Try.ntmps85
    go_wp2
    go_ret
    exact ⟨rfl, rfl⟩
  by_cases h3 : o = 3
  · subst h3
    show Calls _ _ _ _ fun e w' => e = .returned (.int .i64 16) ∧ w' = w
    go_enter Try.func85, Try.ntmps85
    go_wp2
    go_ret
    exact ⟨rfl, rfl⟩
  by_cases h4 : o = 4
  · subst h4
    show Calls _ _ _ _ fun e w' => e = .returned (.int .i64 2) ∧ w' = w
    go_enter Try.func85, Try.ntmps85
    go_wp2
    go_ret
    exact ⟨rfl, rfl⟩
  by_cases h8 : o = 8
  · subst h8
    show Calls _ _ _ _ fun e w' => e = .returned (.int .i64 5) ∧ w' = w
    go_enter Try.func85, Try.ntmps85
    go_wp2
    go_ret
    exact ⟨rfl, rfl⟩
  by_cases h10 : o = 10
  · subst h10
    show Calls _ _ _ _ fun e w' => e = .returned (.int .i64 6) ∧ w' = w
    go_enter Try.func85, Try.ntmps85
    go_wp2
    go_ret
    exact ⟨rfl, rfl⟩
  by_cases h11 : o = 11
  · subst h11
    show Calls _ _ _ _ fun e w' => e = .returned (.int .i64 7) ∧ w' = w
    go_enter Try.func85, Try.ntmps85
    go_wp2
    go_ret
    exact ⟨rfl, rfl⟩
  by_cases h13 : o = 13
  · subst h13
    show Calls _ _ _ _ fun e w' => e = .returned (.int .i64 3) ∧ w' = w
    go_enter Try.func85, Try.ntmps85
    go_wp2
    go_ret
    exact ⟨rfl, rfl⟩
  by_cases h14 : o = 14
  · subst h14
    show Calls _ _ _ _ fun e w' => e = .returned (.int .i64 4) ∧ w' = w
    go_enter Try.func85, Try.ntmps85
    go_wp2
    go_ret
    exact ⟨rfl, rfl⟩
  have e : dataOpS o = 64 := by unfold dataOpS; simp [h0, h1, h2, h3, h4, h8, h10, h11, h13, h14]
  rw [e]
  have t0 : (o == 0) = false := by simpa using h0
  have t1 : (o == 1) = false := by simpa using h1
  have t2 : (o == 2) = false := by simpa using h2
  have t3 : (o == 3) = false := by simpa using h3
  have t4 : (o == 4) = false := by simpa using h4
  have t8 : (o == 8) = false := by simpa using h8
  have t10 : (o == 10) = false := by simpa using h10
  have t11 : (o == 11) = false := by simpa using h11
  have t13 : (o == 13) = false := by simpa using h13
  have t14 : (o == 14) = false := by simpa using h14
  clear e h0 h1 h2 h3 h4 h8 h10 h11 h13 h14
  go_enter Try.func85, Try.ntmps85
  go_wp2
  go_ret
  exact ⟨rfl, rfl⟩
def lessD (o : Int) : Int := if o = 1 then 8 else if o = 2 then 9 else if o = 5 then 11 else if o = 3 then 10 else o
theorem withoutD_c (o : Int) (w : World) : Calls Try.prog 86 #[.int .i64 o] w fun e w' => e = .returned (.int .i64 (lessD o)) ∧ w' = w := by
  by_cases h1 : o = 1
  · subst h1
    show Calls _ _ _ _ fun e w' => e = .returned (.int .i64 8) ∧ w' = w
    go_enter Try.func86, Try.ntmps86
    go_wp2
    go_ret
    exact ⟨rfl, rfl⟩
  by_cases h2 : o = 2
  · subst h2
    show Calls _ _ _ _ fun e w' => e = .returned (.int .i64 9) ∧ w' = w
    go_enter Try.func86, Try.ntmps86
    go_wp2
    go_ret
    exact ⟨rfl, rfl⟩
  by_cases h5 : o = 5
  · subst h5
    show Calls _ _ _ _ fun e w' => e = .returned (.int .i64 11) ∧ w' = w
    go_enter Try.func86, Try.ntmps86
    go_wp2
    go_ret
    exact ⟨rfl, rfl⟩
  by_cases h3 : o = 3
  · subst h3
    show Calls _ _ _ _ fun e w' => e = .returned (.int .i64 10) ∧ w' = w
    go_enter Try.func86, Try.ntmps86
    go_wp2
    go_ret
    exact ⟨rfl, rfl⟩
  have e : lessD o = o := by unfold lessD; simp [h1, h2, h5, h3]
  rw [e]
  have t1 : (o == 1) = false := by simpa using h1
  have t2 : (o == 2) = false := by simpa using h2
  have t5 : (o == 5) = false := by simpa using h5
  have t3 : (o == 3) = false := by simpa using h3
  clear e h1 h2 h5 h3
  go_enter Try.func86, Try.ntmps86
  go_wp2
  go_ret
  exact ⟨rfl, rfl⟩
def lessN (o : Int) : Int := if o = 12 then 13 else if o = 16 then 15 else o
theorem withoutN_c (o : Int) (w : World) : Calls Try.prog 87 #[.int .i64 o] w fun e w' => e = .returned (.int .i64 (lessN o)) ∧ w' = w := by
  by_cases h12 : o = 12
  · subst h12
    show Calls _ _ _ _ fun e w' => e = .returned (.int .i64 13) ∧ w' = w
    go_enter Try.func87, Try.ntmps87
    go_wp2
    go_ret
    exact ⟨rfl, rfl⟩
  by_cases h16 : o = 16
  · subst h16
    show Calls _ _ _ _ fun e w' => e = .returned (.int .i64 15) ∧ w' = w
    go_enter Try.func87, Try.ntmps87
    go_wp2
    go_ret
    exact ⟨rfl, rfl⟩
  have e : lessN o = o := by unfold lessN; simp [h12, h16]
  rw [e]
  have t12 : (o == 12) = false := by simpa using h12
  have t16 : (o == 16) = false := by simpa using h16
  clear e h12 h16
  go_enter Try.func87, Try.ntmps87
  go_wp2
  go_ret
  exact ⟨rfl, rfl⟩
def resS (o : Int) : Bool := o == 13 || o == 15
theorem reserved_c (o : Int) (w : World) : Calls Try.prog 81 #[.int .i64 o] w fun e w' => e = .returned (.bool (resS o)) ∧ w' = w := by
  by_cases h13 : o = 13
  · subst h13
    show Calls _ _ _ _ fun e w' => e = .returned (.bool true) ∧ w' = w
    go_enter Try.func81, Try.ntmps81
    go_wp2
    go_ret
    exact ⟨rfl, rfl⟩
  by_cases h15 : o = 15
  · subst h15
    show Calls _ _ _ _ fun e w' => e = .returned (.bool true) ∧ w' = w
    go_enter Try.func81, Try.ntmps81
    go_wp2
    go_ret
    exact ⟨rfl, rfl⟩
  have e : resS o = false := by unfold resS; simp [h13, h15]
  rw [e]
  have t13 : (o == 13) = false := by simpa using h13
  have t15 : (o == 15) = false := by simpa using h15
  clear e h13 h15
  go_enter Try.func81, Try.ntmps81
  go_wp2
  go_ret
  exact ⟨rfl, rfl⟩
def sumW (o : Int) : Bool := o == 5 || o == 3 || o == 10 || o == 11
theorem sumW_c (o : Int) (w : World) : Calls Try.prog 94 #[.int .i64 o] w fun e w' => e = .returned (.bool (sumW o)) ∧ w' = w := by
  by_cases h5 : o = 5
  · subst h5
    show Calls _ _ _ _ fun e w' => e = .returned (.bool true) ∧ w' = w
    go_enter Try.func94, Try.ntmps94
    go_wp2
    go_ret
    exact ⟨rfl, rfl⟩
  by_cases h3 : o = 3
  · subst h3
    show Calls _ _ _ _ fun e w' => e = .returned (.bool true) ∧ w' = w
    go_enter Try.func94, Try.ntmps94
    go_wp2
    go_ret
    exact ⟨rfl, rfl⟩
  by_cases h10 : o = 10
  · subst h10
    show Calls _ _ _ _ fun e w' => e = .returned (.bool true) ∧ w' = w
    go_enter Try.func94, Try.ntmps94
    go_wp2
    go_ret
    exact ⟨rfl, rfl⟩
  by_cases h11 : o = 11
  · subst h11
    show Calls _ _ _ _ fun e w' => e = .returned (.bool true) ∧ w' = w
    go_enter Try.func94, Try.ntmps94
    go_wp2
    go_ret
    exact ⟨rfl, rfl⟩
  have e : sumW o = false := by unfold sumW; simp [h5, h3, h10, h11]
  rw [e]
  have t5 : (o == 5) = false := by simpa using h5
  have t3 : (o == 3) = false := by simpa using h3
  have t10 : (o == 10) = false := by simpa using h10
  have t11 : (o == 11) = false := by simpa using h11
  clear e h5 h3 h10 h11
  go_enter Try.func94, Try.ntmps94
  go_wp2
  go_ret
  exact ⟨rfl, rfl⟩
end Go.Proofs.Ytigmekboikgoaaa
