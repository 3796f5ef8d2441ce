/- Stage 9: the words of branches; alone, at a branch. -/
import Derived.Test.YtigmekboikgoaaaWd6
namespace Go.Proofs.Ytigmekboikgoaaa
open Go.ChangeShapes Go.WideShapes Go.ChangeAt Go.RowKit
set_option linter.unusedVariables false
set_option linter.unusedSimpArgs false

set_option maxHeartbeats 4000000 in
set_option maxRecDepth 100000 in
theorem bwC_c (i : IV) (v c : Nat) (hv : v < 4294967296) (hop : i.op = 54) (hi : i.imm = (v : Nat)) (hc : i.cond = (c : Nat)) (hc14 : c < 14) (w : World) : Calls Try.prog 41 #[i.val] w fun e w' => e = .returned (.int .u32 ((condW c v : Nat) : Int)) ∧ Below w.heap.size w w' := by
  have HF : Hid (condW c v = 4026531840 + fd v 20 1 * 67108864 + c * 4194304 + fd v 12 6 * 65536 + 32768 + fd v 18 1 * 8192 + fd v 19 1 * 2048 + fd v 1 11) := rfl
  generalize condW c v = FX at *
  have f20 : fd v 20 1 < 2 := fd_lt v 20 1
  have f19 : fd v 19 1 < 2 := fd_lt v 19 1
  have f18 : fd v 18 1 < 2 := fd_lt v 18 1
  have f12 : fd v 12 6 < 64 := fd_lt v 12 6
  have f1 : fd v 1 11 < 2048 := fd_lt v 1 11
  have ht : ((c : Int) == 14) = false := by simp; omega
  have Pc : Hid (∀ w, Calls Try.prog 74 #[.int .i64 (c : Nat), .int .i64 22, .int .i64 4] w fun e w' => e = .returned (.int .u32 ((c * 4194304 : Nat) : Int)) ∧ w' = w) := fun w => by
    have := put_22_4 c (by omega) w
    rw [show c % 16 = c by omega] at this
    exact this
  have P20 : Hid (∀ w, Calls Try.prog 74 #[.int .i64 ((v : Int) / 1048576), .int .i64 26, .int .i64 1] w fun e w' => e = .returned (.int .u32 ((fd v 20 1 * 67108864 : Nat) : Int)) ∧ w' = w) := fun w => by
    have := put_26_1 (v / 1048576) (by omega) w
    exact this
  have P19 : Hid (∀ w, Calls Try.prog 74 #[.int .i64 ((v : Int) / 524288), .int .i64 11, .int .i64 1] w fun e w' => e = .returned (.int .u32 ((fd v 19 1 * 2048 : Nat) : Int)) ∧ w' = w) := fun w => by
    have := put_11_1 (v / 524288) (by omega) w
    exact this
  have P18 : Hid (∀ w, Calls Try.prog 74 #[.int .i64 ((v : Int) / 262144), .int .i64 13, .int .i64 1] w fun e w' => e = .returned (.int .u32 ((fd v 18 1 * 8192 : Nat) : Int)) ∧ w' = w) := fun w => by
    have := put_13_1 (v / 262144) (by omega) w
    exact this
  have P12 : Hid (∀ w, Calls Try.prog 74 #[.int .i64 ((v : Int) / 4096), .int .i64 16, .int .i64 6] w fun e w' => e = .returned (.int .u32 ((fd v 12 6 * 65536 : Nat) : Int)) ∧ w' = w) := fun w => by
    have := put_16_6 (v / 4096) (by omega) w
    exact this
  have P1 : Hid (∀ w, Calls Try.prog 74 #[.int .i64 ((v : Int) / 2), .int .i64 0, .int .i64 11] w fun e w' => e = .returned (.int .u32 ((fd v 1 11 : Nat) : Int)) ∧ w' = w) := fun w => by
    have := put_0_11 (v / 2) (by omega) w
    rw [Nat.mul_one] at this
    exact this
  generalize fd v 20 1 = s at *
  generalize fd v 19 1 = d at *
  generalize fd v 18 1 = t at *
  generalize fd v 12 6 = g at *
  generalize fd v 1 11 = k at *
  have j1 : bits .or .u32 4026564608 ((c : Int) * 4194304) = ((4026531840 + c * 4194304 + 32768 : Nat) : Int) := u32_between 4026531840 (c * 4194304) 32768 16 28 (by decide) (by omega) (by omega) (by decide) (by decide) (by omega)
  obtain ⟨q1, e1⟩ : ∃ q, 4026531840 + c * 4194304 + 32768 = q := ⟨_, rfl⟩
  have j2 : bits .or .u32 (q1 : Int) ((s : Int) * 67108864) = ((4026531840 + s * 67108864 + (c * 4194304 + 32768) : Nat) : Int) := by
    rw [← e1, Nat.add_assoc]
    exact u32_between 4026531840 (s * 67108864) (c * 4194304 + 32768) 26 28 (by decide) (by omega) (by omega) (by omega) (by decide) (by omega)
  obtain ⟨q2, e2⟩ : ∃ q, 4026531840 + s * 67108864 + (c * 4194304 + 32768) = q := ⟨_, rfl⟩
  have j3 : bits .or .u32 (q2 : Int) ((d : Int) * 2048) = ((q2 + d * 2048 : Nat) : Int) := u32_join q2 (d * 2048) 15 (by omega) (by omega) (by omega) (by omega)
  obtain ⟨q3, e3⟩ : ∃ q, q2 + d * 2048 = q := ⟨_, rfl⟩
  have j4 : bits .or .u32 (q3 : Int) ((t : Int) * 8192) = ((q2 + t * 8192 + d * 2048 : Nat) : Int) := by
    rw [← e3]
    exact u32_between q2 (t * 8192) (d * 2048) 13 15 (by omega) (by omega) (by omega) (by omega) (by decide) (by omega)
  obtain ⟨q4, e4⟩ : ∃ q, q2 + t * 8192 + d * 2048 = q := ⟨_, rfl⟩
  have j5 : bits .or .u32 (q4 : Int) ((g : Int) * 65536) = ((4026531840 + s * 67108864 + c * 4194304 + g * 65536 + (32768 + t * 8192 + d * 2048) : Nat) : Int) := by
    rw [show q4 = 4026531840 + s * 67108864 + c * 4194304 + (32768 + t * 8192 + d * 2048) by omega]
    exact u32_between (4026531840 + s * 67108864 + c * 4194304) (g * 65536) (32768 + t * 8192 + d * 2048) 16 22 (by omega) (by omega) (by omega) (by omega) (by decide) (by omega)
  obtain ⟨q5, e5⟩ : ∃ q, 4026531840 + s * 67108864 + c * 4194304 + g * 65536 + (32768 + t * 8192 + d * 2048) = q := ⟨_, rfl⟩
  have j6 : bits .or .u32 (q5 : Int) (k : Int) = ((q5 + k : Nat) : Int) := u32_join q5 k 11 (by omega) (by omega) (by omega) (by omega)
  have hq : FX = q5 + k := by rw [HF.out, ← e5]; omega
  rw [e1] at j1
  rw [e2] at j2
  rw [e3] at j3
  rw [e4] at j4
  rw [e5] at j5
  rw [← hq] at j6
  clear HF e1 e2 e3 e4 e5 hq
  go_enter Try.func41, Try.ntmps41
  have S := SH.start w
  go_wp2_with (first
    | (go_at_call 74; (first | with_reducible refine (Pc.out _).mono ?_ | with_reducible refine (P20.out _).mono ?_ | with_reducible refine (P19.out _).mono ?_ | with_reducible refine (P18.out _).mono ?_ | with_reducible refine (P12.out _).mono ?_ | with_reducible refine (P1.out _).mono ?_); rintro e wf ⟨rfl, rfl⟩)
    | ((with_reducible refine wpl_is ?_); first
      | (refine SH.box (L := []) S rfl 30 _ rfl (Cel.iv i) rfl ?_; clear S; intro b2 w0 S)
      | (refine S.ld 3 _ rfl _ 0 rfl 0 (Cel.iv i) rfl _ rfl _ Try.underlying3 rfl rfl ?_)
      | (refine S.ld 3 _ rfl _ 3 rfl 0 (Cel.iv i) rfl _ rfl _ Try.underlying3 rfl rfl ?_)
      | (refine S.ld 28 _ rfl _ 8 rfl 0 (Cel.iv i) rfl _ rfl _ Try.underlying28 rfl rfl ?_)))
  go_ret
  exact ⟨rfl, S.low⟩
set_option maxHeartbeats 4000000 in
set_option maxRecDepth 100000 in
theorem wordOf6_c (i : IV) (x : Nat) (hc : classS i.op = 6) (C : ∀ w, Calls Try.prog 41 #[i.val] w fun e w' => e = .returned (.int .u32 (x : Nat)) ∧ Below w.heap.size w w') (w : World) : Calls Try.prog 17 #[i.val] w fun e w' => e = .returned (.int .u32 (x : Nat)) ∧ Below w.heap.size w w' := by
  have CC : Hid (∀ w1, Calls Try.prog 35 #[.int .i64 i.op] w1 fun e w' => e = .returned (.int .i64 6) ∧ w' = w1) := fun w1 => by
    have := class_c i.op w1
    rw [hc] at this
    exact this
  have CB : Hid (∀ w, Calls Try.prog 41 #[i.val] w fun e w' => e = .returned (.int .u32 (x : Nat)) ∧ Below w.heap.size w w') := C
  clear hc C
  go_enter Try.func17, Try.ntmps17
  have S := SH.start w
  go_wp2_with (first
    | (go_at_call 35; with_reducible refine (CC.out _).mono ?_; rintro e wf ⟨rfl, rfl⟩)
    | (go_at_call 41; refine (CB.out _).mono ?_; rintro e wf ⟨rfl, hbf⟩; replace S := S.below hbf; clear hbf)
    | ((with_reducible refine wpl_is ?_); first
      | (refine SH.box (L := []) S rfl 30 _ rfl (Cel.iv i) rfl ?_; clear S; intro b2 w0 S)
      | (refine S.ld 3 _ rfl _ 0 rfl 0 (Cel.iv i) rfl _ rfl _ Try.underlying3 rfl rfl ?_)
      | (refine S.ldAll 30 _ rfl _ rfl 0 (Cel.iv i) rfl _ Try.underlying30 rfl (szIV _) rfl ?_)))
  go_ret
  exact ⟨rfl, S.low⟩
theorem jump_bits (x : Nat) (hx : x < 4294967296) : bits .and .u32 (x : Int) 4160782336 = ((fd x 27 5 * 134217728 + fd x 15 1 * 32768 : Nat) : Int) := by
  rw [show (4160782336 : Int) = ((4160782336 : Nat) : Int) from rfl, u32_and_nat _ _ hx (by decide)]
  refine congrArg _ ?_
  have e1 : x &&& 4160749568 = fd x 27 5 * 134217728 := and_mid x 27 5
  have e2 : x &&& 32768 = fd x 15 1 * 32768 := and_pow x 15
  have f : fd x 15 1 < 2 := fd_lt x 15 1
  rw [show (4160782336 : Nat) = 4160749568 ||| 32768 by decide, Nat.and_or_distrib_left, e1, e2, show fd x 27 5 * 134217728 = 2 ^ 27 * fd x 27 5 by omega, Nat.two_pow_add_eq_or_of_lt (by omega) (fd x 27 5)]
set_option maxHeartbeats 4000000 in
set_option maxRecDepth 100000 in
theorem aloneJ_c (x : Nat) (hx : x < 4294967296) (h27 : fd x 27 5 = 30) (h15 : fd x 15 1 = 1) (w : World) : Calls Try.prog 12 #[.int .u32 x] w fun e w' => Says w (branchI x) e w' := by
  have hj := jump_bits x hx
  rw [h27, h15] at hj
  have hk : bits .and .u32 (x : Int) 4160782336 = 4026564608 := hj
  have CB : Hid (∀ w, Calls Try.prog 19 #[.int .u32 x] w fun e w' => Says w (branchI x) e w') := branch_c x hx h15
  unfold Says at *
  clear hj h27 h15
  generalize branchI x = J at *
  go_enter Try.func12, Try.ntmps12
  have S := SH.start w
  go_wp2_with (first
    | (go_at_call 19; refine (CB.out _).mono ?_; rintro e wf ⟨rfl, hbf⟩; replace S := S.below hbf; clear hbf)
    | ((with_reducible refine wpl_is ?_); first
      | (refine SH.alloc (L := []) S rfl 30 rfl (Cel.iv IV.zero) zeroIV ?_; clear S; intro b1 w1 S)
      | (refine S.storeAll rfl 30 _ _ rfl b1 (Cel.iv J) rfl rfl 0 _ rfl rfl (one_iv _) (szIV _) ?_; clear S; intro w2 S; simp only [List.set_cons_zero] at S)))
  (try simp only [Exit.inBlock, Exit.then])
  refine bodyPost_ret (S.results rfl _ _ rfl 0 _ rfl _ Try.underlying30 rfl (szIV _)) rfl ⟨rfl, S.low⟩
end Go.Proofs.Ytigmekboikgoaaa
