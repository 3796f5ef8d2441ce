/- Stage 8: the document's narrow words, walked. -/
import Derived.Test.YtbbkiiabjhgpkaaDoorRd1b
namespace Go.Proofs.YtbbkiiabjhgpkaaDoor
open Go.ChangeShapes Go.WideShapes Go.ChangeAt Go.RowKit
set_option linter.unusedVariables false
set_option linter.unusedSimpArgs false

def signS (v : Int) (n : Nat) : Int := if v % 2 ^ n < 2 ^ (n - 1) then v % 2 ^ n else v % 2 ^ n + (4294967296 - 2 ^ n)
theorem rzero_8 (v : Nat) (hv : v < 256) (w : World) : Calls Tryd.prog 42 #[.int .u32 v, .int .i64 8] w fun e w' => e = .returned (.int .u32 v) ∧ w' = w := by
  have hm : bits .and .u64 (v : Int) 255 = v := by
    rw [show (255 : Int) = ((255 : Nat) : Int) from rfl, u64_and_nat _ _ (by omega) (by decide)]
    exact congrArg _ (by have := Nat.and_two_pow_sub_one_of_lt_two_pow (n := 8) (x := v) (by omega); simpa using this)
  go_enter Tryd.func42, Tryd.ntmps42
  go_wp2
  go_ret
  exact ⟨rfl, rfl⟩
theorem rbit_7 (v : Nat) (hv : v < 256) (w : World) : Calls Tryd.prog 43 #[.int .u32 v, .int .i64 7] w fun e w' => e = .returned (.bool (decide (128 ≤ v))) ∧ w' = w := by
  have hm : bits .and .u32 ((v : Int) / 128) 1 = ((v / 128 : Nat) : Int) := by
    rw [show ((v : Int) / 128) = ((v / 128 : Nat) : Int) by omega, show (1 : Int) = ((1 : Nat) : Int) from rfl, u32_and_nat _ _ (by omega) (by decide), Nat.and_one_is_mod]
    omega
  by_cases q : 128 ≤ v
  · have hd : (v / 128 : Nat) = 1 := by omega
    rw [hd] at hm
    rw [show decide (128 ≤ v) = true by simpa using q]
    clear hd
    go_enter Tryd.func43, Tryd.ntmps43
    go_wp2
    go_ret
    exact ⟨rfl, rfl⟩
  · have hd : (v / 128 : Nat) = 0 := by omega
    rw [hd] at hm
    rw [show decide (128 ≤ v) = false by simpa using q]
    clear hd
    go_enter Tryd.func43, Tryd.ntmps43
    go_wp2
    go_ret
    exact ⟨rfl, rfl⟩
theorem sor_8 : ((List.range 256).all fun x => decide (bits .or .u64 (x : Int) 18446744073709551360 = ((x + 18446744073709551360 : Nat) : Int))) = true := by decide +kernel
theorem rsign_m8 (v : Nat) (hv : v < 256) (w : World) : Calls Tryd.prog 32 #[.int .u32 v, .int .i64 8] w fun e w' => e = .returned (.int .u32 (signS v 8)) ∧ w' = w := by
  have hz := rzero_8 v hv w
  have hb := rbit_7 v hv w
  by_cases q : 128 ≤ v
  · rw [show decide (128 ≤ v) = true by simpa using q] at hb
    have ho : bits .or .u64 (v : Int) 18446744073709551360 = ((v + 18446744073709551360 : Nat) : Int) := by
      have h := sor_8
      simp only [List.all_eq_true, List.mem_range, decide_eq_true_eq] at h
      exact h v hv
    have hx : bits .xor .u64 IntKind.u64.max 255 = 18446744073709551360 := by decide
    have ha : bits .and .u64 ((v + 18446744073709551360 : Nat) : Int) 4294967295 = ((v + 4294967040 : Nat) : Int) := by
      rw [show (4294967295 : Int) = ((4294967295 : Nat) : Int) from rfl, u64_and_nat _ _ (by omega) (by decide)]
      exact congrArg _ (by have := Nat.and_two_pow_sub_one_eq_mod (v + 18446744073709551360) 32; rw [show (2 ^ 32 - 1 : Nat) = 4294967295 from rfl] at this; rw [this]; omega)
    have e : signS v 8 = ((v + 4294967040 : Nat) : Int) := by
      unfold signS
      rw [if_neg (by omega)]
      omega
    rw [e]
    generalize hR : v + 4294967040 = R at *
    generalize hT : v + 18446744073709551360 = T at *
    have r1 : R < 4294967296 := by omega
    have r2 : T < 18446744073709551616 := by omega
    clear hR hT e q
    go_enter Tryd.func32, Tryd.ntmps32
    go_wp2_with (first | (go_at_call 42; refine hz.mono ?_; rintro e w' ⟨rfl, rfl⟩) | (go_at_call 43; refine hb.mono ?_; rintro e w' ⟨rfl, rfl⟩))
    go_ret
    exact ⟨congrArg (fun x => Ending.returned (Value.int IntKind.u32 x)) (Int.emod_eq_of_lt (by omega) (by omega)), rfl⟩
  · rw [show decide (128 ≤ v) = false by simpa using q] at hb
    have e : signS v 8 = (v : Int) := by
      unfold signS
      rw [if_pos (by omega)]
      omega
    rw [e]
    clear e
    go_enter Tryd.func32, Tryd.ntmps32
    go_wp2_with (first | (go_at_call 42; refine hz.mono ?_; rintro e w' ⟨rfl, rfl⟩) | (go_at_call 43; refine hb.mono ?_; rintro e w' ⟨rfl, rfl⟩))
    go_ret
    exact ⟨rfl, rfl⟩
theorem rzero_11 (v : Nat) (hv : v < 2048) (w : World) : Calls Tryd.prog 42 #[.int .u32 v, .int .i64 11] w fun e w' => e = .returned (.int .u32 v) ∧ w' = w := by
  have hm : bits .and .u64 (v : Int) 2047 = v := by
    rw [show (2047 : Int) = ((2047 : Nat) : Int) from rfl, u64_and_nat _ _ (by omega) (by decide)]
    exact congrArg _ (by have := Nat.and_two_pow_sub_one_of_lt_two_pow (n := 11) (x := v) (by omega); simpa using this)
  go_enter Tryd.func42, Tryd.ntmps42
  go_wp2
  go_ret
  exact ⟨rfl, rfl⟩
theorem rbit_10 (v : Nat) (hv : v < 2048) (w : World) : Calls Tryd.prog 43 #[.int .u32 v, .int .i64 10] w fun e w' => e = .returned (.bool (decide (1024 ≤ v))) ∧ w' = w := by
  have hm : bits .and .u32 ((v : Int) / 1024) 1 = ((v / 1024 : Nat) : Int) := by
    rw [show ((v : Int) / 1024) = ((v / 1024 : Nat) : Int) by omega, show (1 : Int) = ((1 : Nat) : Int) from rfl, u32_and_nat _ _ (by omega) (by decide), Nat.and_one_is_mod]
    omega
  by_cases q : 1024 ≤ v
  · have hd : (v / 1024 : Nat) = 1 := by omega
    rw [hd] at hm
    rw [show decide (1024 ≤ v) = true by simpa using q]
    clear hd
    go_enter Tryd.func43, Tryd.ntmps43
    go_wp2
    go_ret
    exact ⟨rfl, rfl⟩
  · have hd : (v / 1024 : Nat) = 0 := by omega
    rw [hd] at hm
    rw [show decide (1024 ≤ v) = false by simpa using q]
    clear hd
    go_enter Tryd.func43, Tryd.ntmps43
    go_wp2
    go_ret
    exact ⟨rfl, rfl⟩
theorem sor_11 : ((List.range 2048).all fun x => decide (bits .or .u64 (x : Int) 18446744073709549568 = ((x + 18446744073709549568 : Nat) : Int))) = true := by decide +kernel
theorem rsign_m11 (v : Nat) (hv : v < 2048) (w : World) : Calls Tryd.prog 32 #[.int .u32 v, .int .i64 11] w fun e w' => e = .returned (.int .u32 (signS v 11)) ∧ w' = w := by
  have hz := rzero_11 v hv w
  have hb := rbit_10 v hv w
  by_cases q : 1024 ≤ v
  · rw [show decide (1024 ≤ v) = true by simpa using q] at hb
    have ho : bits .or .u64 (v : Int) 18446744073709549568 = ((v + 18446744073709549568 : Nat) : Int) := by
      have h := sor_11
      simp only [List.all_eq_true, List.mem_range, decide_eq_true_eq] at h
      exact h v hv
    have hx : bits .xor .u64 IntKind.u64.max 2047 = 18446744073709549568 := by decide
    have ha : bits .and .u64 ((v + 18446744073709549568 : Nat) : Int) 4294967295 = ((v + 4294965248 : Nat) : Int) := by
      rw [show (4294967295 : Int) = ((4294967295 : Nat) : Int) from rfl, u64_and_nat _ _ (by omega) (by decide)]
      exact congrArg _ (by have := Nat.and_two_pow_sub_one_eq_mod (v + 18446744073709549568) 32; rw [show (2 ^ 32 - 1 : Nat) = 4294967295 from rfl] at this; rw [this]; omega)
    have e : signS v 11 = ((v + 4294965248 : Nat) : Int) := by
      unfold signS
      rw [if_neg (by omega)]
      omega
    rw [e]
    generalize hR : v + 4294965248 = R at *
    generalize hT : v + 18446744073709549568 = T at *
    have r1 : R < 4294967296 := by omega
    have r2 : T < 18446744073709551616 := by omega
    clear hR hT e q
    go_enter Tryd.func32, Tryd.ntmps32
    go_wp2_with (first | (go_at_call 42; refine hz.mono ?_; rintro e w' ⟨rfl, rfl⟩) | (go_at_call 43; refine hb.mono ?_; rintro e w' ⟨rfl, rfl⟩))
    go_ret
    exact ⟨congrArg (fun x => Ending.returned (Value.int IntKind.u32 x)) (Int.emod_eq_of_lt (by omega) (by omega)), rfl⟩
  · rw [show decide (1024 ≤ v) = false by simpa using q] at hb
    have e : signS v 11 = (v : Int) := by
      unfold signS
      rw [if_pos (by omega)]
      omega
    rw [e]
    clear e
    go_enter Tryd.func32, Tryd.ntmps32
    go_wp2_with (first | (go_at_call 42; refine hz.mono ?_; rintro e w' ⟨rfl, rfl⟩) | (go_at_call 43; refine hb.mono ?_; rintro e w' ⟨rfl, rfl⟩))
    go_ret
    exact ⟨rfl, rfl⟩
theorem sgn8 (h : Nat) (hh : h < 65536) : signS ((fd h 0 8 : Nat) : Int) 8 * 2 % 4294967296 = ((farN h 8 : Nat) : Int) ∧ 0 ≤ signS ((fd h 0 8 : Nat) : Int) 8 ∧ signS ((fd h 0 8 : Nat) : Int) 8 < 4294967296 := by
  have f : fd h 0 8 < 256 := fd_lt h 0 8
  unfold farN signS
  rw [nblt]
  generalize fd h 0 8 = x at *
  by_cases q : x < 128
  · rw [show decide (x < 2 ^ (8 - 1)) = true by simpa using q]
    simp only [cond_true, Nat.reduceSub, Int.reducePow]
    split <;> omega
  · rw [show decide (x < 2 ^ (8 - 1)) = false by simpa using q]
    simp only [cond_false, Nat.reduceSub, Int.reducePow]
    split <;> omega
theorem rsign_8 (h : Nat) (hh : h < 65536) (w : World) : Calls Tryd.prog 32 #[.int .u32 (fd h 0 8 : Nat), .int .i64 8] w fun e w' => e = .returned (.int .u32 (signS ((fd h 0 8 : Nat) : Int) 8)) ∧ w' = w := by
  have f : fd h 0 8 < 256 := fd_lt h 0 8
  exact rsign_m8 (fd h 0 8) f w
theorem sgn11 (h : Nat) (hh : h < 65536) : signS ((fd h 0 11 : Nat) : Int) 11 * 2 % 4294967296 = ((farN h 11 : Nat) : Int) ∧ 0 ≤ signS ((fd h 0 11 : Nat) : Int) 11 ∧ signS ((fd h 0 11 : Nat) : Int) 11 < 4294967296 := by
  have f : fd h 0 11 < 2048 := fd_lt h 0 11
  unfold farN signS
  rw [nblt]
  generalize fd h 0 11 = x at *
  by_cases q : x < 1024
  · rw [show decide (x < 2 ^ (11 - 1)) = true by simpa using q]
    simp only [cond_true, Nat.reduceSub, Int.reducePow]
    split <;> omega
  · rw [show decide (x < 2 ^ (11 - 1)) = false by simpa using q]
    simp only [cond_false, Nat.reduceSub, Int.reducePow]
    split <;> omega
theorem rsign_11 (h : Nat) (hh : h < 65536) (w : World) : Calls Tryd.prog 32 #[.int .u32 (fd h 0 11 : Nat), .int .i64 11] w fun e w' => e = .returned (.int .u32 (signS ((fd h 0 11 : Nat) : Int) 11)) ∧ w' = w := by
  have f : fd h 0 11 < 2048 := fd_lt h 0 11
  exact rsign_m11 (fd h 0 11) f w
theorem u32_255 (h : Nat) (hh : h < 65536) : bits .and .u32 (h : Int) 255 = ((fd h 0 8 : Nat) : Int) := by
  rw [show (255 : Int) = ((255 : Nat) : Int) from rfl, u32_and_nat _ _ (by omega) (by decide)]
  exact congrArg _ (by have := fd_land h 0 8; simpa using this)
set_option maxHeartbeats 4000000 in
set_option maxRecDepth 100000 in
theorem rjump_14 (h : Nat) (hh : h < 65536) (b : Bool) (q : fd h 8 4 = 14) (w : World) : Calls Tryd.prog 31 #[.int .i64 h, .bool b] w fun e w' => Says w (rJump h b) e w' := by
  have hN : rJump h b = (nNone 64 h) := by
    unfold rJump
    simp [nbeq, nblt, nble, pick2, *]
  unfold Says
  rw [hN]
  clear hN
  have k8_4 : bits .and .i64 ((h : Int) / 256) 15 = ((fd h 8 4 : Nat) : Int) := i64_fd h 8 4 hh (by decide) _ _ (by first | rfl | simp) rfl
  have f8_4 : fd h 8 4 < 16 := fd_lt h 8 4
  have u8 := u32_255 h hh
  have f08 : fd h 0 8 < 256 := fd_lt h 0 8
  have t1 : (((fd h 8 4 : Nat) : Int) == 14) = true := by simp; omega
  clear q
  go_enter Tryd.func31, Tryd.ntmps31
  have S := SH.start w
  go_wp2_with (first
    | ((with_reducible refine wpl_isDst 4 ?_); refine SH.alloc (L := []) S rfl 31 rfl (Cel.iv IV.zero) zeroIV ?_; clear S; intro b1 w1 S)
    | ((with_reducible refine wpl_isDst 7 ?_); refine S.alloc rfl 31 rfl (Cel.iv IV.zero) zeroIV ?_; clear S; intro b2 w1 S)
    | ((with_reducible refine wpl_isLoad ?_); first
      | (refine S.ldAll 31 _ rfl b2 rfl 0 (Cel.iv (iZ 54 0 0 0 14 false false)) rfl _ Tryd.underlying31 rfl (szIV _) rfl ?_))
    | ((with_reducible refine wpl_isStore ?_); first
      | (refine S.storeAll rfl 31 _ _ rfl b2 (Cel.iv (iZ 54 0 0 0 14 false false)) rfl rfl 0 _ rfl rfl (one_iv _) (szIV _) ?_; clear S; intro w2 S; simp only [List.set_cons_zero, List.set_cons_succ] at S)
      | (refine S.storeAll rfl 31 _ _ rfl b1 (Cel.iv (nNone 64 h).iv) rfl rfl 1 _ rfl rfl (one_iv _) (szIV _) ?_; clear S; intro w2 S; simp only [List.set_cons_zero, List.set_cons_succ] at S))
    | (go_at_call 30; refine (plain_c _ _).mono ?_; rintro e wf ⟨rfl, hbf⟩; replace S := S.below hbf; clear hbf)
    | (go_at_call 24; refine (rundef_c _ _).mono ?_; rintro e wf ⟨rfl, hbf⟩; replace S := S.below hbf; clear hbf)
  )
  (try simp only [Exit.inBlock, Exit.then])
  refine bodyPost_ret (S.results rfl _ _ rfl 1 _ rfl _ Tryd.underlying31 rfl (szIV _)) rfl ⟨rfl, S.low⟩
set_option maxHeartbeats 4000000 in
set_option maxRecDepth 100000 in
theorem rjump_15 (h : Nat) (hh : h < 65536) (b : Bool) (q : fd h 8 4 = 15) (w : World) : Calls Tryd.prog 31 #[.int .i64 h, .bool b] w fun e w' => Says w (rJump h b) e w' := by
  have hN : rJump h b = (nNum 62 (fd h 0 8)) := by
    unfold rJump
    simp [nbeq, nblt, nble, pick2, *]
  unfold Says
  rw [hN]
  clear hN
  have k8_4 : bits .and .i64 ((h : Int) / 256) 15 = ((fd h 8 4 : Nat) : Int) := i64_fd h 8 4 hh (by decide) _ _ (by first | rfl | simp) rfl
  have f8_4 : fd h 8 4 < 16 := fd_lt h 8 4
  have u8 := u32_255 h hh
  have f08 : fd h 0 8 < 256 := fd_lt h 0 8
  have t2 : (((fd h 8 4 : Nat) : Int) == 14) = false := by simp; omega
  have t3 : (((fd h 8 4 : Nat) : Int) == 15) = true := by simp; omega
  clear q
  go_enter Tryd.func31, Tryd.ntmps31
  have S := SH.start w
  go_wp2_with (first
    | ((with_reducible refine wpl_isDst 4 ?_); refine SH.alloc (L := []) S rfl 31 rfl (Cel.iv IV.zero) zeroIV ?_; clear S; intro b1 w1 S)
    | ((with_reducible refine wpl_isDst 7 ?_); refine S.alloc rfl 31 rfl (Cel.iv IV.zero) zeroIV ?_; clear S; intro b2 w1 S)
    | ((with_reducible refine wpl_isLoad ?_); first
      | (refine S.ldAll 31 _ rfl b2 rfl 0 (Cel.iv (iZ 62 0 ((fd h 0 8 : Nat) : Int) 0 14 false false)) rfl _ Tryd.underlying31 rfl (szIV _) rfl ?_))
    | ((with_reducible refine wpl_isStore ?_); first
      | (refine S.store1 rfl 3 _ _ rfl b2 0 _ rfl rfl 0 (Cel.iv (iZ 54 0 0 0 14 false false)) rfl rfl (by simp [Cel.cells, IV.cellsL]) (Cel.iv (iZ 62 0 0 0 14 false false)) rfl (by kernel_rfl) ?_; clear S; intro w2 S; simp only [List.set_cons_zero, List.set_cons_succ] at S)
      | (refine S.store1 rfl 29 _ _ rfl b2 8 _ rfl rfl 0 (Cel.iv (iZ 62 0 0 0 14 false false)) rfl rfl (by simp [Cel.cells, IV.cellsL]) (Cel.iv (iZ 62 0 ((fd h 0 8 : Nat) : Int) 0 14 false false)) rfl (by kernel_rfl) ?_; clear S; intro w2 S; simp only [List.set_cons_zero, List.set_cons_succ] at S)
      | (refine S.storeAll rfl 31 _ _ rfl b2 (Cel.iv (iZ 54 0 0 0 14 false false)) rfl rfl 0 _ rfl rfl (one_iv _) (szIV _) ?_; clear S; intro w2 S; simp only [List.set_cons_zero, List.set_cons_succ] at S)
      | (refine S.storeAll rfl 31 _ _ rfl b1 (Cel.iv (nNum 62 (fd h 0 8)).iv) rfl rfl 1 _ rfl rfl (one_iv _) (szIV _) ?_; clear S; intro w2 S; simp only [List.set_cons_zero, List.set_cons_succ] at S))
    | (go_at_call 30; refine (plain_c _ _).mono ?_; rintro e wf ⟨rfl, hbf⟩; replace S := S.below hbf; clear hbf)
  )
  (try simp only [Exit.inBlock, Exit.then])
  refine bodyPost_ret (S.results rfl _ _ rfl 1 _ rfl _ Tryd.underlying31 rfl (szIV _)) rfl ⟨rfl, S.low⟩
set_option maxHeartbeats 4000000 in
set_option maxRecDepth 100000 in
theorem rjump_in (h : Nat) (hh : h < 65536) (q : fd h 8 4 ≠ 14) (q2 : fd h 8 4 ≠ 15) (w : World) : Calls Tryd.prog 31 #[.int .i64 h, .bool true] w fun e w' => Says w (rJump h true) e w' := by
  have hN : rJump h true = (nNone 65 h) := by
    unfold rJump
    simp [nbeq, nblt, nble, pick2, *]
  unfold Says
  rw [hN]
  clear hN
  have k8_4 : bits .and .i64 ((h : Int) / 256) 15 = ((fd h 8 4 : Nat) : Int) := i64_fd h 8 4 hh (by decide) _ _ (by first | rfl | simp) rfl
  have f8_4 : fd h 8 4 < 16 := fd_lt h 8 4
  have u8 := u32_255 h hh
  have f08 : fd h 0 8 < 256 := fd_lt h 0 8
  have t4 : (((fd h 8 4 : Nat) : Int) == 14) = false := by simp; omega
  have t5 : (((fd h 8 4 : Nat) : Int) == 15) = false := by simp; omega
  go_enter Tryd.func31, Tryd.ntmps31
  have S := SH.start w
  go_wp2_with (first
    | ((with_reducible refine wpl_isDst 4 ?_); refine SH.alloc (L := []) S rfl 31 rfl (Cel.iv IV.zero) zeroIV ?_; clear S; intro b1 w1 S)
    | ((with_reducible refine wpl_isDst 7 ?_); refine S.alloc rfl 31 rfl (Cel.iv IV.zero) zeroIV ?_; clear S; intro b2 w1 S)
    | ((with_reducible refine wpl_isLoad ?_); first
      | (refine S.ldAll 31 _ rfl b2 rfl 0 (Cel.iv (iZ 54 0 0 0 14 false false)) rfl _ Tryd.underlying31 rfl (szIV _) rfl ?_))
    | ((with_reducible refine wpl_isStore ?_); first
      | (refine S.storeAll rfl 31 _ _ rfl b2 (Cel.iv (iZ 54 0 0 0 14 false false)) rfl rfl 0 _ rfl rfl (one_iv _) (szIV _) ?_; clear S; intro w2 S; simp only [List.set_cons_zero, List.set_cons_succ] at S)
      | (refine S.storeAll rfl 31 _ _ rfl b1 (Cel.iv (nNone 65 h).iv) rfl rfl 1 _ rfl rfl (one_iv _) (szIV _) ?_; clear S; intro w2 S; simp only [List.set_cons_zero, List.set_cons_succ] at S))
    | (go_at_call 30; refine (plain_c _ _).mono ?_; rintro e wf ⟨rfl, hbf⟩; replace S := S.below hbf; clear hbf)
    | (go_at_call 25; refine (rbad_c _ _).mono ?_; rintro e wf ⟨rfl, hbf⟩; replace S := S.below hbf; clear hbf)
  )
  (try simp only [Exit.inBlock, Exit.then])
  refine bodyPost_ret (S.results rfl _ _ rfl 1 _ rfl _ Tryd.underlying31 rfl (szIV _)) rfl ⟨rfl, S.low⟩
set_option maxHeartbeats 4000000 in
set_option maxRecDepth 100000 in
theorem rjump_out (h : Nat) (hh : h < 65536) (q : fd h 8 4 ≠ 14) (q2 : fd h 8 4 ≠ 15) (w : World) : Calls Tryd.prog 31 #[.int .i64 h, .bool false] w fun e w' => Says w (rJump h false) e w' := by
  have hN : rJump h false = (branchN (fd h 8 4) h 8) := by
    unfold rJump
    simp [nbeq, nblt, nble, pick2, *]
  unfold Says
  rw [hN]
  clear hN
  have k8_4 : bits .and .i64 ((h : Int) / 256) 15 = ((fd h 8 4 : Nat) : Int) := i64_fd h 8 4 hh (by decide) _ _ (by first | rfl | simp) rfl
  have f8_4 : fd h 8 4 < 16 := fd_lt h 8 4
  have u8 := u32_255 h hh
  have f08 : fd h 0 8 < 256 := fd_lt h 0 8
  have t6 : (((fd h 8 4 : Nat) : Int) == 14) = false := by simp; omega
  have t7 : (((fd h 8 4 : Nat) : Int) == 15) = false := by simp; omega
  obtain ⟨g1, g2, g3⟩ := sgn8 h hh
  have CS : Hid (∀ w, Calls Tryd.prog 32 #[.int .u32 (fd h 0 8 : Nat), .int .i64 8] w fun e w' => e = .returned (.int .u32 (signS ((fd h 0 8 : Nat) : Int) 8)) ∧ w' = w) := fun w => rsign_8 h hh w
  generalize signS ((fd h 0 8 : Nat) : Int) 8 = SG at *
  go_enter Tryd.func31, Tryd.ntmps31
  have S := SH.start w
  go_wp2_with (first
    | ((with_reducible refine wpl_isDst 4 ?_); refine SH.alloc (L := []) S rfl 31 rfl (Cel.iv IV.zero) zeroIV ?_; clear S; intro b1 w1 S)
    | ((with_reducible refine wpl_isDst 7 ?_); refine S.alloc rfl 31 rfl (Cel.iv IV.zero) zeroIV ?_; clear S; intro b2 w1 S)
    | ((with_reducible refine wpl_isLoad ?_); first
      | (refine S.ldAll 31 _ rfl b2 rfl 0 (Cel.iv (iZ 54 0 ((farN h 8 : Nat) : Int) 0 ((fd h 8 4 : Nat) : Int) false false)) rfl _ Tryd.underlying31 rfl (szIV _) rfl ?_))
    | ((with_reducible refine wpl_isStore ?_); first
      | (refine S.store1 rfl 3 _ _ rfl b2 3 _ rfl rfl 0 (Cel.iv (iZ 54 0 0 0 14 false false)) rfl rfl (by simp [Cel.cells, IV.cellsL]) (Cel.iv (iZ 54 0 0 0 ((fd h 8 4 : Nat) : Int) false false)) rfl (by kernel_rfl) ?_; clear S; intro w2 S; simp only [List.set_cons_zero, List.set_cons_succ] at S)
      | (refine S.store1 rfl 29 _ _ rfl b2 8 _ rfl rfl 0 (Cel.iv (iZ 54 0 0 0 ((fd h 8 4 : Nat) : Int) false false)) rfl rfl (by simp [Cel.cells, IV.cellsL]) (Cel.iv (iZ 54 0 ((farN h 8 : Nat) : Int) 0 ((fd h 8 4 : Nat) : Int) false false)) rfl (by kernel_rfl) ?_; clear S; intro w2 S; simp only [List.set_cons_zero, List.set_cons_succ] at S)
      | (refine S.storeAll rfl 31 _ _ rfl b2 (Cel.iv (iZ 54 0 0 0 14 false false)) rfl rfl 0 _ rfl rfl (one_iv _) (szIV _) ?_; clear S; intro w2 S; simp only [List.set_cons_zero, List.set_cons_succ] at S)
      | (refine S.storeAll rfl 31 _ _ rfl b1 (Cel.iv (branchN (fd h 8 4) h 8).iv) rfl rfl 1 _ rfl rfl (one_iv _) (szIV _) ?_; clear S; intro w2 S; simp only [List.set_cons_zero, List.set_cons_succ] at S))
    | (go_at_call 32; with_reducible refine (CS.out _).mono ?_; rintro e wf ⟨rfl, rfl⟩)
    | (go_at_call 30; refine (plain_c _ _).mono ?_; rintro e wf ⟨rfl, hbf⟩; replace S := S.below hbf; clear hbf)
  )
  (try simp only [Exit.inBlock, Exit.then])
  refine bodyPost_ret (S.results rfl _ _ rfl 1 _ rfl _ Tryd.underlying31 rfl (szIV _)) rfl ⟨rfl, S.low⟩
theorem rjump_c (h : Nat) (hh : h < 65536) (b : Bool) (w : World) : Calls Tryd.prog 31 #[.int .i64 h, .bool b] w fun e w' => Says w (rJump h b) e w' := by
  by_cases q : fd h 8 4 = 14
  · exact rjump_14 h hh b q w
  · by_cases q2 : fd h 8 4 = 15
    · exact rjump_15 h hh b q2 w
    · cases b
      · exact rjump_out h hh q q2 w
      · exact rjump_in h hh q q2 w
end Go.Proofs.YtbbkiiabjhgpkaaDoor
