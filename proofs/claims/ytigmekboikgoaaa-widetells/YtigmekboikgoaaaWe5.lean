/- Stage 9: loads, stores. -/
import Derived.Test.YtigmekboikgoaaaWe4
namespace Go.Proofs.Ytigmekboikgoaaa
open Go.ChangeShapes Go.WideShapes Go.ChangeAt Go.RowKit
set_option linter.unusedVariables false
set_option linter.unusedSimpArgs false

set_option maxHeartbeats 20000000 in
set_option maxRecDepth 100000 in
theorem memoryOp_c (x : Nat) (hx : x < 4294967296) (w : World) : Calls Try.prog 55 #[.int .u32 x] w fun e w' => e = .returned (.int .i64 (memOp (fd x 24 1) (fd x 20 3))) ∧ w' = w := by
  have k : bits .and .u32 (x : Int) 24117248 = ((fd x 24 1 * 16777216 + fd x 20 3 * 1048576 : Nat) : Int) := u32_two x 24 1 20 3 24117248 hx (by decide) rfl (by decide)
  have f24 : fd x 24 1 < 2 := fd_lt x 24 1
  have f20 : fd x 20 3 < 8 := fd_lt x 20 3
  generalize fd x 24 1 = g at *
  generalize fd x 20 3 = z at *
  rcases (show g = 0 ∨ g = 1 by omega) with rfl | rfl
  · rcases (show z = 0 ∨ z = 1 ∨ z = 2 ∨ z = 3 ∨ z = 4 ∨ z = 5 ∨ z = 6 ∨ z = 7 by omega) with rfl | rfl | rfl | rfl | rfl | rfl | rfl | rfl
    · rw [show ((0 * 16777216 + 0 * 1048576 : Nat) : Int) = 0 from rfl] at k
      show Calls _ _ #[.int .u32 x] _ fun e w' => e = .returned (.int .i64 50) ∧ w' = w
      go_enter Try.func55, Try.ntmps55
      go_wp2
      go_ret
      exact ⟨rfl, rfl⟩
    · rw [show ((0 * 16777216 + 1 * 1048576 : Nat) : Int) = 1048576 from rfl] at k
      show Calls _ _ #[.int .u32 x] _ fun e w' => e = .returned (.int .i64 45) ∧ w' = w
      go_enter Try.func55, Try.ntmps55
      go_wp2
      go_ret
      exact ⟨rfl, rfl⟩
    · rw [show ((0 * 16777216 + 2 * 1048576 : Nat) : Int) = 2097152 from rfl] at k
      show Calls _ _ #[.int .u32 x] _ fun e w' => e = .returned (.int .i64 51) ∧ w' = w
      go_enter Try.func55, Try.ntmps55
      go_wp2
      go_ret
      exact ⟨rfl, rfl⟩
    · rw [show ((0 * 16777216 + 3 * 1048576 : Nat) : Int) = 3145728 from rfl] at k
      show Calls _ _ #[.int .u32 x] _ fun e w' => e = .returned (.int .i64 46) ∧ w' = w
      go_enter Try.func55, Try.ntmps55
      go_wp2
      go_ret
      exact ⟨rfl, rfl⟩
    · rw [show ((0 * 16777216 + 4 * 1048576 : Nat) : Int) = 4194304 from rfl] at k
      show Calls _ _ #[.int .u32 x] _ fun e w' => e = .returned (.int .i64 49) ∧ w' = w
      go_enter Try.func55, Try.ntmps55
      go_wp2
      go_ret
      exact ⟨rfl, rfl⟩
    · rw [show ((0 * 16777216 + 5 * 1048576 : Nat) : Int) = 5242880 from rfl] at k
      show Calls _ _ #[.int .u32 x] _ fun e w' => e = .returned (.int .i64 44) ∧ w' = w
      go_enter Try.func55, Try.ntmps55
      go_wp2
      go_ret
      exact ⟨rfl, rfl⟩
    · rw [show ((0 * 16777216 + 6 * 1048576 : Nat) : Int) = 6291456 from rfl] at k
      show Calls _ _ #[.int .u32 x] _ fun e w' => e = .returned (.int .i64 64) ∧ w' = w
      go_enter Try.func55, Try.ntmps55
      go_wp2
      go_ret
      exact ⟨rfl, rfl⟩
    · rw [show ((0 * 16777216 + 7 * 1048576 : Nat) : Int) = 7340032 from rfl] at k
      show Calls _ _ #[.int .u32 x] _ fun e w' => e = .returned (.int .i64 64) ∧ w' = w
      go_enter Try.func55, Try.ntmps55
      go_wp2
      go_ret
      exact ⟨rfl, rfl⟩
  · rcases (show z = 0 ∨ z = 1 ∨ z = 2 ∨ z = 3 ∨ z = 4 ∨ z = 5 ∨ z = 6 ∨ z = 7 by omega) with rfl | rfl | rfl | rfl | rfl | rfl | rfl | rfl
    · rw [show ((1 * 16777216 + 0 * 1048576 : Nat) : Int) = 16777216 from rfl] at k
      show Calls _ _ #[.int .u32 x] _ fun e w' => e = .returned (.int .i64 64) ∧ w' = w
      go_enter Try.func55, Try.ntmps55
      go_wp2
      go_ret
      exact ⟨rfl, rfl⟩
    · rw [show ((1 * 16777216 + 1 * 1048576 : Nat) : Int) = 17825792 from rfl] at k
      show Calls _ _ #[.int .u32 x] _ fun e w' => e = .returned (.int .i64 47) ∧ w' = w
      go_enter Try.func55, Try.ntmps55
      go_wp2
      go_ret
      exact ⟨rfl, rfl⟩
    · rw [show ((1 * 16777216 + 2 * 1048576 : Nat) : Int) = 18874368 from rfl] at k
      show Calls _ _ #[.int .u32 x] _ fun e w' => e = .returned (.int .i64 64) ∧ w' = w
      go_enter Try.func55, Try.ntmps55
      go_wp2
      go_ret
      exact ⟨rfl, rfl⟩
    · rw [show ((1 * 16777216 + 3 * 1048576 : Nat) : Int) = 19922944 from rfl] at k
      show Calls _ _ #[.int .u32 x] _ fun e w' => e = .returned (.int .i64 48) ∧ w' = w
      go_enter Try.func55, Try.ntmps55
      go_wp2
      go_ret
      exact ⟨rfl, rfl⟩
    · rw [show ((1 * 16777216 + 4 * 1048576 : Nat) : Int) = 20971520 from rfl] at k
      show Calls _ _ #[.int .u32 x] _ fun e w' => e = .returned (.int .i64 64) ∧ w' = w
      go_enter Try.func55, Try.ntmps55
      go_wp2
      go_ret
      exact ⟨rfl, rfl⟩
    · rw [show ((1 * 16777216 + 5 * 1048576 : Nat) : Int) = 22020096 from rfl] at k
      show Calls _ _ #[.int .u32 x] _ fun e w' => e = .returned (.int .i64 64) ∧ w' = w
      go_enter Try.func55, Try.ntmps55
      go_wp2
      go_ret
      exact ⟨rfl, rfl⟩
    · rw [show ((1 * 16777216 + 6 * 1048576 : Nat) : Int) = 23068672 from rfl] at k
      show Calls _ _ #[.int .u32 x] _ fun e w' => e = .returned (.int .i64 64) ∧ w' = w
      go_enter Try.func55, Try.ntmps55
      go_wp2
      go_ret
      exact ⟨rfl, rfl⟩
    · rw [show ((1 * 16777216 + 7 * 1048576 : Nat) : Int) = 24117248 from rfl] at k
      show Calls _ _ #[.int .u32 x] _ fun e w' => e = .returned (.int .i64 64) ∧ w' = w
      go_enter Try.func55, Try.ntmps55
      go_wp2
      go_ret
      exact ⟨rfl, rfl⟩
set_option maxHeartbeats 20000000 in
set_option maxRecDepth 100000 in
theorem literal_c (i : IV) (x : Nat) (hx : x < 4294967296) (w : World) : Calls Try.prog 56 #[i.val, .int .u32 x] w fun e w' => Says w (litX i x) e w' := by
  unfold Says
  have k12 : bits .and .u32 (x : Int) 4095 = ((fd x 0 12 : Nat) : Int) := fd_u32 x 0 12 hx (by decide) _ _ (by simp) rfl
  have f12 : fd x 0 12 < 4096 := fd_lt x 0 12
  have hJ : litX i x = bif Nat.beq (fd x 20 1) 0 then noneI 64 x else bif Nat.beq (fd x 23 1) 0 then checkedI (secondI i ((-(fd x 0 12 : Nat) : Int) % 4294967296) 0) (fd x 0 12 != 0) x else checkedI (secondI i (fd x 0 12 : Nat) 0) true x := rfl
  generalize litX i x = R at *
  have k20_1 : bits .and .u32 (x : Int) 1048576 = ((fd x 20 1 * 1048576 : Nat) : Int) := u32_mid x 20 1 1048576 hx rfl (by decide)
  have f20_1 : fd x 20 1 < 2 := fd_lt x 20 1
  generalize fd x 20 1 = g20_1 at *
  have k23_1 : bits .and .u32 (x : Int) 8388608 = ((fd x 23 1 * 8388608 : Nat) : Int) := u32_mid x 23 1 8388608 hx rfl (by decide)
  have f23_1 : fd x 23 1 < 2 := fd_lt x 23 1
  generalize fd x 23 1 = g23_1 at *
  generalize fd x 0 12 = B at *
  rcases (show g20_1 = 0 ∨ g20_1 = 1 by omega) with rfl | rfl
  · rw [show ((0 * 1048576 : Nat) : Int) = 0 from rfl] at k20_1
    replace hJ : R = noneI 64 x := hJ
    subst hJ
    go_enter Try.func56, Try.ntmps56
    have S := SH.start w
    go_wp2_with (first
      | ((with_reducible refine wpl_isDst 2 ?_); (first | refine S.boxA rfl 30 _ rfl _ rfl ?_ | refine SH.boxA (L := []) S rfl 30 _ rfl _ rfl ?_); clear S; intro b2 w2 S; (try (simp only [Cel.cells, IV.cellsL, zeroL, List.set_cons_zero, List.set_cons_succ, startI, secondI, noneI] at S)))
      | ((with_reducible refine wpl_isDst 4 ?_); (first | refine S.alloc rfl 30 rfl (Cel.any zeroL) zeroA ?_ | refine SH.alloc (L := []) S rfl 30 rfl (Cel.any zeroL) zeroA ?_); clear S; intro b4 w4 S)
      | (go_at_call 13; refine (none_c 64 x hx _).mono ?_; rintro e wf ⟨rfl, hbf⟩; replace S := S.below hbf; clear hbf)
      | ((with_reducible refine wpl_isStoreAt 4 ?_); (first | refine S.storeA rfl 30 _ _ rfl b4 _ rfl rfl 0 _ rfl rfl rfl (szA _ rfl) ?_ | refine S.storeA rfl 30 _ _ rfl b4 _ rfl rfl 1 _ rfl rfl rfl (szA _ rfl) ?_); clear S; intro w2 S; (simp only [Cel.cells, IV.cellsL, zeroL, List.set_cons_zero, List.set_cons_succ, startI, secondI, noneI] at S))
      | ((with_reducible refine wpl_isDst 18 ?_); (first | refine S.ldAll 30 _ rfl b2 rfl 0 _ rfl _ Try.underlying30 rfl (szA _ rfl) rfl ?_ | refine S.ldAll 30 _ rfl b2 rfl 1 _ rfl _ Try.underlying30 rfl (szA _ rfl) rfl ?_))
      | ((with_reducible refine wpl_isDst 23 ?_); (first | refine S.ldAll 30 _ rfl b2 rfl 0 _ rfl _ Try.underlying30 rfl (szA _ rfl) rfl ?_ | refine S.ldAll 30 _ rfl b2 rfl 1 _ rfl _ Try.underlying30 rfl (szA _ rfl) rfl ?_)))
    (try simp only [Exit.inBlock, Exit.then])
    (first | refine bodyPost_ret (S.results rfl _ _ rfl 0 _ rfl _ Try.underlying30 rfl (szA _ rfl)) rfl ?_ | refine bodyPost_ret (S.results rfl _ _ rfl 1 _ rfl _ Try.underlying30 rfl (szA _ rfl)) rfl ?_)
    exact ⟨rfl, S.low⟩
  · rw [show ((1 * 1048576 : Nat) : Int) = 1048576 from rfl] at k20_1
    rcases (show g23_1 = 0 ∨ g23_1 = 1 by omega) with rfl | rfl
    · rw [show ((0 * 8388608 : Nat) : Int) = 0 from rfl] at k23_1
      rcases (show B = 0 ∨ 0 < B by omega) with rfl | hB
      · replace k12 : bits .and .u32 (x : Int) 4095 = 0 := k12
        replace hJ : R = checkedI (secondI i 0 0) false x := hJ
        subst hJ
        go_enter Try.func56, Try.ntmps56
        have S := SH.start w
        go_wp2_with (first
          | ((with_reducible refine wpl_isDst 2 ?_); (first | refine S.boxA rfl 30 _ rfl _ rfl ?_ | refine SH.boxA (L := []) S rfl 30 _ rfl _ rfl ?_); clear S; intro b2 w2 S; (try (simp only [Cel.cells, IV.cellsL, zeroL, List.set_cons_zero, List.set_cons_succ, startI, secondI, noneI] at S)))
          | ((with_reducible refine wpl_isDst 4 ?_); (first | refine S.alloc rfl 30 rfl (Cel.any zeroL) zeroA ?_ | refine SH.alloc (L := []) S rfl 30 rfl (Cel.any zeroL) zeroA ?_); clear S; intro b4 w4 S)
          | (go_at_call 13; refine (none_c 64 x hx _).mono ?_; rintro e wf ⟨rfl, hbf⟩; replace S := S.below hbf; clear hbf)
          | ((with_reducible refine wpl_isStoreAt 4 ?_); (first | refine S.storeA rfl 30 _ _ rfl b4 _ rfl rfl 0 _ rfl rfl rfl (szA _ rfl) ?_ | refine S.storeA rfl 30 _ _ rfl b4 _ rfl rfl 1 _ rfl rfl rfl (szA _ rfl) ?_); clear S; intro w2 S; (simp only [Cel.cells, IV.cellsL, zeroL, List.set_cons_zero, List.set_cons_succ, startI, secondI, noneI] at S))
          | ((with_reducible refine wpl_isDst 18 ?_); (first | refine S.ldAll 30 _ rfl b2 rfl 0 _ rfl _ Try.underlying30 rfl (szA _ rfl) rfl ?_ | refine S.ldAll 30 _ rfl b2 rfl 1 _ rfl _ Try.underlying30 rfl (szA _ rfl) rfl ?_))
          | (go_at_call 53; refine (sec_c i 0 0 _).mono ?_; rintro e wf ⟨rfl, hbf⟩; replace S := S.below hbf; clear hbf)
          | (go_at_call 47; refine (checked_c (secondI i 0 0) false x hx _).mono ?_; rintro e wf ⟨rfl, hbf⟩; replace S := S.below hbf; clear hbf)
          | ((with_reducible refine wpl_isDst 23 ?_); (first | refine S.ldAll 30 _ rfl b2 rfl 0 _ rfl _ Try.underlying30 rfl (szA _ rfl) rfl ?_ | refine S.ldAll 30 _ rfl b2 rfl 1 _ rfl _ Try.underlying30 rfl (szA _ rfl) rfl ?_)))
        (try simp only [Exit.inBlock, Exit.then])
        (first | refine bodyPost_ret (S.results rfl _ _ rfl 0 _ rfl _ Try.underlying30 rfl (szA _ rfl)) rfl ?_ | refine bodyPost_ret (S.results rfl _ _ rfl 1 _ rfl _ Try.underlying30 rfl (szA _ rfl)) rfl ?_)
        exact ⟨rfl, S.low⟩
      · have hb : (B != 0) = true := by simp; omega
        rw [hb] at hJ
        have hb2 : ((B : Int) != 0) = true := by simp; omega
        replace hJ : R = checkedI (secondI i ((-(B : Int)) % 4294967296) 0) true x := hJ
        subst hJ
        go_enter Try.func56, Try.ntmps56
        have S := SH.start w
        go_wp2_with (first
          | ((with_reducible refine wpl_isDst 2 ?_); (first | refine S.boxA rfl 30 _ rfl _ rfl ?_ | refine SH.boxA (L := []) S rfl 30 _ rfl _ rfl ?_); clear S; intro b2 w2 S; (try (simp only [Cel.cells, IV.cellsL, zeroL, List.set_cons_zero, List.set_cons_succ, startI, secondI, noneI] at S)))
          | ((with_reducible refine wpl_isDst 4 ?_); (first | refine S.alloc rfl 30 rfl (Cel.any zeroL) zeroA ?_ | refine SH.alloc (L := []) S rfl 30 rfl (Cel.any zeroL) zeroA ?_); clear S; intro b4 w4 S)
          | (go_at_call 13; refine (none_c 64 x hx _).mono ?_; rintro e wf ⟨rfl, hbf⟩; replace S := S.below hbf; clear hbf)
          | ((with_reducible refine wpl_isStoreAt 4 ?_); (first | refine S.storeA rfl 30 _ _ rfl b4 _ rfl rfl 0 _ rfl rfl rfl (szA _ rfl) ?_ | refine S.storeA rfl 30 _ _ rfl b4 _ rfl rfl 1 _ rfl rfl rfl (szA _ rfl) ?_); clear S; intro w2 S; (simp only [Cel.cells, IV.cellsL, zeroL, List.set_cons_zero, List.set_cons_succ, startI, secondI, noneI] at S))
          | ((with_reducible refine wpl_isDst 18 ?_); (first | refine S.ldAll 30 _ rfl b2 rfl 0 _ rfl _ Try.underlying30 rfl (szA _ rfl) rfl ?_ | refine S.ldAll 30 _ rfl b2 rfl 1 _ rfl _ Try.underlying30 rfl (szA _ rfl) rfl ?_))
          | (go_at_call 53; refine (sec_c i (-(B : Int) % 4294967296) 0 _).mono ?_; rintro e wf ⟨rfl, hbf⟩; replace S := S.below hbf; clear hbf)
          | (go_at_call 47; refine (checked_c (secondI i (-(B : Int) % 4294967296) 0) true x hx _).mono ?_; rintro e wf ⟨rfl, hbf⟩; replace S := S.below hbf; clear hbf)
          | ((with_reducible refine wpl_isDst 23 ?_); (first | refine S.ldAll 30 _ rfl b2 rfl 0 _ rfl _ Try.underlying30 rfl (szA _ rfl) rfl ?_ | refine S.ldAll 30 _ rfl b2 rfl 1 _ rfl _ Try.underlying30 rfl (szA _ rfl) rfl ?_)))
        (try simp only [Exit.inBlock, Exit.then])
        (first | refine bodyPost_ret (S.results rfl _ _ rfl 0 _ rfl _ Try.underlying30 rfl (szA _ rfl)) rfl ?_ | refine bodyPost_ret (S.results rfl _ _ rfl 1 _ rfl _ Try.underlying30 rfl (szA _ rfl)) rfl ?_)
        exact ⟨rfl, S.low⟩
    · rw [show ((1 * 8388608 : Nat) : Int) = 8388608 from rfl] at k23_1
      replace hJ : R = checkedI (secondI i (B : Nat) 0) true x := hJ
      subst hJ
      go_enter Try.func56, Try.ntmps56
      have S := SH.start w
      go_wp2_with (first
        | ((with_reducible refine wpl_isDst 2 ?_); (first | refine S.boxA rfl 30 _ rfl _ rfl ?_ | refine SH.boxA (L := []) S rfl 30 _ rfl _ rfl ?_); clear S; intro b2 w2 S; (try (simp only [Cel.cells, IV.cellsL, zeroL, List.set_cons_zero, List.set_cons_succ, startI, secondI, noneI] at S)))
        | ((with_reducible refine wpl_isDst 4 ?_); (first | refine S.alloc rfl 30 rfl (Cel.any zeroL) zeroA ?_ | refine SH.alloc (L := []) S rfl 30 rfl (Cel.any zeroL) zeroA ?_); clear S; intro b4 w4 S)
        | (go_at_call 13; refine (none_c 64 x hx _).mono ?_; rintro e wf ⟨rfl, hbf⟩; replace S := S.below hbf; clear hbf)
        | ((with_reducible refine wpl_isStoreAt 4 ?_); (first | refine S.storeA rfl 30 _ _ rfl b4 _ rfl rfl 0 _ rfl rfl rfl (szA _ rfl) ?_ | refine S.storeA rfl 30 _ _ rfl b4 _ rfl rfl 1 _ rfl rfl rfl (szA _ rfl) ?_); clear S; intro w2 S; (simp only [Cel.cells, IV.cellsL, zeroL, List.set_cons_zero, List.set_cons_succ, startI, secondI, noneI] at S))
        | ((with_reducible refine wpl_isDst 18 ?_); (first | refine S.ldAll 30 _ rfl b2 rfl 0 _ rfl _ Try.underlying30 rfl (szA _ rfl) rfl ?_ | refine S.ldAll 30 _ rfl b2 rfl 1 _ rfl _ Try.underlying30 rfl (szA _ rfl) rfl ?_))
        | (go_at_call 53; refine (sec_c i (B : Nat) 0 _).mono ?_; rintro e wf ⟨rfl, hbf⟩; replace S := S.below hbf; clear hbf)
        | (go_at_call 47; refine (checked_c (secondI i (B : Nat) 0) true x hx _).mono ?_; rintro e wf ⟨rfl, hbf⟩; replace S := S.below hbf; clear hbf)
        | ((with_reducible refine wpl_isDst 23 ?_); (first | refine S.ldAll 30 _ rfl b2 rfl 0 _ rfl _ Try.underlying30 rfl (szA _ rfl) rfl ?_ | refine S.ldAll 30 _ rfl b2 rfl 1 _ rfl _ Try.underlying30 rfl (szA _ rfl) rfl ?_)))
      (try simp only [Exit.inBlock, Exit.then])
      (first | refine bodyPost_ret (S.results rfl _ _ rfl 0 _ rfl _ Try.underlying30 rfl (szA _ rfl)) rfl ?_ | refine bodyPost_ret (S.results rfl _ _ rfl 1 _ rfl _ Try.underlying30 rfl (szA _ rfl)) rfl ?_)
      exact ⟨rfl, S.low⟩
set_option maxHeartbeats 20000000 in
set_option maxRecDepth 100000 in
theorem memory_c (x : Nat) (hx : x < 4294967296) (w : World) : Calls Try.prog 24 #[.int .u32 x] w fun e w' => Says w (memX x) e w' := by
  unfold Says
  have k12 : bits .and .u32 (x : Int) 4095 = ((fd x 0 12 : Nat) : Int) := fd_u32 x 0 12 hx (by decide) _ _ (by simp) rfl
  have f12 : fd x 0 12 < 4096 := fd_lt x 0 12
  have CO : Hid (∀ w, Calls Try.prog 55 #[.int .u32 x] w fun e w' => e = .returned (.int .i64 (memOp (fd x 24 1) (fd x 20 3))) ∧ w' = w) := memoryOp_c x hx
  have CL : ∀ i : IV, Hid (∀ w, Calls Try.prog 56 #[i.val, .int .u32 x] w fun e w' => e = .returned ((litX i x).val) ∧ Below w.heap.size w w') := fun i => literal_c i x hx
  have hJ : memX x = bif memOp (fd x 24 1) (fd x 20 3) == 64 then noneI 64 x
    else bif Nat.beq (fd x 16 4) 15 then litX (startI (memOp (fd x 24 1) (fd x 20 3)) (fd x 12 4 : Nat) (fd x 16 4 : Nat)) x
    else bif Nat.beq (fd x 23 1) 0 then (bif Nat.beq (fd x 6 6) 0 then checkedI (memI (startI (memOp (fd x 24 1) (fd x 20 3)) (fd x 12 4 : Nat) (fd x 16 4 : Nat)) (fd x 0 4 : Nat) (fd x 4 2 : Nat)) true x else noneI 64 x)
    else checkedI (secondI (startI (memOp (fd x 24 1) (fd x 20 3)) (fd x 12 4 : Nat) (fd x 16 4 : Nat)) (fd x 0 12 : Nat) 0) true x := rfl
  generalize memX x = R at *
  generalize memOp (fd x 24 1) (fd x 20 3) = p at *
  have k23_1 : bits .and .u32 (x : Int) 8388608 = ((fd x 23 1 * 8388608 : Nat) : Int) := u32_mid x 23 1 8388608 hx rfl (by decide)
  have f23_1 : fd x 23 1 < 2 := fd_lt x 23 1
  generalize fd x 23 1 = g23_1 at *
  have k6_6 : bits .and .u32 (x : Int) 4032 = ((fd x 6 6 * 64 : Nat) : Int) := u32_mid x 6 6 4032 hx rfl (by decide)
  have f6_6 : fd x 6 6 < 64 := fd_lt x 6 6
  generalize fd x 6 6 = g6_6 at *
  have F12_4 : Hid (∀ w, Calls Try.prog 46 #[.int .u32 x, .int .i64 12, .int .i64 4] w fun e w' => e = .returned (.int .i64 (fd x 12 4 : Nat)) ∧ Below w.heap.size w w') := field_12_4 x hx
  have f12_4 : fd x 12 4 < 16 := fd_lt x 12 4
  generalize fd x 12 4 = g12_4 at *
  have F16_4 : Hid (∀ w, Calls Try.prog 46 #[.int .u32 x, .int .i64 16, .int .i64 4] w fun e w' => e = .returned (.int .i64 (fd x 16 4 : Nat)) ∧ Below w.heap.size w w') := field_16_4 x hx
  have f16_4 : fd x 16 4 < 16 := fd_lt x 16 4
  generalize fd x 16 4 = g16_4 at *
  have F0_4 : Hid (∀ w, Calls Try.prog 46 #[.int .u32 x, .int .i64 0, .int .i64 4] w fun e w' => e = .returned (.int .i64 (fd x 0 4 : Nat)) ∧ Below w.heap.size w w') := field_0_4 x hx
  have f0_4 : fd x 0 4 < 16 := fd_lt x 0 4
  generalize fd x 0 4 = g0_4 at *
  have F4_2 : Hid (∀ w, Calls Try.prog 46 #[.int .u32 x, .int .i64 4, .int .i64 2] w fun e w' => e = .returned (.int .i64 (fd x 4 2 : Nat)) ∧ Below w.heap.size w w') := field_4_2 x hx
  have f4_2 : fd x 4 2 < 4 := fd_lt x 4 2
  generalize fd x 4 2 = g4_2 at *
  generalize fd x 0 12 = B at *
  cases h1 : (p == 64)
  · rw [h1] at hJ
    rcases (show g16_4 = 15 ∨ g16_4 ≠ 15 by omega) with rfl | hn
    · have nn : (((15 : Nat) : Int) == 15) = true := rfl
      replace hJ : R = litX (startI p g12_4 (15 : Nat)) x := hJ
      subst hJ
      go_enter Try.func24, Try.ntmps24
      have S := SH.start w
      go_wp2_with (first
        | ((with_reducible refine wpl_isDst 2 ?_); (first | refine S.alloc rfl 30 rfl (Cel.any zeroL) zeroA ?_ | refine SH.alloc (L := []) S rfl 30 rfl (Cel.any zeroL) zeroA ?_); clear S; intro b2 w2 S)
        | (go_at_call 55; refine (CO.out _).mono ?_; rintro e wf ⟨rfl, rfl⟩)
        | (go_at_call 46; first | (with_reducible refine (F12_4.out _).mono ?_; rintro e wf ⟨rfl, hbf⟩; replace S := S.below hbf; clear hbf) | (with_reducible refine (F16_4.out _).mono ?_; rintro e wf ⟨rfl, hbf⟩; replace S := S.below hbf; clear hbf) | (with_reducible refine (F0_4.out _).mono ?_; rintro e wf ⟨rfl, hbf⟩; replace S := S.below hbf; clear hbf) | (with_reducible refine (F4_2.out _).mono ?_; rintro e wf ⟨rfl, hbf⟩; replace S := S.below hbf; clear hbf))
        | (go_at_call 45; refine (start_c _ _ _ _).mono ?_; rintro e wf ⟨rfl, hbf⟩; replace S := S.below hbf; clear hbf)
        | ((with_reducible refine wpl_isDst 3 ?_); (first | refine S.alloc rfl 30 rfl (Cel.any zeroL) zeroA ?_ | refine SH.alloc (L := []) S rfl 30 rfl (Cel.any zeroL) zeroA ?_); clear S; intro b3 w3 S)
        | ((with_reducible refine wpl_isStoreAt 3 ?_); (first | refine S.storeA rfl 30 _ _ rfl b3 _ rfl rfl 0 _ rfl rfl rfl (szA _ rfl) ?_ | refine S.storeA rfl 30 _ _ rfl b3 _ rfl rfl 1 _ rfl rfl rfl (szA _ rfl) ?_); clear S; intro w2 S; (simp only [Cel.cells, IV.cellsL, zeroL, List.set_cons_zero, List.set_cons_succ, startI, secondI, noneI] at S))
        | ((with_reducible refine wpl_isDst 13 ?_); (first | refine S.ld 3 _ rfl b3 0 rfl 0 _ rfl _ rfl _ Try.underlying3 rfl rfl ?_ | refine S.ld 3 _ rfl b3 0 rfl 1 _ rfl _ rfl _ Try.underlying3 rfl rfl ?_))
        | (go_at_call 13; refine (none_c 64 x hx _).mono ?_; rintro e wf ⟨rfl, hbf⟩; replace S := S.below hbf; clear hbf)
        | ((with_reducible refine wpl_isStoreAt 2 ?_); (first | refine S.storeA rfl 30 _ _ rfl b2 _ rfl rfl 0 _ rfl rfl rfl (szA _ rfl) ?_ | refine S.storeA rfl 30 _ _ rfl b2 _ rfl rfl 1 _ rfl rfl rfl (szA _ rfl) ?_); clear S; intro w2 S; (simp only [Cel.cells, IV.cellsL, zeroL, List.set_cons_zero, List.set_cons_succ, startI, secondI, noneI] at S))
        | ((with_reducible refine wpl_isDst 19 ?_); (first | refine S.ld 3 _ rfl b3 5 rfl 0 _ rfl _ rfl _ Try.underlying3 rfl rfl ?_ | refine S.ld 3 _ rfl b3 5 rfl 1 _ rfl _ rfl _ Try.underlying3 rfl rfl ?_))
        | ((with_reducible refine wpl_isDst 21 ?_); (first | refine S.ldAll 30 _ rfl b3 rfl 0 _ rfl _ Try.underlying30 rfl (szA _ rfl) rfl ?_ | refine S.ldAll 30 _ rfl b3 rfl 1 _ rfl _ Try.underlying30 rfl (szA _ rfl) rfl ?_))
        | (go_at_call 56; refine ((CL (startI p g12_4 (15 : Nat))).out _).mono ?_; rintro e wf ⟨rfl, hbf⟩; replace S := S.below hbf; clear hbf)
        | ((with_reducible refine wpl_isDst 28 ?_); (first | refine S.ldAll 30 _ rfl b3 rfl 0 _ rfl _ Try.underlying30 rfl (szA _ rfl) rfl ?_ | refine S.ldAll 30 _ rfl b3 rfl 1 _ rfl _ Try.underlying30 rfl (szA _ rfl) rfl ?_))
        | ((with_reducible refine wpl_isStoreAt 44 ?_); (first | refine S.store1 rfl 3 _ _ rfl b3 6 _ rfl rfl 0 _ rfl rfl (of_decide_eq_true rfl) (Cel.any _) rfl (by kernel_rfl) ?_ | refine S.store1 rfl 3 _ _ rfl b3 6 _ rfl rfl 1 _ rfl rfl (of_decide_eq_true rfl) (Cel.any _) rfl (by kernel_rfl) ?_); clear S; intro w2 S; (simp only [Cel.cells, IV.cellsL, zeroL, List.set_cons_zero, List.set_cons_succ, startI, secondI, noneI] at S))
        | ((with_reducible refine wpl_isStoreAt 45 ?_); (first | refine S.store1 rfl 3 _ _ rfl b3 11 _ rfl rfl 0 _ rfl rfl (of_decide_eq_true rfl) (Cel.any _) rfl (by kernel_rfl) ?_ | refine S.store1 rfl 3 _ _ rfl b3 11 _ rfl rfl 1 _ rfl rfl (of_decide_eq_true rfl) (Cel.any _) rfl (by kernel_rfl) ?_); clear S; intro w2 S; (simp only [Cel.cells, IV.cellsL, zeroL, List.set_cons_zero, List.set_cons_succ, startI, secondI, noneI] at S))
        | ((with_reducible refine wpl_isDst 46 ?_); (first | refine S.ldAll 30 _ rfl b3 rfl 0 _ rfl _ Try.underlying30 rfl (szA _ rfl) rfl ?_ | refine S.ldAll 30 _ rfl b3 rfl 1 _ rfl _ Try.underlying30 rfl (szA _ rfl) rfl ?_)))
      (try simp only [Exit.inBlock, Exit.then])
      (first | refine bodyPost_ret (S.results rfl _ _ rfl 0 _ rfl _ Try.underlying30 rfl (szA _ rfl)) rfl ?_ | refine bodyPost_ret (S.results rfl _ _ rfl 1 _ rfl _ Try.underlying30 rfl (szA _ rfl)) rfl ?_)
      exact ⟨rfl, S.low⟩
    · have n1 : Nat.beq g16_4 15 = false := by rw [nbeq]; simp; omega
      have n2 : ((g16_4 : Int) == 15) = false := by simp; omega
      rw [n1] at hJ
      clear n1 hn
      rcases (show g23_1 = 0 ∨ g23_1 = 1 by omega) with rfl | rfl
      · rw [show ((0 * 8388608 : Nat) : Int) = 0 from rfl] at k23_1
        rcases (show g6_6 = 0 ∨ 0 < g6_6 by omega) with rfl | h6
        · rw [show ((0 * 64 : Nat) : Int) = 0 from rfl] at k6_6
          replace hJ : R = checkedI (memI (startI p g12_4 g16_4) g0_4 g4_2) true x := hJ
          subst hJ
          go_enter Try.func24, Try.ntmps24
          have S := SH.start w
          go_wp2_with (first
            | ((with_reducible refine wpl_isDst 2 ?_); (first | refine S.alloc rfl 30 rfl (Cel.any zeroL) zeroA ?_ | refine SH.alloc (L := []) S rfl 30 rfl (Cel.any zeroL) zeroA ?_); clear S; intro b2 w2 S)
            | (go_at_call 55; refine (CO.out _).mono ?_; rintro e wf ⟨rfl, rfl⟩)
            | (go_at_call 46; first | (with_reducible refine (F12_4.out _).mono ?_; rintro e wf ⟨rfl, hbf⟩; replace S := S.below hbf; clear hbf) | (with_reducible refine (F16_4.out _).mono ?_; rintro e wf ⟨rfl, hbf⟩; replace S := S.below hbf; clear hbf) | (with_reducible refine (F0_4.out _).mono ?_; rintro e wf ⟨rfl, hbf⟩; replace S := S.below hbf; clear hbf) | (with_reducible refine (F4_2.out _).mono ?_; rintro e wf ⟨rfl, hbf⟩; replace S := S.below hbf; clear hbf))
            | (go_at_call 45; refine (start_c _ _ _ _).mono ?_; rintro e wf ⟨rfl, hbf⟩; replace S := S.below hbf; clear hbf)
            | ((with_reducible refine wpl_isDst 3 ?_); (first | refine S.alloc rfl 30 rfl (Cel.any zeroL) zeroA ?_ | refine SH.alloc (L := []) S rfl 30 rfl (Cel.any zeroL) zeroA ?_); clear S; intro b3 w3 S)
            | ((with_reducible refine wpl_isStoreAt 3 ?_); (first | refine S.storeA rfl 30 _ _ rfl b3 _ rfl rfl 0 _ rfl rfl rfl (szA _ rfl) ?_ | refine S.storeA rfl 30 _ _ rfl b3 _ rfl rfl 1 _ rfl rfl rfl (szA _ rfl) ?_); clear S; intro w2 S; (simp only [Cel.cells, IV.cellsL, zeroL, List.set_cons_zero, List.set_cons_succ, startI, secondI, noneI] at S))
            | ((with_reducible refine wpl_isDst 13 ?_); (first | refine S.ld 3 _ rfl b3 0 rfl 0 _ rfl _ rfl _ Try.underlying3 rfl rfl ?_ | refine S.ld 3 _ rfl b3 0 rfl 1 _ rfl _ rfl _ Try.underlying3 rfl rfl ?_))
            | (go_at_call 13; refine (none_c 64 x hx _).mono ?_; rintro e wf ⟨rfl, hbf⟩; replace S := S.below hbf; clear hbf)
            | ((with_reducible refine wpl_isStoreAt 2 ?_); (first | refine S.storeA rfl 30 _ _ rfl b2 _ rfl rfl 0 _ rfl rfl rfl (szA _ rfl) ?_ | refine S.storeA rfl 30 _ _ rfl b2 _ rfl rfl 1 _ rfl rfl rfl (szA _ rfl) ?_); clear S; intro w2 S; (simp only [Cel.cells, IV.cellsL, zeroL, List.set_cons_zero, List.set_cons_succ, startI, secondI, noneI] at S))
            | ((with_reducible refine wpl_isDst 19 ?_); (first | refine S.ld 3 _ rfl b3 5 rfl 0 _ rfl _ rfl _ Try.underlying3 rfl rfl ?_ | refine S.ld 3 _ rfl b3 5 rfl 1 _ rfl _ rfl _ Try.underlying3 rfl rfl ?_))
            | ((with_reducible refine wpl_isDst 21 ?_); (first | refine S.ldAll 30 _ rfl b3 rfl 0 _ rfl _ Try.underlying30 rfl (szA _ rfl) rfl ?_ | refine S.ldAll 30 _ rfl b3 rfl 1 _ rfl _ Try.underlying30 rfl (szA _ rfl) rfl ?_))
            | ((with_reducible refine wpl_isDst 28 ?_); (first | refine S.ldAll 30 _ rfl b3 rfl 0 _ rfl _ Try.underlying30 rfl (szA _ rfl) rfl ?_ | refine S.ldAll 30 _ rfl b3 rfl 1 _ rfl _ Try.underlying30 rfl (szA _ rfl) rfl ?_))
            | (go_at_call 47; refine (checked_c (memI (startI p g12_4 g16_4) g0_4 g4_2) true x hx _).mono ?_; rintro e wf ⟨rfl, hbf⟩; replace S := S.below hbf; clear hbf)
            | ((with_reducible refine wpl_isStoreAt 44 ?_); (first | refine S.store1 rfl 3 _ _ rfl b3 6 _ rfl rfl 0 _ rfl rfl (of_decide_eq_true rfl) (Cel.any _) rfl (by kernel_rfl) ?_ | refine S.store1 rfl 3 _ _ rfl b3 6 _ rfl rfl 1 _ rfl rfl (of_decide_eq_true rfl) (Cel.any _) rfl (by kernel_rfl) ?_); clear S; intro w2 S; (simp only [Cel.cells, IV.cellsL, zeroL, List.set_cons_zero, List.set_cons_succ, startI, secondI, noneI] at S))
            | ((with_reducible refine wpl_isStoreAt 45 ?_); (first | refine S.store1 rfl 3 _ _ rfl b3 11 _ rfl rfl 0 _ rfl rfl (of_decide_eq_true rfl) (Cel.any _) rfl (by kernel_rfl) ?_ | refine S.store1 rfl 3 _ _ rfl b3 11 _ rfl rfl 1 _ rfl rfl (of_decide_eq_true rfl) (Cel.any _) rfl (by kernel_rfl) ?_); clear S; intro w2 S; (simp only [Cel.cells, IV.cellsL, zeroL, List.set_cons_zero, List.set_cons_succ, startI, secondI, noneI] at S))
            | ((with_reducible refine wpl_isDst 46 ?_); (first | refine S.ldAll 30 _ rfl b3 rfl 0 _ rfl _ Try.underlying30 rfl (szA _ rfl) rfl ?_ | refine S.ldAll 30 _ rfl b3 rfl 1 _ rfl _ Try.underlying30 rfl (szA _ rfl) rfl ?_)))
          (try simp only [Exit.inBlock, Exit.then])
          (first | refine bodyPost_ret (S.results rfl _ _ rfl 0 _ rfl _ Try.underlying30 rfl (szA _ rfl)) rfl ?_ | refine bodyPost_ret (S.results rfl _ _ rfl 1 _ rfl _ Try.underlying30 rfl (szA _ rfl)) rfl ?_)
          exact ⟨rfl, S.low⟩
        · have n3 : Nat.beq g6_6 0 = false := by rw [nbeq]; simp; omega
          have n4 : ((((g6_6 * 64 : Nat) : Int)) != 0) = true := by simp; omega
          rw [n3] at hJ
          clear n3 h6
          generalize ((g6_6 * 64 : Nat) : Int) = y at *
          replace hJ : R = noneI 64 x := hJ
          subst hJ
          go_enter Try.func24, Try.ntmps24
          have S := SH.start w
          go_wp2_with (first
            | ((with_reducible refine wpl_isDst 2 ?_); (first | refine S.alloc rfl 30 rfl (Cel.any zeroL) zeroA ?_ | refine SH.alloc (L := []) S rfl 30 rfl (Cel.any zeroL) zeroA ?_); clear S; intro b2 w2 S)
            | (go_at_call 55; refine (CO.out _).mono ?_; rintro e wf ⟨rfl, rfl⟩)
            | (go_at_call 46; first | (with_reducible refine (F12_4.out _).mono ?_; rintro e wf ⟨rfl, hbf⟩; replace S := S.below hbf; clear hbf) | (with_reducible refine (F16_4.out _).mono ?_; rintro e wf ⟨rfl, hbf⟩; replace S := S.below hbf; clear hbf) | (with_reducible refine (F0_4.out _).mono ?_; rintro e wf ⟨rfl, hbf⟩; replace S := S.below hbf; clear hbf) | (with_reducible refine (F4_2.out _).mono ?_; rintro e wf ⟨rfl, hbf⟩; replace S := S.below hbf; clear hbf))
            | (go_at_call 45; refine (start_c _ _ _ _).mono ?_; rintro e wf ⟨rfl, hbf⟩; replace S := S.below hbf; clear hbf)
            | ((with_reducible refine wpl_isDst 3 ?_); (first | refine S.alloc rfl 30 rfl (Cel.any zeroL) zeroA ?_ | refine SH.alloc (L := []) S rfl 30 rfl (Cel.any zeroL) zeroA ?_); clear S; intro b3 w3 S)
            | ((with_reducible refine wpl_isStoreAt 3 ?_); (first | refine S.storeA rfl 30 _ _ rfl b3 _ rfl rfl 0 _ rfl rfl rfl (szA _ rfl) ?_ | refine S.storeA rfl 30 _ _ rfl b3 _ rfl rfl 1 _ rfl rfl rfl (szA _ rfl) ?_); clear S; intro w2 S; (simp only [Cel.cells, IV.cellsL, zeroL, List.set_cons_zero, List.set_cons_succ, startI, secondI, noneI] at S))
            | ((with_reducible refine wpl_isDst 13 ?_); (first | refine S.ld 3 _ rfl b3 0 rfl 0 _ rfl _ rfl _ Try.underlying3 rfl rfl ?_ | refine S.ld 3 _ rfl b3 0 rfl 1 _ rfl _ rfl _ Try.underlying3 rfl rfl ?_))
            | (go_at_call 13; refine (none_c 64 x hx _).mono ?_; rintro e wf ⟨rfl, hbf⟩; replace S := S.below hbf; clear hbf)
            | ((with_reducible refine wpl_isStoreAt 2 ?_); (first | refine S.storeA rfl 30 _ _ rfl b2 _ rfl rfl 0 _ rfl rfl rfl (szA _ rfl) ?_ | refine S.storeA rfl 30 _ _ rfl b2 _ rfl rfl 1 _ rfl rfl rfl (szA _ rfl) ?_); clear S; intro w2 S; (simp only [Cel.cells, IV.cellsL, zeroL, List.set_cons_zero, List.set_cons_succ, startI, secondI, noneI] at S))
            | ((with_reducible refine wpl_isDst 19 ?_); (first | refine S.ld 3 _ rfl b3 5 rfl 0 _ rfl _ rfl _ Try.underlying3 rfl rfl ?_ | refine S.ld 3 _ rfl b3 5 rfl 1 _ rfl _ rfl _ Try.underlying3 rfl rfl ?_))
            | ((with_reducible refine wpl_isDst 21 ?_); (first | refine S.ldAll 30 _ rfl b3 rfl 0 _ rfl _ Try.underlying30 rfl (szA _ rfl) rfl ?_ | refine S.ldAll 30 _ rfl b3 rfl 1 _ rfl _ Try.underlying30 rfl (szA _ rfl) rfl ?_))
            | ((with_reducible refine wpl_isDst 28 ?_); (first | refine S.ldAll 30 _ rfl b3 rfl 0 _ rfl _ Try.underlying30 rfl (szA _ rfl) rfl ?_ | refine S.ldAll 30 _ rfl b3 rfl 1 _ rfl _ Try.underlying30 rfl (szA _ rfl) rfl ?_))
            | ((with_reducible refine wpl_isStoreAt 44 ?_); (first | refine S.store1 rfl 3 _ _ rfl b3 6 _ rfl rfl 0 _ rfl rfl (of_decide_eq_true rfl) (Cel.any _) rfl (by kernel_rfl) ?_ | refine S.store1 rfl 3 _ _ rfl b3 6 _ rfl rfl 1 _ rfl rfl (of_decide_eq_true rfl) (Cel.any _) rfl (by kernel_rfl) ?_); clear S; intro w2 S; (simp only [Cel.cells, IV.cellsL, zeroL, List.set_cons_zero, List.set_cons_succ, startI, secondI, noneI] at S))
            | ((with_reducible refine wpl_isStoreAt 45 ?_); (first | refine S.store1 rfl 3 _ _ rfl b3 11 _ rfl rfl 0 _ rfl rfl (of_decide_eq_true rfl) (Cel.any _) rfl (by kernel_rfl) ?_ | refine S.store1 rfl 3 _ _ rfl b3 11 _ rfl rfl 1 _ rfl rfl (of_decide_eq_true rfl) (Cel.any _) rfl (by kernel_rfl) ?_); clear S; intro w2 S; (simp only [Cel.cells, IV.cellsL, zeroL, List.set_cons_zero, List.set_cons_succ, startI, secondI, noneI] at S))
            | ((with_reducible refine wpl_isDst 46 ?_); (first | refine S.ldAll 30 _ rfl b3 rfl 0 _ rfl _ Try.underlying30 rfl (szA _ rfl) rfl ?_ | refine S.ldAll 30 _ rfl b3 rfl 1 _ rfl _ Try.underlying30 rfl (szA _ rfl) rfl ?_)))
          (try simp only [Exit.inBlock, Exit.then])
          (first | refine bodyPost_ret (S.results rfl _ _ rfl 0 _ rfl _ Try.underlying30 rfl (szA _ rfl)) rfl ?_ | refine bodyPost_ret (S.results rfl _ _ rfl 1 _ rfl _ Try.underlying30 rfl (szA _ rfl)) rfl ?_)
          exact ⟨rfl, S.low⟩
      · rw [show ((1 * 8388608 : Nat) : Int) = 8388608 from rfl] at k23_1
        replace hJ : R = checkedI (secondI (startI p g12_4 g16_4) (B : Nat) 0) true x := hJ
        subst hJ
        go_enter Try.func24, Try.ntmps24
        have S := SH.start w
        go_wp2_with (first
          | ((with_reducible refine wpl_isDst 2 ?_); (first | refine S.alloc rfl 30 rfl (Cel.any zeroL) zeroA ?_ | refine SH.alloc (L := []) S rfl 30 rfl (Cel.any zeroL) zeroA ?_); clear S; intro b2 w2 S)
          | (go_at_call 55; refine (CO.out _).mono ?_; rintro e wf ⟨rfl, rfl⟩)
          | (go_at_call 46; first | (with_reducible refine (F12_4.out _).mono ?_; rintro e wf ⟨rfl, hbf⟩; replace S := S.below hbf; clear hbf) | (with_reducible refine (F16_4.out _).mono ?_; rintro e wf ⟨rfl, hbf⟩; replace S := S.below hbf; clear hbf) | (with_reducible refine (F0_4.out _).mono ?_; rintro e wf ⟨rfl, hbf⟩; replace S := S.below hbf; clear hbf) | (with_reducible refine (F4_2.out _).mono ?_; rintro e wf ⟨rfl, hbf⟩; replace S := S.below hbf; clear hbf))
          | (go_at_call 45; refine (start_c _ _ _ _).mono ?_; rintro e wf ⟨rfl, hbf⟩; replace S := S.below hbf; clear hbf)
          | ((with_reducible refine wpl_isDst 3 ?_); (first | refine S.alloc rfl 30 rfl (Cel.any zeroL) zeroA ?_ | refine SH.alloc (L := []) S rfl 30 rfl (Cel.any zeroL) zeroA ?_); clear S; intro b3 w3 S)
          | ((with_reducible refine wpl_isStoreAt 3 ?_); (first | refine S.storeA rfl 30 _ _ rfl b3 _ rfl rfl 0 _ rfl rfl rfl (szA _ rfl) ?_ | refine S.storeA rfl 30 _ _ rfl b3 _ rfl rfl 1 _ rfl rfl rfl (szA _ rfl) ?_); clear S; intro w2 S; (simp only [Cel.cells, IV.cellsL, zeroL, List.set_cons_zero, List.set_cons_succ, startI, secondI, noneI] at S))
          | ((with_reducible refine wpl_isDst 13 ?_); (first | refine S.ld 3 _ rfl b3 0 rfl 0 _ rfl _ rfl _ Try.underlying3 rfl rfl ?_ | refine S.ld 3 _ rfl b3 0 rfl 1 _ rfl _ rfl _ Try.underlying3 rfl rfl ?_))
          | (go_at_call 13; refine (none_c 64 x hx _).mono ?_; rintro e wf ⟨rfl, hbf⟩; replace S := S.below hbf; clear hbf)
          | ((with_reducible refine wpl_isStoreAt 2 ?_); (first | refine S.storeA rfl 30 _ _ rfl b2 _ rfl rfl 0 _ rfl rfl rfl (szA _ rfl) ?_ | refine S.storeA rfl 30 _ _ rfl b2 _ rfl rfl 1 _ rfl rfl rfl (szA _ rfl) ?_); clear S; intro w2 S; (simp only [Cel.cells, IV.cellsL, zeroL, List.set_cons_zero, List.set_cons_succ, startI, secondI, noneI] at S))
          | ((with_reducible refine wpl_isDst 19 ?_); (first | refine S.ld 3 _ rfl b3 5 rfl 0 _ rfl _ rfl _ Try.underlying3 rfl rfl ?_ | refine S.ld 3 _ rfl b3 5 rfl 1 _ rfl _ rfl _ Try.underlying3 rfl rfl ?_))
          | ((with_reducible refine wpl_isDst 21 ?_); (first | refine S.ldAll 30 _ rfl b3 rfl 0 _ rfl _ Try.underlying30 rfl (szA _ rfl) rfl ?_ | refine S.ldAll 30 _ rfl b3 rfl 1 _ rfl _ Try.underlying30 rfl (szA _ rfl) rfl ?_))
          | ((with_reducible refine wpl_isDst 28 ?_); (first | refine S.ldAll 30 _ rfl b3 rfl 0 _ rfl _ Try.underlying30 rfl (szA _ rfl) rfl ?_ | refine S.ldAll 30 _ rfl b3 rfl 1 _ rfl _ Try.underlying30 rfl (szA _ rfl) rfl ?_))
          | (go_at_call 53; refine (sec_c (startI p g12_4 g16_4) _ _ _).mono ?_; rintro e wf ⟨rfl, hbf⟩; replace S := S.below hbf; clear hbf)
          | (go_at_call 47; refine (checked_c (secondI (startI p g12_4 g16_4) (B : Nat) 0) true x hx _).mono ?_; rintro e wf ⟨rfl, hbf⟩; replace S := S.below hbf; clear hbf)
          | ((with_reducible refine wpl_isStoreAt 44 ?_); (first | refine S.store1 rfl 3 _ _ rfl b3 6 _ rfl rfl 0 _ rfl rfl (of_decide_eq_true rfl) (Cel.any _) rfl (by kernel_rfl) ?_ | refine S.store1 rfl 3 _ _ rfl b3 6 _ rfl rfl 1 _ rfl rfl (of_decide_eq_true rfl) (Cel.any _) rfl (by kernel_rfl) ?_); clear S; intro w2 S; (simp only [Cel.cells, IV.cellsL, zeroL, List.set_cons_zero, List.set_cons_succ, startI, secondI, noneI] at S))
          | ((with_reducible refine wpl_isStoreAt 45 ?_); (first | refine S.store1 rfl 3 _ _ rfl b3 11 _ rfl rfl 0 _ rfl rfl (of_decide_eq_true rfl) (Cel.any _) rfl (by kernel_rfl) ?_ | refine S.store1 rfl 3 _ _ rfl b3 11 _ rfl rfl 1 _ rfl rfl (of_decide_eq_true rfl) (Cel.any _) rfl (by kernel_rfl) ?_); clear S; intro w2 S; (simp only [Cel.cells, IV.cellsL, zeroL, List.set_cons_zero, List.set_cons_succ, startI, secondI, noneI] at S))
          | ((with_reducible refine wpl_isDst 46 ?_); (first | refine S.ldAll 30 _ rfl b3 rfl 0 _ rfl _ Try.underlying30 rfl (szA _ rfl) rfl ?_ | refine S.ldAll 30 _ rfl b3 rfl 1 _ rfl _ Try.underlying30 rfl (szA _ rfl) rfl ?_)))
        (try simp only [Exit.inBlock, Exit.then])
        (first | refine bodyPost_ret (S.results rfl _ _ rfl 0 _ rfl _ Try.underlying30 rfl (szA _ rfl)) rfl ?_ | refine bodyPost_ret (S.results rfl _ _ rfl 1 _ rfl _ Try.underlying30 rfl (szA _ rfl)) rfl ?_)
        exact ⟨rfl, S.low⟩
  · rw [h1] at hJ
    replace hJ : R = noneI 64 x := hJ
    subst hJ
    go_enter Try.func24, Try.ntmps24
    have S := SH.start w
    go_wp2_with (first
      | ((with_reducible refine wpl_isDst 2 ?_); (first | refine S.alloc rfl 30 rfl (Cel.any zeroL) zeroA ?_ | refine SH.alloc (L := []) S rfl 30 rfl (Cel.any zeroL) zeroA ?_); clear S; intro b2 w2 S)
      | (go_at_call 55; refine (CO.out _).mono ?_; rintro e wf ⟨rfl, rfl⟩)
      | (go_at_call 46; first | (with_reducible refine (F12_4.out _).mono ?_; rintro e wf ⟨rfl, hbf⟩; replace S := S.below hbf; clear hbf) | (with_reducible refine (F16_4.out _).mono ?_; rintro e wf ⟨rfl, hbf⟩; replace S := S.below hbf; clear hbf) | (with_reducible refine (F0_4.out _).mono ?_; rintro e wf ⟨rfl, hbf⟩; replace S := S.below hbf; clear hbf) | (with_reducible refine (F4_2.out _).mono ?_; rintro e wf ⟨rfl, hbf⟩; replace S := S.below hbf; clear hbf))
      | (go_at_call 45; refine (start_c _ _ _ _).mono ?_; rintro e wf ⟨rfl, hbf⟩; replace S := S.below hbf; clear hbf)
      | ((with_reducible refine wpl_isDst 3 ?_); (first | refine S.alloc rfl 30 rfl (Cel.any zeroL) zeroA ?_ | refine SH.alloc (L := []) S rfl 30 rfl (Cel.any zeroL) zeroA ?_); clear S; intro b3 w3 S)
      | ((with_reducible refine wpl_isStoreAt 3 ?_); (first | refine S.storeA rfl 30 _ _ rfl b3 _ rfl rfl 0 _ rfl rfl rfl (szA _ rfl) ?_ | refine S.storeA rfl 30 _ _ rfl b3 _ rfl rfl 1 _ rfl rfl rfl (szA _ rfl) ?_); clear S; intro w2 S; (simp only [Cel.cells, IV.cellsL, zeroL, List.set_cons_zero, List.set_cons_succ, startI, secondI, noneI] at S))
      | ((with_reducible refine wpl_isDst 13 ?_); (first | refine S.ld 3 _ rfl b3 0 rfl 0 _ rfl _ rfl _ Try.underlying3 rfl rfl ?_ | refine S.ld 3 _ rfl b3 0 rfl 1 _ rfl _ rfl _ Try.underlying3 rfl rfl ?_))
      | (go_at_call 13; refine (none_c 64 x hx _).mono ?_; rintro e wf ⟨rfl, hbf⟩; replace S := S.below hbf; clear hbf)
      | ((with_reducible refine wpl_isStoreAt 2 ?_); (first | refine S.storeA rfl 30 _ _ rfl b2 _ rfl rfl 0 _ rfl rfl rfl (szA _ rfl) ?_ | refine S.storeA rfl 30 _ _ rfl b2 _ rfl rfl 1 _ rfl rfl rfl (szA _ rfl) ?_); clear S; intro w2 S; (simp only [Cel.cells, IV.cellsL, zeroL, List.set_cons_zero, List.set_cons_succ, startI, secondI, noneI] at S))
      | ((with_reducible refine wpl_isDst 19 ?_); (first | refine S.ld 3 _ rfl b3 5 rfl 0 _ rfl _ rfl _ Try.underlying3 rfl rfl ?_ | refine S.ld 3 _ rfl b3 5 rfl 1 _ rfl _ rfl _ Try.underlying3 rfl rfl ?_))
      | ((with_reducible refine wpl_isDst 21 ?_); (first | refine S.ldAll 30 _ rfl b3 rfl 0 _ rfl _ Try.underlying30 rfl (szA _ rfl) rfl ?_ | refine S.ldAll 30 _ rfl b3 rfl 1 _ rfl _ Try.underlying30 rfl (szA _ rfl) rfl ?_))
      | ((with_reducible refine wpl_isDst 28 ?_); (first | refine S.ldAll 30 _ rfl b3 rfl 0 _ rfl _ Try.underlying30 rfl (szA _ rfl) rfl ?_ | refine S.ldAll 30 _ rfl b3 rfl 1 _ rfl _ Try.underlying30 rfl (szA _ rfl) rfl ?_))
      | ((with_reducible refine wpl_isStoreAt 44 ?_); (first | refine S.store1 rfl 3 _ _ rfl b3 6 _ rfl rfl 0 _ rfl rfl (of_decide_eq_true rfl) (Cel.any _) rfl (by kernel_rfl) ?_ | refine S.store1 rfl 3 _ _ rfl b3 6 _ rfl rfl 1 _ rfl rfl (of_decide_eq_true rfl) (Cel.any _) rfl (by kernel_rfl) ?_); clear S; intro w2 S; (simp only [Cel.cells, IV.cellsL, zeroL, List.set_cons_zero, List.set_cons_succ, startI, secondI, noneI] at S))
      | ((with_reducible refine wpl_isStoreAt 45 ?_); (first | refine S.store1 rfl 3 _ _ rfl b3 11 _ rfl rfl 0 _ rfl rfl (of_decide_eq_true rfl) (Cel.any _) rfl (by kernel_rfl) ?_ | refine S.store1 rfl 3 _ _ rfl b3 11 _ rfl rfl 1 _ rfl rfl (of_decide_eq_true rfl) (Cel.any _) rfl (by kernel_rfl) ?_); clear S; intro w2 S; (simp only [Cel.cells, IV.cellsL, zeroL, List.set_cons_zero, List.set_cons_succ, startI, secondI, noneI] at S))
      | ((with_reducible refine wpl_isDst 46 ?_); (first | refine S.ldAll 30 _ rfl b3 rfl 0 _ rfl _ Try.underlying30 rfl (szA _ rfl) rfl ?_ | refine S.ldAll 30 _ rfl b3 rfl 1 _ rfl _ Try.underlying30 rfl (szA _ rfl) rfl ?_)))
    (try simp only [Exit.inBlock, Exit.then])
    (first | refine bodyPost_ret (S.results rfl _ _ rfl 0 _ rfl _ Try.underlying30 rfl (szA _ rfl)) rfl ?_ | refine bodyPost_ret (S.results rfl _ _ rfl 1 _ rfl _ Try.underlying30 rfl (szA _ rfl)) rfl ?_)
    exact ⟨rfl, S.low⟩
end Go.Proofs.Ytigmekboikgoaaa
