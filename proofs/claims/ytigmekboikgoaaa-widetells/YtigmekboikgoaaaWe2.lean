/- Stage 9: numbers, shifts, the first two rows. -/
import Derived.Test.YtigmekboikgoaaaWe1
namespace Go.Proofs.Ytigmekboikgoaaa
open Go.ChangeShapes Go.WideShapes Go.ChangeAt Go.RowKit
set_option linter.unusedVariables false
set_option linter.unusedSimpArgs false

set_option maxHeartbeats 4000000 in
set_option maxRecDepth 100000 in
theorem number_c (x : Nat) (hx : x < 4294967296) (w : World) : Calls Try.prog 51 #[.int .u32 x] w fun e w' => e = .returned (.int .u32 (numX x : Nat)) ∧ Below w.heap.size w w' := by
  have hJ : numX x = fd x 26 1 * 2048 + fd x 12 3 * 256 + fd x 0 8 := rfl
  generalize numX x = N at *
  have F26_1 : Hid (∀ w, Calls Try.prog 46 #[.int .u32 x, .int .i64 26, .int .i64 1] w fun e w' => e = .returned (.int .i64 (fd x 26 1 : Nat)) ∧ Below w.heap.size w w') := field_26_1 x hx
  have f26_1 : fd x 26 1 < 2 := fd_lt x 26 1
  generalize fd x 26 1 = g26_1 at *
  have F12_3 : Hid (∀ w, Calls Try.prog 46 #[.int .u32 x, .int .i64 12, .int .i64 3] w fun e w' => e = .returned (.int .i64 (fd x 12 3 : Nat)) ∧ Below w.heap.size w w') := field_12_3 x hx
  have f12_3 : fd x 12 3 < 8 := fd_lt x 12 3
  generalize fd x 12 3 = g12_3 at *
  have F0_8 : Hid (∀ w, Calls Try.prog 46 #[.int .u32 x, .int .i64 0, .int .i64 8] w fun e w' => e = .returned (.int .i64 (fd x 0 8 : Nat)) ∧ Below w.heap.size w w') := field_0_8 x hx
  have f0_8 : fd x 0 8 < 256 := fd_lt x 0 8
  generalize fd x 0 8 = g0_8 at *
  have j1 : bits .or .i64 ((g26_1 : Int) * 2048) ((g12_3 : Int) * 256) = ((g26_1 * 2048 + g12_3 * 256 : Nat) : Int) := i64_join (g26_1 * 2048) (g12_3 * 256) 11 (by omega) (by omega) (by omega) (by decide)
  obtain ⟨q1, e1⟩ : ∃ q1, g26_1 * 2048 + g12_3 * 256 = q1 := ⟨_, rfl⟩
  have j2 : bits .or .i64 (q1 : Int) (g0_8 : Int) = ((q1 + g0_8 : Nat) : Int) := i64_join q1 g0_8 8 (by omega) (by omega) (by omega) (by decide)
  rw [e1] at j1 hJ
  rw [← hJ] at j2
  have hN : N < 4096 := by omega
  clear hJ e1
  go_enter Try.func51, Try.ntmps51
  have S := SH.start w
  go_wp2_with (first
    | (go_at_call 46; first | (with_reducible refine (F26_1.out _).mono ?_; rintro e wf ⟨rfl, hbf⟩; replace S := S.below hbf; clear hbf) | (with_reducible refine (F12_3.out _).mono ?_; rintro e wf ⟨rfl, hbf⟩; replace S := S.below hbf; clear hbf) | (with_reducible refine (F0_8.out _).mono ?_; rintro e wf ⟨rfl, hbf⟩; replace S := S.below hbf; clear hbf)))
  go_ret
  exact ⟨rfl, S.low⟩
theorem numX_lt (x : Nat) : numX x < 4096 := by
  have := fd_lt x 26 1
  have := fd_lt x 12 3
  have := fd_lt x 0 8
  unfold numX
  omega
theorem ivcase (J : IV) (k : Int) : (J.op == k) = true → J.op = k := fun h => by simpa using h
set_option maxHeartbeats 4000000 in
set_option maxRecDepth 100000 in
theorem modified_c (x : Nat) (hx : x < 4294967296) (w : World) : Calls Try.prog 22 #[.int .u32 x] w fun e w' => Says w (modX x) e w' := by
  unfold Says
  have hJ : modX x = bif (dataX x).op == 64 then noneI 64 x else checkedI (secondI (dataX x) (expandS (numX x : Nat) false).1 (bif Nat.beq (numX x / 1024) 0 then 0 else 1)) (expandS (numX x : Nat) false).2.2 x := rfl
  generalize modX x = R at *
  have hN := numX_lt x
  have CD : Hid (∀ w, Calls Try.prog 49 #[.int .u32 x] w fun e w' => e = .returned ((dataX x).val) ∧ Below w.heap.size w w') := data_c x hx
  have CN : Hid (∀ w, Calls Try.prog 51 #[.int .u32 x] w fun e w' => e = .returned (.int .u32 (numX x : Nat)) ∧ Below w.heap.size w w') := number_c x hx
  have CE : Hid (∀ w, Calls Try.prog 52 #[.int .u32 (numX x : Nat), .bool false] w fun e w' => e = .returned (.tuple #[.int .u32 (expandS (numX x : Nat) false).1, .bool (expandS (numX x : Nat) false).2.1, .bool (expandS (numX x : Nat) false).2.2]) ∧ w' = w) := expand_c _ _ (by omega) (by omega)
  generalize dataX x = J at *
  generalize numX x = N at *
  generalize (expandS (N : Nat) false).1 = v at *
  generalize (expandS (N : Nat) false).2.1 = c at *
  generalize (expandS (N : Nat) false).2.2 = ok at *
  cases h1 : (J.op == 64)
  · rcases Nat.lt_or_ge N 1024 with h2 | h2
    · have e2 : (N : Int) / 1024 = 0 := by omega
      rw [h1, show N / 1024 = 0 by omega] at hJ
      replace hJ : R = checkedI (secondI J v 0) ok x := hJ
      subst hJ
      go_enter Try.func22, Try.ntmps22
      have S := SH.start w
      go_wp2_with (first
        | ((with_reducible refine wpl_isDst 2 ?_); (first | refine S.alloc rfl 30 rfl (Cel.any zeroL) zeroA ?_ | refine SH.alloc (L := []) S rfl 30 rfl (Cel.any zeroL) zeroA ?_); clear S; intro b2 w2 S)
        | (go_at_call 49; refine (CD.out _).mono ?_; rintro e wf ⟨rfl, hbf⟩; replace S := S.below hbf; clear hbf)
        | (go_at_call 51; refine (CN.out _).mono ?_; rintro e wf ⟨rfl, hbf⟩; replace S := S.below hbf; clear hbf)
        | ((with_reducible refine wpl_isDst 3 ?_); (first | refine S.alloc rfl 30 rfl (Cel.any zeroL) zeroA ?_ | refine SH.alloc (L := []) S rfl 30 rfl (Cel.any zeroL) zeroA ?_); clear S; intro b3 w3 S)
        | ((with_reducible refine wpl_isStoreAt 3 ?_); (first | refine S.storeA rfl 30 _ _ rfl b3 _ rfl rfl 0 _ rfl rfl rfl (szA _ rfl) ?_ | refine S.storeA rfl 30 _ _ rfl b3 _ rfl rfl 1 _ rfl rfl rfl (szA _ rfl) ?_); clear S; intro w2 S; (simp only [Cel.cells, IV.cellsL, zeroL, List.set_cons_zero, List.set_cons_succ, startI, secondI, noneI] at S))
        | ((with_reducible refine wpl_isDst 13 ?_); (first | refine S.ld 3 _ rfl b3 0 rfl 0 _ rfl _ rfl _ Try.underlying3 rfl rfl ?_ | refine S.ld 3 _ rfl b3 0 rfl 1 _ rfl _ rfl _ Try.underlying3 rfl rfl ?_))
        | (go_at_call 13; refine (none_c 64 x hx _).mono ?_; rintro e wf ⟨rfl, hbf⟩; replace S := S.below hbf; clear hbf)
        | ((with_reducible refine wpl_isStoreAt 2 ?_); (first | refine S.storeA rfl 30 _ _ rfl b2 _ rfl rfl 0 _ rfl rfl rfl (szA _ rfl) ?_ | refine S.storeA rfl 30 _ _ rfl b2 _ rfl rfl 1 _ rfl rfl rfl (szA _ rfl) ?_); clear S; intro w2 S; (simp only [Cel.cells, IV.cellsL, zeroL, List.set_cons_zero, List.set_cons_succ, startI, secondI, noneI] at S))
        | (go_at_call 52; refine (CE.out _).mono ?_; rintro e wf ⟨rfl, rfl⟩)
        | ((with_reducible refine wpl_isDst 26 ?_); (first | refine S.ldAll 30 _ rfl b3 rfl 0 _ rfl _ Try.underlying30 rfl (szA _ rfl) rfl ?_ | refine S.ldAll 30 _ rfl b3 rfl 1 _ rfl _ Try.underlying30 rfl (szA _ rfl) rfl ?_))
        | (go_at_call 53; refine (sec_c _ _ _ _).mono ?_; rintro e wf ⟨rfl, hbf⟩; replace S := S.below hbf; clear hbf)
        | (go_at_call 47; refine (checked_c _ _ x hx _).mono ?_; rintro e wf ⟨rfl, hbf⟩; replace S := S.below hbf; clear hbf)
        | ((with_reducible refine wpl_isDst 32 ?_); (first | refine S.ldAll 30 _ rfl b3 rfl 0 _ rfl _ Try.underlying30 rfl (szA _ rfl) rfl ?_ | refine S.ldAll 30 _ rfl b3 rfl 1 _ rfl _ Try.underlying30 rfl (szA _ rfl) rfl ?_)))
      (try simp only [Exit.inBlock, Exit.then])
      (first | refine bodyPost_ret (S.results rfl _ _ rfl 0 _ rfl _ Try.underlying30 rfl (szA _ rfl)) rfl ?_ | refine bodyPost_ret (S.results rfl _ _ rfl 1 _ rfl _ Try.underlying30 rfl (szA _ rfl)) rfl ?_)
      exact ⟨rfl, S.low⟩
    · have e2 : ((N : Int) / 1024 != 0) = true := by simp; omega
      have e4 : Nat.beq (N / 1024) 0 = false := by rw [nbeq]; simp; omega
      rw [h1, e4] at hJ
      replace hJ : R = checkedI (secondI J v 1) ok x := hJ
      subst hJ
      go_enter Try.func22, Try.ntmps22
      have S := SH.start w
      go_wp2_with (first
        | ((with_reducible refine wpl_isDst 2 ?_); (first | refine S.alloc rfl 30 rfl (Cel.any zeroL) zeroA ?_ | refine SH.alloc (L := []) S rfl 30 rfl (Cel.any zeroL) zeroA ?_); clear S; intro b2 w2 S)
        | (go_at_call 49; refine (CD.out _).mono ?_; rintro e wf ⟨rfl, hbf⟩; replace S := S.below hbf; clear hbf)
        | (go_at_call 51; refine (CN.out _).mono ?_; rintro e wf ⟨rfl, hbf⟩; replace S := S.below hbf; clear hbf)
        | ((with_reducible refine wpl_isDst 3 ?_); (first | refine S.alloc rfl 30 rfl (Cel.any zeroL) zeroA ?_ | refine SH.alloc (L := []) S rfl 30 rfl (Cel.any zeroL) zeroA ?_); clear S; intro b3 w3 S)
        | ((with_reducible refine wpl_isStoreAt 3 ?_); (first | refine S.storeA rfl 30 _ _ rfl b3 _ rfl rfl 0 _ rfl rfl rfl (szA _ rfl) ?_ | refine S.storeA rfl 30 _ _ rfl b3 _ rfl rfl 1 _ rfl rfl rfl (szA _ rfl) ?_); clear S; intro w2 S; (simp only [Cel.cells, IV.cellsL, zeroL, List.set_cons_zero, List.set_cons_succ, startI, secondI, noneI] at S))
        | ((with_reducible refine wpl_isDst 13 ?_); (first | refine S.ld 3 _ rfl b3 0 rfl 0 _ rfl _ rfl _ Try.underlying3 rfl rfl ?_ | refine S.ld 3 _ rfl b3 0 rfl 1 _ rfl _ rfl _ Try.underlying3 rfl rfl ?_))
        | (go_at_call 13; refine (none_c 64 x hx _).mono ?_; rintro e wf ⟨rfl, hbf⟩; replace S := S.below hbf; clear hbf)
        | ((with_reducible refine wpl_isStoreAt 2 ?_); (first | refine S.storeA rfl 30 _ _ rfl b2 _ rfl rfl 0 _ rfl rfl rfl (szA _ rfl) ?_ | refine S.storeA rfl 30 _ _ rfl b2 _ rfl rfl 1 _ rfl rfl rfl (szA _ rfl) ?_); clear S; intro w2 S; (simp only [Cel.cells, IV.cellsL, zeroL, List.set_cons_zero, List.set_cons_succ, startI, secondI, noneI] at S))
        | (go_at_call 52; refine (CE.out _).mono ?_; rintro e wf ⟨rfl, rfl⟩)
        | ((with_reducible refine wpl_isDst 26 ?_); (first | refine S.ldAll 30 _ rfl b3 rfl 0 _ rfl _ Try.underlying30 rfl (szA _ rfl) rfl ?_ | refine S.ldAll 30 _ rfl b3 rfl 1 _ rfl _ Try.underlying30 rfl (szA _ rfl) rfl ?_))
        | (go_at_call 53; refine (sec_c _ _ _ _).mono ?_; rintro e wf ⟨rfl, hbf⟩; replace S := S.below hbf; clear hbf)
        | (go_at_call 47; refine (checked_c _ _ x hx _).mono ?_; rintro e wf ⟨rfl, hbf⟩; replace S := S.below hbf; clear hbf)
        | ((with_reducible refine wpl_isDst 32 ?_); (first | refine S.ldAll 30 _ rfl b3 rfl 0 _ rfl _ Try.underlying30 rfl (szA _ rfl) rfl ?_ | refine S.ldAll 30 _ rfl b3 rfl 1 _ rfl _ Try.underlying30 rfl (szA _ rfl) rfl ?_)))
      (try simp only [Exit.inBlock, Exit.then])
      (first | refine bodyPost_ret (S.results rfl _ _ rfl 0 _ rfl _ Try.underlying30 rfl (szA _ rfl)) rfl ?_ | refine bodyPost_ret (S.results rfl _ _ rfl 1 _ rfl _ Try.underlying30 rfl (szA _ rfl)) rfl ?_)
      exact ⟨rfl, S.low⟩
  · rw [h1] at hJ
    replace hJ : R = noneI 64 x := hJ
    subst hJ
    go_enter Try.func22, Try.ntmps22
    have S := SH.start w
    go_wp2_with (first
      | ((with_reducible refine wpl_isDst 2 ?_); (first | refine S.alloc rfl 30 rfl (Cel.any zeroL) zeroA ?_ | refine SH.alloc (L := []) S rfl 30 rfl (Cel.any zeroL) zeroA ?_); clear S; intro b2 w2 S)
      | (go_at_call 49; refine (CD.out _).mono ?_; rintro e wf ⟨rfl, hbf⟩; replace S := S.below hbf; clear hbf)
      | (go_at_call 51; refine (CN.out _).mono ?_; rintro e wf ⟨rfl, hbf⟩; replace S := S.below hbf; clear hbf)
      | ((with_reducible refine wpl_isDst 3 ?_); (first | refine S.alloc rfl 30 rfl (Cel.any zeroL) zeroA ?_ | refine SH.alloc (L := []) S rfl 30 rfl (Cel.any zeroL) zeroA ?_); clear S; intro b3 w3 S)
      | ((with_reducible refine wpl_isStoreAt 3 ?_); (first | refine S.storeA rfl 30 _ _ rfl b3 _ rfl rfl 0 _ rfl rfl rfl (szA _ rfl) ?_ | refine S.storeA rfl 30 _ _ rfl b3 _ rfl rfl 1 _ rfl rfl rfl (szA _ rfl) ?_); clear S; intro w2 S; (simp only [Cel.cells, IV.cellsL, zeroL, List.set_cons_zero, List.set_cons_succ, startI, secondI, noneI] at S))
      | ((with_reducible refine wpl_isDst 13 ?_); (first | refine S.ld 3 _ rfl b3 0 rfl 0 _ rfl _ rfl _ Try.underlying3 rfl rfl ?_ | refine S.ld 3 _ rfl b3 0 rfl 1 _ rfl _ rfl _ Try.underlying3 rfl rfl ?_))
      | (go_at_call 13; refine (none_c 64 x hx _).mono ?_; rintro e wf ⟨rfl, hbf⟩; replace S := S.below hbf; clear hbf)
      | ((with_reducible refine wpl_isStoreAt 2 ?_); (first | refine S.storeA rfl 30 _ _ rfl b2 _ rfl rfl 0 _ rfl rfl rfl (szA _ rfl) ?_ | refine S.storeA rfl 30 _ _ rfl b2 _ rfl rfl 1 _ rfl rfl rfl (szA _ rfl) ?_); clear S; intro w2 S; (simp only [Cel.cells, IV.cellsL, zeroL, List.set_cons_zero, List.set_cons_succ, startI, secondI, noneI] at S))
      | (go_at_call 52; refine (CE.out _).mono ?_; rintro e wf ⟨rfl, rfl⟩)
      | ((with_reducible refine wpl_isDst 26 ?_); (first | refine S.ldAll 30 _ rfl b3 rfl 0 _ rfl _ Try.underlying30 rfl (szA _ rfl) rfl ?_ | refine S.ldAll 30 _ rfl b3 rfl 1 _ rfl _ Try.underlying30 rfl (szA _ rfl) rfl ?_))
      | (go_at_call 53; refine (sec_c _ _ _ _).mono ?_; rintro e wf ⟨rfl, hbf⟩; replace S := S.below hbf; clear hbf)
      | (go_at_call 47; refine (checked_c _ _ x hx _).mono ?_; rintro e wf ⟨rfl, hbf⟩; replace S := S.below hbf; clear hbf)
      | ((with_reducible refine wpl_isDst 32 ?_); (first | refine S.ldAll 30 _ rfl b3 rfl 0 _ rfl _ Try.underlying30 rfl (szA _ rfl) rfl ?_ | refine S.ldAll 30 _ rfl b3 rfl 1 _ rfl _ Try.underlying30 rfl (szA _ rfl) rfl ?_)))
    (try simp only [Exit.inBlock, Exit.then])
    (first | refine bodyPost_ret (S.results rfl _ _ rfl 0 _ rfl _ Try.underlying30 rfl (szA _ rfl)) rfl ?_ | refine bodyPost_ret (S.results rfl _ _ rfl 1 _ rfl _ Try.underlying30 rfl (szA _ rfl)) rfl ?_)
    exact ⟨rfl, S.low⟩
set_option maxHeartbeats 4000000 in
set_option maxRecDepth 100000 in
theorem shift_c (t b : Nat) (ht : t < 4) (hb : b < 32) (w : World) : Calls Try.prog 50 #[.int .i64 t, .int .i64 b] w fun e w' => e = .returned (.tuple #[.int .i64 (shiftG t b).1, .int .i64 (shiftG t b).2]) ∧ w' = w := by
  rcases (show t = 0 ∨ t = 1 ∨ t = 2 ∨ t = 3 by omega) with rfl | rfl | rfl | rfl
  · rcases Nat.eq_zero_or_pos b with rfl | hb
    · show Calls _ _ #[.int .i64 0, .int .i64 0] _ fun e w' => e = .returned (.tuple #[.int .i64 0, .int .i64 0]) ∧ w' = w
      go_enter Try.func50, Try.ntmps50
      go_wp2
      go_ret2
      exact ⟨rfl, rfl⟩
    · have e0 : ((b : Int) == 0) = false := by simp; omega
      have eb : Nat.beq b 0 = false := by rw [nbeq]; simp; omega
      have hs : shiftG 0 b = (1, (b : Int)) := by unfold shiftG; rw [eb]; rfl
      rw [hs]
      show Calls _ _ #[.int .i64 0, .int .i64 (b : Int)] _ fun e w' => e = .returned (.tuple #[.int .i64 1, .int .i64 (b : Int)]) ∧ w' = w
      go_enter Try.func50, Try.ntmps50
      go_wp2
      go_ret2
      exact ⟨rfl, rfl⟩
  · rcases Nat.eq_zero_or_pos b with rfl | hb
    · show Calls _ _ #[.int .i64 1, .int .i64 0] _ fun e w' => e = .returned (.tuple #[.int .i64 2, .int .i64 32]) ∧ w' = w
      go_enter Try.func50, Try.ntmps50
      go_wp2
      go_ret2
      exact ⟨rfl, rfl⟩
    · have e0 : ((b : Int) == 0) = false := by simp; omega
      have eb : Nat.beq b 0 = false := by rw [nbeq]; simp; omega
      have hs : shiftG 1 b = (2, (b : Int)) := by unfold shiftG; rw [eb]; rfl
      rw [hs]
      show Calls _ _ #[.int .i64 1, .int .i64 (b : Int)] _ fun e w' => e = .returned (.tuple #[.int .i64 2, .int .i64 (b : Int)]) ∧ w' = w
      go_enter Try.func50, Try.ntmps50
      go_wp2
      go_ret2
      exact ⟨rfl, rfl⟩
  · rcases Nat.eq_zero_or_pos b with rfl | hb
    · show Calls _ _ #[.int .i64 2, .int .i64 0] _ fun e w' => e = .returned (.tuple #[.int .i64 3, .int .i64 32]) ∧ w' = w
      go_enter Try.func50, Try.ntmps50
      go_wp2
      go_ret2
      exact ⟨rfl, rfl⟩
    · have e0 : ((b : Int) == 0) = false := by simp; omega
      have eb : Nat.beq b 0 = false := by rw [nbeq]; simp; omega
      have hs : shiftG 2 b = (3, (b : Int)) := by unfold shiftG; rw [eb]; rfl
      rw [hs]
      show Calls _ _ #[.int .i64 2, .int .i64 (b : Int)] _ fun e w' => e = .returned (.tuple #[.int .i64 3, .int .i64 (b : Int)]) ∧ w' = w
      go_enter Try.func50, Try.ntmps50
      go_wp2
      go_ret2
      exact ⟨rfl, rfl⟩
  · rcases Nat.eq_zero_or_pos b with rfl | hb
    · show Calls _ _ #[.int .i64 3, .int .i64 0] _ fun e w' => e = .returned (.tuple #[.int .i64 5, .int .i64 1]) ∧ w' = w
      go_enter Try.func50, Try.ntmps50
      go_wp2
      go_ret2
      exact ⟨rfl, rfl⟩
    · have e0 : ((b : Int) == 0) = false := by simp; omega
      have eb : Nat.beq b 0 = false := by rw [nbeq]; simp; omega
      have hs : shiftG 3 b = (4, (b : Int)) := by unfold shiftG; rw [eb]; rfl
      rw [hs]
      show Calls _ _ #[.int .i64 3, .int .i64 (b : Int)] _ fun e w' => e = .returned (.tuple #[.int .i64 4, .int .i64 (b : Int)]) ∧ w' = w
      go_enter Try.func50, Try.ntmps50
      go_wp2
      go_ret2
      exact ⟨rfl, rfl⟩
set_option maxHeartbeats 4000000 in
set_option maxRecDepth 100000 in
theorem shifted_c (x : Nat) (hx : x < 4294967296) (w : World) : Calls Try.prog 21 #[.int .u32 x] w fun e w' => Says w (shiX x) e w' := by
  unfold Says
  have hJ : shiX x = bif (dataX x).op == 64 || fd x 15 1 != 0 then noneI 64 x else checkedI (regI (dataX x) (fd x 0 4 : Nat) (shiftG (fd x 4 2) (fd x 12 3 * 4 + fd x 6 2)).1 (shiftG (fd x 4 2) (fd x 12 3 * 4 + fd x 6 2)).2) true x := rfl
  generalize shiX x = R at *
  have k15 : bits .and .u32 ((x : Int) / 32768) 1 = ((fd x 15 1 : Nat) : Int) := fd_u32 x 15 1 hx (by decide) _ _ (by first | rfl | simp) rfl
  have f15 : fd x 15 1 < 2 := fd_lt x 15 1
  generalize fd x 15 1 = g15 at *
  have CD : Hid (∀ w, Calls Try.prog 49 #[.int .u32 x] w fun e w' => e = .returned ((dataX x).val) ∧ Below w.heap.size w w') := data_c x hx
  have F0_4 : Hid (∀ w, Calls Try.prog 46 #[.int .u32 x, .int .i64 0, .int .i64 4] w fun e w' => e = .returned (.int .i64 (fd x 0 4 : Nat)) ∧ Below w.heap.size w w') := field_0_4 x hx
  have f0_4 : fd x 0 4 < 16 := fd_lt x 0 4
  generalize fd x 0 4 = g0_4 at *
  have F4_2 : Hid (∀ w, Calls Try.prog 46 #[.int .u32 x, .int .i64 4, .int .i64 2] w fun e w' => e = .returned (.int .i64 (fd x 4 2 : Nat)) ∧ Below w.heap.size w w') := field_4_2 x hx
  have f4_2 : fd x 4 2 < 4 := fd_lt x 4 2
  generalize fd x 4 2 = g4_2 at *
  have F12_3 : Hid (∀ w, Calls Try.prog 46 #[.int .u32 x, .int .i64 12, .int .i64 3] w fun e w' => e = .returned (.int .i64 (fd x 12 3 : Nat)) ∧ Below w.heap.size w w') := field_12_3 x hx
  have f12_3 : fd x 12 3 < 8 := fd_lt x 12 3
  generalize fd x 12 3 = g12_3 at *
  have F6_2 : Hid (∀ w, Calls Try.prog 46 #[.int .u32 x, .int .i64 6, .int .i64 2] w fun e w' => e = .returned (.int .i64 (fd x 6 2 : Nat)) ∧ Below w.heap.size w w') := field_6_2 x hx
  have f6_2 : fd x 6 2 < 4 := fd_lt x 6 2
  generalize fd x 6 2 = g6_2 at *
  have j1 : bits .or .i64 ((g12_3 : Int) * 4) (g6_2 : Int) = ((g12_3 * 4 + g6_2 : Nat) : Int) := i64_join (g12_3 * 4) g6_2 2 (by omega) (by omega) (by omega) (by decide)
  have hb : g12_3 * 4 + g6_2 < 32 := by omega
  generalize g12_3 * 4 + g6_2 = b at *
  have CS : Hid (∀ w, Calls Try.prog 50 #[.int .i64 g4_2, .int .i64 b] w fun e w' => e = .returned (.tuple #[.int .i64 (shiftG g4_2 b).1, .int .i64 (shiftG g4_2 b).2]) ∧ w' = w) := shift_c _ _ f4_2 hb
  generalize dataX x = J at *
  generalize (shiftG g4_2 b).1 = s1 at *
  generalize (shiftG g4_2 b).2 = s2 at *
  cases h1 : (J.op == 64)
  · rw [h1] at hJ
    rcases (show g15 = 0 ∨ g15 = 1 by omega) with rfl | rfl
    · replace hJ : R = checkedI (regI J g0_4 s1 s2) true x := hJ
      rw [show ((0 : Nat) : Int) = 0 from rfl] at k15
      subst hJ
      go_enter Try.func21, Try.ntmps21
      have S := SH.start w
      go_wp2_with (first
        | ((with_reducible refine wpl_isDst 2 ?_); (first | refine S.alloc rfl 30 rfl (Cel.any zeroL) zeroA ?_ | refine SH.alloc (L := []) S rfl 30 rfl (Cel.any zeroL) zeroA ?_); clear S; intro b2 w2 S)
        | (go_at_call 49; refine (CD.out _).mono ?_; rintro e wf ⟨rfl, hbf⟩; replace S := S.below hbf; clear hbf)
        | ((with_reducible refine wpl_isDst 3 ?_); (first | refine S.alloc rfl 30 rfl (Cel.any zeroL) zeroA ?_ | refine SH.alloc (L := []) S rfl 30 rfl (Cel.any zeroL) zeroA ?_); clear S; intro b3 w3 S)
        | ((with_reducible refine wpl_isStoreAt 3 ?_); (first | refine S.storeA rfl 30 _ _ rfl b3 _ rfl rfl 0 _ rfl rfl rfl (szA _ rfl) ?_ | refine S.storeA rfl 30 _ _ rfl b3 _ rfl rfl 1 _ rfl rfl rfl (szA _ rfl) ?_); clear S; intro w2 S; (simp only [Cel.cells, IV.cellsL, zeroL, List.set_cons_zero, List.set_cons_succ, startI, secondI, noneI] at S))
        | ((with_reducible refine wpl_isDst 7 ?_); (first | refine S.ld 3 _ rfl b3 0 rfl 0 _ rfl _ rfl _ Try.underlying3 rfl rfl ?_ | refine S.ld 3 _ rfl b3 0 rfl 1 _ rfl _ rfl _ Try.underlying3 rfl rfl ?_))
        | (go_at_call 13; refine (none_c 64 x hx _).mono ?_; rintro e wf ⟨rfl, hbf⟩; replace S := S.below hbf; clear hbf)
        | ((with_reducible refine wpl_isStoreAt 2 ?_); (first | refine S.storeA rfl 30 _ _ rfl b2 _ rfl rfl 0 _ rfl rfl rfl (szA _ rfl) ?_ | refine S.storeA rfl 30 _ _ rfl b2 _ rfl rfl 1 _ rfl rfl rfl (szA _ rfl) ?_); clear S; intro w2 S; (simp only [Cel.cells, IV.cellsL, zeroL, List.set_cons_zero, List.set_cons_succ, startI, secondI, noneI] at S))
        | (go_at_call 46; first | (with_reducible refine (F0_4.out _).mono ?_; rintro e wf ⟨rfl, hbf⟩; replace S := S.below hbf; clear hbf) | (with_reducible refine (F4_2.out _).mono ?_; rintro e wf ⟨rfl, hbf⟩; replace S := S.below hbf; clear hbf) | (with_reducible refine (F12_3.out _).mono ?_; rintro e wf ⟨rfl, hbf⟩; replace S := S.below hbf; clear hbf) | (with_reducible refine (F6_2.out _).mono ?_; rintro e wf ⟨rfl, hbf⟩; replace S := S.below hbf; clear hbf))
        | ((with_reducible refine wpl_isStoreAt 19 ?_); (first | refine S.store1 rfl 3 _ _ rfl b3 6 _ rfl rfl 0 _ rfl rfl (of_decide_eq_true rfl) (Cel.any _) rfl (by kernel_rfl) ?_ | refine S.store1 rfl 3 _ _ rfl b3 6 _ rfl rfl 1 _ rfl rfl (of_decide_eq_true rfl) (Cel.any _) rfl (by kernel_rfl) ?_); clear S; intro w2 S; (simp only [Cel.cells, IV.cellsL, zeroL, List.set_cons_zero, List.set_cons_succ, startI, secondI, noneI] at S))
        | (go_at_call 50; refine (CS.out _).mono ?_; rintro e wf ⟨rfl, rfl⟩)
        | ((with_reducible refine wpl_isStoreAt 32 ?_); (first | refine S.store1 rfl 3 _ _ rfl b3 10 _ rfl rfl 0 _ rfl rfl (of_decide_eq_true rfl) (Cel.any _) rfl (by kernel_rfl) ?_ | refine S.store1 rfl 3 _ _ rfl b3 10 _ rfl rfl 1 _ rfl rfl (of_decide_eq_true rfl) (Cel.any _) rfl (by kernel_rfl) ?_); clear S; intro w2 S; (simp only [Cel.cells, IV.cellsL, zeroL, List.set_cons_zero, List.set_cons_succ, startI, secondI, noneI] at S))
        | ((with_reducible refine wpl_isStoreAt 33 ?_); (first | refine S.store1 rfl 3 _ _ rfl b3 11 _ rfl rfl 0 _ rfl rfl (of_decide_eq_true rfl) (Cel.any _) rfl (by kernel_rfl) ?_ | refine S.store1 rfl 3 _ _ rfl b3 11 _ rfl rfl 1 _ rfl rfl (of_decide_eq_true rfl) (Cel.any _) rfl (by kernel_rfl) ?_); clear S; intro w2 S; (simp only [Cel.cells, IV.cellsL, zeroL, List.set_cons_zero, List.set_cons_succ, startI, secondI, noneI] at S))
        | ((with_reducible refine wpl_isDst 34 ?_); (first | refine S.ldAll 30 _ rfl b3 rfl 0 _ rfl _ Try.underlying30 rfl (szA _ rfl) rfl ?_ | refine S.ldAll 30 _ rfl b3 rfl 1 _ rfl _ Try.underlying30 rfl (szA _ rfl) rfl ?_))
        | (go_at_call 47; refine (checked_c (regI J g0_4 s1 s2) true x hx _).mono ?_; rintro e wf ⟨rfl, hbf⟩; replace S := S.below hbf; clear hbf))
      (try simp only [Exit.inBlock, Exit.then])
      (first | refine bodyPost_ret (S.results rfl _ _ rfl 0 _ rfl _ Try.underlying30 rfl (szA _ rfl)) rfl ?_ | refine bodyPost_ret (S.results rfl _ _ rfl 1 _ rfl _ Try.underlying30 rfl (szA _ rfl)) rfl ?_)
      exact ⟨rfl, S.low⟩
    · replace hJ : R = noneI 64 x := hJ
      rw [show ((1 : Nat) : Int) = 1 from rfl] at k15
      subst hJ
      go_enter Try.func21, Try.ntmps21
      have S := SH.start w
      go_wp2_with (first
        | ((with_reducible refine wpl_isDst 2 ?_); (first | refine S.alloc rfl 30 rfl (Cel.any zeroL) zeroA ?_ | refine SH.alloc (L := []) S rfl 30 rfl (Cel.any zeroL) zeroA ?_); clear S; intro b2 w2 S)
        | (go_at_call 49; refine (CD.out _).mono ?_; rintro e wf ⟨rfl, hbf⟩; replace S := S.below hbf; clear hbf)
        | ((with_reducible refine wpl_isDst 3 ?_); (first | refine S.alloc rfl 30 rfl (Cel.any zeroL) zeroA ?_ | refine SH.alloc (L := []) S rfl 30 rfl (Cel.any zeroL) zeroA ?_); clear S; intro b3 w3 S)
        | ((with_reducible refine wpl_isStoreAt 3 ?_); (first | refine S.storeA rfl 30 _ _ rfl b3 _ rfl rfl 0 _ rfl rfl rfl (szA _ rfl) ?_ | refine S.storeA rfl 30 _ _ rfl b3 _ rfl rfl 1 _ rfl rfl rfl (szA _ rfl) ?_); clear S; intro w2 S; (simp only [Cel.cells, IV.cellsL, zeroL, List.set_cons_zero, List.set_cons_succ, startI, secondI, noneI] at S))
        | ((with_reducible refine wpl_isDst 7 ?_); (first | refine S.ld 3 _ rfl b3 0 rfl 0 _ rfl _ rfl _ Try.underlying3 rfl rfl ?_ | refine S.ld 3 _ rfl b3 0 rfl 1 _ rfl _ rfl _ Try.underlying3 rfl rfl ?_))
        | (go_at_call 13; refine (none_c 64 x hx _).mono ?_; rintro e wf ⟨rfl, hbf⟩; replace S := S.below hbf; clear hbf)
        | ((with_reducible refine wpl_isStoreAt 2 ?_); (first | refine S.storeA rfl 30 _ _ rfl b2 _ rfl rfl 0 _ rfl rfl rfl (szA _ rfl) ?_ | refine S.storeA rfl 30 _ _ rfl b2 _ rfl rfl 1 _ rfl rfl rfl (szA _ rfl) ?_); clear S; intro w2 S; (simp only [Cel.cells, IV.cellsL, zeroL, List.set_cons_zero, List.set_cons_succ, startI, secondI, noneI] at S))
        | (go_at_call 46; first | (with_reducible refine (F0_4.out _).mono ?_; rintro e wf ⟨rfl, hbf⟩; replace S := S.below hbf; clear hbf) | (with_reducible refine (F4_2.out _).mono ?_; rintro e wf ⟨rfl, hbf⟩; replace S := S.below hbf; clear hbf) | (with_reducible refine (F12_3.out _).mono ?_; rintro e wf ⟨rfl, hbf⟩; replace S := S.below hbf; clear hbf) | (with_reducible refine (F6_2.out _).mono ?_; rintro e wf ⟨rfl, hbf⟩; replace S := S.below hbf; clear hbf))
        | ((with_reducible refine wpl_isStoreAt 19 ?_); (first | refine S.store1 rfl 3 _ _ rfl b3 6 _ rfl rfl 0 _ rfl rfl (of_decide_eq_true rfl) (Cel.any _) rfl (by kernel_rfl) ?_ | refine S.store1 rfl 3 _ _ rfl b3 6 _ rfl rfl 1 _ rfl rfl (of_decide_eq_true rfl) (Cel.any _) rfl (by kernel_rfl) ?_); clear S; intro w2 S; (simp only [Cel.cells, IV.cellsL, zeroL, List.set_cons_zero, List.set_cons_succ, startI, secondI, noneI] at S))
        | (go_at_call 50; refine (CS.out _).mono ?_; rintro e wf ⟨rfl, rfl⟩)
        | ((with_reducible refine wpl_isStoreAt 32 ?_); (first | refine S.store1 rfl 3 _ _ rfl b3 10 _ rfl rfl 0 _ rfl rfl (of_decide_eq_true rfl) (Cel.any _) rfl (by kernel_rfl) ?_ | refine S.store1 rfl 3 _ _ rfl b3 10 _ rfl rfl 1 _ rfl rfl (of_decide_eq_true rfl) (Cel.any _) rfl (by kernel_rfl) ?_); clear S; intro w2 S; (simp only [Cel.cells, IV.cellsL, zeroL, List.set_cons_zero, List.set_cons_succ, startI, secondI, noneI] at S))
        | ((with_reducible refine wpl_isStoreAt 33 ?_); (first | refine S.store1 rfl 3 _ _ rfl b3 11 _ rfl rfl 0 _ rfl rfl (of_decide_eq_true rfl) (Cel.any _) rfl (by kernel_rfl) ?_ | refine S.store1 rfl 3 _ _ rfl b3 11 _ rfl rfl 1 _ rfl rfl (of_decide_eq_true rfl) (Cel.any _) rfl (by kernel_rfl) ?_); clear S; intro w2 S; (simp only [Cel.cells, IV.cellsL, zeroL, List.set_cons_zero, List.set_cons_succ, startI, secondI, noneI] at S))
        | ((with_reducible refine wpl_isDst 34 ?_); (first | refine S.ldAll 30 _ rfl b3 rfl 0 _ rfl _ Try.underlying30 rfl (szA _ rfl) rfl ?_ | refine S.ldAll 30 _ rfl b3 rfl 1 _ rfl _ Try.underlying30 rfl (szA _ rfl) rfl ?_))
        | (go_at_call 47; refine (checked_c (regI J g0_4 s1 s2) true x hx _).mono ?_; rintro e wf ⟨rfl, hbf⟩; replace S := S.below hbf; clear hbf))
      (try simp only [Exit.inBlock, Exit.then])
      (first | refine bodyPost_ret (S.results rfl _ _ rfl 0 _ rfl _ Try.underlying30 rfl (szA _ rfl)) rfl ?_ | refine bodyPost_ret (S.results rfl _ _ rfl 1 _ rfl _ Try.underlying30 rfl (szA _ rfl)) rfl ?_)
      exact ⟨rfl, S.low⟩
  · rw [h1] at hJ
    replace hJ : R = noneI 64 x := hJ
    subst hJ
    go_enter Try.func21, Try.ntmps21
    have S := SH.start w
    go_wp2_with (first
      | ((with_reducible refine wpl_isDst 2 ?_); (first | refine S.alloc rfl 30 rfl (Cel.any zeroL) zeroA ?_ | refine SH.alloc (L := []) S rfl 30 rfl (Cel.any zeroL) zeroA ?_); clear S; intro b2 w2 S)
      | (go_at_call 49; refine (CD.out _).mono ?_; rintro e wf ⟨rfl, hbf⟩; replace S := S.below hbf; clear hbf)
      | ((with_reducible refine wpl_isDst 3 ?_); (first | refine S.alloc rfl 30 rfl (Cel.any zeroL) zeroA ?_ | refine SH.alloc (L := []) S rfl 30 rfl (Cel.any zeroL) zeroA ?_); clear S; intro b3 w3 S)
      | ((with_reducible refine wpl_isStoreAt 3 ?_); (first | refine S.storeA rfl 30 _ _ rfl b3 _ rfl rfl 0 _ rfl rfl rfl (szA _ rfl) ?_ | refine S.storeA rfl 30 _ _ rfl b3 _ rfl rfl 1 _ rfl rfl rfl (szA _ rfl) ?_); clear S; intro w2 S; (simp only [Cel.cells, IV.cellsL, zeroL, List.set_cons_zero, List.set_cons_succ, startI, secondI, noneI] at S))
      | ((with_reducible refine wpl_isDst 7 ?_); (first | refine S.ld 3 _ rfl b3 0 rfl 0 _ rfl _ rfl _ Try.underlying3 rfl rfl ?_ | refine S.ld 3 _ rfl b3 0 rfl 1 _ rfl _ rfl _ Try.underlying3 rfl rfl ?_))
      | (go_at_call 13; refine (none_c 64 x hx _).mono ?_; rintro e wf ⟨rfl, hbf⟩; replace S := S.below hbf; clear hbf)
      | ((with_reducible refine wpl_isStoreAt 2 ?_); (first | refine S.storeA rfl 30 _ _ rfl b2 _ rfl rfl 0 _ rfl rfl rfl (szA _ rfl) ?_ | refine S.storeA rfl 30 _ _ rfl b2 _ rfl rfl 1 _ rfl rfl rfl (szA _ rfl) ?_); clear S; intro w2 S; (simp only [Cel.cells, IV.cellsL, zeroL, List.set_cons_zero, List.set_cons_succ, startI, secondI, noneI] at S))
      | (go_at_call 46; first | (with_reducible refine (F0_4.out _).mono ?_; rintro e wf ⟨rfl, hbf⟩; replace S := S.below hbf; clear hbf) | (with_reducible refine (F4_2.out _).mono ?_; rintro e wf ⟨rfl, hbf⟩; replace S := S.below hbf; clear hbf) | (with_reducible refine (F12_3.out _).mono ?_; rintro e wf ⟨rfl, hbf⟩; replace S := S.below hbf; clear hbf) | (with_reducible refine (F6_2.out _).mono ?_; rintro e wf ⟨rfl, hbf⟩; replace S := S.below hbf; clear hbf))
      | ((with_reducible refine wpl_isStoreAt 19 ?_); (first | refine S.store1 rfl 3 _ _ rfl b3 6 _ rfl rfl 0 _ rfl rfl (of_decide_eq_true rfl) (Cel.any _) rfl (by kernel_rfl) ?_ | refine S.store1 rfl 3 _ _ rfl b3 6 _ rfl rfl 1 _ rfl rfl (of_decide_eq_true rfl) (Cel.any _) rfl (by kernel_rfl) ?_); clear S; intro w2 S; (simp only [Cel.cells, IV.cellsL, zeroL, List.set_cons_zero, List.set_cons_succ, startI, secondI, noneI] at S))
      | (go_at_call 50; refine (CS.out _).mono ?_; rintro e wf ⟨rfl, rfl⟩)
      | ((with_reducible refine wpl_isStoreAt 32 ?_); (first | refine S.store1 rfl 3 _ _ rfl b3 10 _ rfl rfl 0 _ rfl rfl (of_decide_eq_true rfl) (Cel.any _) rfl (by kernel_rfl) ?_ | refine S.store1 rfl 3 _ _ rfl b3 10 _ rfl rfl 1 _ rfl rfl (of_decide_eq_true rfl) (Cel.any _) rfl (by kernel_rfl) ?_); clear S; intro w2 S; (simp only [Cel.cells, IV.cellsL, zeroL, List.set_cons_zero, List.set_cons_succ, startI, secondI, noneI] at S))
      | ((with_reducible refine wpl_isStoreAt 33 ?_); (first | refine S.store1 rfl 3 _ _ rfl b3 11 _ rfl rfl 0 _ rfl rfl (of_decide_eq_true rfl) (Cel.any _) rfl (by kernel_rfl) ?_ | refine S.store1 rfl 3 _ _ rfl b3 11 _ rfl rfl 1 _ rfl rfl (of_decide_eq_true rfl) (Cel.any _) rfl (by kernel_rfl) ?_); clear S; intro w2 S; (simp only [Cel.cells, IV.cellsL, zeroL, List.set_cons_zero, List.set_cons_succ, startI, secondI, noneI] at S))
      | ((with_reducible refine wpl_isDst 34 ?_); (first | refine S.ldAll 30 _ rfl b3 rfl 0 _ rfl _ Try.underlying30 rfl (szA _ rfl) rfl ?_ | refine S.ldAll 30 _ rfl b3 rfl 1 _ rfl _ Try.underlying30 rfl (szA _ rfl) rfl ?_))
      | (go_at_call 47; refine (checked_c (regI J g0_4 s1 s2) true x hx _).mono ?_; rintro e wf ⟨rfl, hbf⟩; replace S := S.below hbf; clear hbf))
    (try simp only [Exit.inBlock, Exit.then])
    (first | refine bodyPost_ret (S.results rfl _ _ rfl 0 _ rfl _ Try.underlying30 rfl (szA _ rfl)) rfl ?_ | refine bodyPost_ret (S.results rfl _ _ rfl 1 _ rfl _ Try.underlying30 rfl (szA _ rfl)) rfl ?_)
    exact ⟨rfl, S.low⟩
end Go.Proofs.Ytigmekboikgoaaa
