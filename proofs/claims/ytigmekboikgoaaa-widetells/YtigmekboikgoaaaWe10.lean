/- Stage 9: alone, Decode at every word. -/
import Derived.Test.YtigmekboikgoaaaWe6
import Derived.Test.YtigmekboikgoaaaWe9
namespace Go.Proofs.Ytigmekboikgoaaa
open Go.ChangeShapes Go.WideShapes Go.ChangeAt Go.RowKit
set_option linter.unusedVariables false
set_option linter.unusedSimpArgs false

set_option maxHeartbeats 20000000 in
set_option maxRecDepth 100000 in
theorem al116_c (x : Nat) (hx : x < 4294967296) (y : Int) (hk : bits .and .u32 (x : Int) 4160782336 = y) (hy : (y == 4026564608) = false) (hg : bits .and .u32 (x : Int) 4261412864 = 3892314112) (w : World) : Calls Try.prog 12 #[.int .u32 x] w fun e w' => Says w (manX x) e w' := by
  unfold Says
  have CB : Hid (∀ w, Calls Try.prog 20 #[.int .u32 x] w fun e w' => e = .returned ((manX x).val) ∧ Below w.heap.size w w') := many_c x hx
  generalize manX x = J at *
  go_enter Try.func12, Try.ntmps12
  have S := SH.start w
  go_wp2_with (first
    | ((with_reducible refine wpl_isDst 2 ?_); (first | refine S.alloc rfl 30 rfl (Cel.any zeroL) zeroA ?_ | refine SH.alloc (L := []) S rfl 30 rfl (Cel.any zeroL) zeroA ?_); clear S; intro b2 w2 S)
    | ((with_reducible refine wpl_isStoreAt 2 ?_); refine S.storeA rfl 30 _ _ rfl b2 _ rfl rfl 0 _ rfl rfl rfl (szA _ rfl) ?_; clear S; intro w2 S; (simp only [Cel.cells, IV.cellsL, zeroL, List.set_cons_zero, List.set_cons_succ, startI, secondI, noneI] at S))
    | (go_at_call 20; refine (CB.out _).mono ?_; rintro e wf ⟨rfl, hbf⟩; replace S := S.below hbf; clear hbf))
  (try simp only [Exit.inBlock, Exit.then])
  refine bodyPost_ret (S.results rfl _ _ rfl 0 _ rfl _ Try.underlying30 rfl (szA _ rfl)) rfl ?_
  exact ⟨rfl, S.low⟩
set_option maxHeartbeats 20000000 in
set_option maxRecDepth 100000 in
theorem al117_c (x : Nat) (hx : x < 4294967296) (y : Int) (hk : bits .and .u32 (x : Int) 4160782336 = y) (hy : (y == 4026564608) = false) (hg : bits .and .u32 (x : Int) 4261412864 = 3925868544) (w : World) : Calls Try.prog 12 #[.int .u32 x] w fun e w' => Says w (shiX x) e w' := by
  unfold Says
  have CB : Hid (∀ w, Calls Try.prog 21 #[.int .u32 x] w fun e w' => e = .returned ((shiX x).val) ∧ Below w.heap.size w w') := shifted_c x hx
  generalize shiX x = J at *
  go_enter Try.func12, Try.ntmps12
  have S := SH.start w
  go_wp2_with (first
    | ((with_reducible refine wpl_isDst 2 ?_); (first | refine S.alloc rfl 30 rfl (Cel.any zeroL) zeroA ?_ | refine SH.alloc (L := []) S rfl 30 rfl (Cel.any zeroL) zeroA ?_); clear S; intro b2 w2 S)
    | ((with_reducible refine wpl_isStoreAt 2 ?_); refine S.storeA rfl 30 _ _ rfl b2 _ rfl rfl 0 _ rfl rfl rfl (szA _ rfl) ?_; clear S; intro w2 S; (simp only [Cel.cells, IV.cellsL, zeroL, List.set_cons_zero, List.set_cons_succ, startI, secondI, noneI] at S))
    | (go_at_call 21; refine (CB.out _).mono ?_; rintro e wf ⟨rfl, hbf⟩; replace S := S.below hbf; clear hbf))
  (try simp only [Exit.inBlock, Exit.then])
  refine bodyPost_ret (S.results rfl _ _ rfl 0 _ rfl _ Try.underlying30 rfl (szA _ rfl)) rfl ?_
  exact ⟨rfl, S.low⟩
set_option maxHeartbeats 20000000 in
set_option maxRecDepth 100000 in
theorem al120_c (x : Nat) (hx : x < 4294967296) (y : Int) (hk : bits .and .u32 (x : Int) 4160782336 = y) (hy : (y == 4026564608) = false) (hg : bits .and .u32 (x : Int) 4261412864 = 4026531840) (w : World) : Calls Try.prog 12 #[.int .u32 x] w fun e w' => Says w (modX x) e w' := by
  unfold Says
  have CB : Hid (∀ w, Calls Try.prog 22 #[.int .u32 x] w fun e w' => e = .returned ((modX x).val) ∧ Below w.heap.size w w') := modified_c x hx
  generalize modX x = J at *
  go_enter Try.func12, Try.ntmps12
  have S := SH.start w
  go_wp2_with (first
    | ((with_reducible refine wpl_isDst 2 ?_); (first | refine S.alloc rfl 30 rfl (Cel.any zeroL) zeroA ?_ | refine SH.alloc (L := []) S rfl 30 rfl (Cel.any zeroL) zeroA ?_); clear S; intro b2 w2 S)
    | ((with_reducible refine wpl_isStoreAt 2 ?_); refine S.storeA rfl 30 _ _ rfl b2 _ rfl rfl 0 _ rfl rfl rfl (szA _ rfl) ?_; clear S; intro w2 S; (simp only [Cel.cells, IV.cellsL, zeroL, List.set_cons_zero, List.set_cons_succ, startI, secondI, noneI] at S))
    | (go_at_call 22; refine (CB.out _).mono ?_; rintro e wf ⟨rfl, hbf⟩; replace S := S.below hbf; clear hbf))
  (try simp only [Exit.inBlock, Exit.then])
  refine bodyPost_ret (S.results rfl _ _ rfl 0 _ rfl _ Try.underlying30 rfl (szA _ rfl)) rfl ?_
  exact ⟨rfl, S.low⟩
set_option maxHeartbeats 20000000 in
set_option maxRecDepth 100000 in
theorem al122_c (x : Nat) (hx : x < 4294967296) (y : Int) (hk : bits .and .u32 (x : Int) 4160782336 = y) (hy : (y == 4026564608) = false) (hg : bits .and .u32 (x : Int) 4261412864 = 4093640704) (w : World) : Calls Try.prog 12 #[.int .u32 x] w fun e w' => Says w (modX x) e w' := by
  unfold Says
  have CB : Hid (∀ w, Calls Try.prog 22 #[.int .u32 x] w fun e w' => e = .returned ((modX x).val) ∧ Below w.heap.size w w') := modified_c x hx
  generalize modX x = J at *
  go_enter Try.func12, Try.ntmps12
  have S := SH.start w
  go_wp2_with (first
    | ((with_reducible refine wpl_isDst 2 ?_); (first | refine S.alloc rfl 30 rfl (Cel.any zeroL) zeroA ?_ | refine SH.alloc (L := []) S rfl 30 rfl (Cel.any zeroL) zeroA ?_); clear S; intro b2 w2 S)
    | ((with_reducible refine wpl_isStoreAt 2 ?_); refine S.storeA rfl 30 _ _ rfl b2 _ rfl rfl 0 _ rfl rfl rfl (szA _ rfl) ?_; clear S; intro w2 S; (simp only [Cel.cells, IV.cellsL, zeroL, List.set_cons_zero, List.set_cons_succ, startI, secondI, noneI] at S))
    | (go_at_call 22; refine (CB.out _).mono ?_; rintro e wf ⟨rfl, hbf⟩; replace S := S.below hbf; clear hbf))
  (try simp only [Exit.inBlock, Exit.then])
  refine bodyPost_ret (S.results rfl _ _ rfl 0 _ rfl _ Try.underlying30 rfl (szA _ rfl)) rfl ?_
  exact ⟨rfl, S.low⟩
set_option maxHeartbeats 20000000 in
set_option maxRecDepth 100000 in
theorem al121_c (x : Nat) (hx : x < 4294967296) (y : Int) (hk : bits .and .u32 (x : Int) 4160782336 = y) (hy : (y == 4026564608) = false) (hg : bits .and .u32 (x : Int) 4261412864 = 4060086272) (w : World) : Calls Try.prog 12 #[.int .u32 x] w fun e w' => Says w (plaX x) e w' := by
  unfold Says
  have CB : Hid (∀ w, Calls Try.prog 23 #[.int .u32 x] w fun e w' => e = .returned ((plaX x).val) ∧ Below w.heap.size w w') := plain9_c x hx
  generalize plaX x = J at *
  go_enter Try.func12, Try.ntmps12
  have S := SH.start w
  go_wp2_with (first
    | ((with_reducible refine wpl_isDst 2 ?_); (first | refine S.alloc rfl 30 rfl (Cel.any zeroL) zeroA ?_ | refine SH.alloc (L := []) S rfl 30 rfl (Cel.any zeroL) zeroA ?_); clear S; intro b2 w2 S)
    | ((with_reducible refine wpl_isStoreAt 2 ?_); refine S.storeA rfl 30 _ _ rfl b2 _ rfl rfl 0 _ rfl rfl rfl (szA _ rfl) ?_; clear S; intro w2 S; (simp only [Cel.cells, IV.cellsL, zeroL, List.set_cons_zero, List.set_cons_succ, startI, secondI, noneI] at S))
    | (go_at_call 23; refine (CB.out _).mono ?_; rintro e wf ⟨rfl, hbf⟩; replace S := S.below hbf; clear hbf))
  (try simp only [Exit.inBlock, Exit.then])
  refine bodyPost_ret (S.results rfl _ _ rfl 0 _ rfl _ Try.underlying30 rfl (szA _ rfl)) rfl ?_
  exact ⟨rfl, S.low⟩
set_option maxHeartbeats 20000000 in
set_option maxRecDepth 100000 in
theorem al123_c (x : Nat) (hx : x < 4294967296) (y : Int) (hk : bits .and .u32 (x : Int) 4160782336 = y) (hy : (y == 4026564608) = false) (hg : bits .and .u32 (x : Int) 4261412864 = 4127195136) (w : World) : Calls Try.prog 12 #[.int .u32 x] w fun e w' => Says w (plaX x) e w' := by
  unfold Says
  have CB : Hid (∀ w, Calls Try.prog 23 #[.int .u32 x] w fun e w' => e = .returned ((plaX x).val) ∧ Below w.heap.size w w') := plain9_c x hx
  generalize plaX x = J at *
  go_enter Try.func12, Try.ntmps12
  have S := SH.start w
  go_wp2_with (first
    | ((with_reducible refine wpl_isDst 2 ?_); (first | refine S.alloc rfl 30 rfl (Cel.any zeroL) zeroA ?_ | refine SH.alloc (L := []) S rfl 30 rfl (Cel.any zeroL) zeroA ?_); clear S; intro b2 w2 S)
    | ((with_reducible refine wpl_isStoreAt 2 ?_); refine S.storeA rfl 30 _ _ rfl b2 _ rfl rfl 0 _ rfl rfl rfl (szA _ rfl) ?_; clear S; intro w2 S; (simp only [Cel.cells, IV.cellsL, zeroL, List.set_cons_zero, List.set_cons_succ, startI, secondI, noneI] at S))
    | (go_at_call 23; refine (CB.out _).mono ?_; rintro e wf ⟨rfl, hbf⟩; replace S := S.below hbf; clear hbf))
  (try simp only [Exit.inBlock, Exit.then])
  refine bodyPost_ret (S.results rfl _ _ rfl 0 _ rfl _ Try.underlying30 rfl (szA _ rfl)) rfl ?_
  exact ⟨rfl, S.low⟩
set_option maxHeartbeats 20000000 in
set_option maxRecDepth 100000 in
theorem al124_c (x : Nat) (hx : x < 4294967296) (y : Int) (hk : bits .and .u32 (x : Int) 4160782336 = y) (hy : (y == 4026564608) = false) (hg : bits .and .u32 (x : Int) 4261412864 = 4160749568) (w : World) : Calls Try.prog 12 #[.int .u32 x] w fun e w' => Says w (memX x) e w' := by
  unfold Says
  have CB : Hid (∀ w, Calls Try.prog 24 #[.int .u32 x] w fun e w' => e = .returned ((memX x).val) ∧ Below w.heap.size w w') := memory_c x hx
  generalize memX x = J at *
  go_enter Try.func12, Try.ntmps12
  have S := SH.start w
  go_wp2_with (first
    | ((with_reducible refine wpl_isDst 2 ?_); (first | refine S.alloc rfl 30 rfl (Cel.any zeroL) zeroA ?_ | refine SH.alloc (L := []) S rfl 30 rfl (Cel.any zeroL) zeroA ?_); clear S; intro b2 w2 S)
    | ((with_reducible refine wpl_isStoreAt 2 ?_); refine S.storeA rfl 30 _ _ rfl b2 _ rfl rfl 0 _ rfl rfl rfl (szA _ rfl) ?_; clear S; intro w2 S; (simp only [Cel.cells, IV.cellsL, zeroL, List.set_cons_zero, List.set_cons_succ, startI, secondI, noneI] at S))
    | (go_at_call 24; refine (CB.out _).mono ?_; rintro e wf ⟨rfl, hbf⟩; replace S := S.below hbf; clear hbf))
  (try simp only [Exit.inBlock, Exit.then])
  refine bodyPost_ret (S.results rfl _ _ rfl 0 _ rfl _ Try.underlying30 rfl (szA _ rfl)) rfl ?_
  exact ⟨rfl, S.low⟩
set_option maxHeartbeats 20000000 in
set_option maxRecDepth 100000 in
theorem al125_c (x : Nat) (hx : x < 4294967296) (y : Int) (hk : bits .and .u32 (x : Int) 4160782336 = y) (hy : (y == 4026564608) = false) (hg : bits .and .u32 (x : Int) 4261412864 = 4194304000) (w : World) : Calls Try.prog 12 #[.int .u32 x] w fun e w' => Says w (regX x) e w' := by
  unfold Says
  have CB : Hid (∀ w, Calls Try.prog 25 #[.int .u32 x] w fun e w' => e = .returned ((regX x).val) ∧ Below w.heap.size w w') := registers9_c x hx
  generalize regX x = J at *
  go_enter Try.func12, Try.ntmps12
  have S := SH.start w
  go_wp2_with (first
    | ((with_reducible refine wpl_isDst 2 ?_); (first | refine S.alloc rfl 30 rfl (Cel.any zeroL) zeroA ?_ | refine SH.alloc (L := []) S rfl 30 rfl (Cel.any zeroL) zeroA ?_); clear S; intro b2 w2 S)
    | ((with_reducible refine wpl_isStoreAt 2 ?_); refine S.storeA rfl 30 _ _ rfl b2 _ rfl rfl 0 _ rfl rfl rfl (szA _ rfl) ?_; clear S; intro w2 S; (simp only [Cel.cells, IV.cellsL, zeroL, List.set_cons_zero, List.set_cons_succ, startI, secondI, noneI] at S))
    | (go_at_call 25; refine (CB.out _).mono ?_; rintro e wf ⟨rfl, hbf⟩; replace S := S.below hbf; clear hbf))
  (try simp only [Exit.inBlock, Exit.then])
  refine bodyPost_ret (S.results rfl _ _ rfl 0 _ rfl _ Try.underlying30 rfl (szA _ rfl)) rfl ?_
  exact ⟨rfl, S.low⟩
set_option maxHeartbeats 20000000 in
set_option maxRecDepth 100000 in
theorem alN_c (x : Nat) (hx : x < 4294967296) (y z : Int) (hk : bits .and .u32 (x : Int) 4160782336 = y) (hy : (y == 4026564608) = false) (hg : bits .and .u32 (x : Int) 4261412864 = z) (h116 : (z == 3892314112) = false) (h117 : (z == 3925868544) = false) (h120 : (z == 4026531840) = false) (h122 : (z == 4093640704) = false) (h121 : (z == 4060086272) = false) (h123 : (z == 4127195136) = false) (h124 : (z == 4160749568) = false) (h125 : (z == 4194304000) = false) (w : World) : Calls Try.prog 12 #[.int .u32 x] w fun e w' => Says w (noneI 64 x) e w' := by
  unfold Says
  go_enter Try.func12, Try.ntmps12
  have S := SH.start w
  go_wp2_with (first
    | ((with_reducible refine wpl_isDst 2 ?_); (first | refine S.alloc rfl 30 rfl (Cel.any zeroL) zeroA ?_ | refine SH.alloc (L := []) S rfl 30 rfl (Cel.any zeroL) zeroA ?_); clear S; intro b2 w2 S)
    | ((with_reducible refine wpl_isStoreAt 2 ?_); refine S.storeA rfl 30 _ _ rfl b2 _ rfl rfl 0 _ rfl rfl rfl (szA _ rfl) ?_; clear S; intro w2 S; (simp only [Cel.cells, IV.cellsL, zeroL, List.set_cons_zero, List.set_cons_succ, startI, secondI, noneI] at S))
    | (go_at_call 13; refine (none_c 64 x hx _).mono ?_; rintro e wf ⟨rfl, hbf⟩; replace S := S.below hbf; clear hbf))
  (try simp only [Exit.inBlock, Exit.then])
  refine bodyPost_ret (S.results rfl _ _ rfl 0 _ rfl _ Try.underlying30 rfl (szA _ rfl)) rfl ?_
  exact ⟨rfl, S.low⟩
theorem f25_27 (x : Nat) : fd x 27 5 = fd x 25 7 / 4 := by
  unfold fd
  omega
theorem alone_c (x : Nat) (hx : x < 4294967296) (w : World) : Calls Try.prog 12 #[.int .u32 x] w fun e w' => Says w (aloX x) e w' := by
  have hj := jump_bits x hx
  have hg : bits .and .u32 (x : Int) 4261412864 = ((fd x 25 7 * 33554432 : Nat) : Int) := u32_mid x 25 7 4261412864 hx rfl (by decide)
  have f15 : fd x 15 1 < 2 := fd_lt x 15 1
  have f25 : fd x 25 7 < 128 := fd_lt x 25 7
  have f27 := f25_27 x
  rcases (show (fd x 27 5 = 30 ∧ fd x 15 1 = 1) ∨ ¬ (fd x 27 5 = 30 ∧ fd x 15 1 = 1) from Classical.em _) with hb | hb
  · have : aloX x = branchI x := by unfold aloX; rw [hb.1, hb.2]; rfl
    rw [this]
    exact aloneJ_c x hx hb.1 hb.2 w
  · have hb0 : (Nat.beq (fd x 27 5) 30 && Nat.beq (fd x 15 1) 1) = false := by
      rw [nbeq, nbeq]
      simp
      intro h1 h2
      exact hb ⟨h1, h2⟩
    obtain ⟨y, hk, hy⟩ : ∃ y : Int, bits .and .u32 (x : Int) 4160782336 = y ∧ (y == 4026564608) = false := by
      refine ⟨_, hj, ?_⟩
      generalize fd x 27 5 = a at *
      generalize fd x 15 1 = b at *
      have : ¬ (((a * 134217728 + b * 32768 : Nat) : Int) = 4026564608) := by omega
      simpa using this
    have hA : aloX x = (bif Nat.beq (fd x 25 7) 116 then manX x
  else bif Nat.beq (fd x 25 7) 117 then shiX x
  else bif Nat.beq (fd x 25 7) 120 || Nat.beq (fd x 25 7) 122 then modX x
  else bif Nat.beq (fd x 25 7) 121 || Nat.beq (fd x 25 7) 123 then plaX x
  else bif Nat.beq (fd x 25 7) 124 then memX x
  else bif Nat.beq (fd x 25 7) 125 then regX x
  else noneI 64 x) := by unfold aloX; rw [hb0]; rfl
    rw [hA]
    clear hA hb0 hb hj f27
    rcases (show fd x 25 7 = 116 ∨ fd x 25 7 = 117 ∨ fd x 25 7 = 120 ∨ fd x 25 7 = 122 ∨ fd x 25 7 = 121 ∨ fd x 25 7 = 123 ∨ fd x 25 7 = 124 ∨ fd x 25 7 = 125 ∨ (fd x 25 7 ≠ 116 ∧ fd x 25 7 ≠ 117 ∧ fd x 25 7 ≠ 120 ∧ fd x 25 7 ≠ 122 ∧ fd x 25 7 ≠ 121 ∧ fd x 25 7 ≠ 123 ∧ fd x 25 7 ≠ 124 ∧ fd x 25 7 ≠ 125) by omega) with h | h | h | h | h | h | h | h | h
    · have b116 : Nat.beq (fd x 25 7) 116 = true := by rw [h]; rfl
      have b117 : Nat.beq (fd x 25 7) 117 = false := by rw [h]; rfl
      have b120 : Nat.beq (fd x 25 7) 120 = false := by rw [h]; rfl
      have b122 : Nat.beq (fd x 25 7) 122 = false := by rw [h]; rfl
      have b121 : Nat.beq (fd x 25 7) 121 = false := by rw [h]; rfl
      have b123 : Nat.beq (fd x 25 7) 123 = false := by rw [h]; rfl
      have b124 : Nat.beq (fd x 25 7) 124 = false := by rw [h]; rfl
      have b125 : Nat.beq (fd x 25 7) 125 = false := by rw [h]; rfl
      have e : (manX x) = (bif Nat.beq (fd x 25 7) 116 then manX x else bif Nat.beq (fd x 25 7) 117 then shiX x else bif Nat.beq (fd x 25 7) 120 || Nat.beq (fd x 25 7) 122 then modX x else bif Nat.beq (fd x 25 7) 121 || Nat.beq (fd x 25 7) 123 then plaX x else bif Nat.beq (fd x 25 7) 124 then memX x else bif Nat.beq (fd x 25 7) 125 then regX x else noneI 64 x) := by
        simp only [b116, b117, b120, b122, b121, b123, b124, b125, cond_true, cond_false, Bool.or_true, Bool.true_or, Bool.or_false, Bool.false_or]
      rw [← e]
      rw [h] at hg
      exact al116_c x hx y hk hy hg w
    · have b116 : Nat.beq (fd x 25 7) 116 = false := by rw [h]; rfl
      have b117 : Nat.beq (fd x 25 7) 117 = true := by rw [h]; rfl
      have b120 : Nat.beq (fd x 25 7) 120 = false := by rw [h]; rfl
      have b122 : Nat.beq (fd x 25 7) 122 = false := by rw [h]; rfl
      have b121 : Nat.beq (fd x 25 7) 121 = false := by rw [h]; rfl
      have b123 : Nat.beq (fd x 25 7) 123 = false := by rw [h]; rfl
      have b124 : Nat.beq (fd x 25 7) 124 = false := by rw [h]; rfl
      have b125 : Nat.beq (fd x 25 7) 125 = false := by rw [h]; rfl
      have e : (shiX x) = (bif Nat.beq (fd x 25 7) 116 then manX x else bif Nat.beq (fd x 25 7) 117 then shiX x else bif Nat.beq (fd x 25 7) 120 || Nat.beq (fd x 25 7) 122 then modX x else bif Nat.beq (fd x 25 7) 121 || Nat.beq (fd x 25 7) 123 then plaX x else bif Nat.beq (fd x 25 7) 124 then memX x else bif Nat.beq (fd x 25 7) 125 then regX x else noneI 64 x) := by
        simp only [b116, b117, b120, b122, b121, b123, b124, b125, cond_true, cond_false, Bool.or_true, Bool.true_or, Bool.or_false, Bool.false_or]
      rw [← e]
      rw [h] at hg
      exact al117_c x hx y hk hy hg w
    · have b116 : Nat.beq (fd x 25 7) 116 = false := by rw [h]; rfl
      have b117 : Nat.beq (fd x 25 7) 117 = false := by rw [h]; rfl
      have b120 : Nat.beq (fd x 25 7) 120 = true := by rw [h]; rfl
      have b122 : Nat.beq (fd x 25 7) 122 = false := by rw [h]; rfl
      have b121 : Nat.beq (fd x 25 7) 121 = false := by rw [h]; rfl
      have b123 : Nat.beq (fd x 25 7) 123 = false := by rw [h]; rfl
      have b124 : Nat.beq (fd x 25 7) 124 = false := by rw [h]; rfl
      have b125 : Nat.beq (fd x 25 7) 125 = false := by rw [h]; rfl
      have e : (modX x) = (bif Nat.beq (fd x 25 7) 116 then manX x else bif Nat.beq (fd x 25 7) 117 then shiX x else bif Nat.beq (fd x 25 7) 120 || Nat.beq (fd x 25 7) 122 then modX x else bif Nat.beq (fd x 25 7) 121 || Nat.beq (fd x 25 7) 123 then plaX x else bif Nat.beq (fd x 25 7) 124 then memX x else bif Nat.beq (fd x 25 7) 125 then regX x else noneI 64 x) := by
        simp only [b116, b117, b120, b122, b121, b123, b124, b125, cond_true, cond_false, Bool.or_true, Bool.true_or, Bool.or_false, Bool.false_or]
      rw [← e]
      rw [h] at hg
      exact al120_c x hx y hk hy hg w
    · have b116 : Nat.beq (fd x 25 7) 116 = false := by rw [h]; rfl
      have b117 : Nat.beq (fd x 25 7) 117 = false := by rw [h]; rfl
      have b120 : Nat.beq (fd x 25 7) 120 = false := by rw [h]; rfl
      have b122 : Nat.beq (fd x 25 7) 122 = true := by rw [h]; rfl
      have b121 : Nat.beq (fd x 25 7) 121 = false := by rw [h]; rfl
      have b123 : Nat.beq (fd x 25 7) 123 = false := by rw [h]; rfl
      have b124 : Nat.beq (fd x 25 7) 124 = false := by rw [h]; rfl
      have b125 : Nat.beq (fd x 25 7) 125 = false := by rw [h]; rfl
      have e : (modX x) = (bif Nat.beq (fd x 25 7) 116 then manX x else bif Nat.beq (fd x 25 7) 117 then shiX x else bif Nat.beq (fd x 25 7) 120 || Nat.beq (fd x 25 7) 122 then modX x else bif Nat.beq (fd x 25 7) 121 || Nat.beq (fd x 25 7) 123 then plaX x else bif Nat.beq (fd x 25 7) 124 then memX x else bif Nat.beq (fd x 25 7) 125 then regX x else noneI 64 x) := by
        simp only [b116, b117, b120, b122, b121, b123, b124, b125, cond_true, cond_false, Bool.or_true, Bool.true_or, Bool.or_false, Bool.false_or]
      rw [← e]
      rw [h] at hg
      exact al122_c x hx y hk hy hg w
    · have b116 : Nat.beq (fd x 25 7) 116 = false := by rw [h]; rfl
      have b117 : Nat.beq (fd x 25 7) 117 = false := by rw [h]; rfl
      have b120 : Nat.beq (fd x 25 7) 120 = false := by rw [h]; rfl
      have b122 : Nat.beq (fd x 25 7) 122 = false := by rw [h]; rfl
      have b121 : Nat.beq (fd x 25 7) 121 = true := by rw [h]; rfl
      have b123 : Nat.beq (fd x 25 7) 123 = false := by rw [h]; rfl
      have b124 : Nat.beq (fd x 25 7) 124 = false := by rw [h]; rfl
      have b125 : Nat.beq (fd x 25 7) 125 = false := by rw [h]; rfl
      have e : (plaX x) = (bif Nat.beq (fd x 25 7) 116 then manX x else bif Nat.beq (fd x 25 7) 117 then shiX x else bif Nat.beq (fd x 25 7) 120 || Nat.beq (fd x 25 7) 122 then modX x else bif Nat.beq (fd x 25 7) 121 || Nat.beq (fd x 25 7) 123 then plaX x else bif Nat.beq (fd x 25 7) 124 then memX x else bif Nat.beq (fd x 25 7) 125 then regX x else noneI 64 x) := by
        simp only [b116, b117, b120, b122, b121, b123, b124, b125, cond_true, cond_false, Bool.or_true, Bool.true_or, Bool.or_false, Bool.false_or]
      rw [← e]
      rw [h] at hg
      exact al121_c x hx y hk hy hg w
    · have b116 : Nat.beq (fd x 25 7) 116 = false := by rw [h]; rfl
      have b117 : Nat.beq (fd x 25 7) 117 = false := by rw [h]; rfl
      have b120 : Nat.beq (fd x 25 7) 120 = false := by rw [h]; rfl
      have b122 : Nat.beq (fd x 25 7) 122 = false := by rw [h]; rfl
      have b121 : Nat.beq (fd x 25 7) 121 = false := by rw [h]; rfl
      have b123 : Nat.beq (fd x 25 7) 123 = true := by rw [h]; rfl
      have b124 : Nat.beq (fd x 25 7) 124 = false := by rw [h]; rfl
      have b125 : Nat.beq (fd x 25 7) 125 = false := by rw [h]; rfl
      have e : (plaX x) = (bif Nat.beq (fd x 25 7) 116 then manX x else bif Nat.beq (fd x 25 7) 117 then shiX x else bif Nat.beq (fd x 25 7) 120 || Nat.beq (fd x 25 7) 122 then modX x else bif Nat.beq (fd x 25 7) 121 || Nat.beq (fd x 25 7) 123 then plaX x else bif Nat.beq (fd x 25 7) 124 then memX x else bif Nat.beq (fd x 25 7) 125 then regX x else noneI 64 x) := by
        simp only [b116, b117, b120, b122, b121, b123, b124, b125, cond_true, cond_false, Bool.or_true, Bool.true_or, Bool.or_false, Bool.false_or]
      rw [← e]
      rw [h] at hg
      exact al123_c x hx y hk hy hg w
    · have b116 : Nat.beq (fd x 25 7) 116 = false := by rw [h]; rfl
      have b117 : Nat.beq (fd x 25 7) 117 = false := by rw [h]; rfl
      have b120 : Nat.beq (fd x 25 7) 120 = false := by rw [h]; rfl
      have b122 : Nat.beq (fd x 25 7) 122 = false := by rw [h]; rfl
      have b121 : Nat.beq (fd x 25 7) 121 = false := by rw [h]; rfl
      have b123 : Nat.beq (fd x 25 7) 123 = false := by rw [h]; rfl
      have b124 : Nat.beq (fd x 25 7) 124 = true := by rw [h]; rfl
      have b125 : Nat.beq (fd x 25 7) 125 = false := by rw [h]; rfl
      have e : (memX x) = (bif Nat.beq (fd x 25 7) 116 then manX x else bif Nat.beq (fd x 25 7) 117 then shiX x else bif Nat.beq (fd x 25 7) 120 || Nat.beq (fd x 25 7) 122 then modX x else bif Nat.beq (fd x 25 7) 121 || Nat.beq (fd x 25 7) 123 then plaX x else bif Nat.beq (fd x 25 7) 124 then memX x else bif Nat.beq (fd x 25 7) 125 then regX x else noneI 64 x) := by
        simp only [b116, b117, b120, b122, b121, b123, b124, b125, cond_true, cond_false, Bool.or_true, Bool.true_or, Bool.or_false, Bool.false_or]
      rw [← e]
      rw [h] at hg
      exact al124_c x hx y hk hy hg w
    · have b116 : Nat.beq (fd x 25 7) 116 = false := by rw [h]; rfl
      have b117 : Nat.beq (fd x 25 7) 117 = false := by rw [h]; rfl
      have b120 : Nat.beq (fd x 25 7) 120 = false := by rw [h]; rfl
      have b122 : Nat.beq (fd x 25 7) 122 = false := by rw [h]; rfl
      have b121 : Nat.beq (fd x 25 7) 121 = false := by rw [h]; rfl
      have b123 : Nat.beq (fd x 25 7) 123 = false := by rw [h]; rfl
      have b124 : Nat.beq (fd x 25 7) 124 = false := by rw [h]; rfl
      have b125 : Nat.beq (fd x 25 7) 125 = true := by rw [h]; rfl
      have e : (regX x) = (bif Nat.beq (fd x 25 7) 116 then manX x else bif Nat.beq (fd x 25 7) 117 then shiX x else bif Nat.beq (fd x 25 7) 120 || Nat.beq (fd x 25 7) 122 then modX x else bif Nat.beq (fd x 25 7) 121 || Nat.beq (fd x 25 7) 123 then plaX x else bif Nat.beq (fd x 25 7) 124 then memX x else bif Nat.beq (fd x 25 7) 125 then regX x else noneI 64 x) := by
        simp only [b116, b117, b120, b122, b121, b123, b124, b125, cond_true, cond_false, Bool.or_true, Bool.true_or, Bool.or_false, Bool.false_or]
      rw [← e]
      rw [h] at hg
      exact al125_c x hx y hk hy hg w
    · obtain ⟨n116, n117, n120, n122, n121, n123, n124, n125⟩ := h
      have b116 : Nat.beq (fd x 25 7) 116 = false := by rw [nbeq]; simp [n116]
      have b117 : Nat.beq (fd x 25 7) 117 = false := by rw [nbeq]; simp [n117]
      have b120 : Nat.beq (fd x 25 7) 120 = false := by rw [nbeq]; simp [n120]
      have b122 : Nat.beq (fd x 25 7) 122 = false := by rw [nbeq]; simp [n122]
      have b121 : Nat.beq (fd x 25 7) 121 = false := by rw [nbeq]; simp [n121]
      have b123 : Nat.beq (fd x 25 7) 123 = false := by rw [nbeq]; simp [n123]
      have b124 : Nat.beq (fd x 25 7) 124 = false := by rw [nbeq]; simp [n124]
      have b125 : Nat.beq (fd x 25 7) 125 = false := by rw [nbeq]; simp [n125]
      simp only [b116, b117, b120, b122, b121, b123, b124, b125, cond_true, cond_false, Bool.or_true, Bool.true_or, Bool.or_false, Bool.false_or]
      exact alN_c x hx y _ hk hy hg (by simp; omega) (by simp; omega) (by simp; omega) (by simp; omega) (by simp; omega) (by simp; omega) (by simp; omega) (by simp; omega) w
/-- Decode, at every pair of halves. -/
theorem wdecode_c (h k : Nat) (hh : h < 65536) (hk : k < 65536) (b : Bool) (w : World) : Calls Try.prog 8 #[.int .u16 h, .int .u16 k, .bool b] w fun e w' => e = .returned (decI b (aloX (h * 65536 + k)) (h * 65536 + k)).val ∧ Below w.heap.size w w' := by
  have C := alone_c (h * 65536 + k) (by omega)
  cases b
  · exact decF_c h k hh hk _ _ rfl C w
  · cases h1 : ((aloX (h * 65536 + k)).op == 54)
    · have e : decI true (aloX (h * 65536 + k)) (h * 65536 + k) = aloX (h * 65536 + k) := by unfold decI; rw [h1]; rfl
      rw [e]
      exact decT0_c h k hh hk _ _ rfl C h1 w
    · cases h2 : ((aloX (h * 65536 + k)).cond != 14)
      · have e : decI true (aloX (h * 65536 + k)) (h * 65536 + k) = aloX (h * 65536 + k) := by unfold decI; rw [h1, h2]; rfl
        rw [e]
        exact decT1_c h k hh hk _ _ rfl C h1 h2 w
      · have e : decI true (aloX (h * 65536 + k)) (h * 65536 + k) = noneI 65 (h * 65536 + k) := by unfold decI; rw [h1, h2]; rfl
        rw [e]
        exact decT2_c h k hh hk _ _ rfl C h1 h2 w
end Go.Proofs.Ytigmekboikgoaaa
