/- Stage 9: the words of branches, walked. -/
import Derived.Test.YtigmekboikgoaaaWd5
import Derived.Test.YtigmekboikgoaaaXi
namespace Go.Proofs.Ytigmekboikgoaaa
open Go.ChangeShapes Go.WideShapes Go.ChangeAt Go.RowKit
set_option linter.unusedVariables false
set_option linter.unusedSimpArgs false

def condW (c v : Nat) : Nat := 4026531840 + fd v 20 1 * 67108864 + c * 4194304 + fd v 12 6 * 65536 + 32768 + fd v 18 1 * 8192 + fd v 19 1 * 2048 + fd v 1 11
theorem farB_f (v : Nat) : fd (farB v) 31 1 = 0 ∧ fd (farB v) 30 1 = 0 ∧ fd (farB v) 29 1 = 0 ∧ fd (farB v) 28 1 = 0 ∧ fd (farB v) 15 1 = 0 ∧ fd (farB v) 14 1 = 0 ∧ fd (farB v) 12 1 = 0 := by
  have f24 : fd v 24 1 < 2 := fd_lt v 24 1
  have f12 : fd v 12 10 < 1024 := fd_lt v 12 10
  have f1 : fd v 1 11 < 2048 := fd_lt v 1 11
  have l1 : lk (fd v 23 1) (fd v 24 1) < 2 := Nat.mod_lt _ (by decide)
  have l2 : lk (fd v 22 1) (fd v 24 1) < 2 := Nat.mod_lt _ (by decide)
  unfold farB
  generalize lk (fd v 23 1) (fd v 24 1) = a1 at *
  generalize lk (fd v 22 1) (fd v 24 1) = a2 at *
  generalize fd v 24 1 = s at *
  generalize fd v 12 10 = g at *
  generalize fd v 1 11 = k at *
  unfold fd
  refine ⟨?_, ?_, ?_, ?_, ?_, ?_, ?_⟩ <;> simp only [Nat.reducePow] <;> omega
theorem farB_lt (v : Nat) : farB v < 134217728 := by
  have f24 : fd v 24 1 < 2 := fd_lt v 24 1
  have f12 : fd v 12 10 < 1024 := fd_lt v 12 10
  have f1 : fd v 1 11 < 2048 := fd_lt v 1 11
  have l1 : lk (fd v 23 1) (fd v 24 1) < 2 := Nat.mod_lt _ (by decide)
  have l2 : lk (fd v 22 1) (fd v 24 1) < 2 := Nat.mod_lt _ (by decide)
  unfold farB
  omega
set_option maxHeartbeats 4000000 in
set_option maxRecDepth 100000 in
theorem bwB_c (i : IV) (v : Nat) (hv : v < 4294967296) (hop : i.op = 54) (hi : i.imm = (v : Nat)) (hc : i.cond = 14) (w : World) : Calls Try.prog 41 #[i.val] w fun e w' => e = .returned (.int .u32 ((4026568704 + farB v : Nat) : Int)) ∧ Below w.heap.size w w' := by
  have hb := farB_lt v
  have hj : bits .or .u32 4026568704 ((farB v : Nat) : Int) = ((4026568704 + farB v : Nat) : Int) := u32_disj 4026568704 (farB v) (by decide) (by omega) (row_f _ (farB_f v)).2.1
  have CF : Hid (∀ w, Calls Try.prog 77 #[.int .i64 v] w fun e w' => e = .returned (.int .u32 (farB v : Nat)) ∧ w' = w) := farBits_c v hv
  generalize farB v = FB at *
  obtain ⟨q, hq⟩ : ∃ q, 4026568704 + FB = q := ⟨_, rfl⟩
  rw [hq] at hj
  rw [hq]
  clear hq hb
  go_enter Try.func41, Try.ntmps41
  have S := SH.start w
  go_wp2_with (first
    | (go_at_call 77; refine (CF.out _).mono ?_; rintro e wf ⟨rfl, rfl⟩)
    | ((with_reducible refine wpl_is ?_); first
      | (refine SH.box (L := []) S rfl 30 _ rfl (Cel.iv i) rfl ?_; clear S; intro b2 w0 S)
      | (refine S.ld 3 _ rfl _ 0 rfl 0 (Cel.iv i) rfl _ rfl _ Try.underlying3 rfl rfl ?_)
      | (refine S.ld 3 _ rfl _ 3 rfl 0 (Cel.iv i) rfl _ rfl _ Try.underlying3 rfl rfl ?_)
      | (refine S.ld 28 _ rfl _ 8 rfl 0 (Cel.iv i) rfl _ rfl _ Try.underlying28 rfl rfl ?_)))
  go_ret
  exact ⟨rfl, S.low⟩
set_option maxHeartbeats 4000000 in
set_option maxRecDepth 100000 in
theorem bwL_c (i : IV) (v : Nat) (hv : v < 4294967296) (hop : i.op = 55) (hi : i.imm = (v : Nat)) (w : World) : Calls Try.prog 41 #[i.val] w fun e w' => e = .returned (.int .u32 ((4026585088 + farB v : Nat) : Int)) ∧ Below w.heap.size w w' := by
  have hb := farB_lt v
  have hj : bits .or .u32 4026585088 ((farB v : Nat) : Int) = ((4026585088 + farB v : Nat) : Int) := u32_disj 4026585088 (farB v) (by decide) (by omega) (row_f _ (farB_f v)).1
  have CF : Hid (∀ w, Calls Try.prog 77 #[.int .i64 v] w fun e w' => e = .returned (.int .u32 (farB v : Nat)) ∧ w' = w) := farBits_c v hv
  generalize farB v = FB at *
  obtain ⟨q, hq⟩ : ∃ q, 4026585088 + FB = q := ⟨_, rfl⟩
  rw [hq] at hj
  rw [hq]
  clear hq hb
  go_enter Try.func41, Try.ntmps41
  have S := SH.start w
  go_wp2_with (first
    | (go_at_call 77; refine (CF.out _).mono ?_; rintro e wf ⟨rfl, rfl⟩)
    | ((with_reducible refine wpl_is ?_); first
      | (refine SH.box (L := []) S rfl 30 _ rfl (Cel.iv i) rfl ?_; clear S; intro b2 w0 S)
      | (refine S.ld 3 _ rfl _ 0 rfl 0 (Cel.iv i) rfl _ rfl _ Try.underlying3 rfl rfl ?_)
      | (refine S.ld 3 _ rfl _ 3 rfl 0 (Cel.iv i) rfl _ rfl _ Try.underlying3 rfl rfl ?_)
      | (refine S.ld 28 _ rfl _ 8 rfl 0 (Cel.iv i) rfl _ rfl _ Try.underlying28 rfl rfl ?_)))
  go_ret
  exact ⟨rfl, S.low⟩
end Go.Proofs.Ytigmekboikgoaaa
