/- Stage 9: the document: what rows begin with. -/
import Derived.Test.YtigmekboikgoaaaWe0
import Derived.Test.YtigmekboikgoaaaWe7
namespace Go.Proofs.Ytigmekboikgoaaa
open Go.ChangeShapes Go.WideShapes Go.ChangeAt Go.RowKit
set_option linter.unusedVariables false
set_option linter.unusedSimpArgs false

/-- What the document's rows tell, as DecodeWide takes it. -/
def fin (i : IV) (ok : Bool) (x : Nat) : IV := bif ok then (bif i.op == 65 then noneI 65 x else i) else noneI 64 x
def Two (w : World) (X : IV) (x : Nat) (e : Ending) (w' : World) : Prop := ∃ i ok, e = .returned (.tuple #[IV.val i, .bool ok]) ∧ fin i ok x = X ∧ Below w.heap.size w w'
def oddS (r : Int) : Bool := r == 13 || r == 15
def mayS (i : IV) (num : Bool) : Bool :=
  bif oddS i.n && !(i.n == 13 && (num && ((num && (i.op == 5 || i.op == 3)) || (i.op == 10 || i.op == 11)))) then false
  else !oddS i.d || (i.d == 13 && ((num && (i.op == 5 || i.op == 3)) && i.n == 13))
theorem plain_c (o : Int) (w : World) : Calls Try.prog 34 #[.int .i64 o] w fun e w' => e = .returned (IV.val ⟨o, false, false, 14, 0, 0, 0, 0, 0, false, 0, 0, 0, false, false⟩) ∧ Below w.heap.size w w' := by
  go_enter Try.func34, Try.ntmps34
  go_wp2
  refine bodyPost_ret (results_cell_row rfl _ _ w.heap.size _ _ _ _ rfl (heap_alloc_new w _) Try.underlying30 rfl (by kernel_rfl)) rfl ⟨rfl, (Below.refl _ _).alloc (Nat.le_refl _) _⟩
set_option maxHeartbeats 20000000 in
set_option maxRecDepth 100000 in
theorem rundef_c (h : Int) (w : World) : Calls Try.prog 15 #[.int .u32 h] w fun e w' => e = .returned (IV.val (⟨64, false, false, 14, 0, 0, 0, 0, h, false, 0, 0, 0, false, false⟩ : IV)) ∧ Below w.heap.size w w' := by
  go_enter Try.func15, Try.ntmps15
  have S := SH.start w
  go_wp2_with (first
    | ((with_reducible refine wpl_isDst 2 ?_); (first | refine S.alloc rfl 30 rfl (Cel.any zeroL) zeroA ?_ | refine SH.alloc (L := []) S rfl 30 rfl (Cel.any zeroL) zeroA ?_); clear S; intro b2 w2 S)
    | (go_at_call 34; refine (plain_c _ _).mono ?_; rintro e wf ⟨rfl, hbf⟩; replace S := S.below hbf; clear hbf)
    | ((with_reducible refine wpl_isDst 3 ?_); (first | refine S.alloc rfl 30 rfl (Cel.any zeroL) zeroA ?_ | refine SH.alloc (L := []) S rfl 30 rfl (Cel.any zeroL) zeroA ?_); clear S; intro b3 w3 S)
    | ((with_reducible refine wpl_isStoreAt 3 ?_); (first | refine S.storeA rfl 30 _ _ rfl b3 _ rfl rfl 0 _ rfl rfl rfl (szA _ rfl) ?_ | refine S.storeA rfl 30 _ _ rfl b3 _ rfl rfl 1 _ rfl rfl rfl (szA _ rfl) ?_); clear S; intro w2 S; (simp only [Cel.cells, IV.cellsL, zeroL, List.set_cons_zero, List.set_cons_succ, startI, secondI, noneI, startI] at S))
    | ((with_reducible refine wpl_isStoreAt 6 ?_); (first | refine S.store1 rfl 28 _ _ rfl b3 8 (.int _ _) rfl rfl 0 _ rfl rfl (of_decide_eq_true rfl) (Cel.any _) rfl (by kernel_rfl) ?_ | refine S.store1 rfl 28 _ _ rfl b3 8 (.int _ _) rfl rfl 1 _ rfl rfl (of_decide_eq_true rfl) (Cel.any _) rfl (by kernel_rfl) ?_); clear S; intro w2 S; (simp only [Cel.cells, IV.cellsL, zeroL, List.set_cons_zero, List.set_cons_succ, startI, secondI, noneI, startI] at S))
    | ((with_reducible refine wpl_isDst 7 ?_); (first | refine S.ldAll 30 _ rfl b3 rfl 0 _ rfl _ Try.underlying30 rfl (szA _ rfl) rfl ?_ | refine S.ldAll 30 _ rfl b3 rfl 1 _ rfl _ Try.underlying30 rfl (szA _ rfl) rfl ?_))
    | ((with_reducible refine wpl_isStoreAt 2 ?_); (first | refine S.storeA rfl 30 _ _ rfl b2 _ rfl rfl 0 _ rfl rfl rfl (szA _ rfl) ?_ | refine S.storeA rfl 30 _ _ rfl b2 _ rfl rfl 1 _ rfl rfl rfl (szA _ rfl) ?_); clear S; intro w2 S; (simp only [Cel.cells, IV.cellsL, zeroL, List.set_cons_zero, List.set_cons_succ, startI, secondI, noneI, startI] at S)))
  (try simp only [Exit.inBlock, Exit.then])
  (first | refine bodyPost_ret (S.results rfl _ _ rfl 0 _ rfl _ Try.underlying30 rfl (szA _ rfl)) rfl ?_ | refine bodyPost_ret (S.results rfl _ _ rfl 1 _ rfl _ Try.underlying30 rfl (szA _ rfl)) rfl ?_)
  exact ⟨rfl, S.low⟩
set_option maxHeartbeats 20000000 in
set_option maxRecDepth 100000 in
theorem rbad_c (h : Int) (w : World) : Calls Try.prog 16 #[.int .u32 h] w fun e w' => e = .returned (IV.val (⟨65, false, false, 14, 0, 0, 0, 0, h, false, 0, 0, 0, false, false⟩ : IV)) ∧ Below w.heap.size w w' := by
  go_enter Try.func16, Try.ntmps16
  have S := SH.start w
  go_wp2_with (first
    | ((with_reducible refine wpl_isDst 2 ?_); (first | refine S.alloc rfl 30 rfl (Cel.any zeroL) zeroA ?_ | refine SH.alloc (L := []) S rfl 30 rfl (Cel.any zeroL) zeroA ?_); clear S; intro b2 w2 S)
    | (go_at_call 34; refine (plain_c _ _).mono ?_; rintro e wf ⟨rfl, hbf⟩; replace S := S.below hbf; clear hbf)
    | ((with_reducible refine wpl_isDst 3 ?_); (first | refine S.alloc rfl 30 rfl (Cel.any zeroL) zeroA ?_ | refine SH.alloc (L := []) S rfl 30 rfl (Cel.any zeroL) zeroA ?_); clear S; intro b3 w3 S)
    | ((with_reducible refine wpl_isStoreAt 3 ?_); (first | refine S.storeA rfl 30 _ _ rfl b3 _ rfl rfl 0 _ rfl rfl rfl (szA _ rfl) ?_ | refine S.storeA rfl 30 _ _ rfl b3 _ rfl rfl 1 _ rfl rfl rfl (szA _ rfl) ?_); clear S; intro w2 S; (simp only [Cel.cells, IV.cellsL, zeroL, List.set_cons_zero, List.set_cons_succ, startI, secondI, noneI, startI] at S))
    | ((with_reducible refine wpl_isStoreAt 6 ?_); (first | refine S.store1 rfl 28 _ _ rfl b3 8 (.int _ _) rfl rfl 0 _ rfl rfl (of_decide_eq_true rfl) (Cel.any _) rfl (by kernel_rfl) ?_ | refine S.store1 rfl 28 _ _ rfl b3 8 (.int _ _) rfl rfl 1 _ rfl rfl (of_decide_eq_true rfl) (Cel.any _) rfl (by kernel_rfl) ?_); clear S; intro w2 S; (simp only [Cel.cells, IV.cellsL, zeroL, List.set_cons_zero, List.set_cons_succ, startI, secondI, noneI, startI] at S))
    | ((with_reducible refine wpl_isDst 7 ?_); (first | refine S.ldAll 30 _ rfl b3 rfl 0 _ rfl _ Try.underlying30 rfl (szA _ rfl) rfl ?_ | refine S.ldAll 30 _ rfl b3 rfl 1 _ rfl _ Try.underlying30 rfl (szA _ rfl) rfl ?_))
    | ((with_reducible refine wpl_isStoreAt 2 ?_); (first | refine S.storeA rfl 30 _ _ rfl b2 _ rfl rfl 0 _ rfl rfl rfl (szA _ rfl) ?_ | refine S.storeA rfl 30 _ _ rfl b2 _ rfl rfl 1 _ rfl rfl rfl (szA _ rfl) ?_); clear S; intro w2 S; (simp only [Cel.cells, IV.cellsL, zeroL, List.set_cons_zero, List.set_cons_succ, startI, secondI, noneI, startI] at S)))
  (try simp only [Exit.inBlock, Exit.then])
  (first | refine bodyPost_ret (S.results rfl _ _ rfl 0 _ rfl _ Try.underlying30 rfl (szA _ rfl)) rfl ?_ | refine bodyPost_ret (S.results rfl _ _ rfl 1 _ rfl _ Try.underlying30 rfl (szA _ rfl)) rfl ?_)
  exact ⟨rfl, S.low⟩
set_option maxHeartbeats 20000000 in
set_option maxRecDepth 100000 in
theorem rwide_c (o : Int) (w : World) : Calls Try.prog 62 #[.int .i64 o] w fun e w' => e = .returned (IV.val (startI o 0 0)) ∧ Below w.heap.size w w' := by
  go_enter Try.func62, Try.ntmps62
  have S := SH.start w
  go_wp2_with (first
    | ((with_reducible refine wpl_isDst 2 ?_); (first | refine S.alloc rfl 30 rfl (Cel.any zeroL) zeroA ?_ | refine SH.alloc (L := []) S rfl 30 rfl (Cel.any zeroL) zeroA ?_); clear S; intro b2 w2 S)
    | (go_at_call 34; refine (plain_c _ _).mono ?_; rintro e wf ⟨rfl, hbf⟩; replace S := S.below hbf; clear hbf)
    | ((with_reducible refine wpl_isDst 3 ?_); (first | refine S.alloc rfl 30 rfl (Cel.any zeroL) zeroA ?_ | refine SH.alloc (L := []) S rfl 30 rfl (Cel.any zeroL) zeroA ?_); clear S; intro b3 w3 S)
    | ((with_reducible refine wpl_isStoreAt 3 ?_); (first | refine S.storeA rfl 30 _ _ rfl b3 _ rfl rfl 0 _ rfl rfl rfl (szA _ rfl) ?_ | refine S.storeA rfl 30 _ _ rfl b3 _ rfl rfl 1 _ rfl rfl rfl (szA _ rfl) ?_); clear S; intro w2 S; (simp only [Cel.cells, IV.cellsL, zeroL, List.set_cons_zero, List.set_cons_succ, startI, secondI, noneI, startI] at S))
    | ((with_reducible refine wpl_isStoreAt 6 ?_); (first | refine S.store1 rfl 4 _ _ rfl b3 1 (.bool _) rfl rfl 0 _ rfl rfl (of_decide_eq_true rfl) (Cel.any _) rfl (by kernel_rfl) ?_ | refine S.store1 rfl 4 _ _ rfl b3 1 (.bool _) rfl rfl 1 _ rfl rfl (of_decide_eq_true rfl) (Cel.any _) rfl (by kernel_rfl) ?_); clear S; intro w2 S; (simp only [Cel.cells, IV.cellsL, zeroL, List.set_cons_zero, List.set_cons_succ, startI, secondI, noneI, startI] at S))
    | ((with_reducible refine wpl_isDst 7 ?_); (first | refine S.ldAll 30 _ rfl b3 rfl 0 _ rfl _ Try.underlying30 rfl (szA _ rfl) rfl ?_ | refine S.ldAll 30 _ rfl b3 rfl 1 _ rfl _ Try.underlying30 rfl (szA _ rfl) rfl ?_))
    | ((with_reducible refine wpl_isStoreAt 2 ?_); (first | refine S.storeA rfl 30 _ _ rfl b2 _ rfl rfl 0 _ rfl rfl rfl (szA _ rfl) ?_ | refine S.storeA rfl 30 _ _ rfl b2 _ rfl rfl 1 _ rfl rfl rfl (szA _ rfl) ?_); clear S; intro w2 S; (simp only [Cel.cells, IV.cellsL, zeroL, List.set_cons_zero, List.set_cons_succ, startI, secondI, noneI, startI] at S)))
  (try simp only [Exit.inBlock, Exit.then])
  (first | refine bodyPost_ret (S.results rfl _ _ rfl 0 _ rfl _ Try.underlying30 rfl (szA _ rfl)) rfl ?_ | refine bodyPost_ret (S.results rfl _ _ rfl 1 _ rfl _ Try.underlying30 rfl (szA _ rfl)) rfl ?_)
  exact ⟨rfl, S.low⟩
set_option maxHeartbeats 20000000 in
set_option maxRecDepth 100000 in
theorem rodd_c (r : Int) (w : World) : Calls Try.prog 63 #[.int .i64 r] w fun e w' => e = .returned (.bool (oddS r)) ∧ w' = w := by
  unfold oddS
  cases h1 : (r == 13)
  · cases h2 : (r == 15)
    · go_enter Try.func63, Try.ntmps63
      go_wp2
      go_ret
      exact ⟨rfl, rfl⟩
    · go_enter Try.func63, Try.ntmps63
      go_wp2
      go_ret
      exact ⟨rfl, rfl⟩
  · go_enter Try.func63, Try.ntmps63
    go_wp2
    go_ret
    exact ⟨rfl, rfl⟩
set_option maxHeartbeats 20000000 in
set_option maxRecDepth 100000 in
theorem runp_c (w : World) : Calls Try.prog 61 #[] w fun e w' => e = .returned (.tuple #[(startI 65 0 0).val, .bool true]) ∧ Below w.heap.size w w' := by
  go_enter Try.func61, Try.ntmps61
  have S := SH.start w
  go_wp2_with (first
    | ((with_reducible refine wpl_isDst 0 ?_); (first | refine S.alloc rfl 30 rfl (Cel.any zeroL) zeroA ?_ | refine SH.alloc (L := []) S rfl 30 rfl (Cel.any zeroL) zeroA ?_); clear S; intro b0 w0 S)
    | (go_at_call 62; refine (rwide_c _ _).mono ?_; rintro e wf ⟨rfl, hbf⟩; replace S := S.below hbf; clear hbf)
    | ((with_reducible refine wpl_isStoreAt 0 ?_); refine S.storeA rfl 30 _ _ rfl b0 _ rfl rfl 0 _ rfl rfl rfl (szA _ rfl) ?_; clear S; intro w2 S; (simp only [Cel.cells, IV.cellsL, zeroL, List.set_cons_zero, List.set_cons_succ, startI, secondI, noneI, startI] at S)))
  (try simp only [Exit.inBlock, Exit.then])
  refine bodyPost_ret (S.results2 rfl _ _ rfl 0 _ rfl _ Try.underlying30 rfl (szA _ rfl)) rfl ?_
  exact ⟨rfl, S.low⟩
end Go.Proofs.Ytigmekboikgoaaa
