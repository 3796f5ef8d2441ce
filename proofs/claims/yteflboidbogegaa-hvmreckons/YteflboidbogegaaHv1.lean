/- The host's small functions, walked. -/
import Derived.Test.YteflboidbogegaaHv0
namespace Go.Proofs.Yteflboidbogegaa
open Go.ChangeShapes Go.WideShapes Go.ChangeAt Go.RowKit
set_option linter.unusedVariables false
set_option linter.unusedSimpArgs false

theorem szRes : (Try.prog.info? 32).map (·.size) = some 35 := by kernel_rfl
theorem szRegs : (Try.prog.info? 28).map (·.size) = some 32 := by kernel_rfl
theorem szHost : (Try.prog.info? 25).map (·.size) = some 6 := by kernel_rfl
theorem szEv : (Try.prog.info? 61).map (·.size) = some 3 := by kernel_rfl
theorem szU : (Try.prog.info? 22).map (·.size) = some 1 := by kernel_rfl
theorem szI : (Try.prog.info? 3).map (·.size) = some 1 := by kernel_rfl
theorem zeroRes : (Try.prog.info? 32).map (fun i => i.zero) = some (some (Cel.res (List.replicate 32 0) (.slice none 0 0) 0 0).val) := by kernel_rfl

set_option maxHeartbeats 1000000 in
set_option maxRecDepth 100000 in
theorem set_c (R : List Int) (v : Value) (e p d x : Int) (hR : R.length = 32) (hv : v.oneCell' = true) (hd0 : 0 ≤ d) (hd1 : d < 32) (hp0 : -4611686018427387904 ≤ p) (hp1 : p ≤ 4611686018427387904) (w : World) :
    Calls Try.prog 22 #[(Cel.res R v e p).val, .int .i64 d, .int .u32 x] w fun en w' => en = .returned (Cel.res (R.set d.toNat x) v e (p + 1)).val ∧ Below w.heap.size w w' := by
  have S := SH.start w
  have hl : ∀ (x : Int), (R.set d.toNat x).length = 32 := fun x => by simp [hR]
  go_enter Try.func22, Try.ntmps22
  go_wp2_with (first
    | (refine S.box rfl _ _ rfl (Cel.res R v e p) rfl ?_; clear S; intro b1 w S)
    | (refine S.alloc rfl 32 rfl _ zeroRes ?_; clear S; intro b2 w S)
    | (refine S.store1 rfl 22 _ _ rfl _ d.toNat _ rfl rfl 1 _ rfl rfl (by rw [res_length hR]; omega) _ (set_reg (by omega) x v e p) szU ?_; clear S; intro w S; simp only [List.set_cons_zero, List.set_cons_succ] at S)
    | (refine S.load1 rfl 3 _ rfl _ 34 rfl 1 _ rfl _ (res_34 (hl x) _ _ _) _ Try.underlying3 rfl ?_)
    | (refine S.store1 rfl 3 _ _ rfl _ 34 _ rfl rfl 1 _ rfl rfl (by rw [res_length (hl x)]; omega) _ (set_34 (hl x) _ _ _ _) szI ?_; clear S; intro w S; simp only [List.set_cons_zero, List.set_cons_succ] at S)
    | (refine S.loadAll rfl 32 _ rfl _ rfl 1 _ rfl _ Try.underlying32 rfl (by rw [res_length (hl x)]; exact szRes) ?_)
    | (refine S.storeAll rfl 32 _ _ rfl _ (Cel.res _ _ _ _) rfl rfl 0 _ rfl (by rw [res_length (hl x), res_length (by simp)]) (one_res hv) (by rw [res_length (hl x)]; exact szRes) ?_; clear S; intro w S; simp only [List.set_cons_zero, List.set_cons_succ] at S))
  refine bodyPost_ret (S.results rfl _ _ rfl 0 _ rfl _ Try.underlying32 rfl (by rw [res_length (hl x)]; exact szRes)) rfl ?_
  exact ⟨rfl, S.low⟩
end Go.Proofs.Yteflboidbogegaa
