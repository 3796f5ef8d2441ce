/- Stage 8: halves, by class -/
import Derived.Test.YtblcklknlfofgaaDoorThR
namespace Go.Proofs.YtblcklknlfofgaaDoor
open Go.ChangeShapes Go.WideShapes Go.ChangeAt Go.RowKit
set_option linter.unusedVariables false
set_option linter.unusedSimpArgs false

set_option maxHeartbeats 4000000 in
set_option maxRecDepth 100000 in
theorem halves13_c (i : IV) (hop : i.op = 13) (hi : OKi i) (w : World) : Calls Tryd.prog 28 #[i.val] w fun e w' => HRes w [three5 0 0 i.m i.d, two8 8192 i.d i.imm, hiN 17920 i.d i.m] e w' := by
  have CC : Hid (∀ w1, Calls Tryd.prog 46 #[.int .i64 i.op] w1 fun e w' => e = .returned (.int .i64 1) ∧ w' = w1) := fun w1 => by
    have := class_c i.op w1
    rw [hop] at this ⊢
    exact this
  have HOP : Hid (i.op = 13) := hop
  clear hop
  go_enter Tryd.func28, Tryd.ntmps28
  have S := SH.start w
  go_wp2_with (first
  | (go_at_call 46; with_reducible refine (CC.out _).mono ?_; rintro e wf ⟨rfl, rfl⟩)
  | (go_at_call 47; refine (data13_c i HOP.out hi _).mono ?_; rintro e wf ⟨v, rfl, hv, hbf⟩; replace S := S.below hbf; clear hbf)
  | ((with_reducible refine wpl_is ?_); first
    | (refine SH.box (L := []) S rfl 29 _ rfl (Cel.iv i) rfl ?_; clear S; intro b2 w0 S)
    | (refine S.ld 3 _ rfl _ 0 rfl 0 (Cel.iv i) rfl _ rfl _ Tryd.underlying3 rfl rfl ?_)
    | (refine S.ld 3 _ rfl _ 3 rfl 0 (Cel.iv i) rfl _ rfl _ Tryd.underlying3 rfl rfl ?_)
    | (refine S.ld 3 _ rfl _ 4 rfl 0 (Cel.iv i) rfl _ rfl _ Tryd.underlying3 rfl rfl ?_)
    | (refine S.ld 3 _ rfl _ 5 rfl 0 (Cel.iv i) rfl _ rfl _ Tryd.underlying3 rfl rfl ?_)
    | (refine S.ld 3 _ rfl _ 6 rfl 0 (Cel.iv i) rfl _ rfl _ Tryd.underlying3 rfl rfl ?_)
    | (refine S.ld 27 _ rfl _ 8 rfl 0 (Cel.iv i) rfl _ rfl _ Tryd.underlying27 rfl rfl ?_)
    | (refine S.ld 3 _ rfl _ 12 rfl 0 (Cel.iv i) rfl _ rfl _ Tryd.underlying3 rfl rfl ?_)
    | (refine S.ldAll 29 _ rfl _ rfl 0 (Cel.iv i) rfl _ Tryd.underlying29 rfl (szIV _) rfl ?_)))
  (try simp only [Exit.inBlock, Exit.then])
  go_ret
  exact ⟨_, rfl, hv, S.low⟩
set_option maxHeartbeats 4000000 in
set_option maxRecDepth 100000 in
theorem halves54_c (i : IV) (hop : i.op = 54) (hi : OKi i) (w : World) : Calls Tryd.prog 28 #[i.val] w fun e w' => HRes w (brN i.cond i.imm) e w' := by
  have CC : Hid (∀ w1, Calls Tryd.prog 46 #[.int .i64 i.op] w1 fun e w' => e = .returned (.int .i64 6) ∧ w' = w1) := fun w1 => by
    have := class_c i.op w1
    rw [hop] at this ⊢
    exact this
  have HOP : Hid (i.op = 54) := hop
  clear hop
  go_enter Tryd.func28, Tryd.ntmps28
  have S := SH.start w
  go_wp2_with (first
  | (go_at_call 46; with_reducible refine (CC.out _).mono ?_; rintro e wf ⟨rfl, rfl⟩)
  | (go_at_call 52; refine (branchB_c i HOP.out hi _).mono ?_; rintro e wf ⟨v, rfl, hv, hbf⟩; replace S := S.below hbf; clear hbf)
  | ((with_reducible refine wpl_is ?_); first
    | (refine SH.box (L := []) S rfl 29 _ rfl (Cel.iv i) rfl ?_; clear S; intro b2 w0 S)
    | (refine S.ld 3 _ rfl _ 0 rfl 0 (Cel.iv i) rfl _ rfl _ Tryd.underlying3 rfl rfl ?_)
    | (refine S.ld 3 _ rfl _ 3 rfl 0 (Cel.iv i) rfl _ rfl _ Tryd.underlying3 rfl rfl ?_)
    | (refine S.ld 3 _ rfl _ 4 rfl 0 (Cel.iv i) rfl _ rfl _ Tryd.underlying3 rfl rfl ?_)
    | (refine S.ld 3 _ rfl _ 5 rfl 0 (Cel.iv i) rfl _ rfl _ Tryd.underlying3 rfl rfl ?_)
    | (refine S.ld 3 _ rfl _ 6 rfl 0 (Cel.iv i) rfl _ rfl _ Tryd.underlying3 rfl rfl ?_)
    | (refine S.ld 27 _ rfl _ 8 rfl 0 (Cel.iv i) rfl _ rfl _ Tryd.underlying27 rfl rfl ?_)
    | (refine S.ld 3 _ rfl _ 12 rfl 0 (Cel.iv i) rfl _ rfl _ Tryd.underlying3 rfl rfl ?_)
    | (refine S.ldAll 29 _ rfl _ rfl 0 (Cel.iv i) rfl _ Tryd.underlying29 rfl (szIV _) rfl ?_)))
  (try simp only [Exit.inBlock, Exit.then])
  go_ret
  exact ⟨_, rfl, hv, S.low⟩
set_option maxHeartbeats 4000000 in
set_option maxRecDepth 100000 in
theorem halves0_c (i : IV) (hop : i.op = 0) (w : World) : Calls Tryd.prog 28 #[i.val] w fun e w' => HRes w [] e w' := by
  have CC : Hid (∀ w1, Calls Tryd.prog 46 #[.int .i64 i.op] w1 fun e w' => e = .returned (.int .i64 0) ∧ w' = w1) := fun w1 => by
    have := class_c i.op w1
    rw [hop] at this ⊢
    exact this
  have HOP : Hid (i.op = 0) := hop
  clear hop
  go_enter Tryd.func28, Tryd.ntmps28
  have S := SH.start w
  go_wp2_with (first
  | (go_at_call 46; with_reducible refine (CC.out _).mono ?_; rintro e wf ⟨rfl, rfl⟩)
  | ((with_reducible refine wpl_is ?_); first
    | (refine SH.box (L := []) S rfl 29 _ rfl (Cel.iv i) rfl ?_; clear S; intro b2 w0 S)
    | (refine S.ld 3 _ rfl _ 0 rfl 0 (Cel.iv i) rfl _ rfl _ Tryd.underlying3 rfl rfl ?_)
    | (refine S.ld 3 _ rfl _ 3 rfl 0 (Cel.iv i) rfl _ rfl _ Tryd.underlying3 rfl rfl ?_)
    | (refine S.ld 3 _ rfl _ 4 rfl 0 (Cel.iv i) rfl _ rfl _ Tryd.underlying3 rfl rfl ?_)
    | (refine S.ld 3 _ rfl _ 5 rfl 0 (Cel.iv i) rfl _ rfl _ Tryd.underlying3 rfl rfl ?_)
    | (refine S.ld 3 _ rfl _ 6 rfl 0 (Cel.iv i) rfl _ rfl _ Tryd.underlying3 rfl rfl ?_)
    | (refine S.ld 27 _ rfl _ 8 rfl 0 (Cel.iv i) rfl _ rfl _ Tryd.underlying27 rfl rfl ?_)
    | (refine S.ld 3 _ rfl _ 12 rfl 0 (Cel.iv i) rfl _ rfl _ Tryd.underlying3 rfl rfl ?_)
    | (refine S.ldAll 29 _ rfl _ rfl 0 (Cel.iv i) rfl _ Tryd.underlying29 rfl (szIV _) rfl ?_)))
  (try simp only [Exit.inBlock, Exit.then])
  go_ret
  exact ⟨_, rfl, HLs.nil _, S.low⟩
end Go.Proofs.YtblcklknlfofgaaDoor
