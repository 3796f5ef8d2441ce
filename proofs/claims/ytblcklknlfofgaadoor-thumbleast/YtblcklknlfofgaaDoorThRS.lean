/- Stage 8: halves of Mov -/
import Derived.Test.YtblcklknlfofgaaDoorThQ
namespace Go.Proofs.YtblcklknlfofgaaDoor
open Go.ChangeShapes Go.WideShapes Go.ChangeAt Go.RowKit
set_option linter.unusedVariables false
set_option linter.unusedSimpArgs false

set_option maxHeartbeats 4000000 in
set_option maxRecDepth 100000 in
theorem data13_c (i : IV) (hop : i.op = 13) (hi : OKi i) (w : World) : Calls Tryd.prog 47 #[i.val] w fun e w' => HRes w [three5 0 0 i.m i.d, two8 8192 i.d i.imm, hiN 17920 i.d i.m] e w' := by
  obtain ⟨hi0, hi1⟩ := hi
  have ht := tdiv_pos i.imm 4 hi0
  go_enter Tryd.func47, Tryd.ntmps47
  have S := SH.start w
  go_wp2_with (first
  | ((with_reducible refine wpl_is ?_); first
    | (refine SH.box (L := []) S rfl 29 _ rfl (Cel.iv i) rfl ?_; clear S; intro b2 w0 S)
    | (refine S.ld 3 _ rfl _ 0 rfl 0 (Cel.iv i) rfl _ rfl _ Tryd.underlying3 rfl rfl ?_)
    | (refine S.ld 3 _ rfl _ 3 rfl 0 (Cel.iv i) rfl _ rfl _ Tryd.underlying3 rfl rfl ?_)
    | (refine S.ld 3 _ rfl _ 4 rfl 0 (Cel.iv i) rfl _ rfl _ Tryd.underlying3 rfl rfl ?_)
    | (refine S.ld 3 _ rfl _ 5 rfl 0 (Cel.iv i) rfl _ rfl _ Tryd.underlying3 rfl rfl ?_)
    | (refine S.ld 3 _ rfl _ 6 rfl 0 (Cel.iv i) rfl _ rfl _ Tryd.underlying3 rfl rfl ?_)
    | (refine S.ld 27 _ rfl _ 8 rfl 0 (Cel.iv i) rfl _ rfl _ Tryd.underlying27 rfl rfl ?_)
    | (refine S.ld 3 _ rfl _ 12 rfl 0 (Cel.iv i) rfl _ rfl _ Tryd.underlying3 rfl rfl ?_)
    | fail))
  refine wp_region_held_drew (S := fun w' => SH noZ w w' [(b2, Cel.iv i)]) (by kernel_rfl) (by exact S.drew) (fun _ => ?_)
  replace S := S.drew
  refine wpAnyH_take (i := 0) (oi := { dst := some 11, op := Op.fieldAddr 29 (Operand.tmp 1) 6, type := 0, pos := "encode.go:61", after := #[], guard := none }) (v := ?_) rfl (by kernel_rfl) (by kernel_rfl) (by kernel_rfl) (fun _ _ _ h => h) (Or.inl ⟨by rfl, ?_⟩) (by exact (by assumption)) ?_
  rotate_left 1
  · intro w hSw
    clear hSw
    go_simp
    try with_reducible rfl
  simp only [Act.put, List.setIfInBounds_toArray, List.set_cons_zero, List.set_cons_succ]
  refine wpAnyH_take (i := 1) (oi := { dst := some 12, op := Op.load 3 (Operand.tmp 11), type := 3, pos := "encode.go:61", after := #[{ on := 0, ground := Ground.data }], guard := none }) (v := _) rfl (by kernel_rfl) (by kernel_rfl) (by kernel_rfl) (fun _ _ _ h => h) (y_load1 (by rfl) _ _ rfl _ _ rfl 0 _ rfl _ rfl _ Tryd.underlying3 rfl) (by exact (by assumption)) ?_
  simp only [Act.put, List.setIfInBounds_toArray, List.set_cons_zero, List.set_cons_succ]
  refine wpAnyH_take (i := 2) (oi := { dst := some 13, op := Op.fieldAddr 29 (Operand.tmp 1) 4, type := 0, pos := "encode.go:61", after := #[], guard := none }) (v := ?_) rfl (by kernel_rfl) (by kernel_rfl) (by kernel_rfl) (fun _ _ _ h => h) (Or.inl ⟨by rfl, ?_⟩) (by exact (by assumption)) ?_
  rotate_left 1
  · intro w hSw
    clear hSw
    go_simp
    try with_reducible rfl
  simp only [Act.put, List.setIfInBounds_toArray, List.set_cons_zero, List.set_cons_succ]
  refine wpAnyH_take (i := 3) (oi := { dst := some 14, op := Op.load 3 (Operand.tmp 13), type := 3, pos := "encode.go:61", after := #[{ on := 2, ground := Ground.data }], guard := none }) (v := _) rfl (by kernel_rfl) (by kernel_rfl) (by kernel_rfl) (fun _ _ _ h => h) (y_load1 (by rfl) _ _ rfl _ _ rfl 0 _ rfl _ rfl _ Tryd.underlying3 rfl) (by exact (by assumption)) ?_
  simp only [Act.put, List.setIfInBounds_toArray, List.set_cons_zero, List.set_cons_succ]
  refine wpAnyH_take (i := 5) (oi := { dst := some 16, op := Op.fieldAddr 29 (Operand.tmp 1) 4, type := 0, pos := "encode.go:61", after := #[], guard := none }) (v := ?_) rfl (by kernel_rfl) (by kernel_rfl) (by kernel_rfl) (fun _ _ _ h => h) (Or.inl ⟨by rfl, ?_⟩) (by exact (by assumption)) ?_
  rotate_left 1
  · intro w hSw
    clear hSw
    go_simp
    try with_reducible rfl
  simp only [Act.put, List.setIfInBounds_toArray, List.set_cons_zero, List.set_cons_succ]
  refine wpAnyH_take (i := 6) (oi := { dst := some 17, op := Op.load 3 (Operand.tmp 16), type := 3, pos := "encode.go:61", after := #[{ on := 5, ground := Ground.data }], guard := none }) (v := _) rfl (by kernel_rfl) (by kernel_rfl) (by kernel_rfl) (fun _ _ _ h => h) (y_load1 (by rfl) _ _ rfl _ _ rfl 0 _ rfl _ rfl _ Tryd.underlying3 rfl) (by exact (by assumption)) ?_
  simp only [Act.put, List.setIfInBounds_toArray, List.set_cons_zero, List.set_cons_succ]
  refine wpAnyH_take (i := 7) (oi := { dst := some 18, op := Op.move (Operand.tmp 3), type := 3, pos := "encode.go:61", after := #[], guard := none }) (v := ?_) rfl (by kernel_rfl) (by kernel_rfl) (by kernel_rfl) (fun _ _ _ h => h) (Or.inl ⟨by rfl, ?_⟩) (by exact (by assumption)) ?_
  rotate_left 1
  · intro w hSw
    clear hSw
    go_simp
    try with_reducible rfl
  simp only [Act.put, List.setIfInBounds_toArray, List.set_cons_zero, List.set_cons_succ]
  refine wpAnyH_take (i := 9) (oi := { dst := some 20, op := Op.fieldAddr 29 (Operand.tmp 1) 4, type := 0, pos := "encode.go:61", after := #[], guard := none }) (v := ?_) rfl (by kernel_rfl) (by kernel_rfl) (by kernel_rfl) (fun _ _ _ h => h) (Or.inl ⟨by rfl, ?_⟩) (by exact (by assumption)) ?_
  rotate_left 1
  · intro w hSw
    clear hSw
    go_simp
    try with_reducible rfl
  simp only [Act.put, List.setIfInBounds_toArray, List.set_cons_zero, List.set_cons_succ]
  refine wpAnyH_take (i := 10) (oi := { dst := some 21, op := Op.load 3 (Operand.tmp 20), type := 3, pos := "encode.go:61", after := #[{ on := 9, ground := Ground.data }], guard := none }) (v := _) rfl (by kernel_rfl) (by kernel_rfl) (by kernel_rfl) (fun _ _ _ h => h) (y_load1 (by rfl) _ _ rfl _ _ rfl 0 _ rfl _ rfl _ Tryd.underlying3 rfl) (by exact (by assumption)) ?_
  simp only [Act.put, List.setIfInBounds_toArray, List.set_cons_zero, List.set_cons_succ]
  refine wpAnyH_take (i := 11) (oi := { dst := some 22, op := Op.fieldAddr 29 (Operand.tmp 1) 6, type := 0, pos := "encode.go:61", after := #[], guard := none }) (v := ?_) rfl (by kernel_rfl) (by kernel_rfl) (by kernel_rfl) (fun _ _ _ h => h) (Or.inl ⟨by rfl, ?_⟩) (by exact (by assumption)) ?_
  rotate_left 1
  · intro w hSw
    clear hSw
    go_simp
    try with_reducible rfl
  simp only [Act.put, List.setIfInBounds_toArray, List.set_cons_zero, List.set_cons_succ]
  refine wpAnyH_take (i := 12) (oi := { dst := some 23, op := Op.load 3 (Operand.tmp 22), type := 3, pos := "encode.go:61", after := #[{ on := 11, ground := Ground.data }], guard := none }) (v := _) rfl (by kernel_rfl) (by kernel_rfl) (by kernel_rfl) (fun _ _ _ h => h) (y_load1 (by rfl) _ _ rfl _ _ rfl 0 _ rfl _ rfl _ Tryd.underlying3 rfl) (by exact (by assumption)) ?_
  simp only [Act.put, List.setIfInBounds_toArray, List.set_cons_zero, List.set_cons_succ]
  refine wpAnyH_ready (rs := [4]) (by kernel_rfl) (by simp) ?_
  refine AllReadyH.cons rfl (fun K hK => ?_) AllReadyH.nil
  go_simp
  go_wp2_with (go_at_call 65; refine (three_5 0 (by decide) (by decide) 0 i.m i.d _).mono ?_; rintro e wf ⟨rfl, rfl⟩)
  refine hK.out _ _ (by exact S) (fun _ => ?_)
  clear hK K
  refine wpAnyH_ready (rs := [8]) (by kernel_rfl) (by simp) ?_
  refine AllReadyH.cons rfl (fun K hK => ?_) AllReadyH.nil
  go_simp
  go_wp2_with (go_at_call 66; refine (two_c 8192 (by decide) (by decide) i.d i.imm _).mono ?_; rintro e wf ⟨rfl, rfl⟩)
  refine hK.out _ _ (by exact S) (fun _ => ?_)
  clear hK K
  refine wpAnyH_ready (rs := [13]) (by kernel_rfl) (by simp) ?_
  refine AllReadyH.cons rfl (fun K hK => ?_) AllReadyH.nil
  go_simp
  go_wp2_with (go_at_call 67; refine (hi_c 17920 (by decide) (by decide) i.d i.m _).mono ?_; rintro e wf ⟨rfl, rfl⟩)
  refine hK.out _ _ (by exact S) (fun _ => ?_)
  clear hK K
  refine wpAnyH_ready (rs := [14]) (by kernel_rfl) (by simp) ?_
  refine AllReadyH.cons rfl (fun K hK => ?_) AllReadyH.nil
  rw [if_pos (by rfl)]
  refine S.wpSlice 25 rfl 25 3 _ rfl (uc [three5 0 0 i.m i.d, two8 8192 i.d i.imm, hiN 17920 i.d i.m]) 22 (by kernel_rfl) ?_
  clear S
  intro g w1 S
  refine hK.out _ _ (by exact S.fewer 1) (fun _ => ?_)
  simp only [Act.put, List.setIfInBounds_toArray, List.set_cons_zero, List.set_cons_succ]
  clear hK K
  refine wpAnyH_take (i := 15) (oi := { dst := some 2, op := Op.assign (Operand.tmp 25), type := 25, pos := "encode.go:61", after := #[{ on := 14, ground := Ground.data }, { on := 13, ground := Ground.chain }, { on := 0, ground := Ground.phase }, { on := 1, ground := Ground.phase }, { on := 2, ground := Ground.phase }, { on := 3, ground := Ground.phase }, { on := 4, ground := Ground.phase }, { on := 5, ground := Ground.phase }, { on := 6, ground := Ground.phase }, { on := 7, ground := Ground.phase }, { on := 8, ground := Ground.phase }, { on := 9, ground := Ground.phase }, { on := 10, ground := Ground.phase }, { on := 11, ground := Ground.phase }, { on := 12, ground := Ground.phase }, { on := 13, ground := Ground.phase }, { on := 14, ground := Ground.phase }], guard := none }) (v := ?_) rfl (by kernel_rfl) (by kernel_rfl) (by kernel_rfl) (fun _ _ _ h => h) (Or.inl ⟨by rfl, ?_⟩) (by exact (by assumption)) ?_
  rotate_left 1
  · intro w hSw
    clear hSw
    go_simp
    try with_reducible rfl
  simp only [Act.put, List.setIfInBounds_toArray, List.set_cons_zero, List.set_cons_succ]
  refine wpAnyH_done (by kernel_rfl) ?_ _
  go_wp2
  (try simp only [Exit.inBlock, Exit.then])
  go_ret
  exact ⟨_, rfl, HLs.of_blk (S.at (i := 0) rfl).1, S.low⟩
end Go.Proofs.YtblcklknlfofgaaDoor
namespace Go.Proofs.YtblcklknlfofgaaDoor
open Go.ChangeShapes Go.WideShapes Go.ChangeAt Go.RowKit
set_option linter.unusedVariables false
set_option linter.unusedSimpArgs false

set_option maxHeartbeats 4000000 in
set_option maxRecDepth 100000 in
theorem halves13_c (i : IV) (hop : i.op = 13) (hi : OKi i) (w : World) : Calls Tryd.prog 28 #[i.val] w fun e w' => HRes w [three5 0 0 i.m i.d, two8 8192 i.d i.imm, hiN 17920 i.d i.m] e w' := by
  have CC : Hid (∀ w1, Calls Tryd.prog 46 #[.int .i64 i.op] w1 fun e w' => e = .returned (.int .i64 1) ∧ w' = w1) := fun w1 => by
    have := class_c i.op w1
    rw [hop] at this ⊢
    exact this
  have HOP : Hid (i.op = 13) := hop
  clear hop
  go_enter Tryd.func28, Tryd.ntmps28
  have S := SH.start w
  go_wp2_with (first
  | (go_at_call 46; with_reducible refine (CC.out _).mono ?_; rintro e wf ⟨rfl, rfl⟩)
  | (go_at_call 47; refine (data13_c i HOP.out hi _).mono ?_; rintro e wf ⟨v, rfl, hv, hbf⟩; replace S := S.below hbf; clear hbf)
  | ((with_reducible refine wpl_is ?_); first
    | (refine SH.box (L := []) S rfl 29 _ rfl (Cel.iv i) rfl ?_; clear S; intro b2 w0 S)
    | (refine S.ld 3 _ rfl _ 0 rfl 0 (Cel.iv i) rfl _ rfl _ Tryd.underlying3 rfl rfl ?_)
    | (refine S.ld 3 _ rfl _ 3 rfl 0 (Cel.iv i) rfl _ rfl _ Tryd.underlying3 rfl rfl ?_)
    | (refine S.ld 3 _ rfl _ 4 rfl 0 (Cel.iv i) rfl _ rfl _ Tryd.underlying3 rfl rfl ?_)
    | (refine S.ld 3 _ rfl _ 5 rfl 0 (Cel.iv i) rfl _ rfl _ Tryd.underlying3 rfl rfl ?_)
    | (refine S.ld 3 _ rfl _ 6 rfl 0 (Cel.iv i) rfl _ rfl _ Tryd.underlying3 rfl rfl ?_)
    | (refine S.ld 27 _ rfl _ 8 rfl 0 (Cel.iv i) rfl _ rfl _ Tryd.underlying27 rfl rfl ?_)
    | (refine S.ld 3 _ rfl _ 12 rfl 0 (Cel.iv i) rfl _ rfl _ Tryd.underlying3 rfl rfl ?_)
    | (refine S.ldAll 29 _ rfl _ rfl 0 (Cel.iv i) rfl _ Tryd.underlying29 rfl (szIV _) rfl ?_)))
  (try simp only [Exit.inBlock, Exit.then])
  go_ret
  exact ⟨_, rfl, hv, S.low⟩
set_option maxHeartbeats 4000000 in
set_option maxRecDepth 100000 in
theorem halves54_c (i : IV) (hop : i.op = 54) (hi : OKi i) (w : World) : Calls Tryd.prog 28 #[i.val] w fun e w' => HRes w (brN i.cond i.imm) e w' := by
  have CC : Hid (∀ w1, Calls Tryd.prog 46 #[.int .i64 i.op] w1 fun e w' => e = .returned (.int .i64 6) ∧ w' = w1) := fun w1 => by
    have := class_c i.op w1
    rw [hop] at this ⊢
    exact this
  have HOP : Hid (i.op = 54) := hop
  clear hop
  go_enter Tryd.func28, Tryd.ntmps28
  have S := SH.start w
  go_wp2_with (first
  | (go_at_call 46; with_reducible refine (CC.out _).mono ?_; rintro e wf ⟨rfl, rfl⟩)
  | (go_at_call 52; refine (branchB_c i HOP.out hi _).mono ?_; rintro e wf ⟨v, rfl, hv, hbf⟩; replace S := S.below hbf; clear hbf)
  | ((with_reducible refine wpl_is ?_); first
    | (refine SH.box (L := []) S rfl 29 _ rfl (Cel.iv i) rfl ?_; clear S; intro b2 w0 S)
    | (refine S.ld 3 _ rfl _ 0 rfl 0 (Cel.iv i) rfl _ rfl _ Tryd.underlying3 rfl rfl ?_)
    | (refine S.ld 3 _ rfl _ 3 rfl 0 (Cel.iv i) rfl _ rfl _ Tryd.underlying3 rfl rfl ?_)
    | (refine S.ld 3 _ rfl _ 4 rfl 0 (Cel.iv i) rfl _ rfl _ Tryd.underlying3 rfl rfl ?_)
    | (refine S.ld 3 _ rfl _ 5 rfl 0 (Cel.iv i) rfl _ rfl _ Tryd.underlying3 rfl rfl ?_)
    | (refine S.ld 3 _ rfl _ 6 rfl 0 (Cel.iv i) rfl _ rfl _ Tryd.underlying3 rfl rfl ?_)
    | (refine S.ld 27 _ rfl _ 8 rfl 0 (Cel.iv i) rfl _ rfl _ Tryd.underlying27 rfl rfl ?_)
    | (refine S.ld 3 _ rfl _ 12 rfl 0 (Cel.iv i) rfl _ rfl _ Tryd.underlying3 rfl rfl ?_)
    | (refine S.ldAll 29 _ rfl _ rfl 0 (Cel.iv i) rfl _ Tryd.underlying29 rfl (szIV _) rfl ?_)))
  (try simp only [Exit.inBlock, Exit.then])
  go_ret
  exact ⟨_, rfl, hv, S.low⟩
set_option maxHeartbeats 4000000 in
set_option maxRecDepth 100000 in
theorem halves0_c (i : IV) (hop : i.op = 0) (w : World) : Calls Tryd.prog 28 #[i.val] w fun e w' => HRes w [] e w' := by
  have CC : Hid (∀ w1, Calls Tryd.prog 46 #[.int .i64 i.op] w1 fun e w' => e = .returned (.int .i64 0) ∧ w' = w1) := fun w1 => by
    have := class_c i.op w1
    rw [hop] at this ⊢
    exact this
  have HOP : Hid (i.op = 0) := hop
  clear hop
  go_enter Tryd.func28, Tryd.ntmps28
  have S := SH.start w
  go_wp2_with (first
  | (go_at_call 46; with_reducible refine (CC.out _).mono ?_; rintro e wf ⟨rfl, rfl⟩)
  | ((with_reducible refine wpl_is ?_); first
    | (refine SH.box (L := []) S rfl 29 _ rfl (Cel.iv i) rfl ?_; clear S; intro b2 w0 S)
    | (refine S.ld 3 _ rfl _ 0 rfl 0 (Cel.iv i) rfl _ rfl _ Tryd.underlying3 rfl rfl ?_)
    | (refine S.ld 3 _ rfl _ 3 rfl 0 (Cel.iv i) rfl _ rfl _ Tryd.underlying3 rfl rfl ?_)
    | (refine S.ld 3 _ rfl _ 4 rfl 0 (Cel.iv i) rfl _ rfl _ Tryd.underlying3 rfl rfl ?_)
    | (refine S.ld 3 _ rfl _ 5 rfl 0 (Cel.iv i) rfl _ rfl _ Tryd.underlying3 rfl rfl ?_)
    | (refine S.ld 3 _ rfl _ 6 rfl 0 (Cel.iv i) rfl _ rfl _ Tryd.underlying3 rfl rfl ?_)
    | (refine S.ld 27 _ rfl _ 8 rfl 0 (Cel.iv i) rfl _ rfl _ Tryd.underlying27 rfl rfl ?_)
    | (refine S.ld 3 _ rfl _ 12 rfl 0 (Cel.iv i) rfl _ rfl _ Tryd.underlying3 rfl rfl ?_)
    | (refine S.ldAll 29 _ rfl _ rfl 0 (Cel.iv i) rfl _ Tryd.underlying29 rfl (szIV _) rfl ?_)))
  (try simp only [Exit.inBlock, Exit.then])
  go_ret
  exact ⟨_, rfl, HLs.nil _, S.low⟩
end Go.Proofs.YtblcklknlfofgaaDoor
