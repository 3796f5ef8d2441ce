/- Stage 8: halves of Data -/
import Derived.Test.YtblcklknlfofgaaDoorThH1
import Derived.Test.YtblcklknlfofgaaDoorThRS
namespace Go.Proofs.YtblcklknlfofgaaDoor
open Go.ChangeShapes Go.WideShapes Go.ChangeAt Go.RowKit
set_option linter.unusedVariables false
set_option linter.unusedSimpArgs false

theorem wrap_q (v k : Int) (h0 : 0 ≤ v) (h1 : v ≤ 4294967295) (hk : 0 ≤ k) : IntKind.i64.wrap (v / k) = v / k := by
  have a := Int.ediv_nonneg h0 hk
  have b := Int.ediv_le_self k h0
  rw [IntKind.wrap_i64]
  omega
theorem low_one (i : IV) (op : Nat) (h : Nat.blt (posIn lowL op 0) 16 = true) : (lowZ i op).length = 1 := by
  unfold lowZ
  rw [h]
  rfl
theorem move7 (page : Nat) (hp : page % 128 = 0) (hp1 : page < 65536) (v : Int) : bits .or .u16 (page : Int) ((putN v 0 7 : Nat) : Int) = ((page + putN v 0 7 : Nat) : Int) := by
  have a : putN v 0 7 < 128 := putN_lt _ 0 7
  exact u16_join page _ 7 hp hp1 a (by omega)
set_option maxHeartbeats 4000000 in
set_option maxRecDepth 100000 in
theorem data17_c (i : IV) (hop : i.op = ((17 : Nat) : Int)) (hi : OKi i) (w : World) (HT : LT w) : Calls Tryd.prog 47 #[i.val] w fun e w' => HRes w (three5 0 i.imm i.n i.d :: lowZ i 17) e w' := by
  obtain ⟨hi0, hi1⟩ := hi
  have ht := tdiv_pos i.imm 4 hi0
  have hw := wrap_q i.imm 4 hi0 hi1 (by decide)
  go_enter Tryd.func47, Tryd.ntmps47
  have S := SH.start w
  go_wp2_with (first
    | ((with_reducible refine wpl_is ?_); first
      | (refine SH.box (L := []) S rfl 29 _ rfl (Cel.iv i) rfl ?_; clear S; intro b2 w0 S)
      | (refine S.ld 3 _ rfl _ 0 rfl 0 (Cel.iv i) rfl _ rfl _ Tryd.underlying3 rfl rfl ?_)
      | (refine S.ld 27 _ rfl _ 8 rfl 0 (Cel.iv i) rfl _ rfl _ Tryd.underlying27 rfl rfl ?_)))
  refine wp_region_held_drew (S := fun w' => SH noZ w w' [(b2, Cel.iv i)]) (by kernel_rfl) (by exact S.drew) (fun _ => ?_)
  replace S := S.drew
  refine wpAnyH_take (i := 0) (oi := { dst := some 28, op := Op.move (Operand.tmp 3), type := 3, pos := "encode.go:63", after := #[], guard := none }) (v := ?_) rfl (by kernel_rfl) (by kernel_rfl) (by kernel_rfl) (fun _ _ _ h => h) (Or.inl ⟨by rfl, ?_⟩) (by exact (by first | assumption | exact S.dropR)) ?_
  rotate_left 1
  · intro w hSw
    clear hSw
    go_simp
    try with_reducible rfl
  simp only [Act.put, List.setIfInBounds_toArray, List.set_cons_zero, List.set_cons_succ]
  refine wpAnyH_take (i := 1) (oi := { dst := some 29, op := Op.fieldAddr 29 (Operand.tmp 1) 5, type := 0, pos := "encode.go:63", after := #[], guard := none }) (v := ?_) rfl (by kernel_rfl) (by kernel_rfl) (by kernel_rfl) (fun _ _ _ h => h) (Or.inl ⟨by rfl, ?_⟩) (by exact (by first | assumption | exact S.dropR)) ?_
  rotate_left 1
  · intro w hSw
    clear hSw
    go_simp
    try with_reducible rfl
  simp only [Act.put, List.setIfInBounds_toArray, List.set_cons_zero, List.set_cons_succ]
  refine wpAnyH_take (i := 2) (oi := { dst := some 30, op := Op.load 3 (Operand.tmp 29), type := 3, pos := "encode.go:63", after := #[{ on := 1, ground := Ground.data }], guard := none }) (v := _) rfl (by kernel_rfl) (by kernel_rfl) (by kernel_rfl) (fun _ _ _ h => h) (y_load1 (by rfl) _ _ rfl _ _ rfl 0 _ rfl _ rfl _ Tryd.underlying3 rfl) (by exact (by first | assumption | exact S.dropR)) ?_
  simp only [Act.put, List.setIfInBounds_toArray, List.set_cons_zero, List.set_cons_succ]
  refine wpAnyH_take (i := 3) (oi := { dst := some 31, op := Op.fieldAddr 29 (Operand.tmp 1) 4, type := 0, pos := "encode.go:63", after := #[], guard := none }) (v := ?_) rfl (by kernel_rfl) (by kernel_rfl) (by kernel_rfl) (fun _ _ _ h => h) (Or.inl ⟨by rfl, ?_⟩) (by exact (by first | assumption | exact S.dropR)) ?_
  rotate_left 1
  · intro w hSw
    clear hSw
    go_simp
    try with_reducible rfl
  simp only [Act.put, List.setIfInBounds_toArray, List.set_cons_zero, List.set_cons_succ]
  refine wpAnyH_take (i := 4) (oi := { dst := some 32, op := Op.load 3 (Operand.tmp 31), type := 3, pos := "encode.go:63", after := #[{ on := 3, ground := Ground.data }], guard := none }) (v := _) rfl (by kernel_rfl) (by kernel_rfl) (by kernel_rfl) (fun _ _ _ h => h) (y_load1 (by rfl) _ _ rfl _ _ rfl 0 _ rfl _ rfl _ Tryd.underlying3 rfl) (by exact (by first | assumption | exact S.dropR)) ?_
  simp only [Act.put, List.setIfInBounds_toArray, List.set_cons_zero, List.set_cons_succ]
  refine wpAnyH_take (i := 7) (oi := { dst := some 35, op := Op.load 29 (Operand.tmp 1), type := 29, pos := "encode.go:63", after := #[], guard := none }) (v := _) rfl (by kernel_rfl) (by kernel_rfl) (by kernel_rfl) (fun _ _ _ h => h) (y_loadAll (by rfl) _ _ rfl _ rfl 0 _ rfl _ Tryd.underlying29 rfl (szIV _)) (by exact (by first | assumption | exact S.dropR)) ?_
  simp only [Act.put, List.setIfInBounds_toArray, List.set_cons_zero, List.set_cons_succ]
  refine wpAnyH_ready (rs := [5]) (by kernel_rfl) (by simp) ?_
  refine AllReadyH.cons rfl (fun K hK => ?_) AllReadyH.nil
  go_simp
  go_wp2_with (go_at_call 65; refine (three_5 0 (by decide) (by decide) i.imm i.n i.d _).mono ?_; rintro e wf ⟨rfl, rfl⟩)
  refine hK.out _ _ (by exact S) (fun _ => ?_)
  clear hK K
  refine wpAnyH_ready (rs := [6, 8]) (by kernel_rfl) (by simp) ?_
  refine AllReadyH.cons rfl (fun K hK => ?_) (AllReadyH.cons rfl (fun K hK => ?_) (AllReadyH.nil))
  · rw [if_pos (by rfl)]
    refine S.wpSliceR 34 rfl _ rfl (three5 0 i.imm i.n i.d) rfl ?_
    clear S
    intro g w1 S hbN
    (try replace hv := hv.below hbN)
    clear hbN
    refine hK.out _ _ (by exact S.dropR) (fun _ => ?_)
    simp only [Act.put, List.setIfInBounds_toArray, List.set_cons_zero, List.set_cons_succ]
    clear hK K
    refine wpAnyH_ready (rs := [8]) (by kernel_rfl) (by simp) ?_
    refine AllReadyH.cons rfl (fun K hK => ?_) AllReadyH.nil
    go_simp
    go_wp2_with (go_at_call 48; refine (lowh_c i 17 hop _ (HT.next (by first | exact S.low | exact S.dropR.low))).mono ?_; rintro e wf ⟨v, rfl, hv, hbf⟩)
    replace S := S.below hbf
    clear hbf
    refine hK.out _ _ (by first | exact S | exact S.dropR) (fun _ => ?_)
    clear hK K
    refine wpAnyH_ready (rs := [9]) (by kernel_rfl) (by simp) ?_
    refine AllReadyH.cons rfl (fun K hK => ?_) AllReadyH.nil
    rw [if_pos (by rfl)]
    refine S.wpAppendR 37 rfl _ _ rfl rfl rfl v rfl (lowZ i 17) hv (by rw [low_one i 17 rfl]; decide) (by rw [low_one i 17 rfl]; simp) ?_
    clear S
    intro g2 cap2 w2 S
    refine hK.out _ _ (by exact S.dropR) (fun _ => ?_)
    simp only [Act.put, List.setIfInBounds_toArray, List.set_cons_zero, List.set_cons_succ]
    clear hK K
    refine wpAnyH_take (i := 10) (oi := { dst := some 2, op := Op.assign (Operand.tmp 37), type := 25, pos := "encode.go:63", after := #[{ on := 9, ground := Ground.data }, { on := 9, ground := Ground.chain }, { on := 0, ground := Ground.phase }, { on := 1, ground := Ground.phase }, { on := 2, ground := Ground.phase }, { on := 3, ground := Ground.phase }, { on := 4, ground := Ground.phase }, { on := 5, ground := Ground.phase }, { on := 6, ground := Ground.phase }, { on := 7, ground := Ground.phase }, { on := 8, ground := Ground.phase }, { on := 9, ground := Ground.phase }], guard := none }) (v := ?_) rfl (by kernel_rfl) (by kernel_rfl) (by kernel_rfl) (fun _ _ _ h => h) (Or.inl ⟨by rfl, ?_⟩) (by exact (by first | assumption | exact S.dropR)) ?_
    rotate_left 1
    · intro w hSw
      clear hSw
      go_simp
      try with_reducible rfl
    simp only [Act.put, List.setIfInBounds_toArray, List.set_cons_zero, List.set_cons_succ]
    refine wpAnyH_done (by kernel_rfl) ?_ _
    go_wp2
    (try simp only [Exit.inBlock, Exit.then])
    go_ret
    exact ⟨_, rfl, S.rowHLs rfl, S.dropR.low⟩
  · go_simp
    go_wp2_with (go_at_call 48; refine (lowh_c i 17 hop _ (HT.next (by first | exact S.low | exact S.dropR.low))).mono ?_; rintro e wf ⟨v, rfl, hv, hbf⟩)
    replace S := S.below hbf
    clear hbf
    refine hK.out _ _ (by first | exact S | exact S.dropR) (fun _ => ?_)
    clear hK K
    refine wpAnyH_ready (rs := [6]) (by kernel_rfl) (by simp) ?_
    refine AllReadyH.cons rfl (fun K hK => ?_) AllReadyH.nil
    rw [if_pos (by rfl)]
    refine S.wpSliceR 34 rfl _ rfl (three5 0 i.imm i.n i.d) rfl ?_
    clear S
    intro g w1 S hbN
    (try replace hv := hv.below hbN)
    clear hbN
    refine hK.out _ _ (by exact S.dropR) (fun _ => ?_)
    simp only [Act.put, List.setIfInBounds_toArray, List.set_cons_zero, List.set_cons_succ]
    clear hK K
    refine wpAnyH_ready (rs := [9]) (by kernel_rfl) (by simp) ?_
    refine AllReadyH.cons rfl (fun K hK => ?_) AllReadyH.nil
    rw [if_pos (by rfl)]
    refine S.wpAppendR 37 rfl _ _ rfl rfl rfl v rfl (lowZ i 17) hv (by rw [low_one i 17 rfl]; decide) (by rw [low_one i 17 rfl]; simp) ?_
    clear S
    intro g2 cap2 w2 S
    refine hK.out _ _ (by exact S.dropR) (fun _ => ?_)
    simp only [Act.put, List.setIfInBounds_toArray, List.set_cons_zero, List.set_cons_succ]
    clear hK K
    refine wpAnyH_take (i := 10) (oi := { dst := some 2, op := Op.assign (Operand.tmp 37), type := 25, pos := "encode.go:63", after := #[{ on := 9, ground := Ground.data }, { on := 9, ground := Ground.chain }, { on := 0, ground := Ground.phase }, { on := 1, ground := Ground.phase }, { on := 2, ground := Ground.phase }, { on := 3, ground := Ground.phase }, { on := 4, ground := Ground.phase }, { on := 5, ground := Ground.phase }, { on := 6, ground := Ground.phase }, { on := 7, ground := Ground.phase }, { on := 8, ground := Ground.phase }, { on := 9, ground := Ground.phase }], guard := none }) (v := ?_) rfl (by kernel_rfl) (by kernel_rfl) (by kernel_rfl) (fun _ _ _ h => h) (Or.inl ⟨by rfl, ?_⟩) (by exact (by first | assumption | exact S.dropR)) ?_
    rotate_left 1
    · intro w hSw
      clear hSw
      go_simp
      try with_reducible rfl
    simp only [Act.put, List.setIfInBounds_toArray, List.set_cons_zero, List.set_cons_succ]
    refine wpAnyH_done (by kernel_rfl) ?_ _
    go_wp2
    (try simp only [Exit.inBlock, Exit.then])
    go_ret
    exact ⟨_, rfl, S.rowHLs rfl, S.dropR.low⟩
set_option maxHeartbeats 4000000 in
set_option maxRecDepth 100000 in
theorem data18_c (i : IV) (hop : i.op = ((18 : Nat) : Int)) (hi : OKi i) (w : World) (HT : LT w) : Calls Tryd.prog 47 #[i.val] w fun e w' => HRes w (three5 2048 i.imm i.n i.d :: lowZ i 18) e w' := by
  obtain ⟨hi0, hi1⟩ := hi
  have ht := tdiv_pos i.imm 4 hi0
  have hw := wrap_q i.imm 4 hi0 hi1 (by decide)
  go_enter Tryd.func47, Tryd.ntmps47
  have S := SH.start w
  go_wp2_with (first
    | ((with_reducible refine wpl_is ?_); first
      | (refine SH.box (L := []) S rfl 29 _ rfl (Cel.iv i) rfl ?_; clear S; intro b2 w0 S)
      | (refine S.ld 3 _ rfl _ 0 rfl 0 (Cel.iv i) rfl _ rfl _ Tryd.underlying3 rfl rfl ?_)
      | (refine S.ld 27 _ rfl _ 8 rfl 0 (Cel.iv i) rfl _ rfl _ Tryd.underlying27 rfl rfl ?_)))
  refine wp_region_held_drew (S := fun w' => SH noZ w w' [(b2, Cel.iv i)]) (by kernel_rfl) (by exact S.drew) (fun _ => ?_)
  replace S := S.drew
  refine wpAnyH_take (i := 0) (oi := { dst := some 40, op := Op.move (Operand.tmp 3), type := 3, pos := "encode.go:65", after := #[], guard := none }) (v := ?_) rfl (by kernel_rfl) (by kernel_rfl) (by kernel_rfl) (fun _ _ _ h => h) (Or.inl ⟨by rfl, ?_⟩) (by exact (by first | assumption | exact S.dropR)) ?_
  rotate_left 1
  · intro w hSw
    clear hSw
    go_simp
    try with_reducible rfl
  simp only [Act.put, List.setIfInBounds_toArray, List.set_cons_zero, List.set_cons_succ]
  refine wpAnyH_take (i := 1) (oi := { dst := some 41, op := Op.fieldAddr 29 (Operand.tmp 1) 5, type := 0, pos := "encode.go:65", after := #[], guard := none }) (v := ?_) rfl (by kernel_rfl) (by kernel_rfl) (by kernel_rfl) (fun _ _ _ h => h) (Or.inl ⟨by rfl, ?_⟩) (by exact (by first | assumption | exact S.dropR)) ?_
  rotate_left 1
  · intro w hSw
    clear hSw
    go_simp
    try with_reducible rfl
  simp only [Act.put, List.setIfInBounds_toArray, List.set_cons_zero, List.set_cons_succ]
  refine wpAnyH_take (i := 2) (oi := { dst := some 42, op := Op.load 3 (Operand.tmp 41), type := 3, pos := "encode.go:65", after := #[{ on := 1, ground := Ground.data }], guard := none }) (v := _) rfl (by kernel_rfl) (by kernel_rfl) (by kernel_rfl) (fun _ _ _ h => h) (y_load1 (by rfl) _ _ rfl _ _ rfl 0 _ rfl _ rfl _ Tryd.underlying3 rfl) (by exact (by first | assumption | exact S.dropR)) ?_
  simp only [Act.put, List.setIfInBounds_toArray, List.set_cons_zero, List.set_cons_succ]
  refine wpAnyH_take (i := 3) (oi := { dst := some 43, op := Op.fieldAddr 29 (Operand.tmp 1) 4, type := 0, pos := "encode.go:65", after := #[], guard := none }) (v := ?_) rfl (by kernel_rfl) (by kernel_rfl) (by kernel_rfl) (fun _ _ _ h => h) (Or.inl ⟨by rfl, ?_⟩) (by exact (by first | assumption | exact S.dropR)) ?_
  rotate_left 1
  · intro w hSw
    clear hSw
    go_simp
    try with_reducible rfl
  simp only [Act.put, List.setIfInBounds_toArray, List.set_cons_zero, List.set_cons_succ]
  refine wpAnyH_take (i := 4) (oi := { dst := some 44, op := Op.load 3 (Operand.tmp 43), type := 3, pos := "encode.go:65", after := #[{ on := 3, ground := Ground.data }], guard := none }) (v := _) rfl (by kernel_rfl) (by kernel_rfl) (by kernel_rfl) (fun _ _ _ h => h) (y_load1 (by rfl) _ _ rfl _ _ rfl 0 _ rfl _ rfl _ Tryd.underlying3 rfl) (by exact (by first | assumption | exact S.dropR)) ?_
  simp only [Act.put, List.setIfInBounds_toArray, List.set_cons_zero, List.set_cons_succ]
  refine wpAnyH_take (i := 7) (oi := { dst := some 47, op := Op.load 29 (Operand.tmp 1), type := 29, pos := "encode.go:65", after := #[], guard := none }) (v := _) rfl (by kernel_rfl) (by kernel_rfl) (by kernel_rfl) (fun _ _ _ h => h) (y_loadAll (by rfl) _ _ rfl _ rfl 0 _ rfl _ Tryd.underlying29 rfl (szIV _)) (by exact (by first | assumption | exact S.dropR)) ?_
  simp only [Act.put, List.setIfInBounds_toArray, List.set_cons_zero, List.set_cons_succ]
  refine wpAnyH_ready (rs := [5]) (by kernel_rfl) (by simp) ?_
  refine AllReadyH.cons rfl (fun K hK => ?_) AllReadyH.nil
  go_simp
  go_wp2_with (go_at_call 65; refine (three_5 2048 (by decide) (by decide) i.imm i.n i.d _).mono ?_; rintro e wf ⟨rfl, rfl⟩)
  refine hK.out _ _ (by exact S) (fun _ => ?_)
  clear hK K
  refine wpAnyH_ready (rs := [6, 8]) (by kernel_rfl) (by simp) ?_
  refine AllReadyH.cons rfl (fun K hK => ?_) (AllReadyH.cons rfl (fun K hK => ?_) (AllReadyH.nil))
  · rw [if_pos (by rfl)]
    refine S.wpSliceR 46 rfl _ rfl (three5 2048 i.imm i.n i.d) rfl ?_
    clear S
    intro g w1 S hbN
    (try replace hv := hv.below hbN)
    clear hbN
    refine hK.out _ _ (by exact S.dropR) (fun _ => ?_)
    simp only [Act.put, List.setIfInBounds_toArray, List.set_cons_zero, List.set_cons_succ]
    clear hK K
    refine wpAnyH_ready (rs := [8]) (by kernel_rfl) (by simp) ?_
    refine AllReadyH.cons rfl (fun K hK => ?_) AllReadyH.nil
    go_simp
    go_wp2_with (go_at_call 48; refine (lowh_c i 18 hop _ (HT.next (by first | exact S.low | exact S.dropR.low))).mono ?_; rintro e wf ⟨v, rfl, hv, hbf⟩)
    replace S := S.below hbf
    clear hbf
    refine hK.out _ _ (by first | exact S | exact S.dropR) (fun _ => ?_)
    clear hK K
    refine wpAnyH_ready (rs := [9]) (by kernel_rfl) (by simp) ?_
    refine AllReadyH.cons rfl (fun K hK => ?_) AllReadyH.nil
    rw [if_pos (by rfl)]
    refine S.wpAppendR 49 rfl _ _ rfl rfl rfl v rfl (lowZ i 18) hv (by rw [low_one i 18 rfl]; decide) (by rw [low_one i 18 rfl]; simp) ?_
    clear S
    intro g2 cap2 w2 S
    refine hK.out _ _ (by exact S.dropR) (fun _ => ?_)
    simp only [Act.put, List.setIfInBounds_toArray, List.set_cons_zero, List.set_cons_succ]
    clear hK K
    refine wpAnyH_take (i := 10) (oi := { dst := some 2, op := Op.assign (Operand.tmp 49), type := 25, pos := "encode.go:65", after := #[{ on := 9, ground := Ground.data }, { on := 9, ground := Ground.chain }, { on := 0, ground := Ground.phase }, { on := 1, ground := Ground.phase }, { on := 2, ground := Ground.phase }, { on := 3, ground := Ground.phase }, { on := 4, ground := Ground.phase }, { on := 5, ground := Ground.phase }, { on := 6, ground := Ground.phase }, { on := 7, ground := Ground.phase }, { on := 8, ground := Ground.phase }, { on := 9, ground := Ground.phase }], guard := none }) (v := ?_) rfl (by kernel_rfl) (by kernel_rfl) (by kernel_rfl) (fun _ _ _ h => h) (Or.inl ⟨by rfl, ?_⟩) (by exact (by first | assumption | exact S.dropR)) ?_
    rotate_left 1
    · intro w hSw
      clear hSw
      go_simp
      try with_reducible rfl
    simp only [Act.put, List.setIfInBounds_toArray, List.set_cons_zero, List.set_cons_succ]
    refine wpAnyH_done (by kernel_rfl) ?_ _
    go_wp2
    (try simp only [Exit.inBlock, Exit.then])
    go_ret
    exact ⟨_, rfl, S.rowHLs rfl, S.dropR.low⟩
  · go_simp
    go_wp2_with (go_at_call 48; refine (lowh_c i 18 hop _ (HT.next (by first | exact S.low | exact S.dropR.low))).mono ?_; rintro e wf ⟨v, rfl, hv, hbf⟩)
    replace S := S.below hbf
    clear hbf
    refine hK.out _ _ (by first | exact S | exact S.dropR) (fun _ => ?_)
    clear hK K
    refine wpAnyH_ready (rs := [6]) (by kernel_rfl) (by simp) ?_
    refine AllReadyH.cons rfl (fun K hK => ?_) AllReadyH.nil
    rw [if_pos (by rfl)]
    refine S.wpSliceR 46 rfl _ rfl (three5 2048 i.imm i.n i.d) rfl ?_
    clear S
    intro g w1 S hbN
    (try replace hv := hv.below hbN)
    clear hbN
    refine hK.out _ _ (by exact S.dropR) (fun _ => ?_)
    simp only [Act.put, List.setIfInBounds_toArray, List.set_cons_zero, List.set_cons_succ]
    clear hK K
    refine wpAnyH_ready (rs := [9]) (by kernel_rfl) (by simp) ?_
    refine AllReadyH.cons rfl (fun K hK => ?_) AllReadyH.nil
    rw [if_pos (by rfl)]
    refine S.wpAppendR 49 rfl _ _ rfl rfl rfl v rfl (lowZ i 18) hv (by rw [low_one i 18 rfl]; decide) (by rw [low_one i 18 rfl]; simp) ?_
    clear S
    intro g2 cap2 w2 S
    refine hK.out _ _ (by exact S.dropR) (fun _ => ?_)
    simp only [Act.put, List.setIfInBounds_toArray, List.set_cons_zero, List.set_cons_succ]
    clear hK K
    refine wpAnyH_take (i := 10) (oi := { dst := some 2, op := Op.assign (Operand.tmp 49), type := 25, pos := "encode.go:65", after := #[{ on := 9, ground := Ground.data }, { on := 9, ground := Ground.chain }, { on := 0, ground := Ground.phase }, { on := 1, ground := Ground.phase }, { on := 2, ground := Ground.phase }, { on := 3, ground := Ground.phase }, { on := 4, ground := Ground.phase }, { on := 5, ground := Ground.phase }, { on := 6, ground := Ground.phase }, { on := 7, ground := Ground.phase }, { on := 8, ground := Ground.phase }, { on := 9, ground := Ground.phase }], guard := none }) (v := ?_) rfl (by kernel_rfl) (by kernel_rfl) (by kernel_rfl) (fun _ _ _ h => h) (Or.inl ⟨by rfl, ?_⟩) (by exact (by first | assumption | exact S.dropR)) ?_
    rotate_left 1
    · intro w hSw
      clear hSw
      go_simp
      try with_reducible rfl
    simp only [Act.put, List.setIfInBounds_toArray, List.set_cons_zero, List.set_cons_succ]
    refine wpAnyH_done (by kernel_rfl) ?_ _
    go_wp2
    (try simp only [Exit.inBlock, Exit.then])
    go_ret
    exact ⟨_, rfl, S.rowHLs rfl, S.dropR.low⟩
set_option maxHeartbeats 4000000 in
set_option maxRecDepth 100000 in
theorem data19_c (i : IV) (hop : i.op = ((19 : Nat) : Int)) (hi : OKi i) (w : World) (HT : LT w) : Calls Tryd.prog 47 #[i.val] w fun e w' => HRes w (three5 4096 i.imm i.n i.d :: lowZ i 19) e w' := by
  obtain ⟨hi0, hi1⟩ := hi
  have ht := tdiv_pos i.imm 4 hi0
  have hw := wrap_q i.imm 4 hi0 hi1 (by decide)
  go_enter Tryd.func47, Tryd.ntmps47
  have S := SH.start w
  go_wp2_with (first
    | ((with_reducible refine wpl_is ?_); first
      | (refine SH.box (L := []) S rfl 29 _ rfl (Cel.iv i) rfl ?_; clear S; intro b2 w0 S)
      | (refine S.ld 3 _ rfl _ 0 rfl 0 (Cel.iv i) rfl _ rfl _ Tryd.underlying3 rfl rfl ?_)
      | (refine S.ld 27 _ rfl _ 8 rfl 0 (Cel.iv i) rfl _ rfl _ Tryd.underlying27 rfl rfl ?_)))
  refine wp_region_held_drew (S := fun w' => SH noZ w w' [(b2, Cel.iv i)]) (by kernel_rfl) (by exact S.drew) (fun _ => ?_)
  replace S := S.drew
  refine wpAnyH_take (i := 0) (oi := { dst := some 52, op := Op.move (Operand.tmp 3), type := 3, pos := "encode.go:67", after := #[], guard := none }) (v := ?_) rfl (by kernel_rfl) (by kernel_rfl) (by kernel_rfl) (fun _ _ _ h => h) (Or.inl ⟨by rfl, ?_⟩) (by exact (by first | assumption | exact S.dropR)) ?_
  rotate_left 1
  · intro w hSw
    clear hSw
    go_simp
    try with_reducible rfl
  simp only [Act.put, List.setIfInBounds_toArray, List.set_cons_zero, List.set_cons_succ]
  refine wpAnyH_take (i := 1) (oi := { dst := some 53, op := Op.fieldAddr 29 (Operand.tmp 1) 5, type := 0, pos := "encode.go:67", after := #[], guard := none }) (v := ?_) rfl (by kernel_rfl) (by kernel_rfl) (by kernel_rfl) (fun _ _ _ h => h) (Or.inl ⟨by rfl, ?_⟩) (by exact (by first | assumption | exact S.dropR)) ?_
  rotate_left 1
  · intro w hSw
    clear hSw
    go_simp
    try with_reducible rfl
  simp only [Act.put, List.setIfInBounds_toArray, List.set_cons_zero, List.set_cons_succ]
  refine wpAnyH_take (i := 2) (oi := { dst := some 54, op := Op.load 3 (Operand.tmp 53), type := 3, pos := "encode.go:67", after := #[{ on := 1, ground := Ground.data }], guard := none }) (v := _) rfl (by kernel_rfl) (by kernel_rfl) (by kernel_rfl) (fun _ _ _ h => h) (y_load1 (by rfl) _ _ rfl _ _ rfl 0 _ rfl _ rfl _ Tryd.underlying3 rfl) (by exact (by first | assumption | exact S.dropR)) ?_
  simp only [Act.put, List.setIfInBounds_toArray, List.set_cons_zero, List.set_cons_succ]
  refine wpAnyH_take (i := 3) (oi := { dst := some 55, op := Op.fieldAddr 29 (Operand.tmp 1) 4, type := 0, pos := "encode.go:67", after := #[], guard := none }) (v := ?_) rfl (by kernel_rfl) (by kernel_rfl) (by kernel_rfl) (fun _ _ _ h => h) (Or.inl ⟨by rfl, ?_⟩) (by exact (by first | assumption | exact S.dropR)) ?_
  rotate_left 1
  · intro w hSw
    clear hSw
    go_simp
    try with_reducible rfl
  simp only [Act.put, List.setIfInBounds_toArray, List.set_cons_zero, List.set_cons_succ]
  refine wpAnyH_take (i := 4) (oi := { dst := some 56, op := Op.load 3 (Operand.tmp 55), type := 3, pos := "encode.go:67", after := #[{ on := 3, ground := Ground.data }], guard := none }) (v := _) rfl (by kernel_rfl) (by kernel_rfl) (by kernel_rfl) (fun _ _ _ h => h) (y_load1 (by rfl) _ _ rfl _ _ rfl 0 _ rfl _ rfl _ Tryd.underlying3 rfl) (by exact (by first | assumption | exact S.dropR)) ?_
  simp only [Act.put, List.setIfInBounds_toArray, List.set_cons_zero, List.set_cons_succ]
  refine wpAnyH_take (i := 7) (oi := { dst := some 59, op := Op.load 29 (Operand.tmp 1), type := 29, pos := "encode.go:67", after := #[], guard := none }) (v := _) rfl (by kernel_rfl) (by kernel_rfl) (by kernel_rfl) (fun _ _ _ h => h) (y_loadAll (by rfl) _ _ rfl _ rfl 0 _ rfl _ Tryd.underlying29 rfl (szIV _)) (by exact (by first | assumption | exact S.dropR)) ?_
  simp only [Act.put, List.setIfInBounds_toArray, List.set_cons_zero, List.set_cons_succ]
  refine wpAnyH_ready (rs := [5]) (by kernel_rfl) (by simp) ?_
  refine AllReadyH.cons rfl (fun K hK => ?_) AllReadyH.nil
  go_simp
  go_wp2_with (go_at_call 65; refine (three_5 4096 (by decide) (by decide) i.imm i.n i.d _).mono ?_; rintro e wf ⟨rfl, rfl⟩)
  refine hK.out _ _ (by exact S) (fun _ => ?_)
  clear hK K
  refine wpAnyH_ready (rs := [6, 8]) (by kernel_rfl) (by simp) ?_
  refine AllReadyH.cons rfl (fun K hK => ?_) (AllReadyH.cons rfl (fun K hK => ?_) (AllReadyH.nil))
  · rw [if_pos (by rfl)]
    refine S.wpSliceR 58 rfl _ rfl (three5 4096 i.imm i.n i.d) rfl ?_
    clear S
    intro g w1 S hbN
    (try replace hv := hv.below hbN)
    clear hbN
    refine hK.out _ _ (by exact S.dropR) (fun _ => ?_)
    simp only [Act.put, List.setIfInBounds_toArray, List.set_cons_zero, List.set_cons_succ]
    clear hK K
    refine wpAnyH_ready (rs := [8]) (by kernel_rfl) (by simp) ?_
    refine AllReadyH.cons rfl (fun K hK => ?_) AllReadyH.nil
    go_simp
    go_wp2_with (go_at_call 48; refine (lowh_c i 19 hop _ (HT.next (by first | exact S.low | exact S.dropR.low))).mono ?_; rintro e wf ⟨v, rfl, hv, hbf⟩)
    replace S := S.below hbf
    clear hbf
    refine hK.out _ _ (by first | exact S | exact S.dropR) (fun _ => ?_)
    clear hK K
    refine wpAnyH_ready (rs := [9]) (by kernel_rfl) (by simp) ?_
    refine AllReadyH.cons rfl (fun K hK => ?_) AllReadyH.nil
    rw [if_pos (by rfl)]
    refine S.wpAppendR 61 rfl _ _ rfl rfl rfl v rfl (lowZ i 19) hv (by rw [low_one i 19 rfl]; decide) (by rw [low_one i 19 rfl]; simp) ?_
    clear S
    intro g2 cap2 w2 S
    refine hK.out _ _ (by exact S.dropR) (fun _ => ?_)
    simp only [Act.put, List.setIfInBounds_toArray, List.set_cons_zero, List.set_cons_succ]
    clear hK K
    refine wpAnyH_take (i := 10) (oi := { dst := some 2, op := Op.assign (Operand.tmp 61), type := 25, pos := "encode.go:67", after := #[{ on := 9, ground := Ground.data }, { on := 9, ground := Ground.chain }, { on := 0, ground := Ground.phase }, { on := 1, ground := Ground.phase }, { on := 2, ground := Ground.phase }, { on := 3, ground := Ground.phase }, { on := 4, ground := Ground.phase }, { on := 5, ground := Ground.phase }, { on := 6, ground := Ground.phase }, { on := 7, ground := Ground.phase }, { on := 8, ground := Ground.phase }, { on := 9, ground := Ground.phase }], guard := none }) (v := ?_) rfl (by kernel_rfl) (by kernel_rfl) (by kernel_rfl) (fun _ _ _ h => h) (Or.inl ⟨by rfl, ?_⟩) (by exact (by first | assumption | exact S.dropR)) ?_
    rotate_left 1
    · intro w hSw
      clear hSw
      go_simp
      try with_reducible rfl
    simp only [Act.put, List.setIfInBounds_toArray, List.set_cons_zero, List.set_cons_succ]
    refine wpAnyH_done (by kernel_rfl) ?_ _
    go_wp2
    (try simp only [Exit.inBlock, Exit.then])
    go_ret
    exact ⟨_, rfl, S.rowHLs rfl, S.dropR.low⟩
  · go_simp
    go_wp2_with (go_at_call 48; refine (lowh_c i 19 hop _ (HT.next (by first | exact S.low | exact S.dropR.low))).mono ?_; rintro e wf ⟨v, rfl, hv, hbf⟩)
    replace S := S.below hbf
    clear hbf
    refine hK.out _ _ (by first | exact S | exact S.dropR) (fun _ => ?_)
    clear hK K
    refine wpAnyH_ready (rs := [6]) (by kernel_rfl) (by simp) ?_
    refine AllReadyH.cons rfl (fun K hK => ?_) AllReadyH.nil
    rw [if_pos (by rfl)]
    refine S.wpSliceR 58 rfl _ rfl (three5 4096 i.imm i.n i.d) rfl ?_
    clear S
    intro g w1 S hbN
    (try replace hv := hv.below hbN)
    clear hbN
    refine hK.out _ _ (by exact S.dropR) (fun _ => ?_)
    simp only [Act.put, List.setIfInBounds_toArray, List.set_cons_zero, List.set_cons_succ]
    clear hK K
    refine wpAnyH_ready (rs := [9]) (by kernel_rfl) (by simp) ?_
    refine AllReadyH.cons rfl (fun K hK => ?_) AllReadyH.nil
    rw [if_pos (by rfl)]
    refine S.wpAppendR 61 rfl _ _ rfl rfl rfl v rfl (lowZ i 19) hv (by rw [low_one i 19 rfl]; decide) (by rw [low_one i 19 rfl]; simp) ?_
    clear S
    intro g2 cap2 w2 S
    refine hK.out _ _ (by exact S.dropR) (fun _ => ?_)
    simp only [Act.put, List.setIfInBounds_toArray, List.set_cons_zero, List.set_cons_succ]
    clear hK K
    refine wpAnyH_take (i := 10) (oi := { dst := some 2, op := Op.assign (Operand.tmp 61), type := 25, pos := "encode.go:67", after := #[{ on := 9, ground := Ground.data }, { on := 9, ground := Ground.chain }, { on := 0, ground := Ground.phase }, { on := 1, ground := Ground.phase }, { on := 2, ground := Ground.phase }, { on := 3, ground := Ground.phase }, { on := 4, ground := Ground.phase }, { on := 5, ground := Ground.phase }, { on := 6, ground := Ground.phase }, { on := 7, ground := Ground.phase }, { on := 8, ground := Ground.phase }, { on := 9, ground := Ground.phase }], guard := none }) (v := ?_) rfl (by kernel_rfl) (by kernel_rfl) (by kernel_rfl) (fun _ _ _ h => h) (Or.inl ⟨by rfl, ?_⟩) (by exact (by first | assumption | exact S.dropR)) ?_
    rotate_left 1
    · intro w hSw
      clear hSw
      go_simp
      try with_reducible rfl
    simp only [Act.put, List.setIfInBounds_toArray, List.set_cons_zero, List.set_cons_succ]
    refine wpAnyH_done (by kernel_rfl) ?_ _
    go_wp2
    (try simp only [Exit.inBlock, Exit.then])
    go_ret
    exact ⟨_, rfl, S.rowHLs rfl, S.dropR.low⟩
set_option maxHeartbeats 4000000 in
set_option maxRecDepth 100000 in
theorem data5_c (i : IV) (hop : i.op = ((5 : Nat) : Int)) (hi : OKi i) (w : World) (HT : LT w) : Calls Tryd.prog 47 #[i.val] w fun e w' => HRes w [three3 6144 i.m i.n i.d, three3 7168 i.imm i.n i.d, two8 12288 i.d i.imm, hiN 17408 i.d i.m, two8 43008 i.d (i.imm / 4), 45056 + putN (i.imm / 4) 0 7] e w' := by
  obtain ⟨hi0, hi1⟩ := hi
  have ht := tdiv_pos i.imm 4 hi0
  have hw := wrap_q i.imm 4 hi0 hi1 (by decide)
  have hj : bits .or .u16 45056 ((putN (i.imm / 4) 0 7 : Nat) : Int) = ((45056 + putN (i.imm / 4) 0 7 : Nat) : Int) := move7 45056 (by decide) (by decide) (i.imm / 4)
  generalize 45056 + putN (i.imm / 4) 0 7 = Q at *
  go_enter Tryd.func47, Tryd.ntmps47
  have S := SH.start w
  go_wp2_with (first
    | ((with_reducible refine wpl_is ?_); first
      | (refine SH.box (L := []) S rfl 29 _ rfl (Cel.iv i) rfl ?_; clear S; intro b2 w0 S)
      | (refine S.ld 3 _ rfl _ 0 rfl 0 (Cel.iv i) rfl _ rfl _ Tryd.underlying3 rfl rfl ?_)
      | (refine S.ld 27 _ rfl _ 8 rfl 0 (Cel.iv i) rfl _ rfl _ Tryd.underlying27 rfl rfl ?_)))
  refine wp_region_held_drew (S := fun w' => SH noZ w w' [(b2, Cel.iv i)]) (by kernel_rfl) (by exact S.drew) (fun _ => ?_)
  replace S := S.drew
  refine wpAnyH_take (i := 0) (oi := { dst := some 64, op := Op.fieldAddr 29 (Operand.tmp 1) 6, type := 0, pos := "encode.go:69", after := #[], guard := none }) (v := ?_) rfl (by kernel_rfl) (by kernel_rfl) (by kernel_rfl) (fun _ _ _ h => h) (Or.inl ⟨by rfl, ?_⟩) (by exact (by first | assumption | exact S.dropR)) ?_
  rotate_left 1
  · intro w hSw
    clear hSw
    go_simp
    try with_reducible rfl
  simp only [Act.put, List.setIfInBounds_toArray, List.set_cons_zero, List.set_cons_succ]
  refine wpAnyH_take (i := 1) (oi := { dst := some 65, op := Op.load 3 (Operand.tmp 64), type := 3, pos := "encode.go:69", after := #[{ on := 0, ground := Ground.data }], guard := none }) (v := _) rfl (by kernel_rfl) (by kernel_rfl) (by kernel_rfl) (fun _ _ _ h => h) (y_load1 (by rfl) _ _ rfl _ _ rfl 0 _ rfl _ rfl _ Tryd.underlying3 rfl) (by exact (by first | assumption | exact S.dropR)) ?_
  simp only [Act.put, List.setIfInBounds_toArray, List.set_cons_zero, List.set_cons_succ]
  refine wpAnyH_take (i := 2) (oi := { dst := some 66, op := Op.fieldAddr 29 (Operand.tmp 1) 5, type := 0, pos := "encode.go:69", after := #[], guard := none }) (v := ?_) rfl (by kernel_rfl) (by kernel_rfl) (by kernel_rfl) (fun _ _ _ h => h) (Or.inl ⟨by rfl, ?_⟩) (by exact (by first | assumption | exact S.dropR)) ?_
  rotate_left 1
  · intro w hSw
    clear hSw
    go_simp
    try with_reducible rfl
  simp only [Act.put, List.setIfInBounds_toArray, List.set_cons_zero, List.set_cons_succ]
  refine wpAnyH_take (i := 3) (oi := { dst := some 67, op := Op.load 3 (Operand.tmp 66), type := 3, pos := "encode.go:69", after := #[{ on := 2, ground := Ground.data }], guard := none }) (v := _) rfl (by kernel_rfl) (by kernel_rfl) (by kernel_rfl) (fun _ _ _ h => h) (y_load1 (by rfl) _ _ rfl _ _ rfl 0 _ rfl _ rfl _ Tryd.underlying3 rfl) (by exact (by first | assumption | exact S.dropR)) ?_
  simp only [Act.put, List.setIfInBounds_toArray, List.set_cons_zero, List.set_cons_succ]
  refine wpAnyH_take (i := 4) (oi := { dst := some 68, op := Op.fieldAddr 29 (Operand.tmp 1) 4, type := 0, pos := "encode.go:69", after := #[], guard := none }) (v := ?_) rfl (by kernel_rfl) (by kernel_rfl) (by kernel_rfl) (fun _ _ _ h => h) (Or.inl ⟨by rfl, ?_⟩) (by exact (by first | assumption | exact S.dropR)) ?_
  rotate_left 1
  · intro w hSw
    clear hSw
    go_simp
    try with_reducible rfl
  simp only [Act.put, List.setIfInBounds_toArray, List.set_cons_zero, List.set_cons_succ]
  refine wpAnyH_take (i := 5) (oi := { dst := some 69, op := Op.load 3 (Operand.tmp 68), type := 3, pos := "encode.go:69", after := #[{ on := 4, ground := Ground.data }], guard := none }) (v := _) rfl (by kernel_rfl) (by kernel_rfl) (by kernel_rfl) (fun _ _ _ h => h) (y_load1 (by rfl) _ _ rfl _ _ rfl 0 _ rfl _ rfl _ Tryd.underlying3 rfl) (by exact (by first | assumption | exact S.dropR)) ?_
  simp only [Act.put, List.setIfInBounds_toArray, List.set_cons_zero, List.set_cons_succ]
  refine wpAnyH_take (i := 7) (oi := { dst := some 71, op := Op.move (Operand.tmp 3), type := 3, pos := "encode.go:69", after := #[], guard := none }) (v := ?_) rfl (by kernel_rfl) (by kernel_rfl) (by kernel_rfl) (fun _ _ _ h => h) (Or.inl ⟨by rfl, ?_⟩) (by exact (by first | assumption | exact S.dropR)) ?_
  rotate_left 1
  · intro w hSw
    clear hSw
    go_simp
    try with_reducible rfl
  simp only [Act.put, List.setIfInBounds_toArray, List.set_cons_zero, List.set_cons_succ]
  refine wpAnyH_take (i := 8) (oi := { dst := some 72, op := Op.fieldAddr 29 (Operand.tmp 1) 5, type := 0, pos := "encode.go:69", after := #[], guard := none }) (v := ?_) rfl (by kernel_rfl) (by kernel_rfl) (by kernel_rfl) (fun _ _ _ h => h) (Or.inl ⟨by rfl, ?_⟩) (by exact (by first | assumption | exact S.dropR)) ?_
  rotate_left 1
  · intro w hSw
    clear hSw
    go_simp
    try with_reducible rfl
  simp only [Act.put, List.setIfInBounds_toArray, List.set_cons_zero, List.set_cons_succ]
  refine wpAnyH_take (i := 9) (oi := { dst := some 73, op := Op.load 3 (Operand.tmp 72), type := 3, pos := "encode.go:69", after := #[{ on := 8, ground := Ground.data }], guard := none }) (v := _) rfl (by kernel_rfl) (by kernel_rfl) (by kernel_rfl) (fun _ _ _ h => h) (y_load1 (by rfl) _ _ rfl _ _ rfl 0 _ rfl _ rfl _ Tryd.underlying3 rfl) (by exact (by first | assumption | exact S.dropR)) ?_
  simp only [Act.put, List.setIfInBounds_toArray, List.set_cons_zero, List.set_cons_succ]
  refine wpAnyH_take (i := 10) (oi := { dst := some 74, op := Op.fieldAddr 29 (Operand.tmp 1) 4, type := 0, pos := "encode.go:69", after := #[], guard := none }) (v := ?_) rfl (by kernel_rfl) (by kernel_rfl) (by kernel_rfl) (fun _ _ _ h => h) (Or.inl ⟨by rfl, ?_⟩) (by exact (by first | assumption | exact S.dropR)) ?_
  rotate_left 1
  · intro w hSw
    clear hSw
    go_simp
    try with_reducible rfl
  simp only [Act.put, List.setIfInBounds_toArray, List.set_cons_zero, List.set_cons_succ]
  refine wpAnyH_take (i := 11) (oi := { dst := some 75, op := Op.load 3 (Operand.tmp 74), type := 3, pos := "encode.go:69", after := #[{ on := 10, ground := Ground.data }], guard := none }) (v := _) rfl (by kernel_rfl) (by kernel_rfl) (by kernel_rfl) (fun _ _ _ h => h) (y_load1 (by rfl) _ _ rfl _ _ rfl 0 _ rfl _ rfl _ Tryd.underlying3 rfl) (by exact (by first | assumption | exact S.dropR)) ?_
  simp only [Act.put, List.setIfInBounds_toArray, List.set_cons_zero, List.set_cons_succ]
  refine wpAnyH_take (i := 13) (oi := { dst := some 77, op := Op.fieldAddr 29 (Operand.tmp 1) 4, type := 0, pos := "encode.go:69", after := #[], guard := none }) (v := ?_) rfl (by kernel_rfl) (by kernel_rfl) (by kernel_rfl) (fun _ _ _ h => h) (Or.inl ⟨by rfl, ?_⟩) (by exact (by first | assumption | exact S.dropR)) ?_
  rotate_left 1
  · intro w hSw
    clear hSw
    go_simp
    try with_reducible rfl
  simp only [Act.put, List.setIfInBounds_toArray, List.set_cons_zero, List.set_cons_succ]
  refine wpAnyH_take (i := 14) (oi := { dst := some 78, op := Op.load 3 (Operand.tmp 77), type := 3, pos := "encode.go:69", after := #[{ on := 13, ground := Ground.data }], guard := none }) (v := _) rfl (by kernel_rfl) (by kernel_rfl) (by kernel_rfl) (fun _ _ _ h => h) (y_load1 (by rfl) _ _ rfl _ _ rfl 0 _ rfl _ rfl _ Tryd.underlying3 rfl) (by exact (by first | assumption | exact S.dropR)) ?_
  simp only [Act.put, List.setIfInBounds_toArray, List.set_cons_zero, List.set_cons_succ]
  refine wpAnyH_take (i := 15) (oi := { dst := some 79, op := Op.move (Operand.tmp 3), type := 3, pos := "encode.go:69", after := #[], guard := none }) (v := ?_) rfl (by kernel_rfl) (by kernel_rfl) (by kernel_rfl) (fun _ _ _ h => h) (Or.inl ⟨by rfl, ?_⟩) (by exact (by first | assumption | exact S.dropR)) ?_
  rotate_left 1
  · intro w hSw
    clear hSw
    go_simp
    try with_reducible rfl
  simp only [Act.put, List.setIfInBounds_toArray, List.set_cons_zero, List.set_cons_succ]
  refine wpAnyH_take (i := 17) (oi := { dst := some 81, op := Op.fieldAddr 29 (Operand.tmp 1) 4, type := 0, pos := "encode.go:69", after := #[], guard := none }) (v := ?_) rfl (by kernel_rfl) (by kernel_rfl) (by kernel_rfl) (fun _ _ _ h => h) (Or.inl ⟨by rfl, ?_⟩) (by exact (by first | assumption | exact S.dropR)) ?_
  rotate_left 1
  · intro w hSw
    clear hSw
    go_simp
    try with_reducible rfl
  simp only [Act.put, List.setIfInBounds_toArray, List.set_cons_zero, List.set_cons_succ]
  refine wpAnyH_take (i := 18) (oi := { dst := some 82, op := Op.load 3 (Operand.tmp 81), type := 3, pos := "encode.go:69", after := #[{ on := 17, ground := Ground.data }], guard := none }) (v := _) rfl (by kernel_rfl) (by kernel_rfl) (by kernel_rfl) (fun _ _ _ h => h) (y_load1 (by rfl) _ _ rfl _ _ rfl 0 _ rfl _ rfl _ Tryd.underlying3 rfl) (by exact (by first | assumption | exact S.dropR)) ?_
  simp only [Act.put, List.setIfInBounds_toArray, List.set_cons_zero, List.set_cons_succ]
  refine wpAnyH_take (i := 19) (oi := { dst := some 83, op := Op.fieldAddr 29 (Operand.tmp 1) 6, type := 0, pos := "encode.go:69", after := #[], guard := none }) (v := ?_) rfl (by kernel_rfl) (by kernel_rfl) (by kernel_rfl) (fun _ _ _ h => h) (Or.inl ⟨by rfl, ?_⟩) (by exact (by first | assumption | exact S.dropR)) ?_
  rotate_left 1
  · intro w hSw
    clear hSw
    go_simp
    try with_reducible rfl
  simp only [Act.put, List.setIfInBounds_toArray, List.set_cons_zero, List.set_cons_succ]
  refine wpAnyH_take (i := 20) (oi := { dst := some 84, op := Op.load 3 (Operand.tmp 83), type := 3, pos := "encode.go:69", after := #[{ on := 19, ground := Ground.data }], guard := none }) (v := _) rfl (by kernel_rfl) (by kernel_rfl) (by kernel_rfl) (fun _ _ _ h => h) (y_load1 (by rfl) _ _ rfl _ _ rfl 0 _ rfl _ rfl _ Tryd.underlying3 rfl) (by exact (by first | assumption | exact S.dropR)) ?_
  simp only [Act.put, List.setIfInBounds_toArray, List.set_cons_zero, List.set_cons_succ]
  refine wpAnyH_take (i := 22) (oi := { dst := some 86, op := Op.fieldAddr 29 (Operand.tmp 1) 4, type := 0, pos := "encode.go:69", after := #[], guard := none }) (v := ?_) rfl (by kernel_rfl) (by kernel_rfl) (by kernel_rfl) (fun _ _ _ h => h) (Or.inl ⟨by rfl, ?_⟩) (by exact (by first | assumption | exact S.dropR)) ?_
  rotate_left 1
  · intro w hSw
    clear hSw
    go_simp
    try with_reducible rfl
  simp only [Act.put, List.setIfInBounds_toArray, List.set_cons_zero, List.set_cons_succ]
  refine wpAnyH_take (i := 23) (oi := { dst := some 87, op := Op.load 3 (Operand.tmp 86), type := 3, pos := "encode.go:69", after := #[{ on := 22, ground := Ground.data }], guard := none }) (v := _) rfl (by kernel_rfl) (by kernel_rfl) (by kernel_rfl) (fun _ _ _ h => h) (y_load1 (by rfl) _ _ rfl _ _ rfl 0 _ rfl _ rfl _ Tryd.underlying3 rfl) (by exact (by first | assumption | exact S.dropR)) ?_
  simp only [Act.put, List.setIfInBounds_toArray, List.set_cons_zero, List.set_cons_succ]
  refine wpAnyH_take (i := 24) (oi := { dst := some 88, op := Op.move (Operand.tmp 3), type := 3, pos := "encode.go:69", after := #[], guard := none }) (v := ?_) rfl (by kernel_rfl) (by kernel_rfl) (by kernel_rfl) (fun _ _ _ h => h) (Or.inl ⟨by rfl, ?_⟩) (by exact (by first | assumption | exact S.dropR)) ?_
  rotate_left 1
  · intro w hSw
    clear hSw
    go_simp
    try with_reducible rfl
  simp only [Act.put, List.setIfInBounds_toArray, List.set_cons_zero, List.set_cons_succ]
  refine wpAnyH_take (i := 25) (oi := { dst := some 89, op := Op.binOp BinOp.quo 3 (Operand.tmp 88) (Operand.const (Value.int IntKind.i64 4)) 3, type := 3, pos := "encode.go:69", after := #[{ on := 24, ground := Ground.data }], guard := none }) (v := ?_) rfl (by kernel_rfl) (by kernel_rfl) (by kernel_rfl) (fun _ _ _ h => h) (Or.inl ⟨by rfl, ?_⟩) (by exact (by first | assumption | exact S.dropR)) ?_
  rotate_left 1
  · intro w hSw
    clear hSw
    go_simp
    try with_reducible rfl
  simp only [Act.put, List.setIfInBounds_toArray, List.set_cons_zero, List.set_cons_succ]
  refine wpAnyH_take (i := 27) (oi := { dst := some 91, op := Op.move (Operand.tmp 3), type := 3, pos := "encode.go:69", after := #[], guard := none }) (v := ?_) rfl (by kernel_rfl) (by kernel_rfl) (by kernel_rfl) (fun _ _ _ h => h) (Or.inl ⟨by rfl, ?_⟩) (by exact (by first | assumption | exact S.dropR)) ?_
  rotate_left 1
  · intro w hSw
    clear hSw
    go_simp
    try with_reducible rfl
  simp only [Act.put, List.setIfInBounds_toArray, List.set_cons_zero, List.set_cons_succ]
  refine wpAnyH_take (i := 28) (oi := { dst := some 92, op := Op.binOp BinOp.quo 3 (Operand.tmp 91) (Operand.const (Value.int IntKind.i64 4)) 3, type := 3, pos := "encode.go:69", after := #[{ on := 27, ground := Ground.data }], guard := none }) (v := ?_) rfl (by kernel_rfl) (by kernel_rfl) (by kernel_rfl) (fun _ _ _ h => h) (Or.inl ⟨by rfl, ?_⟩) (by exact (by first | assumption | exact S.dropR)) ?_
  rotate_left 1
  · intro w hSw
    clear hSw
    go_simp
    try with_reducible rfl
  simp only [Act.put, List.setIfInBounds_toArray, List.set_cons_zero, List.set_cons_succ]
  refine wpAnyH_ready (rs := [6]) (by kernel_rfl) (by simp) ?_
  refine AllReadyH.cons rfl (fun K hK => ?_) AllReadyH.nil
  go_simp
  go_wp2_with (go_at_call 65; refine (three_3 6144 (by decide) (by decide) i.m i.n i.d _).mono ?_; rintro e wf ⟨rfl, rfl⟩)
  refine hK.out _ _ (by exact S) (fun _ => ?_)
  clear hK K
  refine wpAnyH_ready (rs := [12]) (by kernel_rfl) (by simp) ?_
  refine AllReadyH.cons rfl (fun K hK => ?_) AllReadyH.nil
  go_simp
  go_wp2_with (go_at_call 65; refine (three_3 7168 (by decide) (by decide) i.imm i.n i.d _).mono ?_; rintro e wf ⟨rfl, rfl⟩)
  refine hK.out _ _ (by exact S) (fun _ => ?_)
  clear hK K
  refine wpAnyH_ready (rs := [16]) (by kernel_rfl) (by simp) ?_
  refine AllReadyH.cons rfl (fun K hK => ?_) AllReadyH.nil
  go_simp
  go_wp2_with (go_at_call 66; refine (two_c 12288 (by decide) (by decide) i.d i.imm _).mono ?_; rintro e wf ⟨rfl, rfl⟩)
  refine hK.out _ _ (by exact S) (fun _ => ?_)
  clear hK K
  refine wpAnyH_ready (rs := [21]) (by kernel_rfl) (by simp) ?_
  refine AllReadyH.cons rfl (fun K hK => ?_) AllReadyH.nil
  go_simp
  go_wp2_with (go_at_call 67; refine (hi_c 17408 (by decide) (by decide) i.d i.m _).mono ?_; rintro e wf ⟨rfl, rfl⟩)
  refine hK.out _ _ (by exact S) (fun _ => ?_)
  clear hK K
  refine wpAnyH_ready (rs := [26]) (by kernel_rfl) (by simp) ?_
  refine AllReadyH.cons rfl (fun K hK => ?_) AllReadyH.nil
  go_simp
  go_wp2_with (go_at_call 66; refine (two_c 43008 (by decide) (by decide) i.d (i.imm / 4) _).mono ?_; rintro e wf ⟨rfl, rfl⟩)
  refine hK.out _ _ (by exact S) (fun _ => ?_)
  clear hK K
  refine wpAnyH_ready (rs := [29]) (by kernel_rfl) (by simp) ?_
  refine AllReadyH.cons rfl (fun K hK => ?_) AllReadyH.nil
  go_simp
  go_wp2_with (go_at_call 68; refine (put_0_7 (i.imm / 4) _).mono ?_; rintro e wf ⟨rfl, rfl⟩)
  refine hK.out _ _ (by exact S) (fun _ => ?_)
  clear hK K
  refine wpAnyH_take (i := 30) (oi := { dst := some 94, op := Op.binOp BinOp.or 22 (Operand.const (Value.int IntKind.u16 45056)) (Operand.tmp 93) 22, type := 22, pos := "encode.go:69", after := #[{ on := 29, ground := Ground.data }], guard := none }) (v := ?_) rfl (by kernel_rfl) (by kernel_rfl) (by kernel_rfl) (fun _ _ _ h => h) (Or.inl ⟨by rfl, ?_⟩) (by exact (by first | assumption | exact S.dropR)) ?_
  rotate_left 1
  · intro w hSw
    clear hSw
    go_simp
    try with_reducible rfl
  simp only [Act.put, List.setIfInBounds_toArray, List.set_cons_zero, List.set_cons_succ]
  refine wpAnyH_ready (rs := [31]) (by kernel_rfl) (by simp) ?_
  refine AllReadyH.cons rfl (fun K hK => ?_) AllReadyH.nil
  rw [if_pos (by rfl)]
  refine S.wpSlice 95 rfl 25 6 _ rfl (uc [three3 6144 i.m i.n i.d, three3 7168 i.imm i.n i.d, two8 12288 i.d i.imm, hiN 17408 i.d i.m, two8 43008 i.d (i.imm / 4), Q]) 22 (by kernel_rfl) ?_
  clear S
  intro g w1 S
  refine hK.out _ _ (by exact S.fewer 1) (fun _ => ?_)
  simp only [Act.put, List.setIfInBounds_toArray, List.set_cons_zero, List.set_cons_succ]
  clear hK K
  refine wpAnyH_take (i := 32) (oi := { dst := some 2, op := Op.assign (Operand.tmp 95), type := 25, pos := "encode.go:69", after := #[{ on := 31, ground := Ground.data }, { on := 29, ground := Ground.chain }, { on := 0, ground := Ground.phase }, { on := 1, ground := Ground.phase }, { on := 2, ground := Ground.phase }, { on := 3, ground := Ground.phase }, { on := 4, ground := Ground.phase }, { on := 5, ground := Ground.phase }, { on := 6, ground := Ground.phase }, { on := 7, ground := Ground.phase }, { on := 8, ground := Ground.phase }, { on := 9, ground := Ground.phase }, { on := 10, ground := Ground.phase }, { on := 11, ground := Ground.phase }, { on := 12, ground := Ground.phase }, { on := 13, ground := Ground.phase }, { on := 14, ground := Ground.phase }, { on := 15, ground := Ground.phase }, { on := 16, ground := Ground.phase }, { on := 17, ground := Ground.phase }, { on := 18, ground := Ground.phase }, { on := 19, ground := Ground.phase }, { on := 20, ground := Ground.phase }, { on := 21, ground := Ground.phase }, { on := 22, ground := Ground.phase }, { on := 23, ground := Ground.phase }, { on := 24, ground := Ground.phase }, { on := 25, ground := Ground.phase }, { on := 26, ground := Ground.phase }, { on := 27, ground := Ground.phase }, { on := 28, ground := Ground.phase }, { on := 29, ground := Ground.phase }, { on := 30, ground := Ground.phase }, { on := 31, ground := Ground.phase }], guard := none }) (v := ?_) rfl (by kernel_rfl) (by kernel_rfl) (by kernel_rfl) (fun _ _ _ h => h) (Or.inl ⟨by rfl, ?_⟩) (by exact (by first | assumption | exact S.dropR)) ?_
  rotate_left 1
  · intro w hSw
    clear hSw
    go_simp
    try with_reducible rfl
  simp only [Act.put, List.setIfInBounds_toArray, List.set_cons_zero, List.set_cons_succ]
  refine wpAnyH_done (by kernel_rfl) ?_ _
  go_wp2
  (try simp only [Exit.inBlock, Exit.then])
  go_ret
  exact ⟨_, rfl, HLs.of_blk (S.at (i := 0) rfl).1, S.low⟩
set_option maxHeartbeats 4000000 in
set_option maxRecDepth 100000 in
theorem data3_c (i : IV) (hop : i.op = ((3 : Nat) : Int)) (hi : OKi i) (w : World) (HT : LT w) : Calls Tryd.prog 47 #[i.val] w fun e w' => HRes w [three3 6656 i.m i.n i.d, three3 7680 i.imm i.n i.d, two8 14336 i.d i.imm, 45184 + putN (i.imm / 4) 0 7] e w' := by
  obtain ⟨hi0, hi1⟩ := hi
  have ht := tdiv_pos i.imm 4 hi0
  have hw := wrap_q i.imm 4 hi0 hi1 (by decide)
  have hj : bits .or .u16 45184 ((putN (i.imm / 4) 0 7 : Nat) : Int) = ((45184 + putN (i.imm / 4) 0 7 : Nat) : Int) := move7 45184 (by decide) (by decide) (i.imm / 4)
  generalize 45184 + putN (i.imm / 4) 0 7 = Q at *
  go_enter Tryd.func47, Tryd.ntmps47
  have S := SH.start w
  go_wp2_with (first
    | ((with_reducible refine wpl_is ?_); first
      | (refine SH.box (L := []) S rfl 29 _ rfl (Cel.iv i) rfl ?_; clear S; intro b2 w0 S)
      | (refine S.ld 3 _ rfl _ 0 rfl 0 (Cel.iv i) rfl _ rfl _ Tryd.underlying3 rfl rfl ?_)
      | (refine S.ld 27 _ rfl _ 8 rfl 0 (Cel.iv i) rfl _ rfl _ Tryd.underlying27 rfl rfl ?_)))
  refine wp_region_held_drew (S := fun w' => SH noZ w w' [(b2, Cel.iv i)]) (by kernel_rfl) (by exact S.drew) (fun _ => ?_)
  replace S := S.drew
  refine wpAnyH_take (i := 0) (oi := { dst := some 98, op := Op.fieldAddr 29 (Operand.tmp 1) 6, type := 0, pos := "encode.go:74", after := #[], guard := none }) (v := ?_) rfl (by kernel_rfl) (by kernel_rfl) (by kernel_rfl) (fun _ _ _ h => h) (Or.inl ⟨by rfl, ?_⟩) (by exact (by first | assumption | exact S.dropR)) ?_
  rotate_left 1
  · intro w hSw
    clear hSw
    go_simp
    try with_reducible rfl
  simp only [Act.put, List.setIfInBounds_toArray, List.set_cons_zero, List.set_cons_succ]
  refine wpAnyH_take (i := 1) (oi := { dst := some 99, op := Op.load 3 (Operand.tmp 98), type := 3, pos := "encode.go:74", after := #[{ on := 0, ground := Ground.data }], guard := none }) (v := _) rfl (by kernel_rfl) (by kernel_rfl) (by kernel_rfl) (fun _ _ _ h => h) (y_load1 (by rfl) _ _ rfl _ _ rfl 0 _ rfl _ rfl _ Tryd.underlying3 rfl) (by exact (by first | assumption | exact S.dropR)) ?_
  simp only [Act.put, List.setIfInBounds_toArray, List.set_cons_zero, List.set_cons_succ]
  refine wpAnyH_take (i := 2) (oi := { dst := some 100, op := Op.fieldAddr 29 (Operand.tmp 1) 5, type := 0, pos := "encode.go:74", after := #[], guard := none }) (v := ?_) rfl (by kernel_rfl) (by kernel_rfl) (by kernel_rfl) (fun _ _ _ h => h) (Or.inl ⟨by rfl, ?_⟩) (by exact (by first | assumption | exact S.dropR)) ?_
  rotate_left 1
  · intro w hSw
    clear hSw
    go_simp
    try with_reducible rfl
  simp only [Act.put, List.setIfInBounds_toArray, List.set_cons_zero, List.set_cons_succ]
  refine wpAnyH_take (i := 3) (oi := { dst := some 101, op := Op.load 3 (Operand.tmp 100), type := 3, pos := "encode.go:74", after := #[{ on := 2, ground := Ground.data }], guard := none }) (v := _) rfl (by kernel_rfl) (by kernel_rfl) (by kernel_rfl) (fun _ _ _ h => h) (y_load1 (by rfl) _ _ rfl _ _ rfl 0 _ rfl _ rfl _ Tryd.underlying3 rfl) (by exact (by first | assumption | exact S.dropR)) ?_
  simp only [Act.put, List.setIfInBounds_toArray, List.set_cons_zero, List.set_cons_succ]
  refine wpAnyH_take (i := 4) (oi := { dst := some 102, op := Op.fieldAddr 29 (Operand.tmp 1) 4, type := 0, pos := "encode.go:74", after := #[], guard := none }) (v := ?_) rfl (by kernel_rfl) (by kernel_rfl) (by kernel_rfl) (fun _ _ _ h => h) (Or.inl ⟨by rfl, ?_⟩) (by exact (by first | assumption | exact S.dropR)) ?_
  rotate_left 1
  · intro w hSw
    clear hSw
    go_simp
    try with_reducible rfl
  simp only [Act.put, List.setIfInBounds_toArray, List.set_cons_zero, List.set_cons_succ]
  refine wpAnyH_take (i := 5) (oi := { dst := some 103, op := Op.load 3 (Operand.tmp 102), type := 3, pos := "encode.go:74", after := #[{ on := 4, ground := Ground.data }], guard := none }) (v := _) rfl (by kernel_rfl) (by kernel_rfl) (by kernel_rfl) (fun _ _ _ h => h) (y_load1 (by rfl) _ _ rfl _ _ rfl 0 _ rfl _ rfl _ Tryd.underlying3 rfl) (by exact (by first | assumption | exact S.dropR)) ?_
  simp only [Act.put, List.setIfInBounds_toArray, List.set_cons_zero, List.set_cons_succ]
  refine wpAnyH_take (i := 7) (oi := { dst := some 105, op := Op.move (Operand.tmp 3), type := 3, pos := "encode.go:74", after := #[], guard := none }) (v := ?_) rfl (by kernel_rfl) (by kernel_rfl) (by kernel_rfl) (fun _ _ _ h => h) (Or.inl ⟨by rfl, ?_⟩) (by exact (by first | assumption | exact S.dropR)) ?_
  rotate_left 1
  · intro w hSw
    clear hSw
    go_simp
    try with_reducible rfl
  simp only [Act.put, List.setIfInBounds_toArray, List.set_cons_zero, List.set_cons_succ]
  refine wpAnyH_take (i := 8) (oi := { dst := some 106, op := Op.fieldAddr 29 (Operand.tmp 1) 5, type := 0, pos := "encode.go:74", after := #[], guard := none }) (v := ?_) rfl (by kernel_rfl) (by kernel_rfl) (by kernel_rfl) (fun _ _ _ h => h) (Or.inl ⟨by rfl, ?_⟩) (by exact (by first | assumption | exact S.dropR)) ?_
  rotate_left 1
  · intro w hSw
    clear hSw
    go_simp
    try with_reducible rfl
  simp only [Act.put, List.setIfInBounds_toArray, List.set_cons_zero, List.set_cons_succ]
  refine wpAnyH_take (i := 9) (oi := { dst := some 107, op := Op.load 3 (Operand.tmp 106), type := 3, pos := "encode.go:74", after := #[{ on := 8, ground := Ground.data }], guard := none }) (v := _) rfl (by kernel_rfl) (by kernel_rfl) (by kernel_rfl) (fun _ _ _ h => h) (y_load1 (by rfl) _ _ rfl _ _ rfl 0 _ rfl _ rfl _ Tryd.underlying3 rfl) (by exact (by first | assumption | exact S.dropR)) ?_
  simp only [Act.put, List.setIfInBounds_toArray, List.set_cons_zero, List.set_cons_succ]
  refine wpAnyH_take (i := 10) (oi := { dst := some 108, op := Op.fieldAddr 29 (Operand.tmp 1) 4, type := 0, pos := "encode.go:74", after := #[], guard := none }) (v := ?_) rfl (by kernel_rfl) (by kernel_rfl) (by kernel_rfl) (fun _ _ _ h => h) (Or.inl ⟨by rfl, ?_⟩) (by exact (by first | assumption | exact S.dropR)) ?_
  rotate_left 1
  · intro w hSw
    clear hSw
    go_simp
    try with_reducible rfl
  simp only [Act.put, List.setIfInBounds_toArray, List.set_cons_zero, List.set_cons_succ]
  refine wpAnyH_take (i := 11) (oi := { dst := some 109, op := Op.load 3 (Operand.tmp 108), type := 3, pos := "encode.go:74", after := #[{ on := 10, ground := Ground.data }], guard := none }) (v := _) rfl (by kernel_rfl) (by kernel_rfl) (by kernel_rfl) (fun _ _ _ h => h) (y_load1 (by rfl) _ _ rfl _ _ rfl 0 _ rfl _ rfl _ Tryd.underlying3 rfl) (by exact (by first | assumption | exact S.dropR)) ?_
  simp only [Act.put, List.setIfInBounds_toArray, List.set_cons_zero, List.set_cons_succ]
  refine wpAnyH_take (i := 13) (oi := { dst := some 111, op := Op.fieldAddr 29 (Operand.tmp 1) 4, type := 0, pos := "encode.go:74", after := #[], guard := none }) (v := ?_) rfl (by kernel_rfl) (by kernel_rfl) (by kernel_rfl) (fun _ _ _ h => h) (Or.inl ⟨by rfl, ?_⟩) (by exact (by first | assumption | exact S.dropR)) ?_
  rotate_left 1
  · intro w hSw
    clear hSw
    go_simp
    try with_reducible rfl
  simp only [Act.put, List.setIfInBounds_toArray, List.set_cons_zero, List.set_cons_succ]
  refine wpAnyH_take (i := 14) (oi := { dst := some 112, op := Op.load 3 (Operand.tmp 111), type := 3, pos := "encode.go:74", after := #[{ on := 13, ground := Ground.data }], guard := none }) (v := _) rfl (by kernel_rfl) (by kernel_rfl) (by kernel_rfl) (fun _ _ _ h => h) (y_load1 (by rfl) _ _ rfl _ _ rfl 0 _ rfl _ rfl _ Tryd.underlying3 rfl) (by exact (by first | assumption | exact S.dropR)) ?_
  simp only [Act.put, List.setIfInBounds_toArray, List.set_cons_zero, List.set_cons_succ]
  refine wpAnyH_take (i := 15) (oi := { dst := some 113, op := Op.move (Operand.tmp 3), type := 3, pos := "encode.go:74", after := #[], guard := none }) (v := ?_) rfl (by kernel_rfl) (by kernel_rfl) (by kernel_rfl) (fun _ _ _ h => h) (Or.inl ⟨by rfl, ?_⟩) (by exact (by first | assumption | exact S.dropR)) ?_
  rotate_left 1
  · intro w hSw
    clear hSw
    go_simp
    try with_reducible rfl
  simp only [Act.put, List.setIfInBounds_toArray, List.set_cons_zero, List.set_cons_succ]
  refine wpAnyH_take (i := 17) (oi := { dst := some 115, op := Op.move (Operand.tmp 3), type := 3, pos := "encode.go:74", after := #[], guard := none }) (v := ?_) rfl (by kernel_rfl) (by kernel_rfl) (by kernel_rfl) (fun _ _ _ h => h) (Or.inl ⟨by rfl, ?_⟩) (by exact (by first | assumption | exact S.dropR)) ?_
  rotate_left 1
  · intro w hSw
    clear hSw
    go_simp
    try with_reducible rfl
  simp only [Act.put, List.setIfInBounds_toArray, List.set_cons_zero, List.set_cons_succ]
  refine wpAnyH_take (i := 18) (oi := { dst := some 116, op := Op.binOp BinOp.quo 3 (Operand.tmp 115) (Operand.const (Value.int IntKind.i64 4)) 3, type := 3, pos := "encode.go:74", after := #[{ on := 17, ground := Ground.data }], guard := none }) (v := ?_) rfl (by kernel_rfl) (by kernel_rfl) (by kernel_rfl) (fun _ _ _ h => h) (Or.inl ⟨by rfl, ?_⟩) (by exact (by first | assumption | exact S.dropR)) ?_
  rotate_left 1
  · intro w hSw
    clear hSw
    go_simp
    try with_reducible rfl
  simp only [Act.put, List.setIfInBounds_toArray, List.set_cons_zero, List.set_cons_succ]
  refine wpAnyH_ready (rs := [6]) (by kernel_rfl) (by simp) ?_
  refine AllReadyH.cons rfl (fun K hK => ?_) AllReadyH.nil
  go_simp
  go_wp2_with (go_at_call 65; refine (three_3 6656 (by decide) (by decide) i.m i.n i.d _).mono ?_; rintro e wf ⟨rfl, rfl⟩)
  refine hK.out _ _ (by exact S) (fun _ => ?_)
  clear hK K
  refine wpAnyH_ready (rs := [12]) (by kernel_rfl) (by simp) ?_
  refine AllReadyH.cons rfl (fun K hK => ?_) AllReadyH.nil
  go_simp
  go_wp2_with (go_at_call 65; refine (three_3 7680 (by decide) (by decide) i.imm i.n i.d _).mono ?_; rintro e wf ⟨rfl, rfl⟩)
  refine hK.out _ _ (by exact S) (fun _ => ?_)
  clear hK K
  refine wpAnyH_ready (rs := [16]) (by kernel_rfl) (by simp) ?_
  refine AllReadyH.cons rfl (fun K hK => ?_) AllReadyH.nil
  go_simp
  go_wp2_with (go_at_call 66; refine (two_c 14336 (by decide) (by decide) i.d i.imm _).mono ?_; rintro e wf ⟨rfl, rfl⟩)
  refine hK.out _ _ (by exact S) (fun _ => ?_)
  clear hK K
  refine wpAnyH_ready (rs := [19]) (by kernel_rfl) (by simp) ?_
  refine AllReadyH.cons rfl (fun K hK => ?_) AllReadyH.nil
  go_simp
  go_wp2_with (go_at_call 68; refine (put_0_7 (i.imm / 4) _).mono ?_; rintro e wf ⟨rfl, rfl⟩)
  refine hK.out _ _ (by exact S) (fun _ => ?_)
  clear hK K
  refine wpAnyH_take (i := 20) (oi := { dst := some 118, op := Op.binOp BinOp.or 22 (Operand.const (Value.int IntKind.u16 45184)) (Operand.tmp 117) 22, type := 22, pos := "encode.go:74", after := #[{ on := 19, ground := Ground.data }], guard := none }) (v := ?_) rfl (by kernel_rfl) (by kernel_rfl) (by kernel_rfl) (fun _ _ _ h => h) (Or.inl ⟨by rfl, ?_⟩) (by exact (by first | assumption | exact S.dropR)) ?_
  rotate_left 1
  · intro w hSw
    clear hSw
    go_simp
    try with_reducible rfl
  simp only [Act.put, List.setIfInBounds_toArray, List.set_cons_zero, List.set_cons_succ]
  refine wpAnyH_ready (rs := [21]) (by kernel_rfl) (by simp) ?_
  refine AllReadyH.cons rfl (fun K hK => ?_) AllReadyH.nil
  rw [if_pos (by rfl)]
  refine S.wpSlice 119 rfl 25 4 _ rfl (uc [three3 6656 i.m i.n i.d, three3 7680 i.imm i.n i.d, two8 14336 i.d i.imm, Q]) 22 (by kernel_rfl) ?_
  clear S
  intro g w1 S
  refine hK.out _ _ (by exact S.fewer 1) (fun _ => ?_)
  simp only [Act.put, List.setIfInBounds_toArray, List.set_cons_zero, List.set_cons_succ]
  clear hK K
  refine wpAnyH_take (i := 22) (oi := { dst := some 2, op := Op.assign (Operand.tmp 119), type := 25, pos := "encode.go:74", after := #[{ on := 21, ground := Ground.data }, { on := 19, ground := Ground.chain }, { on := 0, ground := Ground.phase }, { on := 1, ground := Ground.phase }, { on := 2, ground := Ground.phase }, { on := 3, ground := Ground.phase }, { on := 4, ground := Ground.phase }, { on := 5, ground := Ground.phase }, { on := 6, ground := Ground.phase }, { on := 7, ground := Ground.phase }, { on := 8, ground := Ground.phase }, { on := 9, ground := Ground.phase }, { on := 10, ground := Ground.phase }, { on := 11, ground := Ground.phase }, { on := 12, ground := Ground.phase }, { on := 13, ground := Ground.phase }, { on := 14, ground := Ground.phase }, { on := 15, ground := Ground.phase }, { on := 16, ground := Ground.phase }, { on := 17, ground := Ground.phase }, { on := 18, ground := Ground.phase }, { on := 19, ground := Ground.phase }, { on := 20, ground := Ground.phase }, { on := 21, ground := Ground.phase }], guard := none }) (v := ?_) rfl (by kernel_rfl) (by kernel_rfl) (by kernel_rfl) (fun _ _ _ h => h) (Or.inl ⟨by rfl, ?_⟩) (by exact (by first | assumption | exact S.dropR)) ?_
  rotate_left 1
  · intro w hSw
    clear hSw
    go_simp
    try with_reducible rfl
  simp only [Act.put, List.setIfInBounds_toArray, List.set_cons_zero, List.set_cons_succ]
  refine wpAnyH_done (by kernel_rfl) ?_ _
  go_wp2
  (try simp only [Exit.inBlock, Exit.then])
  go_ret
  exact ⟨_, rfl, HLs.of_blk (S.at (i := 0) rfl).1, S.low⟩
set_option maxHeartbeats 4000000 in
set_option maxRecDepth 100000 in
theorem data10_c (i : IV) (hop : i.op = ((10 : Nat) : Int)) (hi : OKi i) (w : World) (HT : LT w) : Calls Tryd.prog 47 #[i.val] w fun e w' => HRes w ((two8 10240 i.n i.imm :: lowZ i 10) ++ [hiN 17664 i.n i.m]) e w' := by
  obtain ⟨hi0, hi1⟩ := hi
  have ht := tdiv_pos i.imm 4 hi0
  have hw := wrap_q i.imm 4 hi0 hi1 (by decide)
  go_enter Tryd.func47, Tryd.ntmps47
  have S := SH.start w
  go_wp2_with (first
    | ((with_reducible refine wpl_is ?_); first
      | (refine SH.box (L := []) S rfl 29 _ rfl (Cel.iv i) rfl ?_; clear S; intro b2 w0 S)
      | (refine S.ld 3 _ rfl _ 0 rfl 0 (Cel.iv i) rfl _ rfl _ Tryd.underlying3 rfl rfl ?_)
      | (refine S.ld 27 _ rfl _ 8 rfl 0 (Cel.iv i) rfl _ rfl _ Tryd.underlying27 rfl rfl ?_)))
  refine wp_region_held_drew (S := fun w' => SH noZ w w' [(b2, Cel.iv i)]) (by kernel_rfl) (by exact S.drew) (fun _ => ?_)
  replace S := S.drew
  refine wpAnyH_take (i := 0) (oi := { dst := some 122, op := Op.fieldAddr 29 (Operand.tmp 1) 5, type := 0, pos := "encode.go:79", after := #[], guard := none }) (v := ?_) rfl (by kernel_rfl) (by kernel_rfl) (by kernel_rfl) (fun _ _ _ h => h) (Or.inl ⟨by rfl, ?_⟩) (by exact (by first | assumption | exact S.dropR)) ?_
  rotate_left 1
  · intro w hSw
    clear hSw
    go_simp
    try with_reducible rfl
  simp only [Act.put, List.setIfInBounds_toArray, List.set_cons_zero, List.set_cons_succ]
  refine wpAnyH_take (i := 1) (oi := { dst := some 123, op := Op.load 3 (Operand.tmp 122), type := 3, pos := "encode.go:79", after := #[{ on := 0, ground := Ground.data }], guard := none }) (v := _) rfl (by kernel_rfl) (by kernel_rfl) (by kernel_rfl) (fun _ _ _ h => h) (y_load1 (by rfl) _ _ rfl _ _ rfl 0 _ rfl _ rfl _ Tryd.underlying3 rfl) (by exact (by first | assumption | exact S.dropR)) ?_
  simp only [Act.put, List.setIfInBounds_toArray, List.set_cons_zero, List.set_cons_succ]
  refine wpAnyH_take (i := 2) (oi := { dst := some 124, op := Op.move (Operand.tmp 3), type := 3, pos := "encode.go:79", after := #[], guard := none }) (v := ?_) rfl (by kernel_rfl) (by kernel_rfl) (by kernel_rfl) (fun _ _ _ h => h) (Or.inl ⟨by rfl, ?_⟩) (by exact (by first | assumption | exact S.dropR)) ?_
  rotate_left 1
  · intro w hSw
    clear hSw
    go_simp
    try with_reducible rfl
  simp only [Act.put, List.setIfInBounds_toArray, List.set_cons_zero, List.set_cons_succ]
  refine wpAnyH_take (i := 5) (oi := { dst := some 127, op := Op.load 29 (Operand.tmp 1), type := 29, pos := "encode.go:79", after := #[], guard := none }) (v := _) rfl (by kernel_rfl) (by kernel_rfl) (by kernel_rfl) (fun _ _ _ h => h) (y_loadAll (by rfl) _ _ rfl _ rfl 0 _ rfl _ Tryd.underlying29 rfl (szIV _)) (by exact (by first | assumption | exact S.dropR)) ?_
  simp only [Act.put, List.setIfInBounds_toArray, List.set_cons_zero, List.set_cons_succ]
  refine wpAnyH_take (i := 8) (oi := { dst := some 130, op := Op.fieldAddr 29 (Operand.tmp 1) 5, type := 0, pos := "encode.go:79", after := #[], guard := none }) (v := ?_) rfl (by kernel_rfl) (by kernel_rfl) (by kernel_rfl) (fun _ _ _ h => h) (Or.inl ⟨by rfl, ?_⟩) (by exact (by first | assumption | exact S.dropR)) ?_
  rotate_left 1
  · intro w hSw
    clear hSw
    go_simp
    try with_reducible rfl
  simp only [Act.put, List.setIfInBounds_toArray, List.set_cons_zero, List.set_cons_succ]
  refine wpAnyH_take (i := 9) (oi := { dst := some 131, op := Op.load 3 (Operand.tmp 130), type := 3, pos := "encode.go:79", after := #[{ on := 8, ground := Ground.data }], guard := none }) (v := _) rfl (by kernel_rfl) (by kernel_rfl) (by kernel_rfl) (fun _ _ _ h => h) (y_load1 (by rfl) _ _ rfl _ _ rfl 0 _ rfl _ rfl _ Tryd.underlying3 rfl) (by exact (by first | assumption | exact S.dropR)) ?_
  simp only [Act.put, List.setIfInBounds_toArray, List.set_cons_zero, List.set_cons_succ]
  refine wpAnyH_take (i := 10) (oi := { dst := some 132, op := Op.fieldAddr 29 (Operand.tmp 1) 6, type := 0, pos := "encode.go:79", after := #[], guard := none }) (v := ?_) rfl (by kernel_rfl) (by kernel_rfl) (by kernel_rfl) (fun _ _ _ h => h) (Or.inl ⟨by rfl, ?_⟩) (by exact (by first | assumption | exact S.dropR)) ?_
  rotate_left 1
  · intro w hSw
    clear hSw
    go_simp
    try with_reducible rfl
  simp only [Act.put, List.setIfInBounds_toArray, List.set_cons_zero, List.set_cons_succ]
  refine wpAnyH_take (i := 11) (oi := { dst := some 133, op := Op.load 3 (Operand.tmp 132), type := 3, pos := "encode.go:79", after := #[{ on := 10, ground := Ground.data }], guard := none }) (v := _) rfl (by kernel_rfl) (by kernel_rfl) (by kernel_rfl) (fun _ _ _ h => h) (y_load1 (by rfl) _ _ rfl _ _ rfl 0 _ rfl _ rfl _ Tryd.underlying3 rfl) (by exact (by first | assumption | exact S.dropR)) ?_
  simp only [Act.put, List.setIfInBounds_toArray, List.set_cons_zero, List.set_cons_succ]
  refine wpAnyH_ready (rs := [3]) (by kernel_rfl) (by simp) ?_
  refine AllReadyH.cons rfl (fun K hK => ?_) AllReadyH.nil
  go_simp
  go_wp2_with (go_at_call 66; refine (two_c 10240 (by decide) (by decide) i.n i.imm _).mono ?_; rintro e wf ⟨rfl, rfl⟩)
  refine hK.out _ _ (by exact S) (fun _ => ?_)
  clear hK K
  refine wpAnyH_ready (rs := [4, 6]) (by kernel_rfl) (by simp) ?_
  refine AllReadyH.cons rfl (fun K hK => ?_) (AllReadyH.cons rfl (fun K hK => ?_) (AllReadyH.nil))
  · rw [if_pos (by rfl)]
    refine S.wpSliceR 126 rfl _ rfl (two8 10240 i.n i.imm) rfl ?_
    clear S
    intro g w1 S hbN
    (try replace hv := hv.below hbN)
    clear hbN
    refine hK.out _ _ (by exact S.dropR) (fun _ => ?_)
    simp only [Act.put, List.setIfInBounds_toArray, List.set_cons_zero, List.set_cons_succ]
    clear hK K
    refine wpAnyH_ready (rs := [6]) (by kernel_rfl) (by simp) ?_
    refine AllReadyH.cons rfl (fun K hK => ?_) AllReadyH.nil
    go_simp
    go_wp2_with (go_at_call 48; refine (lowh_c i 10 hop _ (HT.next (by first | exact S.low | exact S.dropR.low))).mono ?_; rintro e wf ⟨v, rfl, hv, hbf⟩)
    replace S := S.below hbf
    clear hbf
    refine hK.out _ _ (by first | exact S | exact S.dropR) (fun _ => ?_)
    clear hK K
    refine wpAnyH_ready (rs := [7]) (by kernel_rfl) (by simp) ?_
    refine AllReadyH.cons rfl (fun K hK => ?_) AllReadyH.nil
    rw [if_pos (by rfl)]
    refine S.wpAppendR 129 rfl _ _ rfl rfl rfl v rfl (lowZ i 10) hv (by rw [low_one i 10 rfl]; decide) (by rw [low_one i 10 rfl]; simp) ?_
    clear S
    intro g2 cap2 w2 S
    refine hK.out _ _ (by exact S.dropR) (fun _ => ?_)
    simp only [Act.put, List.setIfInBounds_toArray, List.set_cons_zero, List.set_cons_succ]
    clear hK K
    refine wpAnyH_ready (rs := [12]) (by kernel_rfl) (by simp) ?_
    refine AllReadyH.cons rfl (fun K hK => ?_) AllReadyH.nil
    go_simp
    go_wp2_with (go_at_call 67; refine (hi_c 17664 (by decide) (by decide) i.n i.m _).mono ?_; rintro e wf ⟨rfl, rfl⟩)
    refine hK.out _ _ (by exact S.dropR) (fun _ => ?_)
    clear hK K
    refine wpAnyH_ready (rs := [13]) (by kernel_rfl) (by simp) ?_
    refine AllReadyH.cons rfl (fun K hK => ?_) AllReadyH.nil
    rw [if_pos (by rfl)]
    refine S.wpSlice 135 rfl 25 1 _ rfl (uc [hiN 17664 i.n i.m]) 22 (by kernel_rfl) ?_
    clear S
    intro g3 w3 S
    have hv3 := HLs.of_blk (c := 1) (S.at (i := 0) rfl).1
    replace S := S.fewer 1
    refine hK.out _ _ (by exact S.dropR) (fun _ => ?_)
    simp only [Act.put, List.setIfInBounds_toArray, List.set_cons_zero, List.set_cons_succ]
    clear hK K
    refine wpAnyH_ready (rs := [14]) (by kernel_rfl) (by simp) ?_
    refine AllReadyH.cons rfl (fun K hK => ?_) AllReadyH.nil
    rw [if_pos (by rfl)]
    refine S.wpAppendR 136 rfl _ _ rfl rfl rfl _ rfl [hiN 17664 i.n i.m] hv3 (by simp) (by rw [List.length_append, low_one i 10 rfl]; simp) ?_
    clear S
    intro g4 cap4 w4 S
    refine hK.out _ _ (by exact S.dropR) (fun _ => ?_)
    simp only [Act.put, List.setIfInBounds_toArray, List.set_cons_zero, List.set_cons_succ]
    clear hK K
    refine wpAnyH_take (i := 15) (oi := { dst := some 2, op := Op.assign (Operand.tmp 136), type := 25, pos := "encode.go:79", after := #[{ on := 14, ground := Ground.data }, { on := 14, ground := Ground.chain }, { on := 0, ground := Ground.phase }, { on := 1, ground := Ground.phase }, { on := 2, ground := Ground.phase }, { on := 3, ground := Ground.phase }, { on := 4, ground := Ground.phase }, { on := 5, ground := Ground.phase }, { on := 6, ground := Ground.phase }, { on := 7, ground := Ground.phase }, { on := 8, ground := Ground.phase }, { on := 9, ground := Ground.phase }, { on := 10, ground := Ground.phase }, { on := 11, ground := Ground.phase }, { on := 12, ground := Ground.phase }, { on := 13, ground := Ground.phase }, { on := 14, ground := Ground.phase }], guard := none }) (v := ?_) rfl (by kernel_rfl) (by kernel_rfl) (by kernel_rfl) (fun _ _ _ h => h) (Or.inl ⟨by rfl, ?_⟩) (by exact (by first | assumption | exact S.dropR)) ?_
    rotate_left 1
    · intro w hSw
      clear hSw
      go_simp
      try with_reducible rfl
    simp only [Act.put, List.setIfInBounds_toArray, List.set_cons_zero, List.set_cons_succ]
    refine wpAnyH_done (by kernel_rfl) ?_ _
    go_wp2
    (try simp only [Exit.inBlock, Exit.then])
    go_ret
    exact ⟨_, rfl, S.rowHLs rfl, S.dropR.low⟩
  · go_simp
    go_wp2_with (go_at_call 48; refine (lowh_c i 10 hop _ (HT.next (by first | exact S.low | exact S.dropR.low))).mono ?_; rintro e wf ⟨v, rfl, hv, hbf⟩)
    replace S := S.below hbf
    clear hbf
    refine hK.out _ _ (by first | exact S | exact S.dropR) (fun _ => ?_)
    clear hK K
    refine wpAnyH_ready (rs := [4]) (by kernel_rfl) (by simp) ?_
    refine AllReadyH.cons rfl (fun K hK => ?_) AllReadyH.nil
    rw [if_pos (by rfl)]
    refine S.wpSliceR 126 rfl _ rfl (two8 10240 i.n i.imm) rfl ?_
    clear S
    intro g w1 S hbN
    (try replace hv := hv.below hbN)
    clear hbN
    refine hK.out _ _ (by exact S.dropR) (fun _ => ?_)
    simp only [Act.put, List.setIfInBounds_toArray, List.set_cons_zero, List.set_cons_succ]
    clear hK K
    refine wpAnyH_ready (rs := [7]) (by kernel_rfl) (by simp) ?_
    refine AllReadyH.cons rfl (fun K hK => ?_) AllReadyH.nil
    rw [if_pos (by rfl)]
    refine S.wpAppendR 129 rfl _ _ rfl rfl rfl v rfl (lowZ i 10) hv (by rw [low_one i 10 rfl]; decide) (by rw [low_one i 10 rfl]; simp) ?_
    clear S
    intro g2 cap2 w2 S
    refine hK.out _ _ (by exact S.dropR) (fun _ => ?_)
    simp only [Act.put, List.setIfInBounds_toArray, List.set_cons_zero, List.set_cons_succ]
    clear hK K
    refine wpAnyH_ready (rs := [12]) (by kernel_rfl) (by simp) ?_
    refine AllReadyH.cons rfl (fun K hK => ?_) AllReadyH.nil
    go_simp
    go_wp2_with (go_at_call 67; refine (hi_c 17664 (by decide) (by decide) i.n i.m _).mono ?_; rintro e wf ⟨rfl, rfl⟩)
    refine hK.out _ _ (by exact S.dropR) (fun _ => ?_)
    clear hK K
    refine wpAnyH_ready (rs := [13]) (by kernel_rfl) (by simp) ?_
    refine AllReadyH.cons rfl (fun K hK => ?_) AllReadyH.nil
    rw [if_pos (by rfl)]
    refine S.wpSlice 135 rfl 25 1 _ rfl (uc [hiN 17664 i.n i.m]) 22 (by kernel_rfl) ?_
    clear S
    intro g3 w3 S
    have hv3 := HLs.of_blk (c := 1) (S.at (i := 0) rfl).1
    replace S := S.fewer 1
    refine hK.out _ _ (by exact S.dropR) (fun _ => ?_)
    simp only [Act.put, List.setIfInBounds_toArray, List.set_cons_zero, List.set_cons_succ]
    clear hK K
    refine wpAnyH_ready (rs := [14]) (by kernel_rfl) (by simp) ?_
    refine AllReadyH.cons rfl (fun K hK => ?_) AllReadyH.nil
    rw [if_pos (by rfl)]
    refine S.wpAppendR 136 rfl _ _ rfl rfl rfl _ rfl [hiN 17664 i.n i.m] hv3 (by simp) (by rw [List.length_append, low_one i 10 rfl]; simp) ?_
    clear S
    intro g4 cap4 w4 S
    refine hK.out _ _ (by exact S.dropR) (fun _ => ?_)
    simp only [Act.put, List.setIfInBounds_toArray, List.set_cons_zero, List.set_cons_succ]
    clear hK K
    refine wpAnyH_take (i := 15) (oi := { dst := some 2, op := Op.assign (Operand.tmp 136), type := 25, pos := "encode.go:79", after := #[{ on := 14, ground := Ground.data }, { on := 14, ground := Ground.chain }, { on := 0, ground := Ground.phase }, { on := 1, ground := Ground.phase }, { on := 2, ground := Ground.phase }, { on := 3, ground := Ground.phase }, { on := 4, ground := Ground.phase }, { on := 5, ground := Ground.phase }, { on := 6, ground := Ground.phase }, { on := 7, ground := Ground.phase }, { on := 8, ground := Ground.phase }, { on := 9, ground := Ground.phase }, { on := 10, ground := Ground.phase }, { on := 11, ground := Ground.phase }, { on := 12, ground := Ground.phase }, { on := 13, ground := Ground.phase }, { on := 14, ground := Ground.phase }], guard := none }) (v := ?_) rfl (by kernel_rfl) (by kernel_rfl) (by kernel_rfl) (fun _ _ _ h => h) (Or.inl ⟨by rfl, ?_⟩) (by exact (by first | assumption | exact S.dropR)) ?_
    rotate_left 1
    · intro w hSw
      clear hSw
      go_simp
      try with_reducible rfl
    simp only [Act.put, List.setIfInBounds_toArray, List.set_cons_zero, List.set_cons_succ]
    refine wpAnyH_done (by kernel_rfl) ?_ _
    go_wp2
    (try simp only [Exit.inBlock, Exit.then])
    go_ret
    exact ⟨_, rfl, S.rowHLs rfl, S.dropR.low⟩
set_option maxHeartbeats 4000000 in
set_option maxRecDepth 100000 in
theorem data43_c (i : IV) (hop : i.op = ((43 : Nat) : Int)) (hi : OKi i) (w : World) (HT : LT w) : Calls Tryd.prog 47 #[i.val] w fun e w' => HRes w [two8 40960 i.d (i.imm / 4)] e w' := by
  obtain ⟨hi0, hi1⟩ := hi
  have ht := tdiv_pos i.imm 4 hi0
  have hw := wrap_q i.imm 4 hi0 hi1 (by decide)
  go_enter Tryd.func47, Tryd.ntmps47
  have S := SH.start w
  go_wp2_with (first
    | (go_at_call 66; refine (two_c 40960 (by decide) (by decide) i.d (i.imm / 4) _).mono ?_; rintro e wf ⟨rfl, rfl⟩)
    | ((with_reducible refine wpl_is ?_); first
      | (refine SH.box (L := []) S rfl 29 _ rfl (Cel.iv i) rfl ?_; clear S; intro b2 w0 S)
      | (refine S.sliceAny rfl 25 1 _ rfl (uc [two8 40960 i.d (i.imm / 4)]) 22 (by kernel_rfl) ?_; clear S; intro g w1 S)
      | (refine S.ld 3 _ rfl _ 0 rfl 0 (Cel.iv i) rfl _ rfl _ Tryd.underlying3 rfl rfl ?_)
      | (refine S.ld 27 _ rfl _ 8 rfl 0 (Cel.iv i) rfl _ rfl _ Tryd.underlying27 rfl rfl ?_)
      | (refine S.ld 3 _ rfl _ 4 rfl 0 (Cel.iv i) rfl _ rfl _ Tryd.underlying3 rfl rfl ?_)))
  (try simp only [Exit.inBlock, Exit.then])
  go_ret
  exact ⟨_, rfl, HLs.of_blk (S.at (i := 0) rfl).1, S.low⟩
set_option maxHeartbeats 4000000 in
set_option maxRecDepth 100000 in
theorem dataO_c (i : IV) (op : Nat) (hop : i.op = (op : Nat)) (ho : op ≠ 13 ∧ op ≠ 17 ∧ op ≠ 18 ∧ op ≠ 19 ∧ op ≠ 5 ∧ op ≠ 3 ∧ op ≠ 10 ∧ op ≠ 43) (w : World) (HT : LT w) : Calls Tryd.prog 47 #[i.val] w fun e w' => HRes w (lowZ i op) e w' := by
  have HOP : Hid (i.op = (op : Nat)) := hop
  have t13 : (i.op == 13) = false := by rw [hop]; simp; omega
  have t17 : (i.op == 17) = false := by rw [hop]; simp; omega
  have t18 : (i.op == 18) = false := by rw [hop]; simp; omega
  have t19 : (i.op == 19) = false := by rw [hop]; simp; omega
  have t5 : (i.op == 5) = false := by rw [hop]; simp; omega
  have t3 : (i.op == 3) = false := by rw [hop]; simp; omega
  have t10 : (i.op == 10) = false := by rw [hop]; simp; omega
  have t43 : (i.op == 43) = false := by rw [hop]; simp; omega
  clear hop ho
  go_enter Tryd.func47, Tryd.ntmps47
  have S := SH.start w
  go_wp2_with (first
    | (go_at_call 48; refine (lowh_c i op HOP.out _ (HT.next S.low)).mono ?_; rintro e wf ⟨v, rfl, hv, hbf⟩; replace S := S.below hbf; clear hbf)
    | ((with_reducible refine wpl_is ?_); first
      | (refine SH.box (L := []) S rfl 29 _ rfl (Cel.iv i) rfl ?_; clear S; intro b2 w0 S)
      | (refine S.ldAll 29 _ rfl _ rfl 0 (Cel.iv i) rfl _ Tryd.underlying29 rfl (szIV _) rfl ?_)
      | (refine S.ld 3 _ rfl _ 0 rfl 0 (Cel.iv i) rfl _ rfl _ Tryd.underlying3 rfl rfl ?_)
      | (refine S.ld 27 _ rfl _ 8 rfl 0 (Cel.iv i) rfl _ rfl _ Tryd.underlying27 rfl rfl ?_)))
  (try simp only [Exit.inBlock, Exit.then])
  go_ret
  exact ⟨_, rfl, hv, S.low⟩
end Go.Proofs.YtblcklknlfofgaaDoor
namespace Go.Proofs.YtblcklknlfofgaaDoor
open Go.ChangeShapes Go.WideShapes Go.ChangeAt Go.RowKit
set_option linter.unusedVariables false
set_option linter.unusedSimpArgs false

set_option maxHeartbeats 4000000 in
set_option maxRecDepth 100000 in
theorem mem49_c (i : IV) (hop : i.op = ((49 : Nat) : Int)) (hi : OKi i) (w : World) (HT : LT w) : Calls Tryd.prog 50 #[i.val] w fun e w' => HRes w [(byRegZ i 49), three5 24576 (i.imm / 4) i.n i.d, two8 36864 i.d (i.imm / 4)] e w' := by
  obtain ⟨hi0, hi1⟩ := hi
  have ht4 := tdiv_pos i.imm 4 hi0
  have ht2 := tdiv_pos i.imm 2 hi0
  have hw4 := wrap_q i.imm 4 hi0 hi1 (by decide)
  have hw2 := wrap_q i.imm 2 hi0 hi1 (by decide)
  have CB : Hid (∀ w1, LT w1 → Calls Tryd.prog 69 #[i.val] w1 fun e w' => e = .returned (.int .u16 (byRegZ i 49 : Nat)) ∧ Below w1.heap.size w1 w') := fun w1 h1 => byReg_c i 49 hop w1 h1
  generalize byRegZ i 49 = BY at *
  go_enter Tryd.func50, Tryd.ntmps50
  have S := SH.start w
  go_wp2_with (first
    | ((with_reducible refine wpl_is ?_); first
      | (refine SH.box (L := []) S rfl 29 _ rfl (Cel.iv i) rfl ?_; clear S; intro b2 w0 S)
      | (refine S.ld 3 _ rfl _ 0 rfl 0 (Cel.iv i) rfl _ rfl _ Tryd.underlying3 rfl rfl ?_)
      | (refine S.ld 27 _ rfl _ 8 rfl 0 (Cel.iv i) rfl _ rfl _ Tryd.underlying27 rfl rfl ?_)))
  refine wp_region_held_drew (S := fun w' => SH noZ w w' [(b2, Cel.iv i)]) (by kernel_rfl) (by exact S.drew) (fun _ => ?_)
  replace S := S.drew
  refine wpAnyH_take (i := 0) (oi := { dst := some 5, op := Op.fieldAddr 29 (Operand.tmp 1) 8, type := 0, pos := "encode.go:120", after := #[], guard := none }) (v := ?_) rfl (by kernel_rfl) (by kernel_rfl) (by kernel_rfl) (fun _ _ _ h => h) (Or.inl ⟨by rfl, ?_⟩) (by exact (by first | assumption | exact S.dropR)) ?_
  rotate_left 1
  · intro w hSw
    clear hSw
    go_simp
    try with_reducible rfl
  simp only [Act.put, List.setIfInBounds_toArray, List.set_cons_zero, List.set_cons_succ]
  refine wpAnyH_take (i := 1) (oi := { dst := some 6, op := Op.load 27 (Operand.tmp 5), type := 27, pos := "encode.go:120", after := #[{ on := 0, ground := Ground.data }], guard := none }) (v := _) rfl (by kernel_rfl) (by kernel_rfl) (by kernel_rfl) (fun _ _ _ h => h) (y_load1 (by rfl) _ _ rfl _ _ rfl 0 _ rfl _ rfl _ Tryd.underlying27 rfl) (by exact (by first | assumption | exact S.dropR)) ?_
  simp only [Act.put, List.setIfInBounds_toArray, List.set_cons_zero, List.set_cons_succ]
  refine wpAnyH_take (i := 2) (oi := { dst := some 7, op := Op.convert 27 3 (Operand.tmp 6), type := 3, pos := "encode.go:120", after := #[{ on := 1, ground := Ground.data }], guard := none }) (v := ?_) rfl (by kernel_rfl) (by kernel_rfl) (by kernel_rfl) (fun _ _ _ h => h) (Or.inl ⟨by rfl, ?_⟩) (by exact (by first | assumption | exact S.dropR)) ?_
  rotate_left 1
  · intro w hSw
    clear hSw
    go_simp
    try with_reducible rfl
  simp only [Act.put, List.setIfInBounds_toArray, List.set_cons_zero, List.set_cons_succ]
  refine wpAnyH_take (i := 3) (oi := { dst := some 8, op := Op.load 29 (Operand.tmp 1), type := 29, pos := "encode.go:120", after := #[], guard := none }) (v := _) rfl (by kernel_rfl) (by kernel_rfl) (by kernel_rfl) (fun _ _ _ h => h) (y_loadAll (by rfl) _ _ rfl _ rfl 0 _ rfl _ Tryd.underlying29 rfl (szIV _)) (by exact (by first | assumption | exact S.dropR)) ?_
  simp only [Act.put, List.setIfInBounds_toArray, List.set_cons_zero, List.set_cons_succ]
  refine wpAnyH_ready (rs := [4]) (by kernel_rfl) (by simp) ?_
  refine AllReadyH.cons rfl (fun K hK => ?_) AllReadyH.nil
  go_simp
  go_wp2_with (go_at_call 69; refine (CB.out _ (HT.next S.low)).mono ?_; rintro e wf ⟨rfl, hbf⟩)
  replace S := S.below hbf
  clear hbf
  refine hK.out _ _ (by exact S) (fun _ => ?_)
  clear hK K
  refine wpAnyH_take (i := 5) (oi := { dst := some 3, op := Op.assign (Operand.tmp 7), type := 3, pos := "encode.go:120", after := #[{ on := 2, ground := Ground.data }, { on := 4, ground := Ground.chain }, { on := 0, ground := Ground.phase }, { on := 1, ground := Ground.phase }, { on := 2, ground := Ground.phase }, { on := 3, ground := Ground.textOnly Departure.lateStores }, { on := 4, ground := Ground.textOnly Departure.lateStoresUnsure }], guard := none }) (v := ?_) rfl (by kernel_rfl) (by kernel_rfl) (by kernel_rfl) (fun _ _ _ h => h) (Or.inl ⟨by rfl, ?_⟩) (by exact (by first | assumption | exact S.dropR)) ?_
  rotate_left 1
  · intro w hSw
    clear hSw
    go_simp
    try with_reducible rfl
  simp only [Act.put, List.setIfInBounds_toArray, List.set_cons_zero, List.set_cons_succ]
  refine wpAnyH_take (i := 6) (oi := { dst := some 4, op := Op.assign (Operand.tmp 9), type := 22, pos := "encode.go:120", after := #[{ on := 4, ground := Ground.data }, { on := 5, ground := Ground.chain }, { on := 0, ground := Ground.phase }, { on := 1, ground := Ground.phase }, { on := 2, ground := Ground.phase }, { on := 3, ground := Ground.phase }, { on := 4, ground := Ground.phase }, { on := 5, ground := Ground.phase }], guard := none }) (v := ?_) rfl (by kernel_rfl) (by kernel_rfl) (by kernel_rfl) (fun _ _ _ h => h) (Or.inl ⟨by rfl, ?_⟩) (by exact (by first | assumption | exact S.dropR)) ?_
  rotate_left 1
  · intro w hSw
    clear hSw
    go_simp
    try with_reducible rfl
  simp only [Act.put, List.setIfInBounds_toArray, List.set_cons_zero, List.set_cons_succ]
  refine wpAnyH_done (by kernel_rfl) ?_ _
  go_wp2_with (first
    | ((with_reducible refine wpl_is ?_); first
      | (refine S.ld 3 _ rfl _ 0 rfl 0 (Cel.iv i) rfl _ rfl _ Tryd.underlying3 rfl rfl ?_)))
  refine wp_region_held_drew (S := fun w' => SH noZ w w' [(b2, Cel.iv i)]) (by kernel_rfl) (by exact S.drew) (fun _ => ?_)
  replace S := S.drew
  refine wpAnyH_take (i := 0) (oi := { dst := some 14, op := Op.move (Operand.tmp 4), type := 22, pos := "encode.go:123", after := #[], guard := none }) (v := ?_) rfl (by kernel_rfl) (by kernel_rfl) (by kernel_rfl) (fun _ _ _ h => h) (Or.inl ⟨by rfl, ?_⟩) (by exact (by first | assumption | exact S.dropR)) ?_
  rotate_left 1
  · intro w hSw
    clear hSw
    go_simp
    try with_reducible rfl
  simp only [Act.put, List.setIfInBounds_toArray, List.set_cons_zero, List.set_cons_succ]
  refine wpAnyH_take (i := 1) (oi := { dst := some 15, op := Op.move (Operand.tmp 3), type := 3, pos := "encode.go:123", after := #[], guard := none }) (v := ?_) rfl (by kernel_rfl) (by kernel_rfl) (by kernel_rfl) (fun _ _ _ h => h) (Or.inl ⟨by rfl, ?_⟩) (by exact (by first | assumption | exact S.dropR)) ?_
  rotate_left 1
  · intro w hSw
    clear hSw
    go_simp
    try with_reducible rfl
  simp only [Act.put, List.setIfInBounds_toArray, List.set_cons_zero, List.set_cons_succ]
  refine wpAnyH_take (i := 2) (oi := { dst := some 16, op := Op.binOp BinOp.quo 3 (Operand.tmp 15) (Operand.const (Value.int IntKind.i64 4)) 3, type := 3, pos := "encode.go:123", after := #[{ on := 1, ground := Ground.data }], guard := none }) (v := ?_) rfl (by kernel_rfl) (by kernel_rfl) (by kernel_rfl) (fun _ _ _ h => h) (Or.inl ⟨by rfl, ?_⟩) (by exact (by first | assumption | exact S.dropR)) ?_
  rotate_left 1
  · intro w hSw
    clear hSw
    go_simp
    try with_reducible rfl
  simp only [Act.put, List.setIfInBounds_toArray, List.set_cons_zero, List.set_cons_succ]
  refine wpAnyH_take (i := 3) (oi := { dst := some 17, op := Op.fieldAddr 29 (Operand.tmp 1) 5, type := 0, pos := "encode.go:123", after := #[], guard := none }) (v := ?_) rfl (by kernel_rfl) (by kernel_rfl) (by kernel_rfl) (fun _ _ _ h => h) (Or.inl ⟨by rfl, ?_⟩) (by exact (by first | assumption | exact S.dropR)) ?_
  rotate_left 1
  · intro w hSw
    clear hSw
    go_simp
    try with_reducible rfl
  simp only [Act.put, List.setIfInBounds_toArray, List.set_cons_zero, List.set_cons_succ]
  refine wpAnyH_take (i := 4) (oi := { dst := some 18, op := Op.load 3 (Operand.tmp 17), type := 3, pos := "encode.go:123", after := #[{ on := 3, ground := Ground.data }], guard := none }) (v := _) rfl (by kernel_rfl) (by kernel_rfl) (by kernel_rfl) (fun _ _ _ h => h) (y_load1 (by rfl) _ _ rfl _ _ rfl 0 _ rfl _ rfl _ Tryd.underlying3 rfl) (by exact (by first | assumption | exact S.dropR)) ?_
  simp only [Act.put, List.setIfInBounds_toArray, List.set_cons_zero, List.set_cons_succ]
  refine wpAnyH_take (i := 5) (oi := { dst := some 19, op := Op.fieldAddr 29 (Operand.tmp 1) 4, type := 0, pos := "encode.go:123", after := #[], guard := none }) (v := ?_) rfl (by kernel_rfl) (by kernel_rfl) (by kernel_rfl) (fun _ _ _ h => h) (Or.inl ⟨by rfl, ?_⟩) (by exact (by first | assumption | exact S.dropR)) ?_
  rotate_left 1
  · intro w hSw
    clear hSw
    go_simp
    try with_reducible rfl
  simp only [Act.put, List.setIfInBounds_toArray, List.set_cons_zero, List.set_cons_succ]
  refine wpAnyH_take (i := 6) (oi := { dst := some 20, op := Op.load 3 (Operand.tmp 19), type := 3, pos := "encode.go:123", after := #[{ on := 5, ground := Ground.data }], guard := none }) (v := _) rfl (by kernel_rfl) (by kernel_rfl) (by kernel_rfl) (fun _ _ _ h => h) (y_load1 (by rfl) _ _ rfl _ _ rfl 0 _ rfl _ rfl _ Tryd.underlying3 rfl) (by exact (by first | assumption | exact S.dropR)) ?_
  simp only [Act.put, List.setIfInBounds_toArray, List.set_cons_zero, List.set_cons_succ]
  refine wpAnyH_take (i := 8) (oi := { dst := some 22, op := Op.fieldAddr 29 (Operand.tmp 1) 4, type := 0, pos := "encode.go:123", after := #[], guard := none }) (v := ?_) rfl (by kernel_rfl) (by kernel_rfl) (by kernel_rfl) (fun _ _ _ h => h) (Or.inl ⟨by rfl, ?_⟩) (by exact (by first | assumption | exact S.dropR)) ?_
  rotate_left 1
  · intro w hSw
    clear hSw
    go_simp
    try with_reducible rfl
  simp only [Act.put, List.setIfInBounds_toArray, List.set_cons_zero, List.set_cons_succ]
  refine wpAnyH_take (i := 9) (oi := { dst := some 23, op := Op.load 3 (Operand.tmp 22), type := 3, pos := "encode.go:123", after := #[{ on := 8, ground := Ground.data }], guard := none }) (v := _) rfl (by kernel_rfl) (by kernel_rfl) (by kernel_rfl) (fun _ _ _ h => h) (y_load1 (by rfl) _ _ rfl _ _ rfl 0 _ rfl _ rfl _ Tryd.underlying3 rfl) (by exact (by first | assumption | exact S.dropR)) ?_
  simp only [Act.put, List.setIfInBounds_toArray, List.set_cons_zero, List.set_cons_succ]
  refine wpAnyH_take (i := 10) (oi := { dst := some 24, op := Op.move (Operand.tmp 3), type := 3, pos := "encode.go:123", after := #[], guard := none }) (v := ?_) rfl (by kernel_rfl) (by kernel_rfl) (by kernel_rfl) (fun _ _ _ h => h) (Or.inl ⟨by rfl, ?_⟩) (by exact (by first | assumption | exact S.dropR)) ?_
  rotate_left 1
  · intro w hSw
    clear hSw
    go_simp
    try with_reducible rfl
  simp only [Act.put, List.setIfInBounds_toArray, List.set_cons_zero, List.set_cons_succ]
  refine wpAnyH_take (i := 11) (oi := { dst := some 25, op := Op.binOp BinOp.quo 3 (Operand.tmp 24) (Operand.const (Value.int IntKind.i64 4)) 3, type := 3, pos := "encode.go:123", after := #[{ on := 10, ground := Ground.data }], guard := none }) (v := ?_) rfl (by kernel_rfl) (by kernel_rfl) (by kernel_rfl) (fun _ _ _ h => h) (Or.inl ⟨by rfl, ?_⟩) (by exact (by first | assumption | exact S.dropR)) ?_
  rotate_left 1
  · intro w hSw
    clear hSw
    go_simp
    try with_reducible rfl
  simp only [Act.put, List.setIfInBounds_toArray, List.set_cons_zero, List.set_cons_succ]
  refine wpAnyH_ready (rs := [7]) (by kernel_rfl) (by simp) ?_
  refine AllReadyH.cons rfl (fun K hK => ?_) AllReadyH.nil
  go_simp
  go_wp2_with (go_at_call 65; refine (three_5 24576 (by decide) (by decide) (i.imm / 4) i.n i.d _).mono ?_; rintro e wf ⟨rfl, rfl⟩)
  refine hK.out _ _ (by exact S) (fun _ => ?_)
  clear hK K
  refine wpAnyH_ready (rs := [12]) (by kernel_rfl) (by simp) ?_
  refine AllReadyH.cons rfl (fun K hK => ?_) AllReadyH.nil
  go_simp
  go_wp2_with (go_at_call 66; refine (two_c 36864 (by decide) (by decide) i.d (i.imm / 4) _).mono ?_; rintro e wf ⟨rfl, rfl⟩)
  refine hK.out _ _ (by exact S) (fun _ => ?_)
  clear hK K
  refine wpAnyH_ready (rs := [13]) (by kernel_rfl) (by simp) ?_
  refine AllReadyH.cons rfl (fun K hK => ?_) AllReadyH.nil
  rw [if_pos (by rfl)]
  refine S.wpSlice 27 rfl 25 3 _ rfl (uc [BY, three5 24576 (i.imm / 4) i.n i.d, two8 36864 i.d (i.imm / 4)]) 22 (by kernel_rfl) ?_
  clear S
  intro g w1 S
  refine hK.out _ _ (by exact S.fewer 1) (fun _ => ?_)
  simp only [Act.put, List.setIfInBounds_toArray, List.set_cons_zero, List.set_cons_succ]
  clear hK K
  refine wpAnyH_take (i := 14) (oi := { dst := some 2, op := Op.assign (Operand.tmp 27), type := 25, pos := "encode.go:123", after := #[{ on := 13, ground := Ground.data }, { on := 12, ground := Ground.chain }, { on := 0, ground := Ground.phase }, { on := 1, ground := Ground.phase }, { on := 2, ground := Ground.phase }, { on := 3, ground := Ground.phase }, { on := 4, ground := Ground.phase }, { on := 5, ground := Ground.phase }, { on := 6, ground := Ground.phase }, { on := 7, ground := Ground.phase }, { on := 8, ground := Ground.phase }, { on := 9, ground := Ground.phase }, { on := 10, ground := Ground.phase }, { on := 11, ground := Ground.phase }, { on := 12, ground := Ground.phase }, { on := 13, ground := Ground.phase }], guard := none }) (v := ?_) rfl (by kernel_rfl) (by kernel_rfl) (by kernel_rfl) (fun _ _ _ h => h) (Or.inl ⟨by rfl, ?_⟩) (by exact (by first | assumption | exact S.dropR)) ?_
  rotate_left 1
  · intro w hSw
    clear hSw
    go_simp
    try with_reducible rfl
  simp only [Act.put, List.setIfInBounds_toArray, List.set_cons_zero, List.set_cons_succ]
  refine wpAnyH_done (by kernel_rfl) ?_ _
  go_wp2
  (try simp only [Exit.inBlock, Exit.then])
  go_ret
  exact ⟨_, rfl, HLs.of_blk (S.at (i := 0) rfl).1, S.low⟩
set_option maxHeartbeats 4000000 in
set_option maxRecDepth 100000 in
theorem mem44_c (i : IV) (hop : i.op = ((44 : Nat) : Int)) (hi : OKi i) (w : World) (HT : LT w) : Calls Tryd.prog 50 #[i.val] w fun e w' => HRes w [two8 18432 i.d (i.imm / 4), (byRegZ i 44), three5 26624 (i.imm / 4) i.n i.d, two8 38912 i.d (i.imm / 4)] e w' := by
  obtain ⟨hi0, hi1⟩ := hi
  have ht4 := tdiv_pos i.imm 4 hi0
  have ht2 := tdiv_pos i.imm 2 hi0
  have hw4 := wrap_q i.imm 4 hi0 hi1 (by decide)
  have hw2 := wrap_q i.imm 2 hi0 hi1 (by decide)
  have CB : Hid (∀ w1, LT w1 → Calls Tryd.prog 69 #[i.val] w1 fun e w' => e = .returned (.int .u16 (byRegZ i 44 : Nat)) ∧ Below w1.heap.size w1 w') := fun w1 h1 => byReg_c i 44 hop w1 h1
  generalize byRegZ i 44 = BY at *
  go_enter Tryd.func50, Tryd.ntmps50
  have S := SH.start w
  go_wp2_with (first
    | ((with_reducible refine wpl_is ?_); first
      | (refine SH.box (L := []) S rfl 29 _ rfl (Cel.iv i) rfl ?_; clear S; intro b2 w0 S)
      | (refine S.ld 3 _ rfl _ 0 rfl 0 (Cel.iv i) rfl _ rfl _ Tryd.underlying3 rfl rfl ?_)
      | (refine S.ld 27 _ rfl _ 8 rfl 0 (Cel.iv i) rfl _ rfl _ Tryd.underlying27 rfl rfl ?_)))
  refine wp_region_held_drew (S := fun w' => SH noZ w w' [(b2, Cel.iv i)]) (by kernel_rfl) (by exact S.drew) (fun _ => ?_)
  replace S := S.drew
  refine wpAnyH_take (i := 0) (oi := { dst := some 5, op := Op.fieldAddr 29 (Operand.tmp 1) 8, type := 0, pos := "encode.go:120", after := #[], guard := none }) (v := ?_) rfl (by kernel_rfl) (by kernel_rfl) (by kernel_rfl) (fun _ _ _ h => h) (Or.inl ⟨by rfl, ?_⟩) (by exact (by first | assumption | exact S.dropR)) ?_
  rotate_left 1
  · intro w hSw
    clear hSw
    go_simp
    try with_reducible rfl
  simp only [Act.put, List.setIfInBounds_toArray, List.set_cons_zero, List.set_cons_succ]
  refine wpAnyH_take (i := 1) (oi := { dst := some 6, op := Op.load 27 (Operand.tmp 5), type := 27, pos := "encode.go:120", after := #[{ on := 0, ground := Ground.data }], guard := none }) (v := _) rfl (by kernel_rfl) (by kernel_rfl) (by kernel_rfl) (fun _ _ _ h => h) (y_load1 (by rfl) _ _ rfl _ _ rfl 0 _ rfl _ rfl _ Tryd.underlying27 rfl) (by exact (by first | assumption | exact S.dropR)) ?_
  simp only [Act.put, List.setIfInBounds_toArray, List.set_cons_zero, List.set_cons_succ]
  refine wpAnyH_take (i := 2) (oi := { dst := some 7, op := Op.convert 27 3 (Operand.tmp 6), type := 3, pos := "encode.go:120", after := #[{ on := 1, ground := Ground.data }], guard := none }) (v := ?_) rfl (by kernel_rfl) (by kernel_rfl) (by kernel_rfl) (fun _ _ _ h => h) (Or.inl ⟨by rfl, ?_⟩) (by exact (by first | assumption | exact S.dropR)) ?_
  rotate_left 1
  · intro w hSw
    clear hSw
    go_simp
    try with_reducible rfl
  simp only [Act.put, List.setIfInBounds_toArray, List.set_cons_zero, List.set_cons_succ]
  refine wpAnyH_take (i := 3) (oi := { dst := some 8, op := Op.load 29 (Operand.tmp 1), type := 29, pos := "encode.go:120", after := #[], guard := none }) (v := _) rfl (by kernel_rfl) (by kernel_rfl) (by kernel_rfl) (fun _ _ _ h => h) (y_loadAll (by rfl) _ _ rfl _ rfl 0 _ rfl _ Tryd.underlying29 rfl (szIV _)) (by exact (by first | assumption | exact S.dropR)) ?_
  simp only [Act.put, List.setIfInBounds_toArray, List.set_cons_zero, List.set_cons_succ]
  refine wpAnyH_ready (rs := [4]) (by kernel_rfl) (by simp) ?_
  refine AllReadyH.cons rfl (fun K hK => ?_) AllReadyH.nil
  go_simp
  go_wp2_with (go_at_call 69; refine (CB.out _ (HT.next S.low)).mono ?_; rintro e wf ⟨rfl, hbf⟩)
  replace S := S.below hbf
  clear hbf
  refine hK.out _ _ (by exact S) (fun _ => ?_)
  clear hK K
  refine wpAnyH_take (i := 5) (oi := { dst := some 3, op := Op.assign (Operand.tmp 7), type := 3, pos := "encode.go:120", after := #[{ on := 2, ground := Ground.data }, { on := 4, ground := Ground.chain }, { on := 0, ground := Ground.phase }, { on := 1, ground := Ground.phase }, { on := 2, ground := Ground.phase }, { on := 3, ground := Ground.textOnly Departure.lateStores }, { on := 4, ground := Ground.textOnly Departure.lateStoresUnsure }], guard := none }) (v := ?_) rfl (by kernel_rfl) (by kernel_rfl) (by kernel_rfl) (fun _ _ _ h => h) (Or.inl ⟨by rfl, ?_⟩) (by exact (by first | assumption | exact S.dropR)) ?_
  rotate_left 1
  · intro w hSw
    clear hSw
    go_simp
    try with_reducible rfl
  simp only [Act.put, List.setIfInBounds_toArray, List.set_cons_zero, List.set_cons_succ]
  refine wpAnyH_take (i := 6) (oi := { dst := some 4, op := Op.assign (Operand.tmp 9), type := 22, pos := "encode.go:120", after := #[{ on := 4, ground := Ground.data }, { on := 5, ground := Ground.chain }, { on := 0, ground := Ground.phase }, { on := 1, ground := Ground.phase }, { on := 2, ground := Ground.phase }, { on := 3, ground := Ground.phase }, { on := 4, ground := Ground.phase }, { on := 5, ground := Ground.phase }], guard := none }) (v := ?_) rfl (by kernel_rfl) (by kernel_rfl) (by kernel_rfl) (fun _ _ _ h => h) (Or.inl ⟨by rfl, ?_⟩) (by exact (by first | assumption | exact S.dropR)) ?_
  rotate_left 1
  · intro w hSw
    clear hSw
    go_simp
    try with_reducible rfl
  simp only [Act.put, List.setIfInBounds_toArray, List.set_cons_zero, List.set_cons_succ]
  refine wpAnyH_done (by kernel_rfl) ?_ _
  go_wp2_with (first
    | ((with_reducible refine wpl_is ?_); first
      | (refine S.ld 3 _ rfl _ 0 rfl 0 (Cel.iv i) rfl _ rfl _ Tryd.underlying3 rfl rfl ?_)))
  refine wp_region_held_drew (S := fun w' => SH noZ w w' [(b2, Cel.iv i)]) (by kernel_rfl) (by exact S.drew) (fun _ => ?_)
  replace S := S.drew
  refine wpAnyH_take (i := 0) (oi := { dst := some 30, op := Op.fieldAddr 29 (Operand.tmp 1) 4, type := 0, pos := "encode.go:125", after := #[], guard := none }) (v := ?_) rfl (by kernel_rfl) (by kernel_rfl) (by kernel_rfl) (fun _ _ _ h => h) (Or.inl ⟨by rfl, ?_⟩) (by exact (by first | assumption | exact S.dropR)) ?_
  rotate_left 1
  · intro w hSw
    clear hSw
    go_simp
    try with_reducible rfl
  simp only [Act.put, List.setIfInBounds_toArray, List.set_cons_zero, List.set_cons_succ]
  refine wpAnyH_take (i := 1) (oi := { dst := some 31, op := Op.load 3 (Operand.tmp 30), type := 3, pos := "encode.go:125", after := #[{ on := 0, ground := Ground.data }], guard := none }) (v := _) rfl (by kernel_rfl) (by kernel_rfl) (by kernel_rfl) (fun _ _ _ h => h) (y_load1 (by rfl) _ _ rfl _ _ rfl 0 _ rfl _ rfl _ Tryd.underlying3 rfl) (by exact (by first | assumption | exact S.dropR)) ?_
  simp only [Act.put, List.setIfInBounds_toArray, List.set_cons_zero, List.set_cons_succ]
  refine wpAnyH_take (i := 2) (oi := { dst := some 32, op := Op.move (Operand.tmp 3), type := 3, pos := "encode.go:125", after := #[], guard := none }) (v := ?_) rfl (by kernel_rfl) (by kernel_rfl) (by kernel_rfl) (fun _ _ _ h => h) (Or.inl ⟨by rfl, ?_⟩) (by exact (by first | assumption | exact S.dropR)) ?_
  rotate_left 1
  · intro w hSw
    clear hSw
    go_simp
    try with_reducible rfl
  simp only [Act.put, List.setIfInBounds_toArray, List.set_cons_zero, List.set_cons_succ]
  refine wpAnyH_take (i := 3) (oi := { dst := some 33, op := Op.binOp BinOp.quo 3 (Operand.tmp 32) (Operand.const (Value.int IntKind.i64 4)) 3, type := 3, pos := "encode.go:125", after := #[{ on := 2, ground := Ground.data }], guard := none }) (v := ?_) rfl (by kernel_rfl) (by kernel_rfl) (by kernel_rfl) (fun _ _ _ h => h) (Or.inl ⟨by rfl, ?_⟩) (by exact (by first | assumption | exact S.dropR)) ?_
  rotate_left 1
  · intro w hSw
    clear hSw
    go_simp
    try with_reducible rfl
  simp only [Act.put, List.setIfInBounds_toArray, List.set_cons_zero, List.set_cons_succ]
  refine wpAnyH_take (i := 5) (oi := { dst := some 35, op := Op.move (Operand.tmp 4), type := 22, pos := "encode.go:125", after := #[], guard := none }) (v := ?_) rfl (by kernel_rfl) (by kernel_rfl) (by kernel_rfl) (fun _ _ _ h => h) (Or.inl ⟨by rfl, ?_⟩) (by exact (by first | assumption | exact S.dropR)) ?_
  rotate_left 1
  · intro w hSw
    clear hSw
    go_simp
    try with_reducible rfl
  simp only [Act.put, List.setIfInBounds_toArray, List.set_cons_zero, List.set_cons_succ]
  refine wpAnyH_take (i := 6) (oi := { dst := some 36, op := Op.move (Operand.tmp 3), type := 3, pos := "encode.go:125", after := #[], guard := none }) (v := ?_) rfl (by kernel_rfl) (by kernel_rfl) (by kernel_rfl) (fun _ _ _ h => h) (Or.inl ⟨by rfl, ?_⟩) (by exact (by first | assumption | exact S.dropR)) ?_
  rotate_left 1
  · intro w hSw
    clear hSw
    go_simp
    try with_reducible rfl
  simp only [Act.put, List.setIfInBounds_toArray, List.set_cons_zero, List.set_cons_succ]
  refine wpAnyH_take (i := 7) (oi := { dst := some 37, op := Op.binOp BinOp.quo 3 (Operand.tmp 36) (Operand.const (Value.int IntKind.i64 4)) 3, type := 3, pos := "encode.go:125", after := #[{ on := 6, ground := Ground.data }], guard := none }) (v := ?_) rfl (by kernel_rfl) (by kernel_rfl) (by kernel_rfl) (fun _ _ _ h => h) (Or.inl ⟨by rfl, ?_⟩) (by exact (by first | assumption | exact S.dropR)) ?_
  rotate_left 1
  · intro w hSw
    clear hSw
    go_simp
    try with_reducible rfl
  simp only [Act.put, List.setIfInBounds_toArray, List.set_cons_zero, List.set_cons_succ]
  refine wpAnyH_take (i := 8) (oi := { dst := some 38, op := Op.fieldAddr 29 (Operand.tmp 1) 5, type := 0, pos := "encode.go:125", after := #[], guard := none }) (v := ?_) rfl (by kernel_rfl) (by kernel_rfl) (by kernel_rfl) (fun _ _ _ h => h) (Or.inl ⟨by rfl, ?_⟩) (by exact (by first | assumption | exact S.dropR)) ?_
  rotate_left 1
  · intro w hSw
    clear hSw
    go_simp
    try with_reducible rfl
  simp only [Act.put, List.setIfInBounds_toArray, List.set_cons_zero, List.set_cons_succ]
  refine wpAnyH_take (i := 9) (oi := { dst := some 39, op := Op.load 3 (Operand.tmp 38), type := 3, pos := "encode.go:125", after := #[{ on := 8, ground := Ground.data }], guard := none }) (v := _) rfl (by kernel_rfl) (by kernel_rfl) (by kernel_rfl) (fun _ _ _ h => h) (y_load1 (by rfl) _ _ rfl _ _ rfl 0 _ rfl _ rfl _ Tryd.underlying3 rfl) (by exact (by first | assumption | exact S.dropR)) ?_
  simp only [Act.put, List.setIfInBounds_toArray, List.set_cons_zero, List.set_cons_succ]
  refine wpAnyH_take (i := 10) (oi := { dst := some 40, op := Op.fieldAddr 29 (Operand.tmp 1) 4, type := 0, pos := "encode.go:125", after := #[], guard := none }) (v := ?_) rfl (by kernel_rfl) (by kernel_rfl) (by kernel_rfl) (fun _ _ _ h => h) (Or.inl ⟨by rfl, ?_⟩) (by exact (by first | assumption | exact S.dropR)) ?_
  rotate_left 1
  · intro w hSw
    clear hSw
    go_simp
    try with_reducible rfl
  simp only [Act.put, List.setIfInBounds_toArray, List.set_cons_zero, List.set_cons_succ]
  refine wpAnyH_take (i := 11) (oi := { dst := some 41, op := Op.load 3 (Operand.tmp 40), type := 3, pos := "encode.go:125", after := #[{ on := 10, ground := Ground.data }], guard := none }) (v := _) rfl (by kernel_rfl) (by kernel_rfl) (by kernel_rfl) (fun _ _ _ h => h) (y_load1 (by rfl) _ _ rfl _ _ rfl 0 _ rfl _ rfl _ Tryd.underlying3 rfl) (by exact (by first | assumption | exact S.dropR)) ?_
  simp only [Act.put, List.setIfInBounds_toArray, List.set_cons_zero, List.set_cons_succ]
  refine wpAnyH_take (i := 13) (oi := { dst := some 43, op := Op.fieldAddr 29 (Operand.tmp 1) 4, type := 0, pos := "encode.go:125", after := #[], guard := none }) (v := ?_) rfl (by kernel_rfl) (by kernel_rfl) (by kernel_rfl) (fun _ _ _ h => h) (Or.inl ⟨by rfl, ?_⟩) (by exact (by first | assumption | exact S.dropR)) ?_
  rotate_left 1
  · intro w hSw
    clear hSw
    go_simp
    try with_reducible rfl
  simp only [Act.put, List.setIfInBounds_toArray, List.set_cons_zero, List.set_cons_succ]
  refine wpAnyH_take (i := 14) (oi := { dst := some 44, op := Op.load 3 (Operand.tmp 43), type := 3, pos := "encode.go:125", after := #[{ on := 13, ground := Ground.data }], guard := none }) (v := _) rfl (by kernel_rfl) (by kernel_rfl) (by kernel_rfl) (fun _ _ _ h => h) (y_load1 (by rfl) _ _ rfl _ _ rfl 0 _ rfl _ rfl _ Tryd.underlying3 rfl) (by exact (by first | assumption | exact S.dropR)) ?_
  simp only [Act.put, List.setIfInBounds_toArray, List.set_cons_zero, List.set_cons_succ]
  refine wpAnyH_take (i := 15) (oi := { dst := some 45, op := Op.move (Operand.tmp 3), type := 3, pos := "encode.go:125", after := #[], guard := none }) (v := ?_) rfl (by kernel_rfl) (by kernel_rfl) (by kernel_rfl) (fun _ _ _ h => h) (Or.inl ⟨by rfl, ?_⟩) (by exact (by first | assumption | exact S.dropR)) ?_
  rotate_left 1
  · intro w hSw
    clear hSw
    go_simp
    try with_reducible rfl
  simp only [Act.put, List.setIfInBounds_toArray, List.set_cons_zero, List.set_cons_succ]
  refine wpAnyH_take (i := 16) (oi := { dst := some 46, op := Op.binOp BinOp.quo 3 (Operand.tmp 45) (Operand.const (Value.int IntKind.i64 4)) 3, type := 3, pos := "encode.go:125", after := #[{ on := 15, ground := Ground.data }], guard := none }) (v := ?_) rfl (by kernel_rfl) (by kernel_rfl) (by kernel_rfl) (fun _ _ _ h => h) (Or.inl ⟨by rfl, ?_⟩) (by exact (by first | assumption | exact S.dropR)) ?_
  rotate_left 1
  · intro w hSw
    clear hSw
    go_simp
    try with_reducible rfl
  simp only [Act.put, List.setIfInBounds_toArray, List.set_cons_zero, List.set_cons_succ]
  refine wpAnyH_ready (rs := [4]) (by kernel_rfl) (by simp) ?_
  refine AllReadyH.cons rfl (fun K hK => ?_) AllReadyH.nil
  go_simp
  go_wp2_with (go_at_call 66; refine (two_c 18432 (by decide) (by decide) i.d (i.imm / 4) _).mono ?_; rintro e wf ⟨rfl, rfl⟩)
  refine hK.out _ _ (by exact S) (fun _ => ?_)
  clear hK K
  refine wpAnyH_ready (rs := [12]) (by kernel_rfl) (by simp) ?_
  refine AllReadyH.cons rfl (fun K hK => ?_) AllReadyH.nil
  go_simp
  go_wp2_with (go_at_call 65; refine (three_5 26624 (by decide) (by decide) (i.imm / 4) i.n i.d _).mono ?_; rintro e wf ⟨rfl, rfl⟩)
  refine hK.out _ _ (by exact S) (fun _ => ?_)
  clear hK K
  refine wpAnyH_ready (rs := [17]) (by kernel_rfl) (by simp) ?_
  refine AllReadyH.cons rfl (fun K hK => ?_) AllReadyH.nil
  go_simp
  go_wp2_with (go_at_call 66; refine (two_c 38912 (by decide) (by decide) i.d (i.imm / 4) _).mono ?_; rintro e wf ⟨rfl, rfl⟩)
  refine hK.out _ _ (by exact S) (fun _ => ?_)
  clear hK K
  refine wpAnyH_ready (rs := [18]) (by kernel_rfl) (by simp) ?_
  refine AllReadyH.cons rfl (fun K hK => ?_) AllReadyH.nil
  rw [if_pos (by rfl)]
  refine S.wpSlice 48 rfl 25 4 _ rfl (uc [two8 18432 i.d (i.imm / 4), BY, three5 26624 (i.imm / 4) i.n i.d, two8 38912 i.d (i.imm / 4)]) 22 (by kernel_rfl) ?_
  clear S
  intro g w1 S
  refine hK.out _ _ (by exact S.fewer 1) (fun _ => ?_)
  simp only [Act.put, List.setIfInBounds_toArray, List.set_cons_zero, List.set_cons_succ]
  clear hK K
  refine wpAnyH_take (i := 19) (oi := { dst := some 2, op := Op.assign (Operand.tmp 48), type := 25, pos := "encode.go:125", after := #[{ on := 18, ground := Ground.data }, { on := 17, ground := Ground.chain }, { on := 0, ground := Ground.phase }, { on := 1, ground := Ground.phase }, { on := 2, ground := Ground.phase }, { on := 3, ground := Ground.phase }, { on := 4, ground := Ground.phase }, { on := 5, ground := Ground.phase }, { on := 6, ground := Ground.phase }, { on := 7, ground := Ground.phase }, { on := 8, ground := Ground.phase }, { on := 9, ground := Ground.phase }, { on := 10, ground := Ground.phase }, { on := 11, ground := Ground.phase }, { on := 12, ground := Ground.phase }, { on := 13, ground := Ground.phase }, { on := 14, ground := Ground.phase }, { on := 15, ground := Ground.phase }, { on := 16, ground := Ground.phase }, { on := 17, ground := Ground.phase }, { on := 18, ground := Ground.phase }], guard := none }) (v := ?_) rfl (by kernel_rfl) (by kernel_rfl) (by kernel_rfl) (fun _ _ _ h => h) (Or.inl ⟨by rfl, ?_⟩) (by exact (by first | assumption | exact S.dropR)) ?_
  rotate_left 1
  · intro w hSw
    clear hSw
    go_simp
    try with_reducible rfl
  simp only [Act.put, List.setIfInBounds_toArray, List.set_cons_zero, List.set_cons_succ]
  refine wpAnyH_done (by kernel_rfl) ?_ _
  go_wp2
  (try simp only [Exit.inBlock, Exit.then])
  go_ret
  exact ⟨_, rfl, HLs.of_blk (S.at (i := 0) rfl).1, S.low⟩
set_option maxHeartbeats 4000000 in
set_option maxRecDepth 100000 in
theorem mem50_c (i : IV) (hop : i.op = ((50 : Nat) : Int)) (hi : OKi i) (w : World) (HT : LT w) : Calls Tryd.prog 50 #[i.val] w fun e w' => HRes w [(byRegZ i 50), three5 28672 i.imm i.n i.d] e w' := by
  obtain ⟨hi0, hi1⟩ := hi
  have ht4 := tdiv_pos i.imm 4 hi0
  have ht2 := tdiv_pos i.imm 2 hi0
  have hw4 := wrap_q i.imm 4 hi0 hi1 (by decide)
  have hw2 := wrap_q i.imm 2 hi0 hi1 (by decide)
  have CB : Hid (∀ w1, LT w1 → Calls Tryd.prog 69 #[i.val] w1 fun e w' => e = .returned (.int .u16 (byRegZ i 50 : Nat)) ∧ Below w1.heap.size w1 w') := fun w1 h1 => byReg_c i 50 hop w1 h1
  generalize byRegZ i 50 = BY at *
  go_enter Tryd.func50, Tryd.ntmps50
  have S := SH.start w
  go_wp2_with (first
    | ((with_reducible refine wpl_is ?_); first
      | (refine SH.box (L := []) S rfl 29 _ rfl (Cel.iv i) rfl ?_; clear S; intro b2 w0 S)
      | (refine S.ld 3 _ rfl _ 0 rfl 0 (Cel.iv i) rfl _ rfl _ Tryd.underlying3 rfl rfl ?_)
      | (refine S.ld 27 _ rfl _ 8 rfl 0 (Cel.iv i) rfl _ rfl _ Tryd.underlying27 rfl rfl ?_)))
  refine wp_region_held_drew (S := fun w' => SH noZ w w' [(b2, Cel.iv i)]) (by kernel_rfl) (by exact S.drew) (fun _ => ?_)
  replace S := S.drew
  refine wpAnyH_take (i := 0) (oi := { dst := some 5, op := Op.fieldAddr 29 (Operand.tmp 1) 8, type := 0, pos := "encode.go:120", after := #[], guard := none }) (v := ?_) rfl (by kernel_rfl) (by kernel_rfl) (by kernel_rfl) (fun _ _ _ h => h) (Or.inl ⟨by rfl, ?_⟩) (by exact (by first | assumption | exact S.dropR)) ?_
  rotate_left 1
  · intro w hSw
    clear hSw
    go_simp
    try with_reducible rfl
  simp only [Act.put, List.setIfInBounds_toArray, List.set_cons_zero, List.set_cons_succ]
  refine wpAnyH_take (i := 1) (oi := { dst := some 6, op := Op.load 27 (Operand.tmp 5), type := 27, pos := "encode.go:120", after := #[{ on := 0, ground := Ground.data }], guard := none }) (v := _) rfl (by kernel_rfl) (by kernel_rfl) (by kernel_rfl) (fun _ _ _ h => h) (y_load1 (by rfl) _ _ rfl _ _ rfl 0 _ rfl _ rfl _ Tryd.underlying27 rfl) (by exact (by first | assumption | exact S.dropR)) ?_
  simp only [Act.put, List.setIfInBounds_toArray, List.set_cons_zero, List.set_cons_succ]
  refine wpAnyH_take (i := 2) (oi := { dst := some 7, op := Op.convert 27 3 (Operand.tmp 6), type := 3, pos := "encode.go:120", after := #[{ on := 1, ground := Ground.data }], guard := none }) (v := ?_) rfl (by kernel_rfl) (by kernel_rfl) (by kernel_rfl) (fun _ _ _ h => h) (Or.inl ⟨by rfl, ?_⟩) (by exact (by first | assumption | exact S.dropR)) ?_
  rotate_left 1
  · intro w hSw
    clear hSw
    go_simp
    try with_reducible rfl
  simp only [Act.put, List.setIfInBounds_toArray, List.set_cons_zero, List.set_cons_succ]
  refine wpAnyH_take (i := 3) (oi := { dst := some 8, op := Op.load 29 (Operand.tmp 1), type := 29, pos := "encode.go:120", after := #[], guard := none }) (v := _) rfl (by kernel_rfl) (by kernel_rfl) (by kernel_rfl) (fun _ _ _ h => h) (y_loadAll (by rfl) _ _ rfl _ rfl 0 _ rfl _ Tryd.underlying29 rfl (szIV _)) (by exact (by first | assumption | exact S.dropR)) ?_
  simp only [Act.put, List.setIfInBounds_toArray, List.set_cons_zero, List.set_cons_succ]
  refine wpAnyH_ready (rs := [4]) (by kernel_rfl) (by simp) ?_
  refine AllReadyH.cons rfl (fun K hK => ?_) AllReadyH.nil
  go_simp
  go_wp2_with (go_at_call 69; refine (CB.out _ (HT.next S.low)).mono ?_; rintro e wf ⟨rfl, hbf⟩)
  replace S := S.below hbf
  clear hbf
  refine hK.out _ _ (by exact S) (fun _ => ?_)
  clear hK K
  refine wpAnyH_take (i := 5) (oi := { dst := some 3, op := Op.assign (Operand.tmp 7), type := 3, pos := "encode.go:120", after := #[{ on := 2, ground := Ground.data }, { on := 4, ground := Ground.chain }, { on := 0, ground := Ground.phase }, { on := 1, ground := Ground.phase }, { on := 2, ground := Ground.phase }, { on := 3, ground := Ground.textOnly Departure.lateStores }, { on := 4, ground := Ground.textOnly Departure.lateStoresUnsure }], guard := none }) (v := ?_) rfl (by kernel_rfl) (by kernel_rfl) (by kernel_rfl) (fun _ _ _ h => h) (Or.inl ⟨by rfl, ?_⟩) (by exact (by first | assumption | exact S.dropR)) ?_
  rotate_left 1
  · intro w hSw
    clear hSw
    go_simp
    try with_reducible rfl
  simp only [Act.put, List.setIfInBounds_toArray, List.set_cons_zero, List.set_cons_succ]
  refine wpAnyH_take (i := 6) (oi := { dst := some 4, op := Op.assign (Operand.tmp 9), type := 22, pos := "encode.go:120", after := #[{ on := 4, ground := Ground.data }, { on := 5, ground := Ground.chain }, { on := 0, ground := Ground.phase }, { on := 1, ground := Ground.phase }, { on := 2, ground := Ground.phase }, { on := 3, ground := Ground.phase }, { on := 4, ground := Ground.phase }, { on := 5, ground := Ground.phase }], guard := none }) (v := ?_) rfl (by kernel_rfl) (by kernel_rfl) (by kernel_rfl) (fun _ _ _ h => h) (Or.inl ⟨by rfl, ?_⟩) (by exact (by first | assumption | exact S.dropR)) ?_
  rotate_left 1
  · intro w hSw
    clear hSw
    go_simp
    try with_reducible rfl
  simp only [Act.put, List.setIfInBounds_toArray, List.set_cons_zero, List.set_cons_succ]
  refine wpAnyH_done (by kernel_rfl) ?_ _
  go_wp2_with (first
    | (go_at_call 65; refine (three_5 28672 (by decide) (by decide) i.imm i.n i.d _).mono ?_; rintro e wf ⟨rfl, rfl⟩)
    | ((with_reducible refine wpl_is ?_); first
      | (refine S.sliceAny rfl 25 2 _ rfl (uc [BY, three5 28672 i.imm i.n i.d]) 22 (by kernel_rfl) ?_; clear S; intro g w1 S)
      | (refine S.ld 3 _ rfl _ 0 rfl 0 (Cel.iv i) rfl _ rfl _ Tryd.underlying3 rfl rfl ?_)
      | (refine S.ld 3 _ rfl _ 4 rfl 0 (Cel.iv i) rfl _ rfl _ Tryd.underlying3 rfl rfl ?_)
      | (refine S.ld 3 _ rfl _ 5 rfl 0 (Cel.iv i) rfl _ rfl _ Tryd.underlying3 rfl rfl ?_)))
  (try simp only [Exit.inBlock, Exit.then])
  go_ret
  exact ⟨_, rfl, HLs.of_blk (S.at (i := 0) rfl).1, S.low⟩
set_option maxHeartbeats 4000000 in
set_option maxRecDepth 100000 in
theorem mem45_c (i : IV) (hop : i.op = ((45 : Nat) : Int)) (hi : OKi i) (w : World) (HT : LT w) : Calls Tryd.prog 50 #[i.val] w fun e w' => HRes w [(byRegZ i 45), three5 30720 i.imm i.n i.d] e w' := by
  obtain ⟨hi0, hi1⟩ := hi
  have ht4 := tdiv_pos i.imm 4 hi0
  have ht2 := tdiv_pos i.imm 2 hi0
  have hw4 := wrap_q i.imm 4 hi0 hi1 (by decide)
  have hw2 := wrap_q i.imm 2 hi0 hi1 (by decide)
  have CB : Hid (∀ w1, LT w1 → Calls Tryd.prog 69 #[i.val] w1 fun e w' => e = .returned (.int .u16 (byRegZ i 45 : Nat)) ∧ Below w1.heap.size w1 w') := fun w1 h1 => byReg_c i 45 hop w1 h1
  generalize byRegZ i 45 = BY at *
  go_enter Tryd.func50, Tryd.ntmps50
  have S := SH.start w
  go_wp2_with (first
    | ((with_reducible refine wpl_is ?_); first
      | (refine SH.box (L := []) S rfl 29 _ rfl (Cel.iv i) rfl ?_; clear S; intro b2 w0 S)
      | (refine S.ld 3 _ rfl _ 0 rfl 0 (Cel.iv i) rfl _ rfl _ Tryd.underlying3 rfl rfl ?_)
      | (refine S.ld 27 _ rfl _ 8 rfl 0 (Cel.iv i) rfl _ rfl _ Tryd.underlying27 rfl rfl ?_)))
  refine wp_region_held_drew (S := fun w' => SH noZ w w' [(b2, Cel.iv i)]) (by kernel_rfl) (by exact S.drew) (fun _ => ?_)
  replace S := S.drew
  refine wpAnyH_take (i := 0) (oi := { dst := some 5, op := Op.fieldAddr 29 (Operand.tmp 1) 8, type := 0, pos := "encode.go:120", after := #[], guard := none }) (v := ?_) rfl (by kernel_rfl) (by kernel_rfl) (by kernel_rfl) (fun _ _ _ h => h) (Or.inl ⟨by rfl, ?_⟩) (by exact (by first | assumption | exact S.dropR)) ?_
  rotate_left 1
  · intro w hSw
    clear hSw
    go_simp
    try with_reducible rfl
  simp only [Act.put, List.setIfInBounds_toArray, List.set_cons_zero, List.set_cons_succ]
  refine wpAnyH_take (i := 1) (oi := { dst := some 6, op := Op.load 27 (Operand.tmp 5), type := 27, pos := "encode.go:120", after := #[{ on := 0, ground := Ground.data }], guard := none }) (v := _) rfl (by kernel_rfl) (by kernel_rfl) (by kernel_rfl) (fun _ _ _ h => h) (y_load1 (by rfl) _ _ rfl _ _ rfl 0 _ rfl _ rfl _ Tryd.underlying27 rfl) (by exact (by first | assumption | exact S.dropR)) ?_
  simp only [Act.put, List.setIfInBounds_toArray, List.set_cons_zero, List.set_cons_succ]
  refine wpAnyH_take (i := 2) (oi := { dst := some 7, op := Op.convert 27 3 (Operand.tmp 6), type := 3, pos := "encode.go:120", after := #[{ on := 1, ground := Ground.data }], guard := none }) (v := ?_) rfl (by kernel_rfl) (by kernel_rfl) (by kernel_rfl) (fun _ _ _ h => h) (Or.inl ⟨by rfl, ?_⟩) (by exact (by first | assumption | exact S.dropR)) ?_
  rotate_left 1
  · intro w hSw
    clear hSw
    go_simp
    try with_reducible rfl
  simp only [Act.put, List.setIfInBounds_toArray, List.set_cons_zero, List.set_cons_succ]
  refine wpAnyH_take (i := 3) (oi := { dst := some 8, op := Op.load 29 (Operand.tmp 1), type := 29, pos := "encode.go:120", after := #[], guard := none }) (v := _) rfl (by kernel_rfl) (by kernel_rfl) (by kernel_rfl) (fun _ _ _ h => h) (y_loadAll (by rfl) _ _ rfl _ rfl 0 _ rfl _ Tryd.underlying29 rfl (szIV _)) (by exact (by first | assumption | exact S.dropR)) ?_
  simp only [Act.put, List.setIfInBounds_toArray, List.set_cons_zero, List.set_cons_succ]
  refine wpAnyH_ready (rs := [4]) (by kernel_rfl) (by simp) ?_
  refine AllReadyH.cons rfl (fun K hK => ?_) AllReadyH.nil
  go_simp
  go_wp2_with (go_at_call 69; refine (CB.out _ (HT.next S.low)).mono ?_; rintro e wf ⟨rfl, hbf⟩)
  replace S := S.below hbf
  clear hbf
  refine hK.out _ _ (by exact S) (fun _ => ?_)
  clear hK K
  refine wpAnyH_take (i := 5) (oi := { dst := some 3, op := Op.assign (Operand.tmp 7), type := 3, pos := "encode.go:120", after := #[{ on := 2, ground := Ground.data }, { on := 4, ground := Ground.chain }, { on := 0, ground := Ground.phase }, { on := 1, ground := Ground.phase }, { on := 2, ground := Ground.phase }, { on := 3, ground := Ground.textOnly Departure.lateStores }, { on := 4, ground := Ground.textOnly Departure.lateStoresUnsure }], guard := none }) (v := ?_) rfl (by kernel_rfl) (by kernel_rfl) (by kernel_rfl) (fun _ _ _ h => h) (Or.inl ⟨by rfl, ?_⟩) (by exact (by first | assumption | exact S.dropR)) ?_
  rotate_left 1
  · intro w hSw
    clear hSw
    go_simp
    try with_reducible rfl
  simp only [Act.put, List.setIfInBounds_toArray, List.set_cons_zero, List.set_cons_succ]
  refine wpAnyH_take (i := 6) (oi := { dst := some 4, op := Op.assign (Operand.tmp 9), type := 22, pos := "encode.go:120", after := #[{ on := 4, ground := Ground.data }, { on := 5, ground := Ground.chain }, { on := 0, ground := Ground.phase }, { on := 1, ground := Ground.phase }, { on := 2, ground := Ground.phase }, { on := 3, ground := Ground.phase }, { on := 4, ground := Ground.phase }, { on := 5, ground := Ground.phase }], guard := none }) (v := ?_) rfl (by kernel_rfl) (by kernel_rfl) (by kernel_rfl) (fun _ _ _ h => h) (Or.inl ⟨by rfl, ?_⟩) (by exact (by first | assumption | exact S.dropR)) ?_
  rotate_left 1
  · intro w hSw
    clear hSw
    go_simp
    try with_reducible rfl
  simp only [Act.put, List.setIfInBounds_toArray, List.set_cons_zero, List.set_cons_succ]
  refine wpAnyH_done (by kernel_rfl) ?_ _
  go_wp2_with (first
    | (go_at_call 65; refine (three_5 30720 (by decide) (by decide) i.imm i.n i.d _).mono ?_; rintro e wf ⟨rfl, rfl⟩)
    | ((with_reducible refine wpl_is ?_); first
      | (refine S.sliceAny rfl 25 2 _ rfl (uc [BY, three5 30720 i.imm i.n i.d]) 22 (by kernel_rfl) ?_; clear S; intro g w1 S)
      | (refine S.ld 3 _ rfl _ 0 rfl 0 (Cel.iv i) rfl _ rfl _ Tryd.underlying3 rfl rfl ?_)
      | (refine S.ld 3 _ rfl _ 4 rfl 0 (Cel.iv i) rfl _ rfl _ Tryd.underlying3 rfl rfl ?_)
      | (refine S.ld 3 _ rfl _ 5 rfl 0 (Cel.iv i) rfl _ rfl _ Tryd.underlying3 rfl rfl ?_)))
  (try simp only [Exit.inBlock, Exit.then])
  go_ret
  exact ⟨_, rfl, HLs.of_blk (S.at (i := 0) rfl).1, S.low⟩
set_option maxHeartbeats 4000000 in
set_option maxRecDepth 100000 in
theorem mem51_c (i : IV) (hop : i.op = ((51 : Nat) : Int)) (hi : OKi i) (w : World) (HT : LT w) : Calls Tryd.prog 50 #[i.val] w fun e w' => HRes w [(byRegZ i 51), three5 32768 (i.imm / 2) i.n i.d] e w' := by
  obtain ⟨hi0, hi1⟩ := hi
  have ht4 := tdiv_pos i.imm 4 hi0
  have ht2 := tdiv_pos i.imm 2 hi0
  have hw4 := wrap_q i.imm 4 hi0 hi1 (by decide)
  have hw2 := wrap_q i.imm 2 hi0 hi1 (by decide)
  have CB : Hid (∀ w1, LT w1 → Calls Tryd.prog 69 #[i.val] w1 fun e w' => e = .returned (.int .u16 (byRegZ i 51 : Nat)) ∧ Below w1.heap.size w1 w') := fun w1 h1 => byReg_c i 51 hop w1 h1
  generalize byRegZ i 51 = BY at *
  go_enter Tryd.func50, Tryd.ntmps50
  have S := SH.start w
  go_wp2_with (first
    | ((with_reducible refine wpl_is ?_); first
      | (refine SH.box (L := []) S rfl 29 _ rfl (Cel.iv i) rfl ?_; clear S; intro b2 w0 S)
      | (refine S.ld 3 _ rfl _ 0 rfl 0 (Cel.iv i) rfl _ rfl _ Tryd.underlying3 rfl rfl ?_)
      | (refine S.ld 27 _ rfl _ 8 rfl 0 (Cel.iv i) rfl _ rfl _ Tryd.underlying27 rfl rfl ?_)))
  refine wp_region_held_drew (S := fun w' => SH noZ w w' [(b2, Cel.iv i)]) (by kernel_rfl) (by exact S.drew) (fun _ => ?_)
  replace S := S.drew
  refine wpAnyH_take (i := 0) (oi := { dst := some 5, op := Op.fieldAddr 29 (Operand.tmp 1) 8, type := 0, pos := "encode.go:120", after := #[], guard := none }) (v := ?_) rfl (by kernel_rfl) (by kernel_rfl) (by kernel_rfl) (fun _ _ _ h => h) (Or.inl ⟨by rfl, ?_⟩) (by exact (by first | assumption | exact S.dropR)) ?_
  rotate_left 1
  · intro w hSw
    clear hSw
    go_simp
    try with_reducible rfl
  simp only [Act.put, List.setIfInBounds_toArray, List.set_cons_zero, List.set_cons_succ]
  refine wpAnyH_take (i := 1) (oi := { dst := some 6, op := Op.load 27 (Operand.tmp 5), type := 27, pos := "encode.go:120", after := #[{ on := 0, ground := Ground.data }], guard := none }) (v := _) rfl (by kernel_rfl) (by kernel_rfl) (by kernel_rfl) (fun _ _ _ h => h) (y_load1 (by rfl) _ _ rfl _ _ rfl 0 _ rfl _ rfl _ Tryd.underlying27 rfl) (by exact (by first | assumption | exact S.dropR)) ?_
  simp only [Act.put, List.setIfInBounds_toArray, List.set_cons_zero, List.set_cons_succ]
  refine wpAnyH_take (i := 2) (oi := { dst := some 7, op := Op.convert 27 3 (Operand.tmp 6), type := 3, pos := "encode.go:120", after := #[{ on := 1, ground := Ground.data }], guard := none }) (v := ?_) rfl (by kernel_rfl) (by kernel_rfl) (by kernel_rfl) (fun _ _ _ h => h) (Or.inl ⟨by rfl, ?_⟩) (by exact (by first | assumption | exact S.dropR)) ?_
  rotate_left 1
  · intro w hSw
    clear hSw
    go_simp
    try with_reducible rfl
  simp only [Act.put, List.setIfInBounds_toArray, List.set_cons_zero, List.set_cons_succ]
  refine wpAnyH_take (i := 3) (oi := { dst := some 8, op := Op.load 29 (Operand.tmp 1), type := 29, pos := "encode.go:120", after := #[], guard := none }) (v := _) rfl (by kernel_rfl) (by kernel_rfl) (by kernel_rfl) (fun _ _ _ h => h) (y_loadAll (by rfl) _ _ rfl _ rfl 0 _ rfl _ Tryd.underlying29 rfl (szIV _)) (by exact (by first | assumption | exact S.dropR)) ?_
  simp only [Act.put, List.setIfInBounds_toArray, List.set_cons_zero, List.set_cons_succ]
  refine wpAnyH_ready (rs := [4]) (by kernel_rfl) (by simp) ?_
  refine AllReadyH.cons rfl (fun K hK => ?_) AllReadyH.nil
  go_simp
  go_wp2_with (go_at_call 69; refine (CB.out _ (HT.next S.low)).mono ?_; rintro e wf ⟨rfl, hbf⟩)
  replace S := S.below hbf
  clear hbf
  refine hK.out _ _ (by exact S) (fun _ => ?_)
  clear hK K
  refine wpAnyH_take (i := 5) (oi := { dst := some 3, op := Op.assign (Operand.tmp 7), type := 3, pos := "encode.go:120", after := #[{ on := 2, ground := Ground.data }, { on := 4, ground := Ground.chain }, { on := 0, ground := Ground.phase }, { on := 1, ground := Ground.phase }, { on := 2, ground := Ground.phase }, { on := 3, ground := Ground.textOnly Departure.lateStores }, { on := 4, ground := Ground.textOnly Departure.lateStoresUnsure }], guard := none }) (v := ?_) rfl (by kernel_rfl) (by kernel_rfl) (by kernel_rfl) (fun _ _ _ h => h) (Or.inl ⟨by rfl, ?_⟩) (by exact (by first | assumption | exact S.dropR)) ?_
  rotate_left 1
  · intro w hSw
    clear hSw
    go_simp
    try with_reducible rfl
  simp only [Act.put, List.setIfInBounds_toArray, List.set_cons_zero, List.set_cons_succ]
  refine wpAnyH_take (i := 6) (oi := { dst := some 4, op := Op.assign (Operand.tmp 9), type := 22, pos := "encode.go:120", after := #[{ on := 4, ground := Ground.data }, { on := 5, ground := Ground.chain }, { on := 0, ground := Ground.phase }, { on := 1, ground := Ground.phase }, { on := 2, ground := Ground.phase }, { on := 3, ground := Ground.phase }, { on := 4, ground := Ground.phase }, { on := 5, ground := Ground.phase }], guard := none }) (v := ?_) rfl (by kernel_rfl) (by kernel_rfl) (by kernel_rfl) (fun _ _ _ h => h) (Or.inl ⟨by rfl, ?_⟩) (by exact (by first | assumption | exact S.dropR)) ?_
  rotate_left 1
  · intro w hSw
    clear hSw
    go_simp
    try with_reducible rfl
  simp only [Act.put, List.setIfInBounds_toArray, List.set_cons_zero, List.set_cons_succ]
  refine wpAnyH_done (by kernel_rfl) ?_ _
  go_wp2_with (first
    | (go_at_call 65; refine (three_5 32768 (by decide) (by decide) (i.imm / 2) i.n i.d _).mono ?_; rintro e wf ⟨rfl, rfl⟩)
    | ((with_reducible refine wpl_is ?_); first
      | (refine S.sliceAny rfl 25 2 _ rfl (uc [BY, three5 32768 (i.imm / 2) i.n i.d]) 22 (by kernel_rfl) ?_; clear S; intro g w1 S)
      | (refine S.ld 3 _ rfl _ 0 rfl 0 (Cel.iv i) rfl _ rfl _ Tryd.underlying3 rfl rfl ?_)
      | (refine S.ld 3 _ rfl _ 4 rfl 0 (Cel.iv i) rfl _ rfl _ Tryd.underlying3 rfl rfl ?_)
      | (refine S.ld 3 _ rfl _ 5 rfl 0 (Cel.iv i) rfl _ rfl _ Tryd.underlying3 rfl rfl ?_)))
  (try simp only [Exit.inBlock, Exit.then])
  go_ret
  exact ⟨_, rfl, HLs.of_blk (S.at (i := 0) rfl).1, S.low⟩
set_option maxHeartbeats 4000000 in
set_option maxRecDepth 100000 in
theorem mem46_c (i : IV) (hop : i.op = ((46 : Nat) : Int)) (hi : OKi i) (w : World) (HT : LT w) : Calls Tryd.prog 50 #[i.val] w fun e w' => HRes w [(byRegZ i 46), three5 34816 (i.imm / 2) i.n i.d] e w' := by
  obtain ⟨hi0, hi1⟩ := hi
  have ht4 := tdiv_pos i.imm 4 hi0
  have ht2 := tdiv_pos i.imm 2 hi0
  have hw4 := wrap_q i.imm 4 hi0 hi1 (by decide)
  have hw2 := wrap_q i.imm 2 hi0 hi1 (by decide)
  have CB : Hid (∀ w1, LT w1 → Calls Tryd.prog 69 #[i.val] w1 fun e w' => e = .returned (.int .u16 (byRegZ i 46 : Nat)) ∧ Below w1.heap.size w1 w') := fun w1 h1 => byReg_c i 46 hop w1 h1
  generalize byRegZ i 46 = BY at *
  go_enter Tryd.func50, Tryd.ntmps50
  have S := SH.start w
  go_wp2_with (first
    | ((with_reducible refine wpl_is ?_); first
      | (refine SH.box (L := []) S rfl 29 _ rfl (Cel.iv i) rfl ?_; clear S; intro b2 w0 S)
      | (refine S.ld 3 _ rfl _ 0 rfl 0 (Cel.iv i) rfl _ rfl _ Tryd.underlying3 rfl rfl ?_)
      | (refine S.ld 27 _ rfl _ 8 rfl 0 (Cel.iv i) rfl _ rfl _ Tryd.underlying27 rfl rfl ?_)))
  refine wp_region_held_drew (S := fun w' => SH noZ w w' [(b2, Cel.iv i)]) (by kernel_rfl) (by exact S.drew) (fun _ => ?_)
  replace S := S.drew
  refine wpAnyH_take (i := 0) (oi := { dst := some 5, op := Op.fieldAddr 29 (Operand.tmp 1) 8, type := 0, pos := "encode.go:120", after := #[], guard := none }) (v := ?_) rfl (by kernel_rfl) (by kernel_rfl) (by kernel_rfl) (fun _ _ _ h => h) (Or.inl ⟨by rfl, ?_⟩) (by exact (by first | assumption | exact S.dropR)) ?_
  rotate_left 1
  · intro w hSw
    clear hSw
    go_simp
    try with_reducible rfl
  simp only [Act.put, List.setIfInBounds_toArray, List.set_cons_zero, List.set_cons_succ]
  refine wpAnyH_take (i := 1) (oi := { dst := some 6, op := Op.load 27 (Operand.tmp 5), type := 27, pos := "encode.go:120", after := #[{ on := 0, ground := Ground.data }], guard := none }) (v := _) rfl (by kernel_rfl) (by kernel_rfl) (by kernel_rfl) (fun _ _ _ h => h) (y_load1 (by rfl) _ _ rfl _ _ rfl 0 _ rfl _ rfl _ Tryd.underlying27 rfl) (by exact (by first | assumption | exact S.dropR)) ?_
  simp only [Act.put, List.setIfInBounds_toArray, List.set_cons_zero, List.set_cons_succ]
  refine wpAnyH_take (i := 2) (oi := { dst := some 7, op := Op.convert 27 3 (Operand.tmp 6), type := 3, pos := "encode.go:120", after := #[{ on := 1, ground := Ground.data }], guard := none }) (v := ?_) rfl (by kernel_rfl) (by kernel_rfl) (by kernel_rfl) (fun _ _ _ h => h) (Or.inl ⟨by rfl, ?_⟩) (by exact (by first | assumption | exact S.dropR)) ?_
  rotate_left 1
  · intro w hSw
    clear hSw
    go_simp
    try with_reducible rfl
  simp only [Act.put, List.setIfInBounds_toArray, List.set_cons_zero, List.set_cons_succ]
  refine wpAnyH_take (i := 3) (oi := { dst := some 8, op := Op.load 29 (Operand.tmp 1), type := 29, pos := "encode.go:120", after := #[], guard := none }) (v := _) rfl (by kernel_rfl) (by kernel_rfl) (by kernel_rfl) (fun _ _ _ h => h) (y_loadAll (by rfl) _ _ rfl _ rfl 0 _ rfl _ Tryd.underlying29 rfl (szIV _)) (by exact (by first | assumption | exact S.dropR)) ?_
  simp only [Act.put, List.setIfInBounds_toArray, List.set_cons_zero, List.set_cons_succ]
  refine wpAnyH_ready (rs := [4]) (by kernel_rfl) (by simp) ?_
  refine AllReadyH.cons rfl (fun K hK => ?_) AllReadyH.nil
  go_simp
  go_wp2_with (go_at_call 69; refine (CB.out _ (HT.next S.low)).mono ?_; rintro e wf ⟨rfl, hbf⟩)
  replace S := S.below hbf
  clear hbf
  refine hK.out _ _ (by exact S) (fun _ => ?_)
  clear hK K
  refine wpAnyH_take (i := 5) (oi := { dst := some 3, op := Op.assign (Operand.tmp 7), type := 3, pos := "encode.go:120", after := #[{ on := 2, ground := Ground.data }, { on := 4, ground := Ground.chain }, { on := 0, ground := Ground.phase }, { on := 1, ground := Ground.phase }, { on := 2, ground := Ground.phase }, { on := 3, ground := Ground.textOnly Departure.lateStores }, { on := 4, ground := Ground.textOnly Departure.lateStoresUnsure }], guard := none }) (v := ?_) rfl (by kernel_rfl) (by kernel_rfl) (by kernel_rfl) (fun _ _ _ h => h) (Or.inl ⟨by rfl, ?_⟩) (by exact (by first | assumption | exact S.dropR)) ?_
  rotate_left 1
  · intro w hSw
    clear hSw
    go_simp
    try with_reducible rfl
  simp only [Act.put, List.setIfInBounds_toArray, List.set_cons_zero, List.set_cons_succ]
  refine wpAnyH_take (i := 6) (oi := { dst := some 4, op := Op.assign (Operand.tmp 9), type := 22, pos := "encode.go:120", after := #[{ on := 4, ground := Ground.data }, { on := 5, ground := Ground.chain }, { on := 0, ground := Ground.phase }, { on := 1, ground := Ground.phase }, { on := 2, ground := Ground.phase }, { on := 3, ground := Ground.phase }, { on := 4, ground := Ground.phase }, { on := 5, ground := Ground.phase }], guard := none }) (v := ?_) rfl (by kernel_rfl) (by kernel_rfl) (by kernel_rfl) (fun _ _ _ h => h) (Or.inl ⟨by rfl, ?_⟩) (by exact (by first | assumption | exact S.dropR)) ?_
  rotate_left 1
  · intro w hSw
    clear hSw
    go_simp
    try with_reducible rfl
  simp only [Act.put, List.setIfInBounds_toArray, List.set_cons_zero, List.set_cons_succ]
  refine wpAnyH_done (by kernel_rfl) ?_ _
  go_wp2_with (first
    | (go_at_call 65; refine (three_5 34816 (by decide) (by decide) (i.imm / 2) i.n i.d _).mono ?_; rintro e wf ⟨rfl, rfl⟩)
    | ((with_reducible refine wpl_is ?_); first
      | (refine S.sliceAny rfl 25 2 _ rfl (uc [BY, three5 34816 (i.imm / 2) i.n i.d]) 22 (by kernel_rfl) ?_; clear S; intro g w1 S)
      | (refine S.ld 3 _ rfl _ 0 rfl 0 (Cel.iv i) rfl _ rfl _ Tryd.underlying3 rfl rfl ?_)
      | (refine S.ld 3 _ rfl _ 4 rfl 0 (Cel.iv i) rfl _ rfl _ Tryd.underlying3 rfl rfl ?_)
      | (refine S.ld 3 _ rfl _ 5 rfl 0 (Cel.iv i) rfl _ rfl _ Tryd.underlying3 rfl rfl ?_)))
  (try simp only [Exit.inBlock, Exit.then])
  go_ret
  exact ⟨_, rfl, HLs.of_blk (S.at (i := 0) rfl).1, S.low⟩
set_option maxHeartbeats 4000000 in
set_option maxRecDepth 100000 in
theorem memO_c (i : IV) (op : Nat) (hop : i.op = (op : Nat)) (ho : op ≠ 49 ∧ op ≠ 44 ∧ op ≠ 50 ∧ op ≠ 45 ∧ op ≠ 51 ∧ op ≠ 46) (w : World) (HT : LT w) : Calls Tryd.prog 50 #[i.val] w fun e w' => HRes w [byRegZ i op] e w' := by
  have CB : Hid (∀ w1, LT w1 → Calls Tryd.prog 69 #[i.val] w1 fun e w' => e = .returned (.int .u16 (byRegZ i op : Nat)) ∧ Below w1.heap.size w1 w') := fun w1 h1 => byReg_c i op hop w1 h1
  generalize byRegZ i op = BY at *
  have t49 : (i.op == 49) = false := by rw [hop]; simp; omega
  have t44 : (i.op == 44) = false := by rw [hop]; simp; omega
  have t50 : (i.op == 50) = false := by rw [hop]; simp; omega
  have t45 : (i.op == 45) = false := by rw [hop]; simp; omega
  have t51 : (i.op == 51) = false := by rw [hop]; simp; omega
  have t46 : (i.op == 46) = false := by rw [hop]; simp; omega
  clear hop ho
  go_enter Tryd.func50, Tryd.ntmps50
  have S := SH.start w
  go_wp2_with (first
    | ((with_reducible refine wpl_is ?_); first
      | (refine SH.box (L := []) S rfl 29 _ rfl (Cel.iv i) rfl ?_; clear S; intro b2 w0 S)
      | (refine S.ld 3 _ rfl _ 0 rfl 0 (Cel.iv i) rfl _ rfl _ Tryd.underlying3 rfl rfl ?_)
      | (refine S.ld 27 _ rfl _ 8 rfl 0 (Cel.iv i) rfl _ rfl _ Tryd.underlying27 rfl rfl ?_)))
  refine wp_region_held_drew (S := fun w' => SH noZ w w' [(b2, Cel.iv i)]) (by kernel_rfl) (by exact S.drew) (fun _ => ?_)
  replace S := S.drew
  refine wpAnyH_take (i := 0) (oi := { dst := some 5, op := Op.fieldAddr 29 (Operand.tmp 1) 8, type := 0, pos := "encode.go:120", after := #[], guard := none }) (v := ?_) rfl (by kernel_rfl) (by kernel_rfl) (by kernel_rfl) (fun _ _ _ h => h) (Or.inl ⟨by rfl, ?_⟩) (by exact (by first | assumption | exact S.dropR)) ?_
  rotate_left 1
  · intro w hSw
    clear hSw
    go_simp
    try with_reducible rfl
  simp only [Act.put, List.setIfInBounds_toArray, List.set_cons_zero, List.set_cons_succ]
  refine wpAnyH_take (i := 1) (oi := { dst := some 6, op := Op.load 27 (Operand.tmp 5), type := 27, pos := "encode.go:120", after := #[{ on := 0, ground := Ground.data }], guard := none }) (v := _) rfl (by kernel_rfl) (by kernel_rfl) (by kernel_rfl) (fun _ _ _ h => h) (y_load1 (by rfl) _ _ rfl _ _ rfl 0 _ rfl _ rfl _ Tryd.underlying27 rfl) (by exact (by first | assumption | exact S.dropR)) ?_
  simp only [Act.put, List.setIfInBounds_toArray, List.set_cons_zero, List.set_cons_succ]
  refine wpAnyH_take (i := 2) (oi := { dst := some 7, op := Op.convert 27 3 (Operand.tmp 6), type := 3, pos := "encode.go:120", after := #[{ on := 1, ground := Ground.data }], guard := none }) (v := ?_) rfl (by kernel_rfl) (by kernel_rfl) (by kernel_rfl) (fun _ _ _ h => h) (Or.inl ⟨by rfl, ?_⟩) (by exact (by first | assumption | exact S.dropR)) ?_
  rotate_left 1
  · intro w hSw
    clear hSw
    go_simp
    try with_reducible rfl
  simp only [Act.put, List.setIfInBounds_toArray, List.set_cons_zero, List.set_cons_succ]
  refine wpAnyH_take (i := 3) (oi := { dst := some 8, op := Op.load 29 (Operand.tmp 1), type := 29, pos := "encode.go:120", after := #[], guard := none }) (v := _) rfl (by kernel_rfl) (by kernel_rfl) (by kernel_rfl) (fun _ _ _ h => h) (y_loadAll (by rfl) _ _ rfl _ rfl 0 _ rfl _ Tryd.underlying29 rfl (szIV _)) (by exact (by first | assumption | exact S.dropR)) ?_
  simp only [Act.put, List.setIfInBounds_toArray, List.set_cons_zero, List.set_cons_succ]
  refine wpAnyH_ready (rs := [4]) (by kernel_rfl) (by simp) ?_
  refine AllReadyH.cons rfl (fun K hK => ?_) AllReadyH.nil
  go_simp
  go_wp2_with (go_at_call 69; refine (CB.out _ (HT.next S.low)).mono ?_; rintro e wf ⟨rfl, hbf⟩)
  replace S := S.below hbf
  clear hbf
  refine hK.out _ _ (by exact S) (fun _ => ?_)
  clear hK K
  refine wpAnyH_take (i := 5) (oi := { dst := some 3, op := Op.assign (Operand.tmp 7), type := 3, pos := "encode.go:120", after := #[{ on := 2, ground := Ground.data }, { on := 4, ground := Ground.chain }, { on := 0, ground := Ground.phase }, { on := 1, ground := Ground.phase }, { on := 2, ground := Ground.phase }, { on := 3, ground := Ground.textOnly Departure.lateStores }, { on := 4, ground := Ground.textOnly Departure.lateStoresUnsure }], guard := none }) (v := ?_) rfl (by kernel_rfl) (by kernel_rfl) (by kernel_rfl) (fun _ _ _ h => h) (Or.inl ⟨by rfl, ?_⟩) (by exact (by first | assumption | exact S.dropR)) ?_
  rotate_left 1
  · intro w hSw
    clear hSw
    go_simp
    try with_reducible rfl
  simp only [Act.put, List.setIfInBounds_toArray, List.set_cons_zero, List.set_cons_succ]
  refine wpAnyH_take (i := 6) (oi := { dst := some 4, op := Op.assign (Operand.tmp 9), type := 22, pos := "encode.go:120", after := #[{ on := 4, ground := Ground.data }, { on := 5, ground := Ground.chain }, { on := 0, ground := Ground.phase }, { on := 1, ground := Ground.phase }, { on := 2, ground := Ground.phase }, { on := 3, ground := Ground.phase }, { on := 4, ground := Ground.phase }, { on := 5, ground := Ground.phase }], guard := none }) (v := ?_) rfl (by kernel_rfl) (by kernel_rfl) (by kernel_rfl) (fun _ _ _ h => h) (Or.inl ⟨by rfl, ?_⟩) (by exact (by first | assumption | exact S.dropR)) ?_
  rotate_left 1
  · intro w hSw
    clear hSw
    go_simp
    try with_reducible rfl
  simp only [Act.put, List.setIfInBounds_toArray, List.set_cons_zero, List.set_cons_succ]
  refine wpAnyH_done (by kernel_rfl) ?_ _
  go_wp2_with (first
    | ((with_reducible refine wpl_is ?_); first
      | (refine S.sliceAny rfl 25 1 _ rfl (uc [BY]) 22 (by kernel_rfl) ?_; clear S; intro g w1 S)
      | (refine S.ld 3 _ rfl _ 0 rfl 0 (Cel.iv i) rfl _ rfl _ Tryd.underlying3 rfl rfl ?_)))
  (try simp only [Exit.inBlock, Exit.then])
  go_ret
  exact ⟨_, rfl, HLs.of_blk (S.at (i := 0) rfl).1, S.low⟩
end Go.Proofs.YtblcklknlfofgaaDoor
namespace Go.Proofs.YtblcklknlfofgaaDoor
open Go.ChangeShapes Go.WideShapes Go.ChangeAt Go.RowKit
set_option linter.unusedVariables false
set_option linter.unusedSimpArgs false

theorem shr_i64 (v : Int) (k : Nat) : v / 2 ^ k = v / 2 ^ k := rfl
theorem join88 (page : Nat) (hp : page % 512 = 0) (hp1 : page < 65536) (x y : Int) : bits .or .u16 (page : Int) ((putN x 8 1 : Nat) : Int) = ((page + putN x 8 1 : Nat) : Int) ∧ bits .or .u16 ((page + putN x 8 1 : Nat) : Int) ((putN y 0 8 : Nat) : Int) = ((page + putN x 8 1 + putN y 0 8 : Nat) : Int) := by
  have a1 : putN x 8 1 < 512 := putN_lt _ 8 1
  have a2 : putN y 0 8 < 256 := putN_lt _ 0 8
  have m1 : putN x 8 1 % 256 = 0 := putN_mod _ 8 1 8 (by decide)
  exact ⟨u16_join page _ 9 hp hp1 a1 (by omega), u16_join _ _ 8 (by omega) (by omega) a2 (by omega)⟩
set_option maxHeartbeats 4000000 in
set_option maxRecDepth 100000 in
theorem many52_c (i : IV) (hop : i.op = ((52 : Nat) : Int)) (w : World) (HT : LT w) : Calls Tryd.prog 51 #[i.val] w fun e w' => HRes w [48128 + putN (i.list / 32768) 8 1 + putN i.list 0 8, two8 51200 i.n i.list] e w' := by
  have j1 : bits .or .u16 48128 ((putN (i.list / 32768) 8 1 : Nat) : Int) = ((48128 + putN (i.list / 32768) 8 1 : Nat) : Int) := (join88 48128 (by decide) (by decide) (i.list / 32768) i.list).1
  have j2 := (join88 48128 (by decide) (by decide) (i.list / 32768) i.list).2
  generalize 48128 + putN (i.list / 32768) 8 1 = Q1 at *
  generalize Q1 + putN i.list 0 8 = Q at *
  go_enter Tryd.func51, Tryd.ntmps51
  have S := SH.start w
  go_wp2_with (first
    | ((with_reducible refine wpl_is ?_); first
      | (refine SH.box (L := []) S rfl 29 _ rfl (Cel.iv i) rfl ?_; clear S; intro b2 w0 S)
      | (refine S.ld 3 _ rfl _ 0 rfl 0 (Cel.iv i) rfl _ rfl _ Tryd.underlying3 rfl rfl ?_)
      | (refine S.ld 27 _ rfl _ 8 rfl 0 (Cel.iv i) rfl _ rfl _ Tryd.underlying27 rfl rfl ?_)))
  refine wp_region_held_drew (S := fun w' => SH noZ w w' [(b2, Cel.iv i)]) (by kernel_rfl) (by exact S.drew) (fun _ => ?_)
  replace S := S.drew
  refine wpAnyH_take (i := 0) (oi := { dst := some 6, op := Op.fieldAddr 29 (Operand.tmp 1) 12, type := 0, pos := "encode.go:152", after := #[], guard := none }) (v := ?_) rfl (by kernel_rfl) (by kernel_rfl) (by kernel_rfl) (fun _ _ _ h => h) (Or.inl ⟨by rfl, ?_⟩) (by exact (by first | assumption | exact S.dropR)) ?_
  rotate_left 1
  · intro w hSw
    clear hSw
    go_simp
    try with_reducible rfl
  simp only [Act.put, List.setIfInBounds_toArray, List.set_cons_zero, List.set_cons_succ]
  refine wpAnyH_take (i := 1) (oi := { dst := some 7, op := Op.load 3 (Operand.tmp 6), type := 3, pos := "encode.go:152", after := #[{ on := 0, ground := Ground.data }], guard := none }) (v := _) rfl (by kernel_rfl) (by kernel_rfl) (by kernel_rfl) (fun _ _ _ h => h) (y_load1 (by rfl) _ _ rfl _ _ rfl 0 _ rfl _ rfl _ Tryd.underlying3 rfl) (by exact (by first | assumption | exact S.dropR)) ?_
  simp only [Act.put, List.setIfInBounds_toArray, List.set_cons_zero, List.set_cons_succ]
  refine wpAnyH_take (i := 2) (oi := { dst := some 8, op := Op.binOp BinOp.shr 3 (Operand.tmp 7) (Operand.const (Value.int IntKind.u64 15)) 36, type := 3, pos := "encode.go:152", after := #[{ on := 1, ground := Ground.data }], guard := none }) (v := ?_) rfl (by kernel_rfl) (by kernel_rfl) (by kernel_rfl) (fun _ _ _ h => h) (Or.inl ⟨by rfl, ?_⟩) (by exact (by first | assumption | exact S.dropR)) ?_
  rotate_left 1
  · intro w hSw
    clear hSw
    go_simp
    try with_reducible rfl
  simp only [Act.put, List.setIfInBounds_toArray, List.set_cons_zero, List.set_cons_succ]
  refine wpAnyH_take (i := 5) (oi := { dst := some 11, op := Op.fieldAddr 29 (Operand.tmp 1) 12, type := 0, pos := "encode.go:152", after := #[], guard := none }) (v := ?_) rfl (by kernel_rfl) (by kernel_rfl) (by kernel_rfl) (fun _ _ _ h => h) (Or.inl ⟨by rfl, ?_⟩) (by exact (by first | assumption | exact S.dropR)) ?_
  rotate_left 1
  · intro w hSw
    clear hSw
    go_simp
    try with_reducible rfl
  simp only [Act.put, List.setIfInBounds_toArray, List.set_cons_zero, List.set_cons_succ]
  refine wpAnyH_take (i := 6) (oi := { dst := some 12, op := Op.load 3 (Operand.tmp 11), type := 3, pos := "encode.go:152", after := #[{ on := 5, ground := Ground.data }], guard := none }) (v := _) rfl (by kernel_rfl) (by kernel_rfl) (by kernel_rfl) (fun _ _ _ h => h) (y_load1 (by rfl) _ _ rfl _ _ rfl 0 _ rfl _ rfl _ Tryd.underlying3 rfl) (by exact (by first | assumption | exact S.dropR)) ?_
  simp only [Act.put, List.setIfInBounds_toArray, List.set_cons_zero, List.set_cons_succ]
  refine wpAnyH_take (i := 9) (oi := { dst := some 15, op := Op.fieldAddr 29 (Operand.tmp 1) 5, type := 0, pos := "encode.go:152", after := #[], guard := none }) (v := ?_) rfl (by kernel_rfl) (by kernel_rfl) (by kernel_rfl) (fun _ _ _ h => h) (Or.inl ⟨by rfl, ?_⟩) (by exact (by first | assumption | exact S.dropR)) ?_
  rotate_left 1
  · intro w hSw
    clear hSw
    go_simp
    try with_reducible rfl
  simp only [Act.put, List.setIfInBounds_toArray, List.set_cons_zero, List.set_cons_succ]
  refine wpAnyH_take (i := 10) (oi := { dst := some 16, op := Op.load 3 (Operand.tmp 15), type := 3, pos := "encode.go:152", after := #[{ on := 9, ground := Ground.data }], guard := none }) (v := _) rfl (by kernel_rfl) (by kernel_rfl) (by kernel_rfl) (fun _ _ _ h => h) (y_load1 (by rfl) _ _ rfl _ _ rfl 0 _ rfl _ rfl _ Tryd.underlying3 rfl) (by exact (by first | assumption | exact S.dropR)) ?_
  simp only [Act.put, List.setIfInBounds_toArray, List.set_cons_zero, List.set_cons_succ]
  refine wpAnyH_take (i := 11) (oi := { dst := some 17, op := Op.fieldAddr 29 (Operand.tmp 1) 12, type := 0, pos := "encode.go:152", after := #[], guard := none }) (v := ?_) rfl (by kernel_rfl) (by kernel_rfl) (by kernel_rfl) (fun _ _ _ h => h) (Or.inl ⟨by rfl, ?_⟩) (by exact (by first | assumption | exact S.dropR)) ?_
  rotate_left 1
  · intro w hSw
    clear hSw
    go_simp
    try with_reducible rfl
  simp only [Act.put, List.setIfInBounds_toArray, List.set_cons_zero, List.set_cons_succ]
  refine wpAnyH_take (i := 12) (oi := { dst := some 18, op := Op.load 3 (Operand.tmp 17), type := 3, pos := "encode.go:152", after := #[{ on := 11, ground := Ground.data }], guard := none }) (v := _) rfl (by kernel_rfl) (by kernel_rfl) (by kernel_rfl) (fun _ _ _ h => h) (y_load1 (by rfl) _ _ rfl _ _ rfl 0 _ rfl _ rfl _ Tryd.underlying3 rfl) (by exact (by first | assumption | exact S.dropR)) ?_
  simp only [Act.put, List.setIfInBounds_toArray, List.set_cons_zero, List.set_cons_succ]
  refine wpAnyH_ready (rs := [3]) (by kernel_rfl) (by simp) ?_
  refine AllReadyH.cons rfl (fun K hK => ?_) AllReadyH.nil
  go_simp
  go_wp2_with (go_at_call 68; refine (put_8_1 (i.list / 32768) _).mono ?_; rintro e wf ⟨rfl, rfl⟩)
  refine hK.out _ _ (by exact S) (fun _ => ?_)
  clear hK K
  refine wpAnyH_take (i := 4) (oi := { dst := some 10, op := Op.binOp BinOp.or 22 (Operand.const (Value.int IntKind.u16 48128)) (Operand.tmp 9) 22, type := 22, pos := "encode.go:152", after := #[{ on := 3, ground := Ground.data }], guard := none }) (v := ?_) rfl (by kernel_rfl) (by kernel_rfl) (by kernel_rfl) (fun _ _ _ h => h) (Or.inl ⟨by rfl, ?_⟩) (by exact (by first | assumption | exact S.dropR)) ?_
  rotate_left 1
  · intro w hSw
    clear hSw
    go_simp
    try with_reducible rfl
  simp only [Act.put, List.setIfInBounds_toArray, List.set_cons_zero, List.set_cons_succ]
  refine wpAnyH_ready (rs := [7]) (by kernel_rfl) (by simp) ?_
  refine AllReadyH.cons rfl (fun K hK => ?_) AllReadyH.nil
  go_simp
  go_wp2_with (go_at_call 68; refine (put_0_8 i.list _).mono ?_; rintro e wf ⟨rfl, rfl⟩)
  refine hK.out _ _ (by exact S) (fun _ => ?_)
  clear hK K
  refine wpAnyH_take (i := 8) (oi := { dst := some 14, op := Op.binOp BinOp.or 22 (Operand.tmp 10) (Operand.tmp 13) 22, type := 22, pos := "encode.go:152", after := #[{ on := 4, ground := Ground.data }, { on := 7, ground := Ground.data }], guard := none }) (v := ?_) rfl (by kernel_rfl) (by kernel_rfl) (by kernel_rfl) (fun _ _ _ h => h) (Or.inl ⟨by rfl, ?_⟩) (by exact (by first | assumption | exact S.dropR)) ?_
  rotate_left 1
  · intro w hSw
    clear hSw
    go_simp
    try with_reducible rfl
  simp only [Act.put, List.setIfInBounds_toArray, List.set_cons_zero, List.set_cons_succ]
  refine wpAnyH_ready (rs := [13]) (by kernel_rfl) (by simp) ?_
  refine AllReadyH.cons rfl (fun K hK => ?_) AllReadyH.nil
  go_simp
  go_wp2_with (go_at_call 66; refine (two_c 51200 (by decide) (by decide) i.n i.list _).mono ?_; rintro e wf ⟨rfl, rfl⟩)
  refine hK.out _ _ (by exact S) (fun _ => ?_)
  clear hK K
  refine wpAnyH_ready (rs := [14]) (by kernel_rfl) (by simp) ?_
  refine AllReadyH.cons rfl (fun K hK => ?_) AllReadyH.nil
  rw [if_pos (by rfl)]
  refine S.wpSlice 20 rfl 25 2 _ rfl (uc [Q, two8 51200 i.n i.list]) 22 (by kernel_rfl) ?_
  clear S
  intro g w1 S
  refine hK.out _ _ (by exact S.fewer 1) (fun _ => ?_)
  simp only [Act.put, List.setIfInBounds_toArray, List.set_cons_zero, List.set_cons_succ]
  clear hK K
  refine wpAnyH_take (i := 15) (oi := { dst := some 2, op := Op.assign (Operand.tmp 20), type := 25, pos := "encode.go:152", after := #[{ on := 14, ground := Ground.data }, { on := 13, ground := Ground.chain }, { on := 0, ground := Ground.phase }, { on := 1, ground := Ground.phase }, { on := 2, ground := Ground.phase }, { on := 3, ground := Ground.phase }, { on := 4, ground := Ground.phase }, { on := 5, ground := Ground.phase }, { on := 6, ground := Ground.phase }, { on := 7, ground := Ground.phase }, { on := 8, ground := Ground.phase }, { on := 9, ground := Ground.phase }, { on := 10, ground := Ground.phase }, { on := 11, ground := Ground.phase }, { on := 12, ground := Ground.phase }, { on := 13, ground := Ground.phase }, { on := 14, ground := Ground.phase }], guard := none }) (v := ?_) rfl (by kernel_rfl) (by kernel_rfl) (by kernel_rfl) (fun _ _ _ h => h) (Or.inl ⟨by rfl, ?_⟩) (by exact (by first | assumption | exact S.dropR)) ?_
  rotate_left 1
  · intro w hSw
    clear hSw
    go_simp
    try with_reducible rfl
  simp only [Act.put, List.setIfInBounds_toArray, List.set_cons_zero, List.set_cons_succ]
  refine wpAnyH_done (by kernel_rfl) ?_ _
  go_wp2
  (try simp only [Exit.inBlock, Exit.then])
  go_ret
  exact ⟨_, rfl, HLs.of_blk (S.at (i := 0) rfl).1, S.low⟩
set_option maxHeartbeats 4000000 in
set_option maxRecDepth 100000 in
theorem many53_c (i : IV) (op : Nat) (hop : i.op = (op : Nat)) (ho : op ≠ 52) (w : World) (HT : LT w) : Calls Tryd.prog 51 #[i.val] w fun e w' => HRes w [46080 + putN (i.list / 16384) 8 1 + putN i.list 0 8, two8 49152 i.n i.list] e w' := by
  have j1 : bits .or .u16 46080 ((putN (i.list / 16384) 8 1 : Nat) : Int) = ((46080 + putN (i.list / 16384) 8 1 : Nat) : Int) := (join88 46080 (by decide) (by decide) (i.list / 16384) i.list).1
  have j2 := (join88 46080 (by decide) (by decide) (i.list / 16384) i.list).2
  generalize 46080 + putN (i.list / 16384) 8 1 = Q1 at *
  generalize Q1 + putN i.list 0 8 = Q at *
  have t1 : (i.op == 52) = false := by rw [hop]; simp; omega
  clear hop ho
  go_enter Tryd.func51, Tryd.ntmps51
  have S := SH.start w
  go_wp2_with (first
    | ((with_reducible refine wpl_is ?_); first
      | (refine SH.box (L := []) S rfl 29 _ rfl (Cel.iv i) rfl ?_; clear S; intro b2 w0 S)
      | (refine S.ld 3 _ rfl _ 0 rfl 0 (Cel.iv i) rfl _ rfl _ Tryd.underlying3 rfl rfl ?_)
      | (refine S.ld 27 _ rfl _ 8 rfl 0 (Cel.iv i) rfl _ rfl _ Tryd.underlying27 rfl rfl ?_)))
  refine wp_region_held_drew (S := fun w' => SH noZ w w' [(b2, Cel.iv i)]) (by kernel_rfl) (by exact S.drew) (fun _ => ?_)
  replace S := S.drew
  refine wpAnyH_take (i := 0) (oi := { dst := some 21, op := Op.fieldAddr 29 (Operand.tmp 1) 12, type := 0, pos := "encode.go:154", after := #[], guard := none }) (v := ?_) rfl (by kernel_rfl) (by kernel_rfl) (by kernel_rfl) (fun _ _ _ h => h) (Or.inl ⟨by rfl, ?_⟩) (by exact (by first | assumption | exact S.dropR)) ?_
  rotate_left 1
  · intro w hSw
    clear hSw
    go_simp
    try with_reducible rfl
  simp only [Act.put, List.setIfInBounds_toArray, List.set_cons_zero, List.set_cons_succ]
  refine wpAnyH_take (i := 1) (oi := { dst := some 22, op := Op.load 3 (Operand.tmp 21), type := 3, pos := "encode.go:154", after := #[{ on := 0, ground := Ground.data }], guard := none }) (v := _) rfl (by kernel_rfl) (by kernel_rfl) (by kernel_rfl) (fun _ _ _ h => h) (y_load1 (by rfl) _ _ rfl _ _ rfl 0 _ rfl _ rfl _ Tryd.underlying3 rfl) (by exact (by first | assumption | exact S.dropR)) ?_
  simp only [Act.put, List.setIfInBounds_toArray, List.set_cons_zero, List.set_cons_succ]
  refine wpAnyH_take (i := 2) (oi := { dst := some 23, op := Op.binOp BinOp.shr 3 (Operand.tmp 22) (Operand.const (Value.int IntKind.u64 14)) 36, type := 3, pos := "encode.go:154", after := #[{ on := 1, ground := Ground.data }], guard := none }) (v := ?_) rfl (by kernel_rfl) (by kernel_rfl) (by kernel_rfl) (fun _ _ _ h => h) (Or.inl ⟨by rfl, ?_⟩) (by exact (by first | assumption | exact S.dropR)) ?_
  rotate_left 1
  · intro w hSw
    clear hSw
    go_simp
    try with_reducible rfl
  simp only [Act.put, List.setIfInBounds_toArray, List.set_cons_zero, List.set_cons_succ]
  refine wpAnyH_take (i := 5) (oi := { dst := some 26, op := Op.fieldAddr 29 (Operand.tmp 1) 12, type := 0, pos := "encode.go:154", after := #[], guard := none }) (v := ?_) rfl (by kernel_rfl) (by kernel_rfl) (by kernel_rfl) (fun _ _ _ h => h) (Or.inl ⟨by rfl, ?_⟩) (by exact (by first | assumption | exact S.dropR)) ?_
  rotate_left 1
  · intro w hSw
    clear hSw
    go_simp
    try with_reducible rfl
  simp only [Act.put, List.setIfInBounds_toArray, List.set_cons_zero, List.set_cons_succ]
  refine wpAnyH_take (i := 6) (oi := { dst := some 27, op := Op.load 3 (Operand.tmp 26), type := 3, pos := "encode.go:154", after := #[{ on := 5, ground := Ground.data }], guard := none }) (v := _) rfl (by kernel_rfl) (by kernel_rfl) (by kernel_rfl) (fun _ _ _ h => h) (y_load1 (by rfl) _ _ rfl _ _ rfl 0 _ rfl _ rfl _ Tryd.underlying3 rfl) (by exact (by first | assumption | exact S.dropR)) ?_
  simp only [Act.put, List.setIfInBounds_toArray, List.set_cons_zero, List.set_cons_succ]
  refine wpAnyH_take (i := 9) (oi := { dst := some 30, op := Op.fieldAddr 29 (Operand.tmp 1) 5, type := 0, pos := "encode.go:154", after := #[], guard := none }) (v := ?_) rfl (by kernel_rfl) (by kernel_rfl) (by kernel_rfl) (fun _ _ _ h => h) (Or.inl ⟨by rfl, ?_⟩) (by exact (by first | assumption | exact S.dropR)) ?_
  rotate_left 1
  · intro w hSw
    clear hSw
    go_simp
    try with_reducible rfl
  simp only [Act.put, List.setIfInBounds_toArray, List.set_cons_zero, List.set_cons_succ]
  refine wpAnyH_take (i := 10) (oi := { dst := some 31, op := Op.load 3 (Operand.tmp 30), type := 3, pos := "encode.go:154", after := #[{ on := 9, ground := Ground.data }], guard := none }) (v := _) rfl (by kernel_rfl) (by kernel_rfl) (by kernel_rfl) (fun _ _ _ h => h) (y_load1 (by rfl) _ _ rfl _ _ rfl 0 _ rfl _ rfl _ Tryd.underlying3 rfl) (by exact (by first | assumption | exact S.dropR)) ?_
  simp only [Act.put, List.setIfInBounds_toArray, List.set_cons_zero, List.set_cons_succ]
  refine wpAnyH_take (i := 11) (oi := { dst := some 32, op := Op.fieldAddr 29 (Operand.tmp 1) 12, type := 0, pos := "encode.go:154", after := #[], guard := none }) (v := ?_) rfl (by kernel_rfl) (by kernel_rfl) (by kernel_rfl) (fun _ _ _ h => h) (Or.inl ⟨by rfl, ?_⟩) (by exact (by first | assumption | exact S.dropR)) ?_
  rotate_left 1
  · intro w hSw
    clear hSw
    go_simp
    try with_reducible rfl
  simp only [Act.put, List.setIfInBounds_toArray, List.set_cons_zero, List.set_cons_succ]
  refine wpAnyH_take (i := 12) (oi := { dst := some 33, op := Op.load 3 (Operand.tmp 32), type := 3, pos := "encode.go:154", after := #[{ on := 11, ground := Ground.data }], guard := none }) (v := _) rfl (by kernel_rfl) (by kernel_rfl) (by kernel_rfl) (fun _ _ _ h => h) (y_load1 (by rfl) _ _ rfl _ _ rfl 0 _ rfl _ rfl _ Tryd.underlying3 rfl) (by exact (by first | assumption | exact S.dropR)) ?_
  simp only [Act.put, List.setIfInBounds_toArray, List.set_cons_zero, List.set_cons_succ]
  refine wpAnyH_ready (rs := [3]) (by kernel_rfl) (by simp) ?_
  refine AllReadyH.cons rfl (fun K hK => ?_) AllReadyH.nil
  go_simp
  go_wp2_with (go_at_call 68; refine (put_8_1 (i.list / 16384) _).mono ?_; rintro e wf ⟨rfl, rfl⟩)
  refine hK.out _ _ (by exact S) (fun _ => ?_)
  clear hK K
  refine wpAnyH_take (i := 4) (oi := { dst := some 25, op := Op.binOp BinOp.or 22 (Operand.const (Value.int IntKind.u16 46080)) (Operand.tmp 24) 22, type := 22, pos := "encode.go:154", after := #[{ on := 3, ground := Ground.data }], guard := none }) (v := ?_) rfl (by kernel_rfl) (by kernel_rfl) (by kernel_rfl) (fun _ _ _ h => h) (Or.inl ⟨by rfl, ?_⟩) (by exact (by first | assumption | exact S.dropR)) ?_
  rotate_left 1
  · intro w hSw
    clear hSw
    go_simp
    try with_reducible rfl
  simp only [Act.put, List.setIfInBounds_toArray, List.set_cons_zero, List.set_cons_succ]
  refine wpAnyH_ready (rs := [7]) (by kernel_rfl) (by simp) ?_
  refine AllReadyH.cons rfl (fun K hK => ?_) AllReadyH.nil
  go_simp
  go_wp2_with (go_at_call 68; refine (put_0_8 i.list _).mono ?_; rintro e wf ⟨rfl, rfl⟩)
  refine hK.out _ _ (by exact S) (fun _ => ?_)
  clear hK K
  refine wpAnyH_take (i := 8) (oi := { dst := some 29, op := Op.binOp BinOp.or 22 (Operand.tmp 25) (Operand.tmp 28) 22, type := 22, pos := "encode.go:154", after := #[{ on := 4, ground := Ground.data }, { on := 7, ground := Ground.data }], guard := none }) (v := ?_) rfl (by kernel_rfl) (by kernel_rfl) (by kernel_rfl) (fun _ _ _ h => h) (Or.inl ⟨by rfl, ?_⟩) (by exact (by first | assumption | exact S.dropR)) ?_
  rotate_left 1
  · intro w hSw
    clear hSw
    go_simp
    try with_reducible rfl
  simp only [Act.put, List.setIfInBounds_toArray, List.set_cons_zero, List.set_cons_succ]
  refine wpAnyH_ready (rs := [13]) (by kernel_rfl) (by simp) ?_
  refine AllReadyH.cons rfl (fun K hK => ?_) AllReadyH.nil
  go_simp
  go_wp2_with (go_at_call 66; refine (two_c 49152 (by decide) (by decide) i.n i.list _).mono ?_; rintro e wf ⟨rfl, rfl⟩)
  refine hK.out _ _ (by exact S) (fun _ => ?_)
  clear hK K
  refine wpAnyH_ready (rs := [14]) (by kernel_rfl) (by simp) ?_
  refine AllReadyH.cons rfl (fun K hK => ?_) AllReadyH.nil
  rw [if_pos (by rfl)]
  refine S.wpSlice 35 rfl 25 2 _ rfl (uc [Q, two8 49152 i.n i.list]) 22 (by kernel_rfl) ?_
  clear S
  intro g w1 S
  refine hK.out _ _ (by exact S.fewer 1) (fun _ => ?_)
  simp only [Act.put, List.setIfInBounds_toArray, List.set_cons_zero, List.set_cons_succ]
  clear hK K
  refine wpAnyH_take (i := 15) (oi := { dst := some 2, op := Op.assign (Operand.tmp 35), type := 25, pos := "encode.go:154", after := #[{ on := 14, ground := Ground.data }, { on := 13, ground := Ground.chain }, { on := 0, ground := Ground.phase }, { on := 1, ground := Ground.phase }, { on := 2, ground := Ground.phase }, { on := 3, ground := Ground.phase }, { on := 4, ground := Ground.phase }, { on := 5, ground := Ground.phase }, { on := 6, ground := Ground.phase }, { on := 7, ground := Ground.phase }, { on := 8, ground := Ground.phase }, { on := 9, ground := Ground.phase }, { on := 10, ground := Ground.phase }, { on := 11, ground := Ground.phase }, { on := 12, ground := Ground.phase }, { on := 13, ground := Ground.phase }, { on := 14, ground := Ground.phase }], guard := none }) (v := ?_) rfl (by kernel_rfl) (by kernel_rfl) (by kernel_rfl) (fun _ _ _ h => h) (Or.inl ⟨by rfl, ?_⟩) (by exact (by first | assumption | exact S.dropR)) ?_
  rotate_left 1
  · intro w hSw
    clear hSw
    go_simp
    try with_reducible rfl
  simp only [Act.put, List.setIfInBounds_toArray, List.set_cons_zero, List.set_cons_succ]
  refine wpAnyH_done (by kernel_rfl) ?_ _
  go_wp2
  (try simp only [Exit.inBlock, Exit.then])
  go_ret
  exact ⟨_, rfl, HLs.of_blk (S.at (i := 0) rfl).1, S.low⟩
set_option maxHeartbeats 4000000 in
set_option maxRecDepth 100000 in
theorem cmph_c (page : Nat) (i : IV) (hi : OKi i) (w : World) (hpg : page = 45312 ∨ page = 47360) : Calls Tryd.prog 70 #[.int .u16 page, i.val] w fun e w' => e = .returned (.int .u16 (cmpZ page i : Nat)) ∧ Below w.heap.size w w' := by
  obtain ⟨hi0, hi1⟩ := hi
  have a1 : putN (i.imm / 64) 9 1 < 1024 := putN_lt _ 9 1
  have a2 : putN (i.imm / 2) 3 5 < 256 := putN_lt _ 3 5
  have a3 : putN i.n 0 3 < 8 := putN_lt _ 0 3
  have m2 : putN (i.imm / 2) 3 5 % 8 = 0 := putN_mod _ 3 5 3 (by decide)
  have v1 : putN (i.imm / 64) 9 1 = 0 ∨ putN (i.imm / 64) 9 1 = 512 := by
    have m1 : putN (i.imm / 64) 9 1 % 512 = 0 := putN_mod _ 9 1 9 (by decide)
    omega
  have j1 : bits .or .u16 (page : Int) ((putN (i.imm / 64) 9 1 : Nat) : Int) = ((page + putN (i.imm / 64) 9 1 : Nat) : Int) := by
    rcases hpg with rfl | rfl <;> rcases v1 with e | e <;> rw [e] <;> decide
  have j2 : bits .or .u16 ((page + putN (i.imm / 64) 9 1 : Nat) : Int) ((putN (i.imm / 2) 3 5 : Nat) : Int) = ((page + putN (i.imm / 64) 9 1 + putN (i.imm / 2) 3 5 : Nat) : Int) := u16_join _ _ 8 (by rcases hpg with rfl | rfl <;> rcases v1 with e | e <;> rw [e]) (by omega) a2 (by omega)
  have j3 : bits .or .u16 ((page + putN (i.imm / 64) 9 1 + putN (i.imm / 2) 3 5 : Nat) : Int) ((putN i.n 0 3 : Nat) : Int) = ((page + putN (i.imm / 64) 9 1 + putN (i.imm / 2) 3 5 + putN i.n 0 3 : Nat) : Int) := u16_join _ _ 3 (by omega) (by omega) a3 (by omega)
  have C1 : Hid (∀ w, Calls Tryd.prog 68 #[.int .i64 (i.imm / 64), .int .i64 9, .int .i64 1] w fun e w' => e = .returned (.int .u16 (putN (i.imm / 64) 9 1 : Nat)) ∧ w' = w) := fun w => put_9_1 _ w
  have C2 : Hid (∀ w, Calls Tryd.prog 68 #[.int .i64 (i.imm / 2), .int .i64 3, .int .i64 5] w fun e w' => e = .returned (.int .u16 (putN (i.imm / 2) 3 5 : Nat)) ∧ w' = w) := fun w => put_3_5 _ w
  have C3 : Hid (∀ w, Calls Tryd.prog 68 #[.int .i64 i.n, .int .i64 0, .int .i64 3] w fun e w' => e = .returned (.int .u16 (putN i.n 0 3 : Nat)) ∧ w' = w) := fun w => put_0_3 _ w
  unfold cmpZ
  generalize putN (i.imm / 64) 9 1 = p1 at *
  generalize putN (i.imm / 2) 3 5 = p2 at *
  generalize putN i.n 0 3 = p3 at *
  generalize page + p1 = q1 at *
  generalize q1 + p2 = q2 at *
  generalize q2 + p3 = q3 at *
  clear hpg v1
  go_enter Tryd.func70, Tryd.ntmps70
  have S := SH.start w
  go_wp2_with (first
    | ((with_reducible refine wpl_is ?_); first
      | (refine SH.box (L := []) S rfl 29 _ rfl (Cel.iv i) rfl ?_; clear S; intro b2 w0 S)
      | (refine S.ld 3 _ rfl _ 0 rfl 0 (Cel.iv i) rfl _ rfl _ Tryd.underlying3 rfl rfl ?_)
      | (refine S.ld 27 _ rfl _ 8 rfl 0 (Cel.iv i) rfl _ rfl _ Tryd.underlying27 rfl rfl ?_)))
  refine wp_region_held_drew (S := fun w' => SH noZ w w' [(b2, Cel.iv i)]) (by kernel_rfl) (by exact S.drew) (fun _ => ?_)
  replace S := S.drew
  refine wpAnyH_take (i := 0) (oi := { dst := some 9, op := Op.move (Operand.tmp 0), type := 22, pos := "encode.go:178", after := #[], guard := none }) (v := ?_) rfl (by kernel_rfl) (by kernel_rfl) (by kernel_rfl) (fun _ _ _ h => h) (Or.inl ⟨by rfl, ?_⟩) (by exact (by first | assumption | exact S.dropR)) ?_
  rotate_left 1
  · intro w hSw
    clear hSw
    go_simp
    try with_reducible rfl
  simp only [Act.put, List.setIfInBounds_toArray, List.set_cons_zero, List.set_cons_succ]
  refine wpAnyH_take (i := 1) (oi := { dst := some 10, op := Op.move (Operand.tmp 5), type := 3, pos := "encode.go:178", after := #[], guard := none }) (v := ?_) rfl (by kernel_rfl) (by kernel_rfl) (by kernel_rfl) (fun _ _ _ h => h) (Or.inl ⟨by rfl, ?_⟩) (by exact (by first | assumption | exact S.dropR)) ?_
  rotate_left 1
  · intro w hSw
    clear hSw
    go_simp
    try with_reducible rfl
  simp only [Act.put, List.setIfInBounds_toArray, List.set_cons_zero, List.set_cons_succ]
  refine wpAnyH_take (i := 2) (oi := { dst := some 11, op := Op.binOp BinOp.shr 3 (Operand.tmp 10) (Operand.const (Value.int IntKind.u64 6)) 36, type := 3, pos := "encode.go:178", after := #[{ on := 1, ground := Ground.data }], guard := none }) (v := ?_) rfl (by kernel_rfl) (by kernel_rfl) (by kernel_rfl) (fun _ _ _ h => h) (Or.inl ⟨by rfl, ?_⟩) (by exact (by first | assumption | exact S.dropR)) ?_
  rotate_left 1
  · intro w hSw
    clear hSw
    go_simp
    try with_reducible rfl
  simp only [Act.put, List.setIfInBounds_toArray, List.set_cons_zero, List.set_cons_succ]
  refine wpAnyH_take (i := 5) (oi := { dst := some 14, op := Op.move (Operand.tmp 5), type := 3, pos := "encode.go:178", after := #[], guard := none }) (v := ?_) rfl (by kernel_rfl) (by kernel_rfl) (by kernel_rfl) (fun _ _ _ h => h) (Or.inl ⟨by rfl, ?_⟩) (by exact (by first | assumption | exact S.dropR)) ?_
  rotate_left 1
  · intro w hSw
    clear hSw
    go_simp
    try with_reducible rfl
  simp only [Act.put, List.setIfInBounds_toArray, List.set_cons_zero, List.set_cons_succ]
  refine wpAnyH_take (i := 6) (oi := { dst := some 15, op := Op.binOp BinOp.shr 3 (Operand.tmp 14) (Operand.const (Value.int IntKind.u64 1)) 36, type := 3, pos := "encode.go:178", after := #[{ on := 5, ground := Ground.data }], guard := none }) (v := ?_) rfl (by kernel_rfl) (by kernel_rfl) (by kernel_rfl) (fun _ _ _ h => h) (Or.inl ⟨by rfl, ?_⟩) (by exact (by first | assumption | exact S.dropR)) ?_
  rotate_left 1
  · intro w hSw
    clear hSw
    go_simp
    try with_reducible rfl
  simp only [Act.put, List.setIfInBounds_toArray, List.set_cons_zero, List.set_cons_succ]
  refine wpAnyH_take (i := 9) (oi := { dst := some 18, op := Op.fieldAddr 29 (Operand.tmp 3) 5, type := 0, pos := "encode.go:178", after := #[], guard := none }) (v := ?_) rfl (by kernel_rfl) (by kernel_rfl) (by kernel_rfl) (fun _ _ _ h => h) (Or.inl ⟨by rfl, ?_⟩) (by exact (by first | assumption | exact S.dropR)) ?_
  rotate_left 1
  · intro w hSw
    clear hSw
    go_simp
    try with_reducible rfl
  simp only [Act.put, List.setIfInBounds_toArray, List.set_cons_zero, List.set_cons_succ]
  refine wpAnyH_take (i := 10) (oi := { dst := some 19, op := Op.load 3 (Operand.tmp 18), type := 3, pos := "encode.go:178", after := #[{ on := 9, ground := Ground.data }], guard := none }) (v := _) rfl (by kernel_rfl) (by kernel_rfl) (by kernel_rfl) (fun _ _ _ h => h) (y_load1 (by rfl) _ _ rfl _ _ rfl 0 _ rfl _ rfl _ Tryd.underlying3 rfl) (by exact (by first | assumption | exact S.dropR)) ?_
  simp only [Act.put, List.setIfInBounds_toArray, List.set_cons_zero, List.set_cons_succ]
  refine wpAnyH_ready (rs := [3]) (by kernel_rfl) (by simp) ?_
  refine AllReadyH.cons rfl (fun K hK => ?_) AllReadyH.nil
  go_simp
  go_wp2_with (go_at_call 68; with_reducible refine (C1.out _).mono ?_; rintro e wf ⟨rfl, rfl⟩)
  refine hK.out _ _ (by exact S) (fun _ => ?_)
  clear hK K
  refine wpAnyH_take (i := 4) (oi := { dst := some 13, op := Op.binOp BinOp.or 22 (Operand.tmp 9) (Operand.tmp 12) 22, type := 22, pos := "encode.go:178", after := #[{ on := 0, ground := Ground.data }, { on := 3, ground := Ground.data }], guard := none }) (v := ?_) rfl (by kernel_rfl) (by kernel_rfl) (by kernel_rfl) (fun _ _ _ h => h) (Or.inl ⟨by rfl, ?_⟩) (by exact (by first | assumption | exact S.dropR)) ?_
  rotate_left 1
  · intro w hSw
    clear hSw
    go_simp
    try with_reducible rfl
  simp only [Act.put, List.setIfInBounds_toArray, List.set_cons_zero, List.set_cons_succ]
  refine wpAnyH_ready (rs := [7]) (by kernel_rfl) (by simp) ?_
  refine AllReadyH.cons rfl (fun K hK => ?_) AllReadyH.nil
  go_simp
  go_wp2_with (go_at_call 68; with_reducible refine (C2.out _).mono ?_; rintro e wf ⟨rfl, rfl⟩)
  refine hK.out _ _ (by exact S) (fun _ => ?_)
  clear hK K
  refine wpAnyH_take (i := 8) (oi := { dst := some 17, op := Op.binOp BinOp.or 22 (Operand.tmp 13) (Operand.tmp 16) 22, type := 22, pos := "encode.go:178", after := #[{ on := 4, ground := Ground.data }, { on := 7, ground := Ground.data }], guard := none }) (v := ?_) rfl (by kernel_rfl) (by kernel_rfl) (by kernel_rfl) (fun _ _ _ h => h) (Or.inl ⟨by rfl, ?_⟩) (by exact (by first | assumption | exact S.dropR)) ?_
  rotate_left 1
  · intro w hSw
    clear hSw
    go_simp
    try with_reducible rfl
  simp only [Act.put, List.setIfInBounds_toArray, List.set_cons_zero, List.set_cons_succ]
  refine wpAnyH_ready (rs := [11]) (by kernel_rfl) (by simp) ?_
  refine AllReadyH.cons rfl (fun K hK => ?_) AllReadyH.nil
  go_simp
  go_wp2_with (go_at_call 68; with_reducible refine (C3.out _).mono ?_; rintro e wf ⟨rfl, rfl⟩)
  refine hK.out _ _ (by exact S) (fun _ => ?_)
  clear hK K
  refine wpAnyH_take (i := 12) (oi := { dst := some 21, op := Op.binOp BinOp.or 22 (Operand.tmp 17) (Operand.tmp 20) 22, type := 22, pos := "encode.go:178", after := #[{ on := 8, ground := Ground.data }, { on := 11, ground := Ground.data }], guard := none }) (v := ?_) rfl (by kernel_rfl) (by kernel_rfl) (by kernel_rfl) (fun _ _ _ h => h) (Or.inl ⟨by rfl, ?_⟩) (by exact (by first | assumption | exact S.dropR)) ?_
  rotate_left 1
  · intro w hSw
    clear hSw
    go_simp
    try with_reducible rfl
  simp only [Act.put, List.setIfInBounds_toArray, List.set_cons_zero, List.set_cons_succ]
  refine wpAnyH_take (i := 13) (oi := { dst := some 4, op := Op.assign (Operand.tmp 21), type := 22, pos := "encode.go:178", after := #[{ on := 12, ground := Ground.data }, { on := 11, ground := Ground.chain }, { on := 0, ground := Ground.phase }, { on := 1, ground := Ground.phase }, { on := 2, ground := Ground.phase }, { on := 3, ground := Ground.phase }, { on := 4, ground := Ground.phase }, { on := 5, ground := Ground.phase }, { on := 6, ground := Ground.phase }, { on := 7, ground := Ground.phase }, { on := 8, ground := Ground.phase }, { on := 9, ground := Ground.phase }, { on := 10, ground := Ground.phase }, { on := 11, ground := Ground.phase }, { on := 12, ground := Ground.phase }], guard := none }) (v := ?_) rfl (by kernel_rfl) (by kernel_rfl) (by kernel_rfl) (fun _ _ _ h => h) (Or.inl ⟨by rfl, ?_⟩) (by exact (by first | assumption | exact S.dropR)) ?_
  rotate_left 1
  · intro w hSw
    clear hSw
    go_simp
    try with_reducible rfl
  simp only [Act.put, List.setIfInBounds_toArray, List.set_cons_zero, List.set_cons_succ]
  refine wpAnyH_done (by kernel_rfl) ?_ _
  go_wp2
  go_ret
  exact ⟨rfl, S.low⟩
set_option maxHeartbeats 4000000 in
set_option maxRecDepth 100000 in
theorem br56_c (i : IV) (hop : i.op = ((56 : Nat) : Int)) (hi : OKi i) (w : World) (HT : LT w) : Calls Tryd.prog 52 #[i.val] w fun e w' => HRes w [18176 + putN i.m 3 4] e w' := by
  obtain ⟨hi0, hi1⟩ := hi
  have hj : bits .or .u16 18176 ((putN i.m 3 4 : Nat) : Int) = ((18176 + putN i.m 3 4 : Nat) : Int) := by
    have a : putN i.m 3 4 < 128 := putN_lt _ 3 4
    exact u16_join 18176 _ 7 (by decide) (by decide) a (by omega)
  generalize 18176 + putN i.m 3 4 = Q at *
  go_enter Tryd.func52, Tryd.ntmps52
  have S := SH.start w
  go_wp2_with (first
    | (go_at_call 68; refine (put_3_4 i.m _).mono ?_; rintro e wf ⟨rfl, rfl⟩)
    | ((with_reducible refine wpl_is ?_); first
      | (refine SH.box (L := []) S rfl 29 _ rfl (Cel.iv i) rfl ?_; clear S; intro b2 w0 S)
      | (refine S.sliceAny rfl 25 1 _ rfl (uc [Q]) 22 (by kernel_rfl) ?_; clear S; intro g w1 S)
      | (refine S.ldAll 29 _ rfl _ rfl 0 (Cel.iv i) rfl _ Tryd.underlying29 rfl (szIV _) rfl ?_)
      | (refine S.ld 3 _ rfl _ 0 rfl 0 (Cel.iv i) rfl _ rfl _ Tryd.underlying3 rfl rfl ?_)
      | (refine S.ld 27 _ rfl _ 8 rfl 0 (Cel.iv i) rfl _ rfl _ Tryd.underlying27 rfl rfl ?_)
      | (refine S.ld 3 _ rfl _ 6 rfl 0 (Cel.iv i) rfl _ rfl _ Tryd.underlying3 rfl rfl ?_)))
  (try simp only [Exit.inBlock, Exit.then])
  go_ret
  exact ⟨_, rfl, HLs.of_blk (S.at (i := 0) rfl).1, S.low⟩
set_option maxHeartbeats 4000000 in
set_option maxRecDepth 100000 in
theorem br57_c (i : IV) (hop : i.op = ((57 : Nat) : Int)) (hi : OKi i) (w : World) (HT : LT w) : Calls Tryd.prog 52 #[i.val] w fun e w' => HRes w [18304 + putN i.m 3 4] e w' := by
  obtain ⟨hi0, hi1⟩ := hi
  have hj : bits .or .u16 18304 ((putN i.m 3 4 : Nat) : Int) = ((18304 + putN i.m 3 4 : Nat) : Int) := by
    have a : putN i.m 3 4 < 128 := putN_lt _ 3 4
    exact u16_join 18304 _ 7 (by decide) (by decide) a (by omega)
  generalize 18304 + putN i.m 3 4 = Q at *
  go_enter Tryd.func52, Tryd.ntmps52
  have S := SH.start w
  go_wp2_with (first
    | (go_at_call 68; refine (put_3_4 i.m _).mono ?_; rintro e wf ⟨rfl, rfl⟩)
    | ((with_reducible refine wpl_is ?_); first
      | (refine SH.box (L := []) S rfl 29 _ rfl (Cel.iv i) rfl ?_; clear S; intro b2 w0 S)
      | (refine S.sliceAny rfl 25 1 _ rfl (uc [Q]) 22 (by kernel_rfl) ?_; clear S; intro g w1 S)
      | (refine S.ldAll 29 _ rfl _ rfl 0 (Cel.iv i) rfl _ Tryd.underlying29 rfl (szIV _) rfl ?_)
      | (refine S.ld 3 _ rfl _ 0 rfl 0 (Cel.iv i) rfl _ rfl _ Tryd.underlying3 rfl rfl ?_)
      | (refine S.ld 27 _ rfl _ 8 rfl 0 (Cel.iv i) rfl _ rfl _ Tryd.underlying27 rfl rfl ?_)
      | (refine S.ld 3 _ rfl _ 6 rfl 0 (Cel.iv i) rfl _ rfl _ Tryd.underlying3 rfl rfl ?_)))
  (try simp only [Exit.inBlock, Exit.then])
  go_ret
  exact ⟨_, rfl, HLs.of_blk (S.at (i := 0) rfl).1, S.low⟩
set_option maxHeartbeats 4000000 in
set_option maxRecDepth 100000 in
theorem br58_c (i : IV) (hop : i.op = ((58 : Nat) : Int)) (hi : OKi i) (w : World) (HT : LT w) : Calls Tryd.prog 52 #[i.val] w fun e w' => HRes w [cmpZ 45312 i] e w' := by
  have CQ : Hid (∀ w1, Calls Tryd.prog 70 #[.int .u16 45312, i.val] w1 fun e w' => e = .returned (.int .u16 (cmpZ 45312 i : Nat)) ∧ Below w1.heap.size w1 w') := fun w1 => cmph_c 45312 i hi w1 (by decide)
  obtain ⟨hi0, hi1⟩ := hi
  generalize cmpZ 45312 i = Q at *
  go_enter Tryd.func52, Tryd.ntmps52
  have S := SH.start w
  go_wp2_with (first
    | (go_at_call 70; refine (CQ.out _).mono ?_; rintro e wf ⟨rfl, hbf⟩; replace S := S.below hbf; clear hbf)
    | ((with_reducible refine wpl_is ?_); first
      | (refine SH.box (L := []) S rfl 29 _ rfl (Cel.iv i) rfl ?_; clear S; intro b2 w0 S)
      | (refine S.sliceAny rfl 25 1 _ rfl (uc [Q]) 22 (by kernel_rfl) ?_; clear S; intro g w1 S)
      | (refine S.ldAll 29 _ rfl _ rfl 0 (Cel.iv i) rfl _ Tryd.underlying29 rfl (szIV _) rfl ?_)
      | (refine S.ld 3 _ rfl _ 0 rfl 0 (Cel.iv i) rfl _ rfl _ Tryd.underlying3 rfl rfl ?_)
      | (refine S.ld 27 _ rfl _ 8 rfl 0 (Cel.iv i) rfl _ rfl _ Tryd.underlying27 rfl rfl ?_)
      | (refine S.ld 3 _ rfl _ 6 rfl 0 (Cel.iv i) rfl _ rfl _ Tryd.underlying3 rfl rfl ?_)))
  (try simp only [Exit.inBlock, Exit.then])
  go_ret
  exact ⟨_, rfl, HLs.of_blk (S.at (i := 0) rfl).1, S.low⟩
set_option maxHeartbeats 4000000 in
set_option maxRecDepth 100000 in
theorem br59_c (i : IV) (hop : i.op = ((59 : Nat) : Int)) (hi : OKi i) (w : World) (HT : LT w) : Calls Tryd.prog 52 #[i.val] w fun e w' => HRes w [cmpZ 47360 i] e w' := by
  have CQ : Hid (∀ w1, Calls Tryd.prog 70 #[.int .u16 47360, i.val] w1 fun e w' => e = .returned (.int .u16 (cmpZ 47360 i : Nat)) ∧ Below w1.heap.size w1 w') := fun w1 => cmph_c 47360 i hi w1 (by decide)
  obtain ⟨hi0, hi1⟩ := hi
  generalize cmpZ 47360 i = Q at *
  go_enter Tryd.func52, Tryd.ntmps52
  have S := SH.start w
  go_wp2_with (first
    | (go_at_call 70; refine (CQ.out _).mono ?_; rintro e wf ⟨rfl, hbf⟩; replace S := S.below hbf; clear hbf)
    | ((with_reducible refine wpl_is ?_); first
      | (refine SH.box (L := []) S rfl 29 _ rfl (Cel.iv i) rfl ?_; clear S; intro b2 w0 S)
      | (refine S.sliceAny rfl 25 1 _ rfl (uc [Q]) 22 (by kernel_rfl) ?_; clear S; intro g w1 S)
      | (refine S.ldAll 29 _ rfl _ rfl 0 (Cel.iv i) rfl _ Tryd.underlying29 rfl (szIV _) rfl ?_)
      | (refine S.ld 3 _ rfl _ 0 rfl 0 (Cel.iv i) rfl _ rfl _ Tryd.underlying3 rfl rfl ?_)
      | (refine S.ld 27 _ rfl _ 8 rfl 0 (Cel.iv i) rfl _ rfl _ Tryd.underlying27 rfl rfl ?_)
      | (refine S.ld 3 _ rfl _ 6 rfl 0 (Cel.iv i) rfl _ rfl _ Tryd.underlying3 rfl rfl ?_)))
  (try simp only [Exit.inBlock, Exit.then])
  go_ret
  exact ⟨_, rfl, HLs.of_blk (S.at (i := 0) rfl).1, S.low⟩
set_option maxHeartbeats 4000000 in
set_option maxRecDepth 100000 in
theorem brO_c (i : IV) (op : Nat) (hop : i.op = (op : Nat)) (ho : op ≠ 54 ∧ op ≠ 56 ∧ op ≠ 57 ∧ op ≠ 58 ∧ op ≠ 59) (hi : OKi i) (w : World) (HT : LT w) : Calls Tryd.prog 52 #[i.val] w fun e w' => HRes w [] e w' := by
  obtain ⟨hi0, hi1⟩ := hi
  have t54 : (i.op == 54) = false := by rw [hop]; simp; omega
  have t56 : (i.op == 56) = false := by rw [hop]; simp; omega
  have t57 : (i.op == 57) = false := by rw [hop]; simp; omega
  have t58 : (i.op == 58) = false := by rw [hop]; simp; omega
  have t59 : (i.op == 59) = false := by rw [hop]; simp; omega
  clear hop ho
  go_enter Tryd.func52, Tryd.ntmps52
  have S := SH.start w
  go_wp2_with (first
    | ((with_reducible refine wpl_is ?_); first
      | (refine SH.box (L := []) S rfl 29 _ rfl (Cel.iv i) rfl ?_; clear S; intro b2 w0 S)
      | (refine S.ld 3 _ rfl _ 0 rfl 0 (Cel.iv i) rfl _ rfl _ Tryd.underlying3 rfl rfl ?_)
      | (refine S.ld 27 _ rfl _ 8 rfl 0 (Cel.iv i) rfl _ rfl _ Tryd.underlying27 rfl rfl ?_)))
  (try simp only [Exit.inBlock, Exit.then])
  go_ret
  exact ⟨_, rfl, HLs.nil _, S.low⟩
set_option maxHeartbeats 4000000 in
set_option maxRecDepth 100000 in
theorem oth61_c (i : IV) (hop : i.op = ((61 : Nat) : Int)) (hi : OKi i) (w : World) (HT : LT w) : Calls Tryd.prog 53 #[i.val] w fun e w' => HRes w [48896 + putN i.imm 4 4] e w' := by
  obtain ⟨hi0, hi1⟩ := hi
  have hj : bits .or .u16 48896 ((putN i.imm 4 4 : Nat) : Int) = ((48896 + putN i.imm 4 4 : Nat) : Int) := by
    have a : putN i.imm 4 4 < 256 := putN_lt _ 4 4
    exact u16_join 48896 _ 8 (by decide) (by decide) a (by omega)
  generalize 48896 + putN i.imm 4 4 = Q at *
  go_enter Tryd.func53, Tryd.ntmps53
  have S := SH.start w
  go_wp2_with (first
    | (go_at_call 68; refine (put_4_4 i.imm _).mono ?_; rintro e wf ⟨rfl, rfl⟩)
    | ((with_reducible refine wpl_is ?_); first
      | (refine SH.box (L := []) S rfl 29 _ rfl (Cel.iv i) rfl ?_; clear S; intro b2 w0 S)
      | (refine S.sliceAny rfl 25 1 _ rfl (uc [Q]) 22 (by kernel_rfl) ?_; clear S; intro g w1 S)
      | (refine S.ldAll 29 _ rfl _ rfl 0 (Cel.iv i) rfl _ Tryd.underlying29 rfl (szIV _) rfl ?_)
      | (refine S.ld 3 _ rfl _ 0 rfl 0 (Cel.iv i) rfl _ rfl _ Tryd.underlying3 rfl rfl ?_)
      | (refine S.ld 27 _ rfl _ 8 rfl 0 (Cel.iv i) rfl _ rfl _ Tryd.underlying27 rfl rfl ?_)
      | (refine S.ld 3 _ rfl _ 6 rfl 0 (Cel.iv i) rfl _ rfl _ Tryd.underlying3 rfl rfl ?_)))
  (try simp only [Exit.inBlock, Exit.then])
  go_ret
  exact ⟨_, rfl, HLs.of_blk (S.at (i := 0) rfl).1, S.low⟩
set_option maxHeartbeats 4000000 in
set_option maxRecDepth 100000 in
theorem oth60_c (i : IV) (hop : i.op = ((60 : Nat) : Int)) (hi : OKi i) (w : World) (HT : LT w) : Calls Tryd.prog 53 #[i.val] w fun e w' => HRes w [48896 + putN i.imm 0 8] e w' := by
  obtain ⟨hi0, hi1⟩ := hi
  have hj : bits .or .u16 48896 ((putN i.imm 0 8 : Nat) : Int) = ((48896 + putN i.imm 0 8 : Nat) : Int) := by
    have a : putN i.imm 0 8 < 256 := putN_lt _ 0 8
    exact u16_join 48896 _ 8 (by decide) (by decide) a (by omega)
  generalize 48896 + putN i.imm 0 8 = Q at *
  go_enter Tryd.func53, Tryd.ntmps53
  have S := SH.start w
  go_wp2_with (first
    | (go_at_call 68; refine (put_0_8 i.imm _).mono ?_; rintro e wf ⟨rfl, rfl⟩)
    | ((with_reducible refine wpl_is ?_); first
      | (refine SH.box (L := []) S rfl 29 _ rfl (Cel.iv i) rfl ?_; clear S; intro b2 w0 S)
      | (refine S.sliceAny rfl 25 1 _ rfl (uc [Q]) 22 (by kernel_rfl) ?_; clear S; intro g w1 S)
      | (refine S.ldAll 29 _ rfl _ rfl 0 (Cel.iv i) rfl _ Tryd.underlying29 rfl (szIV _) rfl ?_)
      | (refine S.ld 3 _ rfl _ 0 rfl 0 (Cel.iv i) rfl _ rfl _ Tryd.underlying3 rfl rfl ?_)
      | (refine S.ld 27 _ rfl _ 8 rfl 0 (Cel.iv i) rfl _ rfl _ Tryd.underlying27 rfl rfl ?_)
      | (refine S.ld 3 _ rfl _ 6 rfl 0 (Cel.iv i) rfl _ rfl _ Tryd.underlying3 rfl rfl ?_)))
  (try simp only [Exit.inBlock, Exit.then])
  go_ret
  exact ⟨_, rfl, HLs.of_blk (S.at (i := 0) rfl).1, S.low⟩
set_option maxHeartbeats 4000000 in
set_option maxRecDepth 100000 in
theorem oth62_c (i : IV) (hop : i.op = ((62 : Nat) : Int)) (hi : OKi i) (w : World) (HT : LT w) : Calls Tryd.prog 53 #[i.val] w fun e w' => HRes w [57088 + putN i.imm 0 8] e w' := by
  obtain ⟨hi0, hi1⟩ := hi
  have hj : bits .or .u16 57088 ((putN i.imm 0 8 : Nat) : Int) = ((57088 + putN i.imm 0 8 : Nat) : Int) := by
    have a : putN i.imm 0 8 < 256 := putN_lt _ 0 8
    exact u16_join 57088 _ 8 (by decide) (by decide) a (by omega)
  generalize 57088 + putN i.imm 0 8 = Q at *
  go_enter Tryd.func53, Tryd.ntmps53
  have S := SH.start w
  go_wp2_with (first
    | (go_at_call 68; refine (put_0_8 i.imm _).mono ?_; rintro e wf ⟨rfl, rfl⟩)
    | ((with_reducible refine wpl_is ?_); first
      | (refine SH.box (L := []) S rfl 29 _ rfl (Cel.iv i) rfl ?_; clear S; intro b2 w0 S)
      | (refine S.sliceAny rfl 25 1 _ rfl (uc [Q]) 22 (by kernel_rfl) ?_; clear S; intro g w1 S)
      | (refine S.ldAll 29 _ rfl _ rfl 0 (Cel.iv i) rfl _ Tryd.underlying29 rfl (szIV _) rfl ?_)
      | (refine S.ld 3 _ rfl _ 0 rfl 0 (Cel.iv i) rfl _ rfl _ Tryd.underlying3 rfl rfl ?_)
      | (refine S.ld 27 _ rfl _ 8 rfl 0 (Cel.iv i) rfl _ rfl _ Tryd.underlying27 rfl rfl ?_)
      | (refine S.ld 3 _ rfl _ 6 rfl 0 (Cel.iv i) rfl _ rfl _ Tryd.underlying3 rfl rfl ?_)))
  (try simp only [Exit.inBlock, Exit.then])
  go_ret
  exact ⟨_, rfl, HLs.of_blk (S.at (i := 0) rfl).1, S.low⟩
set_option maxHeartbeats 4000000 in
set_option maxRecDepth 100000 in
theorem oth63_c (i : IV) (hop : i.op = ((63 : Nat) : Int)) (hi : OKi i) (w : World) (HT : LT w) : Calls Tryd.prog 53 #[i.val] w fun e w' => HRes w [48640 + putN i.imm 0 8] e w' := by
  obtain ⟨hi0, hi1⟩ := hi
  have hj : bits .or .u16 48640 ((putN i.imm 0 8 : Nat) : Int) = ((48640 + putN i.imm 0 8 : Nat) : Int) := by
    have a : putN i.imm 0 8 < 256 := putN_lt _ 0 8
    exact u16_join 48640 _ 8 (by decide) (by decide) a (by omega)
  generalize 48640 + putN i.imm 0 8 = Q at *
  go_enter Tryd.func53, Tryd.ntmps53
  have S := SH.start w
  go_wp2_with (first
    | (go_at_call 68; refine (put_0_8 i.imm _).mono ?_; rintro e wf ⟨rfl, rfl⟩)
    | ((with_reducible refine wpl_is ?_); first
      | (refine SH.box (L := []) S rfl 29 _ rfl (Cel.iv i) rfl ?_; clear S; intro b2 w0 S)
      | (refine S.sliceAny rfl 25 1 _ rfl (uc [Q]) 22 (by kernel_rfl) ?_; clear S; intro g w1 S)
      | (refine S.ldAll 29 _ rfl _ rfl 0 (Cel.iv i) rfl _ Tryd.underlying29 rfl (szIV _) rfl ?_)
      | (refine S.ld 3 _ rfl _ 0 rfl 0 (Cel.iv i) rfl _ rfl _ Tryd.underlying3 rfl rfl ?_)
      | (refine S.ld 27 _ rfl _ 8 rfl 0 (Cel.iv i) rfl _ rfl _ Tryd.underlying27 rfl rfl ?_)
      | (refine S.ld 3 _ rfl _ 6 rfl 0 (Cel.iv i) rfl _ rfl _ Tryd.underlying3 rfl rfl ?_)))
  (try simp only [Exit.inBlock, Exit.then])
  go_ret
  exact ⟨_, rfl, HLs.of_blk (S.at (i := 0) rfl).1, S.low⟩
set_option maxHeartbeats 4000000 in
set_option maxRecDepth 100000 in
theorem othO_c (i : IV) (op : Nat) (hop : i.op = (op : Nat)) (ho : op ≠ 61 ∧ op ≠ 60 ∧ op ≠ 62 ∧ op ≠ 63) (hi : OKi i) (w : World) (HT : LT w) : Calls Tryd.prog 53 #[i.val] w fun e w' => HRes w [] e w' := by
  obtain ⟨hi0, hi1⟩ := hi
  have t61 : (i.op == 61) = false := by rw [hop]; simp; omega
  have t60 : (i.op == 60) = false := by rw [hop]; simp; omega
  have t62 : (i.op == 62) = false := by rw [hop]; simp; omega
  have t63 : (i.op == 63) = false := by rw [hop]; simp; omega
  clear hop ho
  go_enter Tryd.func53, Tryd.ntmps53
  have S := SH.start w
  go_wp2_with (first
    | ((with_reducible refine wpl_is ?_); first
      | (refine SH.box (L := []) S rfl 29 _ rfl (Cel.iv i) rfl ?_; clear S; intro b2 w0 S)
      | (refine S.ld 3 _ rfl _ 0 rfl 0 (Cel.iv i) rfl _ rfl _ Tryd.underlying3 rfl rfl ?_)
      | (refine S.ld 27 _ rfl _ 8 rfl 0 (Cel.iv i) rfl _ rfl _ Tryd.underlying27 rfl rfl ?_)))
  (try simp only [Exit.inBlock, Exit.then])
  go_ret
  exact ⟨_, rfl, HLs.nil _, S.low⟩
end Go.Proofs.YtblcklknlfofgaaDoor
namespace Go.Proofs.YtblcklknlfofgaaDoor
open Go.ChangeShapes Go.WideShapes Go.ChangeAt Go.RowKit
set_option linter.unusedVariables false
set_option linter.unusedSimpArgs false

set_option maxHeartbeats 4000000 in
set_option maxRecDepth 100000 in
theorem hv1_c (i : IV) (hs : List Nat) (hc : classS i.op = 1) (C : ∀ w, LT w → Calls Tryd.prog 47 #[i.val] w fun e w' => HRes w hs e w') (w : World) (HT : LT w) : Calls Tryd.prog 28 #[i.val] w fun e w' => HRes w hs e w' := by
  have CC : Hid (∀ w1, Calls Tryd.prog 46 #[.int .i64 i.op] w1 fun e w' => e = .returned (.int .i64 1) ∧ w' = w1) := fun w1 => by
    have := class_c i.op w1
    rw [hc] at this
    exact this
  have CH : Hid (∀ w, LT w → Calls Tryd.prog 47 #[i.val] w fun e w' => HRes w hs e w') := C
  clear hc C
  go_enter Tryd.func28, Tryd.ntmps28
  have S := SH.start w
  go_wp2_with (first
    | (go_at_call 46; with_reducible refine (CC.out _).mono ?_; rintro e wf ⟨rfl, rfl⟩)
    | (go_at_call 47; refine (CH.out _ (HT.next S.low)).mono ?_; rintro e wf ⟨v, rfl, hv, hbf⟩; replace S := S.below hbf; clear hbf)
    | ((with_reducible refine wpl_is ?_); first
      | (refine SH.box (L := []) S rfl 29 _ rfl (Cel.iv i) rfl ?_; clear S; intro b2 w0 S)
      | (refine S.ldAll 29 _ rfl _ rfl 0 (Cel.iv i) rfl _ Tryd.underlying29 rfl (szIV _) rfl ?_)
      | (refine S.ld 3 _ rfl _ 0 rfl 0 (Cel.iv i) rfl _ rfl _ Tryd.underlying3 rfl rfl ?_)
      | (refine S.ld 27 _ rfl _ 8 rfl 0 (Cel.iv i) rfl _ rfl _ Tryd.underlying27 rfl rfl ?_)))
  (try simp only [Exit.inBlock, Exit.then])
  go_ret
  exact ⟨_, rfl, hv, S.low⟩
set_option maxHeartbeats 4000000 in
set_option maxRecDepth 100000 in
theorem hv2_c (i : IV) (hs : List Nat) (hc : classS i.op = 2) (C : ∀ w, LT w → Calls Tryd.prog 48 #[i.val] w fun e w' => HRes w hs e w') (w : World) (HT : LT w) : Calls Tryd.prog 28 #[i.val] w fun e w' => HRes w hs e w' := by
  have CC : Hid (∀ w1, Calls Tryd.prog 46 #[.int .i64 i.op] w1 fun e w' => e = .returned (.int .i64 2) ∧ w' = w1) := fun w1 => by
    have := class_c i.op w1
    rw [hc] at this
    exact this
  have CH : Hid (∀ w, LT w → Calls Tryd.prog 48 #[i.val] w fun e w' => HRes w hs e w') := C
  clear hc C
  go_enter Tryd.func28, Tryd.ntmps28
  have S := SH.start w
  go_wp2_with (first
    | (go_at_call 46; with_reducible refine (CC.out _).mono ?_; rintro e wf ⟨rfl, rfl⟩)
    | (go_at_call 48; refine (CH.out _ (HT.next S.low)).mono ?_; rintro e wf ⟨v, rfl, hv, hbf⟩; replace S := S.below hbf; clear hbf)
    | ((with_reducible refine wpl_is ?_); first
      | (refine SH.box (L := []) S rfl 29 _ rfl (Cel.iv i) rfl ?_; clear S; intro b2 w0 S)
      | (refine S.ldAll 29 _ rfl _ rfl 0 (Cel.iv i) rfl _ Tryd.underlying29 rfl (szIV _) rfl ?_)
      | (refine S.ld 3 _ rfl _ 0 rfl 0 (Cel.iv i) rfl _ rfl _ Tryd.underlying3 rfl rfl ?_)
      | (refine S.ld 27 _ rfl _ 8 rfl 0 (Cel.iv i) rfl _ rfl _ Tryd.underlying27 rfl rfl ?_)))
  (try simp only [Exit.inBlock, Exit.then])
  go_ret
  exact ⟨_, rfl, hv, S.low⟩
set_option maxHeartbeats 4000000 in
set_option maxRecDepth 100000 in
theorem hv3_c (i : IV) (hs : List Nat) (hc : classS i.op = 3) (C : ∀ w, LT w → Calls Tryd.prog 49 #[i.val] w fun e w' => HRes w hs e w') (w : World) (HT : LT w) : Calls Tryd.prog 28 #[i.val] w fun e w' => HRes w hs e w' := by
  have CC : Hid (∀ w1, Calls Tryd.prog 46 #[.int .i64 i.op] w1 fun e w' => e = .returned (.int .i64 3) ∧ w' = w1) := fun w1 => by
    have := class_c i.op w1
    rw [hc] at this
    exact this
  have CH : Hid (∀ w, LT w → Calls Tryd.prog 49 #[i.val] w fun e w' => HRes w hs e w') := C
  clear hc C
  go_enter Tryd.func28, Tryd.ntmps28
  have S := SH.start w
  go_wp2_with (first
    | (go_at_call 46; with_reducible refine (CC.out _).mono ?_; rintro e wf ⟨rfl, rfl⟩)
    | (go_at_call 49; refine (CH.out _ (HT.next S.low)).mono ?_; rintro e wf ⟨v, rfl, hv, hbf⟩; replace S := S.below hbf; clear hbf)
    | ((with_reducible refine wpl_is ?_); first
      | (refine SH.box (L := []) S rfl 29 _ rfl (Cel.iv i) rfl ?_; clear S; intro b2 w0 S)
      | (refine S.ldAll 29 _ rfl _ rfl 0 (Cel.iv i) rfl _ Tryd.underlying29 rfl (szIV _) rfl ?_)
      | (refine S.ld 3 _ rfl _ 0 rfl 0 (Cel.iv i) rfl _ rfl _ Tryd.underlying3 rfl rfl ?_)
      | (refine S.ld 27 _ rfl _ 8 rfl 0 (Cel.iv i) rfl _ rfl _ Tryd.underlying27 rfl rfl ?_)))
  (try simp only [Exit.inBlock, Exit.then])
  go_ret
  exact ⟨_, rfl, hv, S.low⟩
set_option maxHeartbeats 4000000 in
set_option maxRecDepth 100000 in
theorem hv4_c (i : IV) (hs : List Nat) (hc : classS i.op = 4) (C : ∀ w, LT w → Calls Tryd.prog 50 #[i.val] w fun e w' => HRes w hs e w') (w : World) (HT : LT w) : Calls Tryd.prog 28 #[i.val] w fun e w' => HRes w hs e w' := by
  have CC : Hid (∀ w1, Calls Tryd.prog 46 #[.int .i64 i.op] w1 fun e w' => e = .returned (.int .i64 4) ∧ w' = w1) := fun w1 => by
    have := class_c i.op w1
    rw [hc] at this
    exact this
  have CH : Hid (∀ w, LT w → Calls Tryd.prog 50 #[i.val] w fun e w' => HRes w hs e w') := C
  clear hc C
  go_enter Tryd.func28, Tryd.ntmps28
  have S := SH.start w
  go_wp2_with (first
    | (go_at_call 46; with_reducible refine (CC.out _).mono ?_; rintro e wf ⟨rfl, rfl⟩)
    | (go_at_call 50; refine (CH.out _ (HT.next S.low)).mono ?_; rintro e wf ⟨v, rfl, hv, hbf⟩; replace S := S.below hbf; clear hbf)
    | ((with_reducible refine wpl_is ?_); first
      | (refine SH.box (L := []) S rfl 29 _ rfl (Cel.iv i) rfl ?_; clear S; intro b2 w0 S)
      | (refine S.ldAll 29 _ rfl _ rfl 0 (Cel.iv i) rfl _ Tryd.underlying29 rfl (szIV _) rfl ?_)
      | (refine S.ld 3 _ rfl _ 0 rfl 0 (Cel.iv i) rfl _ rfl _ Tryd.underlying3 rfl rfl ?_)
      | (refine S.ld 27 _ rfl _ 8 rfl 0 (Cel.iv i) rfl _ rfl _ Tryd.underlying27 rfl rfl ?_)))
  (try simp only [Exit.inBlock, Exit.then])
  go_ret
  exact ⟨_, rfl, hv, S.low⟩
set_option maxHeartbeats 4000000 in
set_option maxRecDepth 100000 in
theorem hv5_c (i : IV) (hs : List Nat) (hc : classS i.op = 5) (C : ∀ w, LT w → Calls Tryd.prog 51 #[i.val] w fun e w' => HRes w hs e w') (w : World) (HT : LT w) : Calls Tryd.prog 28 #[i.val] w fun e w' => HRes w hs e w' := by
  have CC : Hid (∀ w1, Calls Tryd.prog 46 #[.int .i64 i.op] w1 fun e w' => e = .returned (.int .i64 5) ∧ w' = w1) := fun w1 => by
    have := class_c i.op w1
    rw [hc] at this
    exact this
  have CH : Hid (∀ w, LT w → Calls Tryd.prog 51 #[i.val] w fun e w' => HRes w hs e w') := C
  clear hc C
  go_enter Tryd.func28, Tryd.ntmps28
  have S := SH.start w
  go_wp2_with (first
    | (go_at_call 46; with_reducible refine (CC.out _).mono ?_; rintro e wf ⟨rfl, rfl⟩)
    | (go_at_call 51; refine (CH.out _ (HT.next S.low)).mono ?_; rintro e wf ⟨v, rfl, hv, hbf⟩; replace S := S.below hbf; clear hbf)
    | ((with_reducible refine wpl_is ?_); first
      | (refine SH.box (L := []) S rfl 29 _ rfl (Cel.iv i) rfl ?_; clear S; intro b2 w0 S)
      | (refine S.ldAll 29 _ rfl _ rfl 0 (Cel.iv i) rfl _ Tryd.underlying29 rfl (szIV _) rfl ?_)
      | (refine S.ld 3 _ rfl _ 0 rfl 0 (Cel.iv i) rfl _ rfl _ Tryd.underlying3 rfl rfl ?_)
      | (refine S.ld 27 _ rfl _ 8 rfl 0 (Cel.iv i) rfl _ rfl _ Tryd.underlying27 rfl rfl ?_)))
  (try simp only [Exit.inBlock, Exit.then])
  go_ret
  exact ⟨_, rfl, hv, S.low⟩
set_option maxHeartbeats 4000000 in
set_option maxRecDepth 100000 in
theorem hv6_c (i : IV) (hs : List Nat) (hc : classS i.op = 6) (C : ∀ w, LT w → Calls Tryd.prog 52 #[i.val] w fun e w' => HRes w hs e w') (w : World) (HT : LT w) : Calls Tryd.prog 28 #[i.val] w fun e w' => HRes w hs e w' := by
  have CC : Hid (∀ w1, Calls Tryd.prog 46 #[.int .i64 i.op] w1 fun e w' => e = .returned (.int .i64 6) ∧ w' = w1) := fun w1 => by
    have := class_c i.op w1
    rw [hc] at this
    exact this
  have CH : Hid (∀ w, LT w → Calls Tryd.prog 52 #[i.val] w fun e w' => HRes w hs e w') := C
  clear hc C
  go_enter Tryd.func28, Tryd.ntmps28
  have S := SH.start w
  go_wp2_with (first
    | (go_at_call 46; with_reducible refine (CC.out _).mono ?_; rintro e wf ⟨rfl, rfl⟩)
    | (go_at_call 52; refine (CH.out _ (HT.next S.low)).mono ?_; rintro e wf ⟨v, rfl, hv, hbf⟩; replace S := S.below hbf; clear hbf)
    | ((with_reducible refine wpl_is ?_); first
      | (refine SH.box (L := []) S rfl 29 _ rfl (Cel.iv i) rfl ?_; clear S; intro b2 w0 S)
      | (refine S.ldAll 29 _ rfl _ rfl 0 (Cel.iv i) rfl _ Tryd.underlying29 rfl (szIV _) rfl ?_)
      | (refine S.ld 3 _ rfl _ 0 rfl 0 (Cel.iv i) rfl _ rfl _ Tryd.underlying3 rfl rfl ?_)
      | (refine S.ld 27 _ rfl _ 8 rfl 0 (Cel.iv i) rfl _ rfl _ Tryd.underlying27 rfl rfl ?_)))
  (try simp only [Exit.inBlock, Exit.then])
  go_ret
  exact ⟨_, rfl, hv, S.low⟩
set_option maxHeartbeats 4000000 in
set_option maxRecDepth 100000 in
theorem hv7_c (i : IV) (hs : List Nat) (hc : classS i.op = 7) (C : ∀ w, LT w → Calls Tryd.prog 53 #[i.val] w fun e w' => HRes w hs e w') (w : World) (HT : LT w) : Calls Tryd.prog 28 #[i.val] w fun e w' => HRes w hs e w' := by
  have CC : Hid (∀ w1, Calls Tryd.prog 46 #[.int .i64 i.op] w1 fun e w' => e = .returned (.int .i64 7) ∧ w' = w1) := fun w1 => by
    have := class_c i.op w1
    rw [hc] at this
    exact this
  have CH : Hid (∀ w, LT w → Calls Tryd.prog 53 #[i.val] w fun e w' => HRes w hs e w') := C
  clear hc C
  go_enter Tryd.func28, Tryd.ntmps28
  have S := SH.start w
  go_wp2_with (first
    | (go_at_call 46; with_reducible refine (CC.out _).mono ?_; rintro e wf ⟨rfl, rfl⟩)
    | (go_at_call 53; refine (CH.out _ (HT.next S.low)).mono ?_; rintro e wf ⟨v, rfl, hv, hbf⟩; replace S := S.below hbf; clear hbf)
    | ((with_reducible refine wpl_is ?_); first
      | (refine SH.box (L := []) S rfl 29 _ rfl (Cel.iv i) rfl ?_; clear S; intro b2 w0 S)
      | (refine S.ldAll 29 _ rfl _ rfl 0 (Cel.iv i) rfl _ Tryd.underlying29 rfl (szIV _) rfl ?_)
      | (refine S.ld 3 _ rfl _ 0 rfl 0 (Cel.iv i) rfl _ rfl _ Tryd.underlying3 rfl rfl ?_)
      | (refine S.ld 27 _ rfl _ 8 rfl 0 (Cel.iv i) rfl _ rfl _ Tryd.underlying27 rfl rfl ?_)))
  (try simp only [Exit.inBlock, Exit.then])
  go_ret
  exact ⟨_, rfl, hv, S.low⟩
set_option maxHeartbeats 4000000 in
set_option maxRecDepth 100000 in
theorem hv0_c (i : IV) (hc : classS i.op = 0) (w : World) : Calls Tryd.prog 28 #[i.val] w fun e w' => HRes w [] e w' := by
  have CC : Hid (∀ w1, Calls Tryd.prog 46 #[.int .i64 i.op] w1 fun e w' => e = .returned (.int .i64 0) ∧ w' = w1) := fun w1 => by
    have := class_c i.op w1
    rw [hc] at this
    exact this
  clear hc
  go_enter Tryd.func28, Tryd.ntmps28
  have S := SH.start w
  go_wp2_with (first
    | (go_at_call 46; with_reducible refine (CC.out _).mono ?_; rintro e wf ⟨rfl, rfl⟩)
    | ((with_reducible refine wpl_is ?_); first
      | (refine SH.box (L := []) S rfl 29 _ rfl (Cel.iv i) rfl ?_; clear S; intro b2 w0 S)
      | (refine S.ld 3 _ rfl _ 0 rfl 0 (Cel.iv i) rfl _ rfl _ Tryd.underlying3 rfl rfl ?_)
      | (refine S.ld 27 _ rfl _ 8 rfl 0 (Cel.iv i) rfl _ rfl _ Tryd.underlying27 rfl rfl ?_)))
  (try simp only [Exit.inBlock, Exit.then])
  go_ret
  exact ⟨_, rfl, HLs.nil _, S.low⟩
/-! ### By class, at whatever op -/
theorem data_all (i : IV) (op : Nat) (hop : i.op = (op : Nat)) (hi : OKi i) (w : World) (HT : LT w) : Calls Tryd.prog 47 #[i.val] w fun e w' => HRes w (dataZ i op) e w' := by
  by_cases h13 : op = 13
  · subst h13
    exact data13_c i hop hi w
  by_cases h17 : op = 17
  · subst h17
    exact data17_c i hop hi w HT
  by_cases h18 : op = 18
  · subst h18
    exact data18_c i hop hi w HT
  by_cases h19 : op = 19
  · subst h19
    exact data19_c i hop hi w HT
  by_cases h5 : op = 5
  · subst h5
    exact data5_c i hop hi w HT
  by_cases h3 : op = 3
  · subst h3
    exact data3_c i hop hi w HT
  by_cases h10 : op = 10
  · subst h10
    exact data10_c i hop hi w HT
  by_cases h43 : op = 43
  · subst h43
    exact data43_c i hop hi w HT
  have e : dataZ i op = lowZ i op := by
    unfold dataZ
    simp [nbeq, h13, h17, h18, h19, h5, h3, h10, h43]
  rw [e]
  exact dataO_c i op hop ⟨h13, h17, h18, h19, h5, h3, h10, h43⟩ w HT
theorem mem_all (i : IV) (op : Nat) (hop : i.op = (op : Nat)) (hi : OKi i) (w : World) (HT : LT w) : Calls Tryd.prog 50 #[i.val] w fun e w' => HRes w (memZ i op) e w' := by
  by_cases h49 : op = 49
  · subst h49
    exact mem49_c i hop hi w HT
  by_cases h44 : op = 44
  · subst h44
    exact mem44_c i hop hi w HT
  by_cases h50 : op = 50
  · subst h50
    exact mem50_c i hop hi w HT
  by_cases h45 : op = 45
  · subst h45
    exact mem45_c i hop hi w HT
  by_cases h51 : op = 51
  · subst h51
    exact mem51_c i hop hi w HT
  by_cases h46 : op = 46
  · subst h46
    exact mem46_c i hop hi w HT
  have e : memZ i op = [byRegZ i op] := by
    unfold memZ
    simp [nbeq, h49, h44, h50, h45, h51, h46]
  rw [e]
  exact memO_c i op hop ⟨h49, h44, h50, h45, h51, h46⟩ w HT
theorem many_all (i : IV) (op : Nat) (hop : i.op = (op : Nat)) (hi : OKi i) (w : World) (HT : LT w) : Calls Tryd.prog 51 #[i.val] w fun e w' => HRes w (manyZ i op) e w' := by
  by_cases h52 : op = 52
  · subst h52
    exact many52_c i hop w HT
  have e : manyZ i op = [46080 + putN (i.list / 16384) 8 1 + putN i.list 0 8, two8 49152 i.n i.list] := by
    unfold manyZ
    simp [nbeq, h52]
  rw [e]
  exact many53_c i op hop h52 w HT
theorem br_all (i : IV) (op : Nat) (hop : i.op = (op : Nat)) (hi : OKi i) (w : World) (HT : LT w) : Calls Tryd.prog 52 #[i.val] w fun e w' => HRes w (brZ i op) e w' := by
  by_cases h54 : op = 54
  · subst h54
    exact branchB_c i hop hi w
  by_cases h56 : op = 56
  · subst h56
    exact br56_c i hop hi w HT
  by_cases h57 : op = 57
  · subst h57
    exact br57_c i hop hi w HT
  by_cases h58 : op = 58
  · subst h58
    exact br58_c i hop hi w HT
  by_cases h59 : op = 59
  · subst h59
    exact br59_c i hop hi w HT
  have e : brZ i op = [] := by
    unfold brZ
    simp [nbeq, h54, h56, h57, h58, h59]
  rw [e]
  exact brO_c i op hop ⟨h54, h56, h57, h58, h59⟩ hi w HT
theorem oth_all (i : IV) (op : Nat) (hop : i.op = (op : Nat)) (hi : OKi i) (w : World) (HT : LT w) : Calls Tryd.prog 53 #[i.val] w fun e w' => HRes w (othZ i op) e w' := by
  by_cases h61 : op = 61
  · subst h61
    exact oth61_c i hop hi w HT
  by_cases h60 : op = 60
  · subst h60
    exact oth60_c i hop hi w HT
  by_cases h62 : op = 62
  · subst h62
    exact oth62_c i hop hi w HT
  by_cases h63 : op = 63
  · subst h63
    exact oth63_c i hop hi w HT
  have e : othZ i op = [] := by
    unfold othZ
    simp [nbeq, h61, h60, h62, h63]
  rw [e]
  exact othO_c i op hop ⟨h61, h60, h62, h63⟩ hi w HT
theorem halves_all (i : IV) (hi : OKi i) (w : World) (HT : LT w) : Calls Tryd.prog 28 #[i.val] w fun e w' => HRes w (halvesZ i) e w' := by
  by_cases h0 : i.op ≤ 0
  · have e : halvesZ i = [] := by
      unfold halvesZ
      rw [show i.op.toNat = 0 by omega]
      rfl
    rw [e]
    exact hv0_c i (by unfold classS; rw [if_pos h0]) w
  · obtain ⟨op, hop⟩ : ∃ op : Nat, i.op = (op : Nat) := ⟨i.op.toNat, by omega⟩
    have hn : i.op.toNat = op := by omega
    have hz : halvesZ i = bif Nat.beq op 0 then []
      else bif Nat.ble op 20 || Nat.beq op 43 then dataZ i op
      else bif Nat.ble op 29 then lowZ i op
      else bif Nat.ble op 42 then unaryZ i op
      else bif Nat.ble op 51 then memZ i op
      else bif Nat.ble op 53 then manyZ i op
      else bif Nat.ble op 59 then brZ i op
      else bif Nat.ble op 65 then othZ i op
      else [] := by
      unfold halvesZ
      rw [hn]
    rw [hz]
    simp only [nbeq, nble]
    rcases (show (1 ≤ op ∧ op ≤ 20) ∨ (21 ≤ op ∧ op ≤ 29) ∨ (30 ≤ op ∧ op ≤ 42) ∨ (op = 43) ∨ (44 ≤ op ∧ op ≤ 51) ∨ (52 ≤ op ∧ op ≤ 53) ∨ (54 ≤ op ∧ op ≤ 59) ∨ (60 ≤ op ∧ op ≤ 65) ∨ (66 ≤ op) by omega) with h | h | h | h | h | h | h | h | h
    · rw [show decide (op = 0) = false by simp; omega]
      rw [show decide (op ≤ 20) = true by simp; omega]
      simp only [cond_true, cond_false, Bool.true_or, Bool.false_or, Bool.or_true, Bool.or_false]
      exact hv1_c i _ (by unfold classS; repeat (first | rw [if_pos (by omega)] | rw [if_neg (by omega)])) (data_all i op hop hi) w HT
    · rw [show decide (op = 0) = false by simp; omega]
      rw [show decide (op ≤ 20) = false by simp; omega]
      rw [show decide (op = 43) = false by simp; omega]
      rw [show decide (op ≤ 29) = true by simp; omega]
      simp only [cond_true, cond_false, Bool.true_or, Bool.false_or, Bool.or_true, Bool.or_false]
      exact hv2_c i _ (by unfold classS; repeat (first | rw [if_pos (by omega)] | rw [if_neg (by omega)])) (lowh_c i op hop) w HT
    · rw [show decide (op = 0) = false by simp; omega]
      rw [show decide (op ≤ 20) = false by simp; omega]
      rw [show decide (op = 43) = false by simp; omega]
      rw [show decide (op ≤ 29) = false by simp; omega]
      rw [show decide (op ≤ 42) = true by simp; omega]
      simp only [cond_true, cond_false, Bool.true_or, Bool.false_or, Bool.or_true, Bool.or_false]
      exact hv3_c i _ (by unfold classS; repeat (first | rw [if_pos (by omega)] | rw [if_neg (by omega)])) (unaryh_c i op hop) w HT
    · rw [show decide (op = 0) = false by simp; omega]
      rw [show decide (op ≤ 20) = false by simp; omega]
      rw [show decide (op = 43) = true by simp; omega]
      simp only [cond_true, cond_false, Bool.true_or, Bool.false_or, Bool.or_true, Bool.or_false]
      exact hv1_c i _ (by unfold classS; repeat (first | rw [if_pos (by omega)] | rw [if_neg (by omega)])) (data_all i op hop hi) w HT
    · rw [show decide (op = 0) = false by simp; omega]
      rw [show decide (op ≤ 20) = false by simp; omega]
      rw [show decide (op = 43) = false by simp; omega]
      rw [show decide (op ≤ 29) = false by simp; omega]
      rw [show decide (op ≤ 42) = false by simp; omega]
      rw [show decide (op ≤ 51) = true by simp; omega]
      simp only [cond_true, cond_false, Bool.true_or, Bool.false_or, Bool.or_true, Bool.or_false]
      exact hv4_c i _ (by unfold classS; repeat (first | rw [if_pos (by omega)] | rw [if_neg (by omega)])) (mem_all i op hop hi) w HT
    · rw [show decide (op = 0) = false by simp; omega]
      rw [show decide (op ≤ 20) = false by simp; omega]
      rw [show decide (op = 43) = false by simp; omega]
      rw [show decide (op ≤ 29) = false by simp; omega]
      rw [show decide (op ≤ 42) = false by simp; omega]
      rw [show decide (op ≤ 51) = false by simp; omega]
      rw [show decide (op ≤ 53) = true by simp; omega]
      simp only [cond_true, cond_false, Bool.true_or, Bool.false_or, Bool.or_true, Bool.or_false]
      exact hv5_c i _ (by unfold classS; repeat (first | rw [if_pos (by omega)] | rw [if_neg (by omega)])) (many_all i op hop hi) w HT
    · rw [show decide (op = 0) = false by simp; omega]
      rw [show decide (op ≤ 20) = false by simp; omega]
      rw [show decide (op = 43) = false by simp; omega]
      rw [show decide (op ≤ 29) = false by simp; omega]
      rw [show decide (op ≤ 42) = false by simp; omega]
      rw [show decide (op ≤ 51) = false by simp; omega]
      rw [show decide (op ≤ 53) = false by simp; omega]
      rw [show decide (op ≤ 59) = true by simp; omega]
      simp only [cond_true, cond_false, Bool.true_or, Bool.false_or, Bool.or_true, Bool.or_false]
      exact hv6_c i _ (by unfold classS; repeat (first | rw [if_pos (by omega)] | rw [if_neg (by omega)])) (br_all i op hop hi) w HT
    · rw [show decide (op = 0) = false by simp; omega]
      rw [show decide (op ≤ 20) = false by simp; omega]
      rw [show decide (op = 43) = false by simp; omega]
      rw [show decide (op ≤ 29) = false by simp; omega]
      rw [show decide (op ≤ 42) = false by simp; omega]
      rw [show decide (op ≤ 51) = false by simp; omega]
      rw [show decide (op ≤ 53) = false by simp; omega]
      rw [show decide (op ≤ 59) = false by simp; omega]
      rw [show decide (op ≤ 65) = true by simp; omega]
      simp only [cond_true, cond_false, Bool.true_or, Bool.false_or, Bool.or_true, Bool.or_false]
      exact hv7_c i _ (by unfold classS; repeat (first | rw [if_pos (by omega)] | rw [if_neg (by omega)])) (oth_all i op hop hi) w HT
    · rw [show decide (op = 0) = false by simp; omega]
      rw [show decide (op ≤ 20) = false by simp; omega]
      rw [show decide (op = 43) = false by simp; omega]
      rw [show decide (op ≤ 29) = false by simp; omega]
      rw [show decide (op ≤ 42) = false by simp; omega]
      rw [show decide (op ≤ 51) = false by simp; omega]
      rw [show decide (op ≤ 53) = false by simp; omega]
      rw [show decide (op ≤ 59) = false by simp; omega]
      rw [show decide (op ≤ 65) = false by simp; omega]
      simp only [cond_true, cond_false, Bool.true_or, Bool.false_or, Bool.or_true, Bool.or_false]
      exact hv0_c i (by unfold classS; repeat (first | rw [if_pos (by omega)] | rw [if_neg (by omega)])) w
end Go.Proofs.YtblcklknlfofgaaDoor
