/- Stage 9: registers alone. -/
import Derived.Test.YtigmekboikgoaaaWe5
namespace Go.Proofs.Ytigmekboikgoaaa
open Go.ChangeShapes Go.WideShapes Go.ChangeAt Go.RowKit
set_option linter.unusedVariables false
set_option linter.unusedSimpArgs false

set_option maxHeartbeats 20000000 in
set_option maxRecDepth 100000 in
theorem registerOp_c (x : Nat) (hx : x < 4294967296) (w : World) : Calls Try.prog 57 #[.int .u32 x] w fun e w' => e = .returned (.int .i64 (regOp x)) ∧ w' = w := by
  have k : bits .and .u32 (x : Int) 4293918960 = ((fd x 20 12 * 1048576 + fd x 4 4 * 16 : Nat) : Int) := u32_two x 20 12 4 4 4293918960 hx (by decide) rfl (by decide)
  unfold regOp
  generalize ((fd x 20 12 * 1048576 + fd x 4 4 * 16 : Nat) : Int) = y at *
  by_cases h0 : y = 4194304000
  · rw [show regOpY y = 17 by rw [h0]; rfl]
    rw [h0] at k
    clear h0
    show Calls _ _ #[.int .u32 x] _ fun e w' => e = .returned (.int .i64 17) ∧ w' = w
    go_enter Try.func57, Try.ntmps57
    go_wp2
    go_ret
    exact ⟨rfl, rfl⟩
  by_cases h1 : y = 4195352576
  · rw [show regOpY y = 17 by rw [h1]; rfl]
    rw [h1] at k
    clear h0
    clear h1
    show Calls _ _ #[.int .u32 x] _ fun e w' => e = .returned (.int .i64 17) ∧ w' = w
    go_enter Try.func57, Try.ntmps57
    go_wp2
    go_ret
    exact ⟨rfl, rfl⟩
  by_cases h2 : y = 4196401152
  · rw [show regOpY y = 18 by rw [h2]; rfl]
    rw [h2] at k
    clear h0
    clear h1
    clear h2
    show Calls _ _ #[.int .u32 x] _ fun e w' => e = .returned (.int .i64 18) ∧ w' = w
    go_enter Try.func57, Try.ntmps57
    go_wp2
    go_ret
    exact ⟨rfl, rfl⟩
  by_cases h3 : y = 4197449728
  · rw [show regOpY y = 18 by rw [h3]; rfl]
    rw [h3] at k
    clear h0
    clear h1
    clear h2
    clear h3
    show Calls _ _ #[.int .u32 x] _ fun e w' => e = .returned (.int .i64 18) ∧ w' = w
    go_enter Try.func57, Try.ntmps57
    go_wp2
    go_ret
    exact ⟨rfl, rfl⟩
  by_cases h4 : y = 4198498304
  · rw [show regOpY y = 19 by rw [h4]; rfl]
    rw [h4] at k
    clear h0
    clear h1
    clear h2
    clear h3
    clear h4
    show Calls _ _ #[.int .u32 x] _ fun e w' => e = .returned (.int .i64 19) ∧ w' = w
    go_enter Try.func57, Try.ntmps57
    go_wp2
    go_ret
    exact ⟨rfl, rfl⟩
  by_cases h5 : y = 4199546880
  · rw [show regOpY y = 19 by rw [h5]; rfl]
    rw [h5] at k
    clear h0
    clear h1
    clear h2
    clear h3
    clear h4
    clear h5
    show Calls _ _ #[.int .u32 x] _ fun e w' => e = .returned (.int .i64 19) ∧ w' = w
    go_enter Try.func57, Try.ntmps57
    go_wp2
    go_ret
    exact ⟨rfl, rfl⟩
  by_cases h6 : y = 4200595456
  · rw [show regOpY y = 20 by rw [h6]; rfl]
    rw [h6] at k
    clear h0
    clear h1
    clear h2
    clear h3
    clear h4
    clear h5
    clear h6
    show Calls _ _ #[.int .u32 x] _ fun e w' => e = .returned (.int .i64 20) ∧ w' = w
    go_enter Try.func57, Try.ntmps57
    go_wp2
    go_ret
    exact ⟨rfl, rfl⟩
  by_cases h7 : y = 4201644032
  · rw [show regOpY y = 20 by rw [h7]; rfl]
    rw [h7] at k
    clear h0
    clear h1
    clear h2
    clear h3
    clear h4
    clear h5
    clear h6
    clear h7
    show Calls _ _ #[.int .u32 x] _ fun e w' => e = .returned (.int .i64 20) ∧ w' = w
    go_enter Try.func57, Try.ntmps57
    go_wp2
    go_ret
    exact ⟨rfl, rfl⟩
  by_cases h8 : y = 4194304128
  · rw [show regOpY y = 40 by rw [h8]; rfl]
    rw [h8] at k
    clear h0
    clear h1
    clear h2
    clear h3
    clear h4
    clear h5
    clear h6
    clear h7
    clear h8
    show Calls _ _ #[.int .u32 x] _ fun e w' => e = .returned (.int .i64 40) ∧ w' = w
    go_enter Try.func57, Try.ntmps57
    go_wp2
    go_ret
    exact ⟨rfl, rfl⟩
  by_cases h9 : y = 4195352704
  · rw [show regOpY y = 42 by rw [h9]; rfl]
    rw [h9] at k
    clear h0
    clear h1
    clear h2
    clear h3
    clear h4
    clear h5
    clear h6
    clear h7
    clear h8
    clear h9
    show Calls _ _ #[.int .u32 x] _ fun e w' => e = .returned (.int .i64 42) ∧ w' = w
    go_enter Try.func57, Try.ntmps57
    go_wp2
    go_ret
    exact ⟨rfl, rfl⟩
  by_cases h10 : y = 4198498432
  · rw [show regOpY y = 39 by rw [h10]; rfl]
    rw [h10] at k
    clear h0
    clear h1
    clear h2
    clear h3
    clear h4
    clear h5
    clear h6
    clear h7
    clear h8
    clear h9
    clear h10
    show Calls _ _ #[.int .u32 x] _ fun e w' => e = .returned (.int .i64 39) ∧ w' = w
    go_enter Try.func57, Try.ntmps57
    go_wp2
    go_ret
    exact ⟨rfl, rfl⟩
  by_cases h11 : y = 4199547008
  · rw [show regOpY y = 41 by rw [h11]; rfl]
    rw [h11] at k
    clear h0
    clear h1
    clear h2
    clear h3
    clear h4
    clear h5
    clear h6
    clear h7
    clear h8
    clear h9
    clear h10
    clear h11
    show Calls _ _ #[.int .u32 x] _ fun e w' => e = .returned (.int .i64 41) ∧ w' = w
    go_enter Try.func57, Try.ntmps57
    go_wp2
    go_ret
    exact ⟨rfl, rfl⟩
  by_cases h12 : y = 4203741312
  · rw [show regOpY y = 36 by rw [h12]; rfl]
    rw [h12] at k
    clear h0
    clear h1
    clear h2
    clear h3
    clear h4
    clear h5
    clear h6
    clear h7
    clear h8
    clear h9
    clear h10
    clear h11
    clear h12
    show Calls _ _ #[.int .u32 x] _ fun e w' => e = .returned (.int .i64 36) ∧ w' = w
    go_enter Try.func57, Try.ntmps57
    go_wp2
    go_ret
    exact ⟨rfl, rfl⟩
  by_cases h13 : y = 4203741328
  · rw [show regOpY y = 37 by rw [h13]; rfl]
    rw [h13] at k
    clear h0
    clear h1
    clear h2
    clear h3
    clear h4
    clear h5
    clear h6
    clear h7
    clear h8
    clear h9
    clear h10
    clear h11
    clear h12
    clear h13
    show Calls _ _ #[.int .u32 x] _ fun e w' => e = .returned (.int .i64 37) ∧ w' = w
    go_enter Try.func57, Try.ntmps57
    go_wp2
    go_ret
    exact ⟨rfl, rfl⟩
  by_cases h14 : y = 4203741344
  · rw [show regOpY y = 35 by rw [h14]; rfl]
    rw [h14] at k
    clear h0
    clear h1
    clear h2
    clear h3
    clear h4
    clear h5
    clear h6
    clear h7
    clear h8
    clear h9
    clear h10
    clear h11
    clear h12
    clear h13
    clear h14
    show Calls _ _ #[.int .u32 x] _ fun e w' => e = .returned (.int .i64 35) ∧ w' = w
    go_enter Try.func57, Try.ntmps57
    go_wp2
    go_ret
    exact ⟨rfl, rfl⟩
  by_cases h15 : y = 4203741360
  · rw [show regOpY y = 38 by rw [h15]; rfl]
    rw [h15] at k
    clear h0
    clear h1
    clear h2
    clear h3
    clear h4
    clear h5
    clear h6
    clear h7
    clear h8
    clear h9
    clear h10
    clear h11
    clear h12
    clear h13
    clear h14
    clear h15
    show Calls _ _ #[.int .u32 x] _ fun e w' => e = .returned (.int .i64 38) ∧ w' = w
    go_enter Try.func57, Try.ntmps57
    go_wp2
    go_ret
    exact ⟨rfl, rfl⟩
  by_cases h16 : y = 4205838464
  · rw [show regOpY y = 34 by rw [h16]; rfl]
    rw [h16] at k
    clear h0
    clear h1
    clear h2
    clear h3
    clear h4
    clear h5
    clear h6
    clear h7
    clear h8
    clear h9
    clear h10
    clear h11
    clear h12
    clear h13
    clear h14
    clear h15
    clear h16
    show Calls _ _ #[.int .u32 x] _ fun e w' => e = .returned (.int .i64 34) ∧ w' = w
    go_enter Try.func57, Try.ntmps57
    go_wp2
    go_ret
    exact ⟨rfl, rfl⟩
  by_cases h17 : y = 4211081216
  · rw [show regOpY y = 22 by rw [h17]; rfl]
    rw [h17] at k
    clear h0
    clear h1
    clear h2
    clear h3
    clear h4
    clear h5
    clear h6
    clear h7
    clear h8
    clear h9
    clear h10
    clear h11
    clear h12
    clear h13
    clear h14
    clear h15
    clear h16
    clear h17
    show Calls _ _ #[.int .u32 x] _ fun e w' => e = .returned (.int .i64 22) ∧ w' = w
    go_enter Try.func57, Try.ntmps57
    go_wp2
    go_ret
    exact ⟨rfl, rfl⟩
  by_cases h18 : y = 4211081232
  · rw [show regOpY y = 23 by rw [h18]; rfl]
    rw [h18] at k
    clear h0
    clear h1
    clear h2
    clear h3
    clear h4
    clear h5
    clear h6
    clear h7
    clear h8
    clear h9
    clear h10
    clear h11
    clear h12
    clear h13
    clear h14
    clear h15
    clear h16
    clear h17
    clear h18
    show Calls _ _ #[.int .u32 x] _ fun e w' => e = .returned (.int .i64 23) ∧ w' = w
    go_enter Try.func57, Try.ntmps57
    go_wp2
    go_ret
    exact ⟨rfl, rfl⟩
  by_cases h19 : y = 4219469824
  · rw [show regOpY y = 25 by rw [h19]; rfl]
    rw [h19] at k
    clear h0
    clear h1
    clear h2
    clear h3
    clear h4
    clear h5
    clear h6
    clear h7
    clear h8
    clear h9
    clear h10
    clear h11
    clear h12
    clear h13
    clear h14
    clear h15
    clear h16
    clear h17
    clear h18
    clear h19
    show Calls _ _ #[.int .u32 x] _ fun e w' => e = .returned (.int .i64 25) ∧ w' = w
    go_enter Try.func57, Try.ntmps57
    go_wp2
    go_ret
    exact ⟨rfl, rfl⟩
  by_cases h20 : y = 4221566976
  · rw [show regOpY y = 24 by rw [h20]; rfl]
    rw [h20] at k
    clear h0
    clear h1
    clear h2
    clear h3
    clear h4
    clear h5
    clear h6
    clear h7
    clear h8
    clear h9
    clear h10
    clear h11
    clear h12
    clear h13
    clear h14
    clear h15
    clear h16
    clear h17
    clear h18
    clear h19
    clear h20
    show Calls _ _ #[.int .u32 x] _ fun e w' => e = .returned (.int .i64 24) ∧ w' = w
    go_enter Try.func57, Try.ntmps57
    go_wp2
    go_ret
    exact ⟨rfl, rfl⟩
  by_cases h21 : y = 4223664128
  · rw [show regOpY y = 27 by rw [h21]; rfl]
    rw [h21] at k
    clear h0
    clear h1
    clear h2
    clear h3
    clear h4
    clear h5
    clear h6
    clear h7
    clear h8
    clear h9
    clear h10
    clear h11
    clear h12
    clear h13
    clear h14
    clear h15
    clear h16
    clear h17
    clear h18
    clear h19
    clear h20
    clear h21
    show Calls _ _ #[.int .u32 x] _ fun e w' => e = .returned (.int .i64 27) ∧ w' = w
    go_enter Try.func57, Try.ntmps57
    go_wp2
    go_ret
    exact ⟨rfl, rfl⟩
  by_cases h22 : y = 4225761280
  · rw [show regOpY y = 26 by rw [h22]; rfl]
    rw [h22] at k
    clear h0
    clear h1
    clear h2
    clear h3
    clear h4
    clear h5
    clear h6
    clear h7
    clear h8
    clear h9
    clear h10
    clear h11
    clear h12
    clear h13
    clear h14
    clear h15
    clear h16
    clear h17
    clear h18
    clear h19
    clear h20
    clear h21
    clear h22
    show Calls _ _ #[.int .u32 x] _ fun e w' => e = .returned (.int .i64 26) ∧ w' = w
    go_enter Try.func57, Try.ntmps57
    go_wp2
    go_ret
    exact ⟨rfl, rfl⟩
  by_cases h23 : y = 4220518640
  · rw [show regOpY y = 29 by rw [h23]; rfl]
    rw [h23] at k
    clear h0
    clear h1
    clear h2
    clear h3
    clear h4
    clear h5
    clear h6
    clear h7
    clear h8
    clear h9
    clear h10
    clear h11
    clear h12
    clear h13
    clear h14
    clear h15
    clear h16
    clear h17
    clear h18
    clear h19
    clear h20
    clear h21
    clear h22
    clear h23
    show Calls _ _ #[.int .u32 x] _ fun e w' => e = .returned (.int .i64 29) ∧ w' = w
    go_enter Try.func57, Try.ntmps57
    go_wp2
    go_ret
    exact ⟨rfl, rfl⟩
  by_cases h24 : y = 4222615792
  · rw [show regOpY y = 28 by rw [h24]; rfl]
    rw [h24] at k
    clear h0
    clear h1
    clear h2
    clear h3
    clear h4
    clear h5
    clear h6
    clear h7
    clear h8
    clear h9
    clear h10
    clear h11
    clear h12
    clear h13
    clear h14
    clear h15
    clear h16
    clear h17
    clear h18
    clear h19
    clear h20
    clear h21
    clear h22
    clear h23
    clear h24
    show Calls _ _ #[.int .u32 x] _ fun e w' => e = .returned (.int .i64 28) ∧ w' = w
    go_enter Try.func57, Try.ntmps57
    go_wp2
    go_ret
    exact ⟨rfl, rfl⟩
  rw [show regOpY y = 64 by unfold regOpY; rw [if_neg h0, if_neg h1, if_neg h2, if_neg h3, if_neg h4, if_neg h5, if_neg h6, if_neg h7, if_neg h8, if_neg h9, if_neg h10, if_neg h11, if_neg h12, if_neg h13, if_neg h14, if_neg h15, if_neg h16, if_neg h17, if_neg h18, if_neg h19, if_neg h20, if_neg h21, if_neg h22, if_neg h23, if_neg h24]]
  have z0 : (y == 4194304000) = false := by simpa using h0
  have z1 : (y == 4195352576) = false := by simpa using h1
  have z2 : (y == 4196401152) = false := by simpa using h2
  have z3 : (y == 4197449728) = false := by simpa using h3
  have z4 : (y == 4198498304) = false := by simpa using h4
  have z5 : (y == 4199546880) = false := by simpa using h5
  have z6 : (y == 4200595456) = false := by simpa using h6
  have z7 : (y == 4201644032) = false := by simpa using h7
  have z8 : (y == 4194304128) = false := by simpa using h8
  have z9 : (y == 4195352704) = false := by simpa using h9
  have z10 : (y == 4198498432) = false := by simpa using h10
  have z11 : (y == 4199547008) = false := by simpa using h11
  have z12 : (y == 4203741312) = false := by simpa using h12
  have z13 : (y == 4203741328) = false := by simpa using h13
  have z14 : (y == 4203741344) = false := by simpa using h14
  have z15 : (y == 4203741360) = false := by simpa using h15
  have z16 : (y == 4205838464) = false := by simpa using h16
  have z17 : (y == 4211081216) = false := by simpa using h17
  have z18 : (y == 4211081232) = false := by simpa using h18
  have z19 : (y == 4219469824) = false := by simpa using h19
  have z20 : (y == 4221566976) = false := by simpa using h20
  have z21 : (y == 4223664128) = false := by simpa using h21
  have z22 : (y == 4225761280) = false := by simpa using h22
  have z23 : (y == 4220518640) = false := by simpa using h23
  have z24 : (y == 4222615792) = false := by simpa using h24
  clear h0
  clear h1
  clear h2
  clear h3
  clear h4
  clear h5
  clear h6
  clear h7
  clear h8
  clear h9
  clear h10
  clear h11
  clear h12
  clear h13
  clear h14
  clear h15
  clear h16
  clear h17
  clear h18
  clear h19
  clear h20
  clear h21
  clear h22
  clear h23
  clear h24
  show Calls _ _ #[.int .u32 x] _ fun e w' => e = .returned (.int .i64 64) ∧ w' = w
  go_enter Try.func57, Try.ntmps57
  go_wp2
  go_ret
  exact ⟨rfl, rfl⟩
set_option maxHeartbeats 20000000 in
set_option maxRecDepth 100000 in
theorem unary9_c (p d n m : Int) (x : Nat) (hx : x < 4294967296) (w : World) : Calls Try.prog 58 #[(r4 p false d n m 0).val, .int .u32 x] w fun e w' => Says w (unaG p d n m x) e w' := by
  unfold Says
  have hJ : unaG p d n m x = bif p == 40 || (p == 42 || (p == 39 || p == 41)) then (bif n == 15 then checkedI (r4 p false d 0 m 0) true x else noneI 64 x)
    else checkedI (r4 p false d 0 m 0) (n == m) x := rfl
  generalize unaG p d n m x = R at *
  cases h40 : (p == 40)
  focus
    cases h42 : (p == 42)
    focus
      cases h39 : (p == 39)
      focus
        cases h41 : (p == 41)
        focus
          rw [h40, h42, h39, h41] at hJ
          replace hJ : R = checkedI (r4 p false d 0 m 0) (n == m) x := hJ
          subst hJ
          have C_checked : Hid _ := fun wq => checked_c (r4 p false d 0 m 0) (n == m) x hx wq
        rotate_left 1
        focus
          have e1 : p = 41 := by simpa using h41
          subst e1
          cases h : (n == 15)
          focus
            rw [h] at hJ
            replace hJ : R = noneI 64 x := hJ
            subst hJ
          rotate_left 1
          focus
            rw [h] at hJ
            replace hJ : R = checkedI (r4 41 false d 0 m 0) true x := hJ
            subst hJ
            have C_checked : Hid _ := fun wq => checked_c (r4 41 false d 0 m 0) true x hx wq
          rotate_left 1
        rotate_left 2
      rotate_left 3
      focus
        have e1 : p = 39 := by simpa using h39
        subst e1
        cases h : (n == 15)
        focus
          rw [h] at hJ
          replace hJ : R = noneI 64 x := hJ
          subst hJ
        rotate_left 1
        focus
          rw [h] at hJ
          replace hJ : R = checkedI (r4 39 false d 0 m 0) true x := hJ
          subst hJ
          have C_checked : Hid _ := fun wq => checked_c (r4 39 false d 0 m 0) true x hx wq
        rotate_left 1
      rotate_left 2
    rotate_left 5
    focus
      have e1 : p = 42 := by simpa using h42
      subst e1
      cases h : (n == 15)
      focus
        rw [h] at hJ
        replace hJ : R = noneI 64 x := hJ
        subst hJ
      rotate_left 1
      focus
        rw [h] at hJ
        replace hJ : R = checkedI (r4 42 false d 0 m 0) true x := hJ
        subst hJ
        have C_checked : Hid _ := fun wq => checked_c (r4 42 false d 0 m 0) true x hx wq
      rotate_left 1
    rotate_left 2
  rotate_left 7
  focus
    have e1 : p = 40 := by simpa using h40
    subst e1
    cases h : (n == 15)
    focus
      rw [h] at hJ
      replace hJ : R = noneI 64 x := hJ
      subst hJ
    rotate_left 1
    focus
      rw [h] at hJ
      replace hJ : R = checkedI (r4 40 false d 0 m 0) true x := hJ
      subst hJ
      have C_checked : Hid _ := fun wq => checked_c (r4 40 false d 0 m 0) true x hx wq
    rotate_left 1
  rotate_left 2
  all_goals
    go_enter Try.func58, Try.ntmps58
    have S := SH.start w
    go_wp2_with (first
      | ((with_reducible refine wpl_isDst 2 ?_); (first | refine S.boxA rfl 30 _ rfl _ rfl ?_ | refine SH.boxA (L := []) S rfl 30 _ rfl _ rfl ?_); clear S; intro b2 w2 S; (try (simp only [Cel.cells, IV.cellsL, zeroL, List.set_cons_zero, List.set_cons_succ, startI, secondI, noneI, r4] at S)))
      | ((with_reducible refine wpl_isDst 4 ?_); (first | refine S.alloc rfl 30 rfl (Cel.any zeroL) zeroA ?_ | refine SH.alloc (L := []) S rfl 30 rfl (Cel.any zeroL) zeroA ?_); clear S; intro b4 w4 S)
      | ((with_reducible refine wpl_isDst 7 ?_); (first | refine S.ld 3 _ rfl b2 5 rfl 0 _ rfl _ rfl _ Try.underlying3 rfl rfl ?_ | refine S.ld 3 _ rfl b2 5 rfl 1 _ rfl _ rfl _ Try.underlying3 rfl rfl ?_))
      | ((with_reducible refine wpl_isStoreAt 8 ?_); (first | refine S.store1 rfl 3 _ _ rfl b2 5 (.int _ _) rfl rfl 0 _ rfl rfl (of_decide_eq_true rfl) (Cel.any _) rfl (by kernel_rfl) ?_ | refine S.store1 rfl 3 _ _ rfl b2 5 (.int _ _) rfl rfl 1 _ rfl rfl (of_decide_eq_true rfl) (Cel.any _) rfl (by kernel_rfl) ?_); clear S; intro w2 S; (simp only [Cel.cells, IV.cellsL, zeroL, List.set_cons_zero, List.set_cons_succ, startI, secondI, noneI, r4] at S))
      | ((with_reducible refine wpl_isDst 10 ?_); (first | refine S.ld 3 _ rfl b2 0 rfl 0 _ rfl _ rfl _ Try.underlying3 rfl rfl ?_ | refine S.ld 3 _ rfl b2 0 rfl 1 _ rfl _ rfl _ Try.underlying3 rfl rfl ?_))
      | (go_at_call 13; refine (none_c 64 x hx _).mono ?_; rintro e wf ⟨rfl, hbf⟩; replace S := S.below hbf; clear hbf)
      | ((with_reducible refine wpl_isStoreAt 4 ?_); (first | refine S.storeA rfl 30 _ _ rfl b4 _ rfl rfl 0 _ rfl rfl rfl (szA _ rfl) ?_ | refine S.storeA rfl 30 _ _ rfl b4 _ rfl rfl 1 _ rfl rfl rfl (szA _ rfl) ?_); clear S; intro w2 S; (simp only [Cel.cells, IV.cellsL, zeroL, List.set_cons_zero, List.set_cons_succ, startI, secondI, noneI, r4] at S))
      | ((with_reducible refine wpl_isDst 20 ?_); (first | refine S.ldAll 30 _ rfl b2 rfl 0 _ rfl _ Try.underlying30 rfl (szA _ rfl) rfl ?_ | refine S.ldAll 30 _ rfl b2 rfl 1 _ rfl _ Try.underlying30 rfl (szA _ rfl) rfl ?_))
      | (go_at_call 47; refine (C_checked.out _).mono ?_; rintro e wf ⟨rfl, hbf⟩; replace S := S.below hbf; clear hbf)
      | ((with_reducible refine wpl_isDst 23 ?_); (first | refine S.ldAll 30 _ rfl b2 rfl 0 _ rfl _ Try.underlying30 rfl (szA _ rfl) rfl ?_ | refine S.ldAll 30 _ rfl b2 rfl 1 _ rfl _ Try.underlying30 rfl (szA _ rfl) rfl ?_))
      | ((with_reducible refine wpl_isDst 26 ?_); (first | refine S.ld 3 _ rfl b2 6 rfl 0 _ rfl _ rfl _ Try.underlying3 rfl rfl ?_ | refine S.ld 3 _ rfl b2 6 rfl 1 _ rfl _ rfl _ Try.underlying3 rfl rfl ?_)))
    (try simp only [Exit.inBlock, Exit.then])
    (first | refine bodyPost_ret (S.results rfl _ _ rfl 0 _ rfl _ Try.underlying30 rfl (szA _ rfl)) rfl ?_ | refine bodyPost_ret (S.results rfl _ _ rfl 1 _ rfl _ Try.underlying30 rfl (szA _ rfl)) rfl ?_)
    exact ⟨rfl, S.low⟩
theorem if_le (c : Prop) [Decidable c] (a b : Int) (ha : a ≤ 64) (hb : b ≤ 64) : (if c then a else b) ≤ 64 := by split <;> assumption
theorem regOpY_le (y : Int) : regOpY y ≤ 64 := by
  unfold regOpY
  repeat (first | decide | refine if_le _ _ _ (by decide) ?_)
theorem regG_n (p d n m a : Int) (s : Bool) (x : Nat) (h : (p == 64) = true) : regG p d n m a s x = noneI 64 x := by
  unfold regG
  rw [h, cond_true]
theorem regG_l (p d n m a : Int) (s : Bool) (x : Nat) (h1 : (p == 64) = false) (h2 : (p == 25 || (p == 24 || (p == 27 || p == 26))) = true) : regG p d n m a s x = checkedI (r4 p false a n m d) (a != d) x := by
  unfold regG
  rw [h1, h2, cond_false, cond_true]
theorem regG_m (p d n m a : Int) (s : Bool) (x : Nat) (h1 : (p == 64) = false) (h2 : (p == 25 || (p == 24 || (p == 27 || p == 26))) = false) (h3 : (p == 22 || p == 23) = true) (h4 : (p == 22 && a == 15) = true) : regG p d n m a s x = checkedI (r4 21 false d n m 0) true x := by
  unfold regG
  rw [h1, h2, h3, h4, cond_false, cond_false, cond_true, cond_true]
theorem regG_a (p d n m a : Int) (s : Bool) (x : Nat) (h1 : (p == 64) = false) (h2 : (p == 25 || (p == 24 || (p == 27 || p == 26))) = false) (h3 : (p == 22 || p == 23) = true) (h4 : (p == 22 && a == 15) = false) : regG p d n m a s x = checkedI (r4 p false d n m a) true x := by
  unfold regG
  rw [h1, h2, h3, h4, cond_false, cond_false, cond_true, cond_false]
theorem regG_o (p d n m a : Int) (s : Bool) (x : Nat) (h1 : (p == 64) = false) (h2 : (p == 25 || (p == 24 || (p == 27 || p == 26))) = false) (h3 : (p == 22 || p == 23) = false) (h4 : (a != 15) = true) : regG p d n m a s x = noneI 64 x := by
  unfold regG
  rw [h1, h2, h3, h4, cond_false, cond_false, cond_false, cond_true]
theorem regG_u (p d n m a : Int) (s : Bool) (x : Nat) (h1 : (p == 64) = false) (h2 : (p == 25 || (p == 24 || (p == 27 || p == 26))) = false) (h3 : (p == 22 || p == 23) = false) (h4 : (a != 15) = false) (h5 : (classS p == 3) = true) : regG p d n m a s x = unaG p d n m x := by
  unfold regG
  rw [h1, h2, h3, h4, h5, cond_false, cond_false, cond_false, cond_false, cond_true]
theorem regG_s (p d n m a : Int) (s : Bool) (x : Nat) (h1 : (p == 64) = false) (h2 : (p == 25 || (p == 24 || (p == 27 || p == 26))) = false) (h3 : (p == 22 || p == 23) = false) (h4 : (a != 15) = false) (h5 : (classS p == 3) = false) (r : Bool) (h6 : (classS p == 1 && s) = r) : regG p d n m a s x = checkedI (r4 p r d n m 0) true x := by
  unfold regG
  rw [h1, h2, h3, h4, h5, h6, cond_false, cond_false, cond_false, cond_false, cond_false]
def regM (p : Int) : Prop := p = 64 ∨ p = 25 ∨ p = 24 ∨ p = 27 ∨ p = 26 ∨ p = 22 ∨ p = 23 ∨ p = 17 ∨ p = 18 ∨ p = 19 ∨ p = 20 ∨ p = 40 ∨ p = 42 ∨ p = 39 ∨ p = 41 ∨ p = 36 ∨ p = 37 ∨ p = 35 ∨ p = 38 ∨ p = 34 ∨ p = 28 ∨ p = 29
theorem if_P (P : Int → Prop) (c : Prop) [Decidable c] (a b : Int) (ha : P a) (hb : P b) : P (if c then a else b) := by split <;> assumption
theorem regOpY_mem (y : Int) : regM (regOpY y) := by
  unfold regOpY
  repeat (first | (exact (by unfold regM; decide)) | refine if_P regM _ _ _ (by unfold regM; decide) ?_)
set_option maxHeartbeats 20000000 in
set_option maxRecDepth 100000 in
theorem registers9_c (x : Nat) (hx : x < 4294967296) (w : World) : Calls Try.prog 25 #[.int .u32 x] w fun e w' => Says w (regX x) e w' := by
  unfold Says
  have CO : Hid (∀ w, Calls Try.prog 57 #[.int .u32 x] w fun e w' => e = .returned (.int .i64 (regOp x)) ∧ w' = w) := registerOp_c x hx
  show Calls _ _ _ _ fun e w' => e = .returned (regG (regOp x) (fd x 8 4 : Nat) (fd x 16 4 : Nat) (fd x 0 4 : Nat) (fd x 12 4 : Nat) (fd x 20 1 != 0) x).val ∧ Below w.heap.size w w'
  have hp : regM (regOp x) := regOpY_mem _
  generalize regOp x = p at *
  have k20 : ∃ y : Int, bits .and .u32 (x : Int) 1048576 = y ∧ (y != 0) = (fd x 20 1 != 0) := by
    refine ⟨_, u32_mid x 20 1 1048576 hx rfl (by decide), ?_⟩
    have := fd_lt x 20 1
    generalize fd x 20 1 = g at *
    rcases (show g = 0 ∨ g = 1 by omega) with rfl | rfl <;> rfl
  obtain ⟨y, k20, ky⟩ := k20
  generalize (fd x 20 1 != 0) = s at *
  have F8_4 : Hid (∀ w, Calls Try.prog 46 #[.int .u32 x, .int .i64 8, .int .i64 4] w fun e w' => e = .returned (.int .i64 (fd x 8 4 : Nat)) ∧ Below w.heap.size w w') := field_8_4 x hx
  have f8_4 : fd x 8 4 < 16 := fd_lt x 8 4
  generalize fd x 8 4 = g8_4 at *
  have F16_4 : Hid (∀ w, Calls Try.prog 46 #[.int .u32 x, .int .i64 16, .int .i64 4] w fun e w' => e = .returned (.int .i64 (fd x 16 4 : Nat)) ∧ Below w.heap.size w w') := field_16_4 x hx
  have f16_4 : fd x 16 4 < 16 := fd_lt x 16 4
  generalize fd x 16 4 = g16_4 at *
  have F0_4 : Hid (∀ w, Calls Try.prog 46 #[.int .u32 x, .int .i64 0, .int .i64 4] w fun e w' => e = .returned (.int .i64 (fd x 0 4 : Nat)) ∧ Below w.heap.size w w') := field_0_4 x hx
  have f0_4 : fd x 0 4 < 16 := fd_lt x 0 4
  generalize fd x 0 4 = g0_4 at *
  have F12_4 : Hid (∀ w, Calls Try.prog 46 #[.int .u32 x, .int .i64 12, .int .i64 4] w fun e w' => e = .returned (.int .i64 (fd x 12 4 : Nat)) ∧ Below w.heap.size w w') := field_12_4 x hx
  have f12_4 : fd x 12 4 < 16 := fd_lt x 12 4
  generalize fd x 12 4 = g12_4 at *
  have CK : Hid (∀ w, Calls Try.prog 35 #[.int .i64 p] w fun e w' => e = .returned (.int .i64 (classS p)) ∧ w' = w) := class_c p
  have CU : Hid (∀ w, Calls Try.prog 58 #[(r4 p false g8_4 g16_4 g0_4 0).val, .int .u32 x] w fun e w' => e = .returned ((unaG p g8_4 g16_4 g0_4 x).val) ∧ Below w.heap.size w w') := unary9_c p _ _ _ x hx
  have hA : ((g12_4 : Int) == 15) = true → g12_4 = 15 := fun h => by
    have := (beq_iff_eq).1 h
    omega
  unfold regM at hp
  rcases hp with e | e | e | e | e | e | e | e | e | e | e | e | e | e | e | e | e | e | e | e | e | e
  focus
    have h64 : (p == 64) = true := by rw [e]; rfl
    rw [regG_n _ _ _ _ _ _ _ h64]
    have e1 : p = 64 := by simpa using h64
    subst e1
  rotate_left 1
  focus
    have h64 : (p == 64) = false := by rw [e]; rfl
    have h25 : (p == 25) = true := by rw [e]; rfl
    rw [regG_l _ _ _ _ _ _ _ h64 (by rw [h25]; simp)]
    have e1 : p = 25 := by simpa using h25
    subst e1
    have C_checked : Hid _ := fun wq => checked_c (r4 25 false g12_4 g16_4 g0_4 g8_4) ((g12_4 : Int) != g8_4) x hx wq
  rotate_left 1
  focus
    have h64 : (p == 64) = false := by rw [e]; rfl
    have h25 : (p == 25) = false := by rw [e]; rfl
    have h24 : (p == 24) = true := by rw [e]; rfl
    rw [regG_l _ _ _ _ _ _ _ h64 (by rw [h25, h24]; simp)]
    have e1 : p = 24 := by simpa using h24
    subst e1
    have C_checked : Hid _ := fun wq => checked_c (r4 24 false g12_4 g16_4 g0_4 g8_4) ((g12_4 : Int) != g8_4) x hx wq
  rotate_left 1
  focus
    have h64 : (p == 64) = false := by rw [e]; rfl
    have h25 : (p == 25) = false := by rw [e]; rfl
    have h24 : (p == 24) = false := by rw [e]; rfl
    have h27 : (p == 27) = true := by rw [e]; rfl
    rw [regG_l _ _ _ _ _ _ _ h64 (by rw [h25, h24, h27]; simp)]
    have e1 : p = 27 := by simpa using h27
    subst e1
    have C_checked : Hid _ := fun wq => checked_c (r4 27 false g12_4 g16_4 g0_4 g8_4) ((g12_4 : Int) != g8_4) x hx wq
  rotate_left 1
  focus
    have h64 : (p == 64) = false := by rw [e]; rfl
    have h25 : (p == 25) = false := by rw [e]; rfl
    have h24 : (p == 24) = false := by rw [e]; rfl
    have h27 : (p == 27) = false := by rw [e]; rfl
    have h26 : (p == 26) = true := by rw [e]; rfl
    rw [regG_l _ _ _ _ _ _ _ h64 (by rw [h25, h24, h27, h26]; simp)]
    have e1 : p = 26 := by simpa using h26
    subst e1
    have C_checked : Hid _ := fun wq => checked_c (r4 26 false g12_4 g16_4 g0_4 g8_4) ((g12_4 : Int) != g8_4) x hx wq
  rotate_left 1
  focus
    have h64 : (p == 64) = false := by rw [e]; rfl
    have h25 : (p == 25) = false := by rw [e]; rfl
    have h24 : (p == 24) = false := by rw [e]; rfl
    have h27 : (p == 27) = false := by rw [e]; rfl
    have h26 : (p == 26) = false := by rw [e]; rfl
    have h22 : (p == 22) = true := by rw [e]; rfl
    cases ha : ((g12_4 : Int) == 15)
    focus
      rw [regG_a _ _ _ _ _ _ _ h64 (by rw [h25, h24, h27, h26]; rfl) (by rw [h22]; rfl) (by rw [h22, ha]; rfl)]
      have e1 : p = 22 := by simpa using h22
      subst e1
      have C_checked : Hid _ := fun wq => checked_c (r4 22 false g8_4 g16_4 g0_4 g12_4) true x hx wq
    rotate_left 1
    focus
      rw [regG_m _ _ _ _ _ _ _ h64 (by rw [h25, h24, h27, h26]; rfl) (by rw [h22]; rfl) (by rw [h22, ha]; rfl)]
      have e1 : p = 22 := by simpa using h22
      subst e1
      have C_checked : Hid _ := fun wq => checked_c (r4 21 false g8_4 g16_4 g0_4 0) true x hx wq
    rotate_left 1
  rotate_left 2
  focus
    have h64 : (p == 64) = false := by rw [e]; rfl
    have h25 : (p == 25) = false := by rw [e]; rfl
    have h24 : (p == 24) = false := by rw [e]; rfl
    have h27 : (p == 27) = false := by rw [e]; rfl
    have h26 : (p == 26) = false := by rw [e]; rfl
    have h22 : (p == 22) = false := by rw [e]; rfl
    have h23 : (p == 23) = true := by rw [e]; rfl
    rw [regG_a _ _ _ _ _ _ _ h64 (by rw [h25, h24, h27, h26]; rfl) (by rw [h22, h23]; rfl) (by rw [h22]; rfl)]
    have e1 : p = 23 := by simpa using h23
    subst e1
    have C_checked : Hid _ := fun wq => checked_c (r4 23 false g8_4 g16_4 g0_4 g12_4) true x hx wq
  rotate_left 1
  focus
    subst e
    have hcc : classS 17 = 1 := rfl
    rw [hcc] at CK
    cases ha : ((g12_4 : Int) == 15)
    focus
      have hn : ((g12_4 : Int) != 15) = true := by rw [bne, ha]; rfl
      rw [regG_o _ _ _ _ _ _ _ rfl rfl rfl hn]
      clear hA
    rotate_left 1
    focus
      have hn : ((g12_4 : Int) != 15) = false := by rw [bne, ha]; rfl
      cases s
      focus
        rw [regG_s _ _ _ _ _ _ _ rfl rfl rfl hn rfl false rfl]
        clear hA
        have C_checked : Hid _ := fun wq => checked_c (r4 17 false g8_4 g16_4 g0_4 0) true x hx wq
      rotate_left 1
      focus
        rw [regG_s _ _ _ _ _ _ _ rfl rfl rfl hn rfl true rfl]
        clear hA
        have C_checked : Hid _ := fun wq => checked_c (r4 17 true g8_4 g16_4 g0_4 0) true x hx wq
      rotate_left 1
    rotate_left 2
  rotate_left 3
  focus
    subst e
    have hcc : classS 18 = 1 := rfl
    rw [hcc] at CK
    cases ha : ((g12_4 : Int) == 15)
    focus
      have hn : ((g12_4 : Int) != 15) = true := by rw [bne, ha]; rfl
      rw [regG_o _ _ _ _ _ _ _ rfl rfl rfl hn]
      clear hA
    rotate_left 1
    focus
      have hn : ((g12_4 : Int) != 15) = false := by rw [bne, ha]; rfl
      cases s
      focus
        rw [regG_s _ _ _ _ _ _ _ rfl rfl rfl hn rfl false rfl]
        clear hA
        have C_checked : Hid _ := fun wq => checked_c (r4 18 false g8_4 g16_4 g0_4 0) true x hx wq
      rotate_left 1
      focus
        rw [regG_s _ _ _ _ _ _ _ rfl rfl rfl hn rfl true rfl]
        clear hA
        have C_checked : Hid _ := fun wq => checked_c (r4 18 true g8_4 g16_4 g0_4 0) true x hx wq
      rotate_left 1
    rotate_left 2
  rotate_left 3
  focus
    subst e
    have hcc : classS 19 = 1 := rfl
    rw [hcc] at CK
    cases ha : ((g12_4 : Int) == 15)
    focus
      have hn : ((g12_4 : Int) != 15) = true := by rw [bne, ha]; rfl
      rw [regG_o _ _ _ _ _ _ _ rfl rfl rfl hn]
      clear hA
    rotate_left 1
    focus
      have hn : ((g12_4 : Int) != 15) = false := by rw [bne, ha]; rfl
      cases s
      focus
        rw [regG_s _ _ _ _ _ _ _ rfl rfl rfl hn rfl false rfl]
        clear hA
        have C_checked : Hid _ := fun wq => checked_c (r4 19 false g8_4 g16_4 g0_4 0) true x hx wq
      rotate_left 1
      focus
        rw [regG_s _ _ _ _ _ _ _ rfl rfl rfl hn rfl true rfl]
        clear hA
        have C_checked : Hid _ := fun wq => checked_c (r4 19 true g8_4 g16_4 g0_4 0) true x hx wq
      rotate_left 1
    rotate_left 2
  rotate_left 3
  focus
    subst e
    have hcc : classS 20 = 1 := rfl
    rw [hcc] at CK
    cases ha : ((g12_4 : Int) == 15)
    focus
      have hn : ((g12_4 : Int) != 15) = true := by rw [bne, ha]; rfl
      rw [regG_o _ _ _ _ _ _ _ rfl rfl rfl hn]
      clear hA
    rotate_left 1
    focus
      have hn : ((g12_4 : Int) != 15) = false := by rw [bne, ha]; rfl
      cases s
      focus
        rw [regG_s _ _ _ _ _ _ _ rfl rfl rfl hn rfl false rfl]
        clear hA
        have C_checked : Hid _ := fun wq => checked_c (r4 20 false g8_4 g16_4 g0_4 0) true x hx wq
      rotate_left 1
      focus
        rw [regG_s _ _ _ _ _ _ _ rfl rfl rfl hn rfl true rfl]
        clear hA
        have C_checked : Hid _ := fun wq => checked_c (r4 20 true g8_4 g16_4 g0_4 0) true x hx wq
      rotate_left 1
    rotate_left 2
  rotate_left 3
  focus
    subst e
    have hcc : classS 40 = 3 := rfl
    rw [hcc] at CK
    cases ha : ((g12_4 : Int) == 15)
    focus
      have hn : ((g12_4 : Int) != 15) = true := by rw [bne, ha]; rfl
      rw [regG_o _ _ _ _ _ _ _ rfl rfl rfl hn]
      clear hA
    rotate_left 1
    focus
      have hn : ((g12_4 : Int) != 15) = false := by rw [bne, ha]; rfl
      rw [regG_u _ _ _ _ _ _ _ rfl rfl rfl hn rfl]
      clear hA
      generalize unaG 40 g8_4 g16_4 g0_4 x = RU at *
    rotate_left 1
  rotate_left 2
  focus
    subst e
    have hcc : classS 42 = 3 := rfl
    rw [hcc] at CK
    cases ha : ((g12_4 : Int) == 15)
    focus
      have hn : ((g12_4 : Int) != 15) = true := by rw [bne, ha]; rfl
      rw [regG_o _ _ _ _ _ _ _ rfl rfl rfl hn]
      clear hA
    rotate_left 1
    focus
      have hn : ((g12_4 : Int) != 15) = false := by rw [bne, ha]; rfl
      rw [regG_u _ _ _ _ _ _ _ rfl rfl rfl hn rfl]
      clear hA
      generalize unaG 42 g8_4 g16_4 g0_4 x = RU at *
    rotate_left 1
  rotate_left 2
  focus
    subst e
    have hcc : classS 39 = 3 := rfl
    rw [hcc] at CK
    cases ha : ((g12_4 : Int) == 15)
    focus
      have hn : ((g12_4 : Int) != 15) = true := by rw [bne, ha]; rfl
      rw [regG_o _ _ _ _ _ _ _ rfl rfl rfl hn]
      clear hA
    rotate_left 1
    focus
      have hn : ((g12_4 : Int) != 15) = false := by rw [bne, ha]; rfl
      rw [regG_u _ _ _ _ _ _ _ rfl rfl rfl hn rfl]
      clear hA
      generalize unaG 39 g8_4 g16_4 g0_4 x = RU at *
    rotate_left 1
  rotate_left 2
  focus
    subst e
    have hcc : classS 41 = 3 := rfl
    rw [hcc] at CK
    cases ha : ((g12_4 : Int) == 15)
    focus
      have hn : ((g12_4 : Int) != 15) = true := by rw [bne, ha]; rfl
      rw [regG_o _ _ _ _ _ _ _ rfl rfl rfl hn]
      clear hA
    rotate_left 1
    focus
      have hn : ((g12_4 : Int) != 15) = false := by rw [bne, ha]; rfl
      rw [regG_u _ _ _ _ _ _ _ rfl rfl rfl hn rfl]
      clear hA
      generalize unaG 41 g8_4 g16_4 g0_4 x = RU at *
    rotate_left 1
  rotate_left 2
  focus
    subst e
    have hcc : classS 36 = 3 := rfl
    rw [hcc] at CK
    cases ha : ((g12_4 : Int) == 15)
    focus
      have hn : ((g12_4 : Int) != 15) = true := by rw [bne, ha]; rfl
      rw [regG_o _ _ _ _ _ _ _ rfl rfl rfl hn]
      clear hA
    rotate_left 1
    focus
      have hn : ((g12_4 : Int) != 15) = false := by rw [bne, ha]; rfl
      rw [regG_u _ _ _ _ _ _ _ rfl rfl rfl hn rfl]
      clear hA
      generalize unaG 36 g8_4 g16_4 g0_4 x = RU at *
    rotate_left 1
  rotate_left 2
  focus
    subst e
    have hcc : classS 37 = 3 := rfl
    rw [hcc] at CK
    cases ha : ((g12_4 : Int) == 15)
    focus
      have hn : ((g12_4 : Int) != 15) = true := by rw [bne, ha]; rfl
      rw [regG_o _ _ _ _ _ _ _ rfl rfl rfl hn]
      clear hA
    rotate_left 1
    focus
      have hn : ((g12_4 : Int) != 15) = false := by rw [bne, ha]; rfl
      rw [regG_u _ _ _ _ _ _ _ rfl rfl rfl hn rfl]
      clear hA
      generalize unaG 37 g8_4 g16_4 g0_4 x = RU at *
    rotate_left 1
  rotate_left 2
  focus
    subst e
    have hcc : classS 35 = 3 := rfl
    rw [hcc] at CK
    cases ha : ((g12_4 : Int) == 15)
    focus
      have hn : ((g12_4 : Int) != 15) = true := by rw [bne, ha]; rfl
      rw [regG_o _ _ _ _ _ _ _ rfl rfl rfl hn]
      clear hA
    rotate_left 1
    focus
      have hn : ((g12_4 : Int) != 15) = false := by rw [bne, ha]; rfl
      rw [regG_u _ _ _ _ _ _ _ rfl rfl rfl hn rfl]
      clear hA
      generalize unaG 35 g8_4 g16_4 g0_4 x = RU at *
    rotate_left 1
  rotate_left 2
  focus
    subst e
    have hcc : classS 38 = 3 := rfl
    rw [hcc] at CK
    cases ha : ((g12_4 : Int) == 15)
    focus
      have hn : ((g12_4 : Int) != 15) = true := by rw [bne, ha]; rfl
      rw [regG_o _ _ _ _ _ _ _ rfl rfl rfl hn]
      clear hA
    rotate_left 1
    focus
      have hn : ((g12_4 : Int) != 15) = false := by rw [bne, ha]; rfl
      rw [regG_u _ _ _ _ _ _ _ rfl rfl rfl hn rfl]
      clear hA
      generalize unaG 38 g8_4 g16_4 g0_4 x = RU at *
    rotate_left 1
  rotate_left 2
  focus
    subst e
    have hcc : classS 34 = 3 := rfl
    rw [hcc] at CK
    cases ha : ((g12_4 : Int) == 15)
    focus
      have hn : ((g12_4 : Int) != 15) = true := by rw [bne, ha]; rfl
      rw [regG_o _ _ _ _ _ _ _ rfl rfl rfl hn]
      clear hA
    rotate_left 1
    focus
      have hn : ((g12_4 : Int) != 15) = false := by rw [bne, ha]; rfl
      rw [regG_u _ _ _ _ _ _ _ rfl rfl rfl hn rfl]
      clear hA
      generalize unaG 34 g8_4 g16_4 g0_4 x = RU at *
    rotate_left 1
  rotate_left 2
  focus
    subst e
    have hcc : classS 28 = 2 := rfl
    rw [hcc] at CK
    cases ha : ((g12_4 : Int) == 15)
    focus
      have hn : ((g12_4 : Int) != 15) = true := by rw [bne, ha]; rfl
      rw [regG_o _ _ _ _ _ _ _ rfl rfl rfl hn]
      clear hA
    rotate_left 1
    focus
      have hn : ((g12_4 : Int) != 15) = false := by rw [bne, ha]; rfl
      rw [regG_s _ _ _ _ _ _ _ rfl rfl rfl hn rfl false rfl]
      clear hA
      have C_checked : Hid _ := fun wq => checked_c (r4 28 false g8_4 g16_4 g0_4 0) true x hx wq
    rotate_left 1
  rotate_left 2
  focus
    subst e
    have hcc : classS 29 = 2 := rfl
    rw [hcc] at CK
    cases ha : ((g12_4 : Int) == 15)
    focus
      have hn : ((g12_4 : Int) != 15) = true := by rw [bne, ha]; rfl
      rw [regG_o _ _ _ _ _ _ _ rfl rfl rfl hn]
      clear hA
    rotate_left 1
    focus
      have hn : ((g12_4 : Int) != 15) = false := by rw [bne, ha]; rfl
      rw [regG_s _ _ _ _ _ _ _ rfl rfl rfl hn rfl false rfl]
      clear hA
      have C_checked : Hid _ := fun wq => checked_c (r4 29 false g8_4 g16_4 g0_4 0) true x hx wq
    rotate_left 1
  rotate_left 2
  all_goals
    go_enter Try.func25, Try.ntmps25
    have S := SH.start w
    go_wp2_with (first
      | ((with_reducible refine wpl_isDst 2 ?_); (first | refine S.alloc rfl 30 rfl (Cel.any zeroL) zeroA ?_ | refine SH.alloc (L := []) S rfl 30 rfl (Cel.any zeroL) zeroA ?_); clear S; intro b2 w2 S)
      | (go_at_call 57; refine (CO.out _).mono ?_; rintro e wf ⟨rfl, rfl⟩)
      | (go_at_call 46; first | (with_reducible refine (F8_4.out _).mono ?_; rintro e wf ⟨rfl, hbf⟩; replace S := S.below hbf; clear hbf) | (with_reducible refine (F16_4.out _).mono ?_; rintro e wf ⟨rfl, hbf⟩; replace S := S.below hbf; clear hbf) | (with_reducible refine (F0_4.out _).mono ?_; rintro e wf ⟨rfl, hbf⟩; replace S := S.below hbf; clear hbf) | (with_reducible refine (F12_4.out _).mono ?_; rintro e wf ⟨rfl, hbf⟩; replace S := S.below hbf; clear hbf))
      | (go_at_call 45; refine (start_c _ _ _ _).mono ?_; rintro e wf ⟨rfl, hbf⟩; replace S := S.below hbf; clear hbf)
      | ((with_reducible refine wpl_isDst 5 ?_); (first | refine S.alloc rfl 30 rfl (Cel.any zeroL) zeroA ?_ | refine SH.alloc (L := []) S rfl 30 rfl (Cel.any zeroL) zeroA ?_); clear S; intro b5 w5 S)
      | ((with_reducible refine wpl_isStoreAt 5 ?_); (first | refine S.storeA rfl 30 _ _ rfl b5 _ rfl rfl 0 _ rfl rfl rfl (szA _ rfl) ?_ | refine S.storeA rfl 30 _ _ rfl b5 _ rfl rfl 1 _ rfl rfl rfl (szA _ rfl) ?_); clear S; intro w2 S; (simp only [Cel.cells, IV.cellsL, zeroL, List.set_cons_zero, List.set_cons_succ, startI, secondI, noneI, r4] at S))
      | ((with_reducible refine wpl_isStoreAt 18 ?_); (first | refine S.store1 rfl 3 _ _ rfl b5 6 (.int _ _) rfl rfl 0 _ rfl rfl (of_decide_eq_true rfl) (Cel.any _) rfl (by kernel_rfl) ?_ | refine S.store1 rfl 3 _ _ rfl b5 6 (.int _ _) rfl rfl 1 _ rfl rfl (of_decide_eq_true rfl) (Cel.any _) rfl (by kernel_rfl) ?_); clear S; intro w2 S; (simp only [Cel.cells, IV.cellsL, zeroL, List.set_cons_zero, List.set_cons_succ, startI, secondI, noneI, r4] at S))
      | (go_at_call 13; refine (none_c 64 x hx _).mono ?_; rintro e wf ⟨rfl, hbf⟩; replace S := S.below hbf; clear hbf)
      | ((with_reducible refine wpl_isStoreAt 2 ?_); (first | refine S.storeA rfl 30 _ _ rfl b2 _ rfl rfl 0 _ rfl rfl rfl (szA _ rfl) ?_ | refine S.storeA rfl 30 _ _ rfl b2 _ rfl rfl 1 _ rfl rfl rfl (szA _ rfl) ?_); clear S; intro w2 S; (simp only [Cel.cells, IV.cellsL, zeroL, List.set_cons_zero, List.set_cons_succ, startI, secondI, noneI, r4] at S))
      | ((with_reducible refine wpl_isDst 31 ?_); (first | refine S.ld 3 _ rfl b5 4 rfl 0 _ rfl _ rfl _ Try.underlying3 rfl rfl ?_ | refine S.ld 3 _ rfl b5 4 rfl 1 _ rfl _ rfl _ Try.underlying3 rfl rfl ?_))
      | ((with_reducible refine wpl_isStoreAt 32 ?_); (first | refine S.store1 rfl 3 _ _ rfl b5 4 (.int _ _) rfl rfl 0 _ rfl rfl (of_decide_eq_true rfl) (Cel.any _) rfl (by kernel_rfl) ?_ | refine S.store1 rfl 3 _ _ rfl b5 4 (.int _ _) rfl rfl 1 _ rfl rfl (of_decide_eq_true rfl) (Cel.any _) rfl (by kernel_rfl) ?_); clear S; intro w2 S; (simp only [Cel.cells, IV.cellsL, zeroL, List.set_cons_zero, List.set_cons_succ, startI, secondI, noneI, r4] at S))
      | ((with_reducible refine wpl_isStoreAt 33 ?_); (first | refine S.store1 rfl 3 _ _ rfl b5 7 (.int _ _) rfl rfl 0 _ rfl rfl (of_decide_eq_true rfl) (Cel.any _) rfl (by kernel_rfl) ?_ | refine S.store1 rfl 3 _ _ rfl b5 7 (.int _ _) rfl rfl 1 _ rfl rfl (of_decide_eq_true rfl) (Cel.any _) rfl (by kernel_rfl) ?_); clear S; intro w2 S; (simp only [Cel.cells, IV.cellsL, zeroL, List.set_cons_zero, List.set_cons_succ, startI, secondI, noneI, r4] at S))
      | ((with_reducible refine wpl_isDst 34 ?_); (first | refine S.ldAll 30 _ rfl b5 rfl 0 _ rfl _ Try.underlying30 rfl (szA _ rfl) rfl ?_ | refine S.ldAll 30 _ rfl b5 rfl 1 _ rfl _ Try.underlying30 rfl (szA _ rfl) rfl ?_))
      | ((with_reducible refine wpl_isDst 36 ?_); (first | refine S.ld 3 _ rfl b5 4 rfl 0 _ rfl _ rfl _ Try.underlying3 rfl rfl ?_ | refine S.ld 3 _ rfl b5 4 rfl 1 _ rfl _ rfl _ Try.underlying3 rfl rfl ?_))
      | ((with_reducible refine wpl_isDst 38 ?_); (first | refine S.ld 3 _ rfl b5 7 rfl 0 _ rfl _ rfl _ Try.underlying3 rfl rfl ?_ | refine S.ld 3 _ rfl b5 7 rfl 1 _ rfl _ rfl _ Try.underlying3 rfl rfl ?_))
      | ((with_reducible refine wpl_isStoreAt 46 ?_); (first | refine S.store1 rfl 3 _ _ rfl b5 7 (.int _ _) rfl rfl 0 _ rfl rfl (of_decide_eq_true rfl) (Cel.any _) rfl (by kernel_rfl) ?_ | refine S.store1 rfl 3 _ _ rfl b5 7 (.int _ _) rfl rfl 1 _ rfl rfl (of_decide_eq_true rfl) (Cel.any _) rfl (by kernel_rfl) ?_); clear S; intro w2 S; (simp only [Cel.cells, IV.cellsL, zeroL, List.set_cons_zero, List.set_cons_succ, startI, secondI, noneI, r4] at S))
      | ((with_reducible refine wpl_isStoreAt 53 ?_); (first | refine S.store1 rfl 3 _ _ rfl b5 0 (.int _ _) rfl rfl 0 _ rfl rfl (of_decide_eq_true rfl) (Cel.any _) rfl (by kernel_rfl) ?_ | refine S.store1 rfl 3 _ _ rfl b5 0 (.int _ _) rfl rfl 1 _ rfl rfl (of_decide_eq_true rfl) (Cel.any _) rfl (by kernel_rfl) ?_); clear S; intro w2 S; (simp only [Cel.cells, IV.cellsL, zeroL, List.set_cons_zero, List.set_cons_succ, startI, secondI, noneI, r4] at S))
      | ((with_reducible refine wpl_isStoreAt 54 ?_); (first | refine S.store1 rfl 3 _ _ rfl b5 7 (.int _ _) rfl rfl 0 _ rfl rfl (of_decide_eq_true rfl) (Cel.any _) rfl (by kernel_rfl) ?_ | refine S.store1 rfl 3 _ _ rfl b5 7 (.int _ _) rfl rfl 1 _ rfl rfl (of_decide_eq_true rfl) (Cel.any _) rfl (by kernel_rfl) ?_); clear S; intro w2 S; (simp only [Cel.cells, IV.cellsL, zeroL, List.set_cons_zero, List.set_cons_succ, startI, secondI, noneI, r4] at S))
      | ((with_reducible refine wpl_isDst 55 ?_); (first | refine S.ldAll 30 _ rfl b5 rfl 0 _ rfl _ Try.underlying30 rfl (szA _ rfl) rfl ?_ | refine S.ldAll 30 _ rfl b5 rfl 1 _ rfl _ Try.underlying30 rfl (szA _ rfl) rfl ?_))
      | (go_at_call 35; refine (CK.out _).mono ?_; rintro e wf ⟨rfl, rfl⟩)
      | ((with_reducible refine wpl_isDst 65 ?_); (first | refine S.ldAll 30 _ rfl b5 rfl 0 _ rfl _ Try.underlying30 rfl (szA _ rfl) rfl ?_ | refine S.ldAll 30 _ rfl b5 rfl 1 _ rfl _ Try.underlying30 rfl (szA _ rfl) rfl ?_))
      | (go_at_call 58; refine (CU.out _).mono ?_; rintro e wf ⟨rfl, hbf⟩; replace S := S.below hbf; clear hbf)
      | ((with_reducible refine wpl_isStoreAt 76 ?_); (first | refine S.store1 rfl 4 _ _ rfl b5 2 (.bool _) rfl rfl 0 _ rfl rfl (of_decide_eq_true rfl) (Cel.any _) rfl (by kernel_rfl) ?_ | refine S.store1 rfl 4 _ _ rfl b5 2 (.bool _) rfl rfl 1 _ rfl rfl (of_decide_eq_true rfl) (Cel.any _) rfl (by kernel_rfl) ?_); clear S; intro w2 S; (simp only [Cel.cells, IV.cellsL, zeroL, List.set_cons_zero, List.set_cons_succ, startI, secondI, noneI, r4] at S))
      | ((with_reducible refine wpl_isDst 77 ?_); (first | refine S.ldAll 30 _ rfl b5 rfl 0 _ rfl _ Try.underlying30 rfl (szA _ rfl) rfl ?_ | refine S.ldAll 30 _ rfl b5 rfl 1 _ rfl _ Try.underlying30 rfl (szA _ rfl) rfl ?_))
      | (go_at_call 47; refine (C_checked.out _).mono ?_; rintro e wf ⟨rfl, hbf⟩; replace S := S.below hbf; clear hbf))
    (try simp only [Exit.inBlock, Exit.then])
    (first | refine bodyPost_ret (S.results rfl _ _ rfl 0 _ rfl _ Try.underlying30 rfl (szA _ rfl)) rfl ?_ | refine bodyPost_ret (S.results rfl _ _ rfl 1 _ rfl _ Try.underlying30 rfl (szA _ rfl)) rfl ?_)
    exact ⟨rfl, S.low⟩
end Go.Proofs.Ytigmekboikgoaaa
