/- Stage 9: the document: loads and stores, at every pair of halves. -/
import Derived.Test.YtplhblhopaheeaaGreatDoorWg12
import Derived.Test.YtplhblhopaheeaaGreatDoorWg13
import Derived.Test.YtplhblhopaheeaaGreatDoorYm
import Derived.Test.YtplhblhopaheeaaGreatDoorYa
namespace Go.Proofs.YtplhblhopaheeaaGreatDoor
open Go.ChangeShapes Go.WideShapes Go.ChangeAt Go.RowKit
set_option linter.unusedVariables false
set_option linter.unusedSimpArgs false
set_option maxHeartbeats 20000000
set_option maxRecDepth 100000

theorem rmem_030 (h k gn gd : Nat) (x : Nat) (X : IV) (kg : bits .and .u16 ((h : Int) / 256) 1 = 0) (kz : bits .and .u16 ((h : Int) / 32) 3 = 3) (kl : bits .and .u16 ((h : Int) / 16) 1 = 0) (kn : bits .and .u16 (h : Int) 15 = (gn : Int)) (kd : (k : Int) / 4096 = (gd : Int)) (bn : gn < 16) (bd : gd < 16) (H0 : fin IV.zero false x = X)
    (w : World) : Calls Tryz.prog 77 #[.int .u16 h, .int .u16 k] w fun e w' => Two w X x e w' := by
  go_enter Tryz.func77, Tryz.ntmps77
  have S := SH.start w
  go_wp2_with (first
   | ((with_reducible refine g_al 28 ?_); refine S.gal zI ?_; clear S; intro b w1 S)
   | ((with_reducible refine g_st 28 ?_); refine S.gst (i := ?_) (c := ?_) rfl rfl ?_ ?_ ?_ ?_ ?_; rotate_left 2; (with_reducible first | exact gi0 | exact gi1 | exact gi2 | exact gi3 | exact gi4 | exact gi5); rfl; rfl; exact sI rfl; clear S; intro w1 S; (try simp only [Cel.cells, zL, List.set_cons_zero, List.set_cons_succ, startI, secondI, noneI, memI] at S)))
  (try simp only [Exit.inBlock, Exit.then])
  apply bodyPost_ret
  refine S.gR2 (i := ?_) (c := ?_) Tryz.underlying28 rfl rfl rfl ?_ ?_
  rotate_left 2
  (with_reducible first | exact gi0 | exact gi1 | exact gi2 | exact gi3 | exact gi4 | exact gi5)
  exact sI rfl
  rfl
  exact ⟨IV.zero, false, rfl, H0, S.low⟩
theorem rmem_031 (h k gn gd : Nat) (x : Nat) (X : IV) (kg : bits .and .u16 ((h : Int) / 256) 1 = 0) (kz : bits .and .u16 ((h : Int) / 32) 3 = 3) (kl : bits .and .u16 ((h : Int) / 16) 1 = 1) (kn : bits .and .u16 (h : Int) 15 = (gn : Int)) (kd : (k : Int) / 4096 = (gd : Int)) (bn : gn < 16) (bd : gd < 16) (H0 : fin IV.zero false x = X)
    (w : World) : Calls Tryz.prog 77 #[.int .u16 h, .int .u16 k] w fun e w' => Two w X x e w' := by
  go_enter Tryz.func77, Tryz.ntmps77
  have S := SH.start w
  go_wp2_with (first
   | ((with_reducible refine g_al 28 ?_); refine S.gal zI ?_; clear S; intro b w1 S)
   | ((with_reducible refine g_st 28 ?_); refine S.gst (i := ?_) (c := ?_) rfl rfl ?_ ?_ ?_ ?_ ?_; rotate_left 2; (with_reducible first | exact gi0 | exact gi1 | exact gi2 | exact gi3 | exact gi4 | exact gi5); rfl; rfl; exact sI rfl; clear S; intro w1 S; (try simp only [Cel.cells, zL, List.set_cons_zero, List.set_cons_succ, startI, secondI, noneI, memI] at S)))
  (try simp only [Exit.inBlock, Exit.then])
  apply bodyPost_ret
  refine S.gR2 (i := ?_) (c := ?_) Tryz.underlying28 rfl rfl rfl ?_ ?_
  rotate_left 2
  (with_reducible first | exact gi0 | exact gi1 | exact gi2 | exact gi3 | exact gi4 | exact gi5)
  exact sI rfl
  rfl
  exact ⟨IV.zero, false, rfl, H0, S.low⟩
theorem rmem_130 (h k gn gd : Nat) (x : Nat) (X : IV) (kg : bits .and .u16 ((h : Int) / 256) 1 = 1) (kz : bits .and .u16 ((h : Int) / 32) 3 = 3) (kl : bits .and .u16 ((h : Int) / 16) 1 = 0) (kn : bits .and .u16 (h : Int) 15 = (gn : Int)) (kd : (k : Int) / 4096 = (gd : Int)) (bn : gn < 16) (bd : gd < 16) (H0 : fin IV.zero false x = X)
    (w : World) : Calls Tryz.prog 77 #[.int .u16 h, .int .u16 k] w fun e w' => Two w X x e w' := by
  go_enter Tryz.func77, Tryz.ntmps77
  have S := SH.start w
  go_wp2_with (first
   | ((with_reducible refine g_al 28 ?_); refine S.gal zI ?_; clear S; intro b w1 S)
   | ((with_reducible refine g_st 28 ?_); refine S.gst (i := ?_) (c := ?_) rfl rfl ?_ ?_ ?_ ?_ ?_; rotate_left 2; (with_reducible first | exact gi0 | exact gi1 | exact gi2 | exact gi3 | exact gi4 | exact gi5); rfl; rfl; exact sI rfl; clear S; intro w1 S; (try simp only [Cel.cells, zL, List.set_cons_zero, List.set_cons_succ, startI, secondI, noneI, memI] at S)))
  (try simp only [Exit.inBlock, Exit.then])
  apply bodyPost_ret
  refine S.gR2 (i := ?_) (c := ?_) Tryz.underlying28 rfl rfl rfl ?_ ?_
  rotate_left 2
  (with_reducible first | exact gi0 | exact gi1 | exact gi2 | exact gi3 | exact gi4 | exact gi5)
  exact sI rfl
  rfl
  exact ⟨IV.zero, false, rfl, H0, S.low⟩
theorem rmem_131 (h k gn gd : Nat) (x : Nat) (X : IV) (kg : bits .and .u16 ((h : Int) / 256) 1 = 1) (kz : bits .and .u16 ((h : Int) / 32) 3 = 3) (kl : bits .and .u16 ((h : Int) / 16) 1 = 1) (kn : bits .and .u16 (h : Int) 15 = (gn : Int)) (kd : (k : Int) / 4096 = (gd : Int)) (bn : gn < 16) (bd : gd < 16) (H0 : fin IV.zero false x = X)
    (w : World) : Calls Tryz.prog 77 #[.int .u16 h, .int .u16 k] w fun e w' => Two w X x e w' := by
  go_enter Tryz.func77, Tryz.ntmps77
  have S := SH.start w
  go_wp2_with (first
   | ((with_reducible refine g_al 28 ?_); refine S.gal zI ?_; clear S; intro b w1 S)
   | ((with_reducible refine g_st 28 ?_); refine S.gst (i := ?_) (c := ?_) rfl rfl ?_ ?_ ?_ ?_ ?_; rotate_left 2; (with_reducible first | exact gi0 | exact gi1 | exact gi2 | exact gi3 | exact gi4 | exact gi5); rfl; rfl; exact sI rfl; clear S; intro w1 S; (try simp only [Cel.cells, zL, List.set_cons_zero, List.set_cons_succ, startI, secondI, noneI, memI] at S)))
  (try simp only [Exit.inBlock, Exit.then])
  apply bodyPost_ret
  refine S.gR2 (i := ?_) (c := ?_) Tryz.underlying28 rfl rfl rfl ?_ ?_
  rotate_left 2
  (with_reducible first | exact gi0 | exact gi1 | exact gi2 | exact gi3 | exact gi4 | exact gi5)
  exact sI rfl
  rfl
  exact ⟨IV.zero, false, rfl, H0, S.low⟩
theorem rmem_120 (h k gn gd : Nat) (x : Nat) (X : IV) (kg : bits .and .u16 ((h : Int) / 256) 1 = 1) (kz : bits .and .u16 ((h : Int) / 32) 3 = 2) (kl : bits .and .u16 ((h : Int) / 16) 1 = 0) (kn : bits .and .u16 (h : Int) 15 = (gn : Int)) (kd : (k : Int) / 4096 = (gd : Int)) (bn : gn < 16) (bd : gd < 16) (H0 : fin IV.zero false x = X)
    (w : World) : Calls Tryz.prog 77 #[.int .u16 h, .int .u16 k] w fun e w' => Two w X x e w' := by
  go_enter Tryz.func77, Tryz.ntmps77
  have S := SH.start w
  go_wp2_with (first
   | ((with_reducible refine g_al 28 ?_); refine S.gal zI ?_; clear S; intro b w1 S)
   | ((with_reducible refine g_st 28 ?_); refine S.gst (i := ?_) (c := ?_) rfl rfl ?_ ?_ ?_ ?_ ?_; rotate_left 2; (with_reducible first | exact gi0 | exact gi1 | exact gi2 | exact gi3 | exact gi4 | exact gi5); rfl; rfl; exact sI rfl; clear S; intro w1 S; (try simp only [Cel.cells, zL, List.set_cons_zero, List.set_cons_succ, startI, secondI, noneI, memI] at S)))
  (try simp only [Exit.inBlock, Exit.then])
  apply bodyPost_ret
  refine S.gR2 (i := ?_) (c := ?_) Tryz.underlying28 rfl rfl rfl ?_ ?_
  rotate_left 2
  (with_reducible first | exact gi0 | exact gi1 | exact gi2 | exact gi3 | exact gi4 | exact gi5)
  exact sI rfl
  rfl
  exact ⟨IV.zero, false, rfl, H0, S.low⟩
theorem rmem_121 (h k gn gd : Nat) (x : Nat) (X : IV) (kg : bits .and .u16 ((h : Int) / 256) 1 = 1) (kz : bits .and .u16 ((h : Int) / 32) 3 = 2) (kl : bits .and .u16 ((h : Int) / 16) 1 = 1) (kn : bits .and .u16 (h : Int) 15 = (gn : Int)) (kd : (k : Int) / 4096 = (gd : Int)) (bn : gn < 16) (bd : gd < 16) (H0 : fin IV.zero false x = X)
    (w : World) : Calls Tryz.prog 77 #[.int .u16 h, .int .u16 k] w fun e w' => Two w X x e w' := by
  go_enter Tryz.func77, Tryz.ntmps77
  have S := SH.start w
  go_wp2_with (first
   | ((with_reducible refine g_al 28 ?_); refine S.gal zI ?_; clear S; intro b w1 S)
   | ((with_reducible refine g_st 28 ?_); refine S.gst (i := ?_) (c := ?_) rfl rfl ?_ ?_ ?_ ?_ ?_; rotate_left 2; (with_reducible first | exact gi0 | exact gi1 | exact gi2 | exact gi3 | exact gi4 | exact gi5); rfl; rfl; exact sI rfl; clear S; intro w1 S; (try simp only [Cel.cells, zL, List.set_cons_zero, List.set_cons_succ, startI, secondI, noneI, memI] at S)))
  (try simp only [Exit.inBlock, Exit.then])
  apply bodyPost_ret
  refine S.gR2 (i := ?_) (c := ?_) Tryz.underlying28 rfl rfl rfl ?_ ?_
  rotate_left 2
  (with_reducible first | exact gi0 | exact gi1 | exact gi2 | exact gi3 | exact gi4 | exact gi5)
  exact sI rfl
  rfl
  exact ⟨IV.zero, false, rfl, H0, S.low⟩
theorem rmem_100 (h k gn gd : Nat) (x : Nat) (X : IV) (kg : bits .and .u16 ((h : Int) / 256) 1 = 1) (kz : bits .and .u16 ((h : Int) / 32) 3 = 0) (kl : bits .and .u16 ((h : Int) / 16) 1 = 0) (kn : bits .and .u16 (h : Int) 15 = (gn : Int)) (kd : (k : Int) / 4096 = (gd : Int)) (bn : gn < 16) (bd : gd < 16) (H0 : fin IV.zero false x = X)
    (w : World) : Calls Tryz.prog 77 #[.int .u16 h, .int .u16 k] w fun e w' => Two w X x e w' := by
  go_enter Tryz.func77, Tryz.ntmps77
  have S := SH.start w
  go_wp2_with (first
   | ((with_reducible refine g_al 28 ?_); refine S.gal zI ?_; clear S; intro b w1 S)
   | ((with_reducible refine g_st 28 ?_); refine S.gst (i := ?_) (c := ?_) rfl rfl ?_ ?_ ?_ ?_ ?_; rotate_left 2; (with_reducible first | exact gi0 | exact gi1 | exact gi2 | exact gi3 | exact gi4 | exact gi5); rfl; rfl; exact sI rfl; clear S; intro w1 S; (try simp only [Cel.cells, zL, List.set_cons_zero, List.set_cons_succ, startI, secondI, noneI, memI] at S)))
  (try simp only [Exit.inBlock, Exit.then])
  apply bodyPost_ret
  refine S.gR2 (i := ?_) (c := ?_) Tryz.underlying28 rfl rfl rfl ?_ ?_
  rotate_left 2
  (with_reducible first | exact gi0 | exact gi1 | exact gi2 | exact gi3 | exact gi4 | exact gi5)
  exact sI rfl
  rfl
  exact ⟨IV.zero, false, rfl, H0, S.low⟩
theorem rmem_110 (h k gn gd : Nat) (x : Nat) (X : IV) (kg : bits .and .u16 ((h : Int) / 256) 1 = 1) (kz : bits .and .u16 ((h : Int) / 32) 3 = 1) (kl : bits .and .u16 ((h : Int) / 16) 1 = 0) (kn : bits .and .u16 (h : Int) 15 = (gn : Int)) (kd : (k : Int) / 4096 = (gd : Int)) (bn : gn < 16) (bd : gd < 16) (H0 : fin IV.zero false x = X)
    (w : World) : Calls Tryz.prog 77 #[.int .u16 h, .int .u16 k] w fun e w' => Two w X x e w' := by
  go_enter Tryz.func77, Tryz.ntmps77
  have S := SH.start w
  go_wp2_with (first
   | ((with_reducible refine g_al 28 ?_); refine S.gal zI ?_; clear S; intro b w1 S)
   | ((with_reducible refine g_st 28 ?_); refine S.gst (i := ?_) (c := ?_) rfl rfl ?_ ?_ ?_ ?_ ?_; rotate_left 2; (with_reducible first | exact gi0 | exact gi1 | exact gi2 | exact gi3 | exact gi4 | exact gi5); rfl; rfl; exact sI rfl; clear S; intro w1 S; (try simp only [Cel.cells, zL, List.set_cons_zero, List.set_cons_succ, startI, secondI, noneI, memI] at S)))
  (try simp only [Exit.inBlock, Exit.then])
  apply bodyPost_ret
  refine S.gR2 (i := ?_) (c := ?_) Tryz.underlying28 rfl rfl rfl ?_ ?_
  rotate_left 2
  (with_reducible first | exact gi0 | exact gi1 | exact gi2 | exact gi3 | exact gi4 | exact gi5)
  exact sI rfl
  rfl
  exact ⟨IV.zero, false, rfl, H0, S.low⟩
theorem mem_chk (op : Int) (ho : 44 ≤ op ∧ op ≤ 51) (d n v : Int) (x : Nat) : checkedI (secondI (startI op d n) v 0) true x = (bif oddS d then noneI 65 x else secondI (startI op d n) v 0) := by
  have c1 : classS op = 4 := by unfold classS; rw [if_neg (by omega), if_neg (by omega), if_neg (by omega), if_neg (by omega), if_neg (by omega), if_pos (by omega)]
  have c2 : (op == 5 || op == 3) = false := by
    have h1 : (op == 5) = false := by simp; omega
    have h2 : (op == 3) = false := by simp; omega
    rw [h1, h2]; rfl
  unfold checkedI
  have e1 : mayN (secondI (startI op d n) v 0) = true := by
    unfold mayN
    show (bif n == 13 then (classS op == 4 || (classS op == 5 || (true && sumW op))) else bif n == 15 then (classS op == 4 || op == 33) else true) = true
    rw [c1]
    cases (n == 13) <;> cases (n == 15) <;> rfl
  have e2 : mayD (secondI (startI op d n) v 0) = !oddS d := by
    unfold mayD
    show (bif (d == 13 && (n == 13 && true)) then (op == 5 || op == 3) else !resS d) = !oddS d
    rw [c2]
    unfold resS oddS
    cases (d == 13) <;> cases (n == 13) <;> cases (d == 15) <;> rfl
  have e3 : resS (secondI (startI op d n) v 0).m = false := rfl
  have e4 : resS (secondI (startI op d n) v 0).a = false := rfl
  rw [e1, e2, e3, e4]
  cases oddS d <;> rfl
theorem mem_chk' (op : Int) (ho : 44 ≤ op ∧ op ≤ 51) (d n m j : Int) (x : Nat) : checkedI (memI (startI op d n) m j) true x = (bif oddS d || oddS m then noneI 65 x else memI (startI op d n) m j) := by
  have c1 : classS op = 4 := by unfold classS; rw [if_neg (by omega), if_neg (by omega), if_neg (by omega), if_neg (by omega), if_neg (by omega), if_pos (by omega)]
  unfold checkedI
  have e1 : mayN (memI (startI op d n) m j) = true := by
    unfold mayN
    show (bif n == 13 then (classS op == 4 || (classS op == 5 || (false && sumW op))) else bif n == 15 then (classS op == 4 || op == 33) else true) = true
    rw [c1]
    cases (n == 13) <;> cases (n == 15) <;> rfl
  have e2 : mayD (memI (startI op d n) m j) = !oddS d := by
    unfold mayD
    show (bif (d == 13 && (n == 13 && false)) then (op == 5 || op == 3) else !resS d) = !oddS d
    rw [Bool.and_false, Bool.and_false, cond_false]
    rfl
  have e3 : resS (memI (startI op d n) m j).m = oddS m := rfl
  have e4 : resS (memI (startI op d n) m j).a = false := rfl
  rw [e1, e2, e3, e4]
  cases oddS d <;> cases oddS m <;> rfl
theorem fin_odd (b : Bool) (i : IV) (x : Nat) (h : (i.op == 65) = false) : fin (bif b then startI 65 0 0 else i) true x = (bif b then noneI 65 x else i) := by
  cases b
  · unfold fin
    simp only [cond_false, cond_true, h]
  · rfl
theorem f20_3 (x : Nat) : fd_w x 20 3 = fd_w x 21 2 * 2 + fd_w x 20 1 := by
  unfold fd_w
  omega
theorem rmemory_c (h k x : Nat) (hh : h < 65536) (hk : k < 65536) (hx0 : x = h * 65536 + k) (w : World) : Calls Tryz.prog 77 #[.int .u16 h, .int .u16 k] w fun e w' => Two w (memX x) x e w' := by
  have h8_1 : bits .and .u16 ((h : Int) / 256) 1 = ((fd_w x 24 1 : Nat) : Int) := by rw [hx0, fdh h k 8 1 hk]; exact fd_u16 h 8 1 hh (by decide) _ _ (by simp) rfl
  have h5_2 : bits .and .u16 ((h : Int) / 32) 3 = ((fd_w x 21 2 : Nat) : Int) := by rw [hx0, fdh h k 5 2 hk]; exact fd_u16 h 5 2 hh (by decide) _ _ (by simp) rfl
  have h4_1 : bits .and .u16 ((h : Int) / 16) 1 = ((fd_w x 20 1 : Nat) : Int) := by rw [hx0, fdh h k 4 1 hk]; exact fd_u16 h 4 1 hh (by decide) _ _ (by simp) rfl
  have hh0_4 : bits .and .u16 ((h : Int)) 15 = ((fd_w x 16 4 : Nat) : Int) := by rw [hx0, fdh h k 0 4 hk]; exact fd_u16 h 0 4 hh (by decide) _ _ (by simp) rfl
  have h7_1 : bits .and .u16 ((h : Int) / 128) 1 = ((fd_w x 23 1 : Nat) : Int) := by rw [hx0, fdh h k 7 1 hk]; exact fd_u16 h 7 1 hh (by decide) _ _ (by simp) rfl
  have kB : bits .and .u16 ((k : Int)) 4095 = ((fd_w x 0 12 : Nat) : Int) := by rw [hx0, fdk h k 0 12 (by decide)]; exact fd_u16 k 0 12 hk (by decide) _ _ (by simp) rfl
  have k6_6 : bits .and .u16 ((k : Int) / 64) 63 = ((fd_w x 6 6 : Nat) : Int) := by rw [hx0, fdk h k 6 6 (by decide)]; exact fd_u16 k 6 6 hk (by decide) _ _ (by simp) rfl
  have kk0_4 : bits .and .u16 ((k : Int)) 15 = ((fd_w x 0 4 : Nat) : Int) := by rw [hx0, fdk h k 0 4 (by decide)]; exact fd_u16 k 0 4 hk (by decide) _ _ (by simp) rfl
  have k4_2 : bits .and .u16 ((k : Int) / 16) 3 = ((fd_w x 4 2 : Nat) : Int) := by rw [hx0, fdk h k 4 2 (by decide)]; exact fd_u16 k 4 2 hk (by decide) _ _ (by simp) rfl
  have f24_1 : fd_w x 24 1 < 2 := fd_lt_w x 24 1
  have f21_2 : fd_w x 21 2 < 4 := fd_lt_w x 21 2
  have f20_1 : fd_w x 20 1 < 2 := fd_lt_w x 20 1
  have f16_4 : fd_w x 16 4 < 16 := fd_lt_w x 16 4
  have f12_4 : fd_w x 12 4 < 16 := fd_lt_w x 12 4
  have f23_1 : fd_w x 23 1 < 2 := fd_lt_w x 23 1
  have f0_12 : fd_w x 0 12 < 4096 := fd_lt_w x 0 12
  have f6_6 : fd_w x 6 6 < 64 := fd_lt_w x 6 6
  have f0_4 : fd_w x 0 4 < 16 := fd_lt_w x 0 4
  have f4_2 : fd_w x 4 2 < 4 := fd_lt_w x 4 2
  have kd : (k : Int) / 4096 = ((fd_w x 12 4 : Nat) : Int) := by
    rw [hx0, fdk h k 12 4 (by decide)]
    unfold fd_w
    omega
  have h3 := f20_3 x
  have hM : memX x = bif memOp_w (fd_w x 24 1) (fd_w x 20 3) == 64 then noneI 64 x
  else bif Nat.beq (fd_w x 16 4) 15 then litX (startI (memOp_w (fd_w x 24 1) (fd_w x 20 3)) (fd_w x 12 4 : Nat) (fd_w x 16 4 : Nat)) x
  else bif Nat.beq (fd_w x 23 1) 0 then (bif Nat.beq (fd_w x 6 6) 0 then checkedI (memI (startI (memOp_w (fd_w x 24 1) (fd_w x 20 3)) (fd_w x 12 4 : Nat) (fd_w x 16 4 : Nat)) (fd_w x 0 4 : Nat) (fd_w x 4 2 : Nat)) true x else noneI 64 x)
  else checkedI (secondI (startI (memOp_w (fd_w x 24 1) (fd_w x 20 3)) (fd_w x 12 4 : Nat) (fd_w x 16 4 : Nat)) (fd_w x 0 12 : Nat) 0) true x := rfl
  have hL : ∀ i : IV, litX i x = bif Nat.beq (fd_w x 20 1) 0 then noneI 64 x else bif Nat.beq (fd_w x 23 1) 0 then checkedI (secondI i ((-(fd_w x 0 12 : Nat) : Int) % 4294967296) 0) (fd_w x 0 12 != 0) x else checkedI (secondI i (fd_w x 0 12 : Nat) 0) true x := fun _ => rfl
  generalize memX x = X at *
  generalize litX = LX at *
  generalize fd_w x 20 3 = g3 at *
  generalize fd_w x 24 1 = gg at *
  generalize fd_w x 21 2 = gz at *
  generalize fd_w x 20 1 = gl at *
  generalize fd_w x 16 4 = gn at *
  generalize fd_w x 12 4 = gd at *
  generalize fd_w x 23 1 = g7 at *
  generalize fd_w x 0 12 = B at *
  generalize fd_w x 6 6 = g6 at *
  generalize fd_w x 0 4 = gm at *
  generalize fd_w x 4 2 = gj at *
  rcases (show gg = 0 ∨ gg = 1 by omega) with rfl | rfl
  · rcases (show gz = 0 ∨ gz = 1 ∨ gz = 2 ∨ gz = 3 by omega) with rfl | rfl | rfl | rfl
    · rcases (show gl = 0 ∨ gl = 1 by omega) with rfl | rfl
      · rw [h3] at hM
        rw [show memOp_w 0 (0 * 2 + 0) = 50 from rfl, show ((50 : Int) == 64) = false from rfl, cond_false] at hM
        refine rmem_000 h k gn gd g7 B g6 gm gj x X h8_1 h5_2 h4_1 hh0_4 kd h7_1 kB k6_6 kk0_4 k4_2 f16_4 f12_4 f23_1 f0_12 f6_6 f0_4 f4_2 ?_ ?_ ?_ ?_ ?_ w
        · rintro rfl rfl rfl hl
          cases hl
        · rintro v (⟨rfl, rfl, rfl, hl⟩ | ⟨rfl, rfl, hB, rfl, hl⟩ | ⟨hn, rfl, rfl⟩)
          · cases hl
          · cases hl
          · have n1 : Nat.beq gn 15 = false := by rw [nbeq_w]; simp [hn]
            rw [n1, cond_false, show Nat.beq 1 0 = false from rfl, cond_false, mem_chk 50 (by decide : (44 : Int) ≤ 50 ∧ (50 : Int) ≤ 51)] at hM
            rw [hM]
            exact fin_odd _ _ x rfl
        · intro hn e7 e6
          subst e7
          subst e6
          have n1 : Nat.beq gn 15 = false := by rw [nbeq_w]; simp [hn]
          rw [n1, cond_false, show Nat.beq 0 0 = true from rfl, cond_true, cond_true, mem_chk' 50 (by decide : (44 : Int) ≤ 50 ∧ (50 : Int) ≤ 51)] at hM
          rw [hM]
          exact fin_odd _ _ x rfl
        · intro hn e7 e6
          subst e7
          have n1 : Nat.beq gn 15 = false := by rw [nbeq_w]; simp [hn]
          have n6 : Nat.beq g6 0 = false := by rw [nbeq_w]; simp [e6]
          rw [n1, cond_false, show Nat.beq 0 0 = true from rfl, cond_true, n6, cond_false] at hM
          rw [hM]
          rfl
        · rintro rfl hl
          rw [show Nat.beq 15 15 = true from rfl, cond_true, hL, show Nat.beq 0 0 = true from rfl, cond_true] at hM
          rw [hM]
          rfl
      · rw [h3] at hM
        rw [show memOp_w 0 (0 * 2 + 1) = 45 from rfl, show ((45 : Int) == 64) = false from rfl, cond_false] at hM
        refine rmem_001 h k gn gd g7 B g6 gm gj x X h8_1 h5_2 h4_1 hh0_4 kd h7_1 kB k6_6 kk0_4 k4_2 f16_4 f12_4 f23_1 f0_12 f6_6 f0_4 f4_2 ?_ ?_ ?_ ?_ ?_ w
        · rintro rfl rfl rfl hl
          rw [show Nat.beq 15 15 = true from rfl, cond_true, hL, show Nat.beq 1 0 = false from rfl, cond_false, show Nat.beq 0 0 = true from rfl, cond_true, show ((0 : Nat) != 0) = false from rfl] at hM
          rw [hM]
          rfl
        · rintro v (⟨rfl, rfl, rfl, hl⟩ | ⟨rfl, rfl, hB, rfl, hl⟩ | ⟨hn, rfl, rfl⟩)
          · rw [show Nat.beq 15 15 = true from rfl, cond_true, hL, show Nat.beq 1 0 = false from rfl, cond_false, cond_false, mem_chk 45 (by decide : (44 : Int) ≤ 45 ∧ (45 : Int) ≤ 51)] at hM
            rw [hM]
            exact fin_odd _ _ x rfl
          · have nB : (B != 0) = true := by simp [hB]
            rw [show Nat.beq 15 15 = true from rfl, cond_true, hL, show Nat.beq 1 0 = false from rfl, cond_false, show Nat.beq 0 0 = true from rfl, cond_true, nB, mem_chk 45 (by decide : (44 : Int) ≤ 45 ∧ (45 : Int) ≤ 51)] at hM
            rw [hM]
            exact fin_odd _ _ x rfl
          · have n1 : Nat.beq gn 15 = false := by rw [nbeq_w]; simp [hn]
            rw [n1, cond_false, show Nat.beq 1 0 = false from rfl, cond_false, mem_chk 45 (by decide : (44 : Int) ≤ 45 ∧ (45 : Int) ≤ 51)] at hM
            rw [hM]
            exact fin_odd _ _ x rfl
        · intro hn e7 e6
          subst e7
          subst e6
          have n1 : Nat.beq gn 15 = false := by rw [nbeq_w]; simp [hn]
          rw [n1, cond_false, show Nat.beq 0 0 = true from rfl, cond_true, cond_true, mem_chk' 45 (by decide : (44 : Int) ≤ 45 ∧ (45 : Int) ≤ 51)] at hM
          rw [hM]
          exact fin_odd _ _ x rfl
        · intro hn e7 e6
          subst e7
          have n1 : Nat.beq gn 15 = false := by rw [nbeq_w]; simp [hn]
          have n6 : Nat.beq g6 0 = false := by rw [nbeq_w]; simp [e6]
          rw [n1, cond_false, show Nat.beq 0 0 = true from rfl, cond_true, n6, cond_false] at hM
          rw [hM]
          rfl
        · rintro rfl hl
          cases hl
    · rcases (show gl = 0 ∨ gl = 1 by omega) with rfl | rfl
      · rw [h3] at hM
        rw [show memOp_w 0 (1 * 2 + 0) = 51 from rfl, show ((51 : Int) == 64) = false from rfl, cond_false] at hM
        refine rmem_010 h k gn gd g7 B g6 gm gj x X h8_1 h5_2 h4_1 hh0_4 kd h7_1 kB k6_6 kk0_4 k4_2 f16_4 f12_4 f23_1 f0_12 f6_6 f0_4 f4_2 ?_ ?_ ?_ ?_ ?_ w
        · rintro rfl rfl rfl hl
          cases hl
        · rintro v (⟨rfl, rfl, rfl, hl⟩ | ⟨rfl, rfl, hB, rfl, hl⟩ | ⟨hn, rfl, rfl⟩)
          · cases hl
          · cases hl
          · have n1 : Nat.beq gn 15 = false := by rw [nbeq_w]; simp [hn]
            rw [n1, cond_false, show Nat.beq 1 0 = false from rfl, cond_false, mem_chk 51 (by decide : (44 : Int) ≤ 51 ∧ (51 : Int) ≤ 51)] at hM
            rw [hM]
            exact fin_odd _ _ x rfl
        · intro hn e7 e6
          subst e7
          subst e6
          have n1 : Nat.beq gn 15 = false := by rw [nbeq_w]; simp [hn]
          rw [n1, cond_false, show Nat.beq 0 0 = true from rfl, cond_true, cond_true, mem_chk' 51 (by decide : (44 : Int) ≤ 51 ∧ (51 : Int) ≤ 51)] at hM
          rw [hM]
          exact fin_odd _ _ x rfl
        · intro hn e7 e6
          subst e7
          have n1 : Nat.beq gn 15 = false := by rw [nbeq_w]; simp [hn]
          have n6 : Nat.beq g6 0 = false := by rw [nbeq_w]; simp [e6]
          rw [n1, cond_false, show Nat.beq 0 0 = true from rfl, cond_true, n6, cond_false] at hM
          rw [hM]
          rfl
        · rintro rfl hl
          rw [show Nat.beq 15 15 = true from rfl, cond_true, hL, show Nat.beq 0 0 = true from rfl, cond_true] at hM
          rw [hM]
          rfl
      · rw [h3] at hM
        rw [show memOp_w 0 (1 * 2 + 1) = 46 from rfl, show ((46 : Int) == 64) = false from rfl, cond_false] at hM
        refine rmem_011 h k gn gd g7 B g6 gm gj x X h8_1 h5_2 h4_1 hh0_4 kd h7_1 kB k6_6 kk0_4 k4_2 f16_4 f12_4 f23_1 f0_12 f6_6 f0_4 f4_2 ?_ ?_ ?_ ?_ ?_ w
        · rintro rfl rfl rfl hl
          rw [show Nat.beq 15 15 = true from rfl, cond_true, hL, show Nat.beq 1 0 = false from rfl, cond_false, show Nat.beq 0 0 = true from rfl, cond_true, show ((0 : Nat) != 0) = false from rfl] at hM
          rw [hM]
          rfl
        · rintro v (⟨rfl, rfl, rfl, hl⟩ | ⟨rfl, rfl, hB, rfl, hl⟩ | ⟨hn, rfl, rfl⟩)
          · rw [show Nat.beq 15 15 = true from rfl, cond_true, hL, show Nat.beq 1 0 = false from rfl, cond_false, cond_false, mem_chk 46 (by decide : (44 : Int) ≤ 46 ∧ (46 : Int) ≤ 51)] at hM
            rw [hM]
            exact fin_odd _ _ x rfl
          · have nB : (B != 0) = true := by simp [hB]
            rw [show Nat.beq 15 15 = true from rfl, cond_true, hL, show Nat.beq 1 0 = false from rfl, cond_false, show Nat.beq 0 0 = true from rfl, cond_true, nB, mem_chk 46 (by decide : (44 : Int) ≤ 46 ∧ (46 : Int) ≤ 51)] at hM
            rw [hM]
            exact fin_odd _ _ x rfl
          · have n1 : Nat.beq gn 15 = false := by rw [nbeq_w]; simp [hn]
            rw [n1, cond_false, show Nat.beq 1 0 = false from rfl, cond_false, mem_chk 46 (by decide : (44 : Int) ≤ 46 ∧ (46 : Int) ≤ 51)] at hM
            rw [hM]
            exact fin_odd _ _ x rfl
        · intro hn e7 e6
          subst e7
          subst e6
          have n1 : Nat.beq gn 15 = false := by rw [nbeq_w]; simp [hn]
          rw [n1, cond_false, show Nat.beq 0 0 = true from rfl, cond_true, cond_true, mem_chk' 46 (by decide : (44 : Int) ≤ 46 ∧ (46 : Int) ≤ 51)] at hM
          rw [hM]
          exact fin_odd _ _ x rfl
        · intro hn e7 e6
          subst e7
          have n1 : Nat.beq gn 15 = false := by rw [nbeq_w]; simp [hn]
          have n6 : Nat.beq g6 0 = false := by rw [nbeq_w]; simp [e6]
          rw [n1, cond_false, show Nat.beq 0 0 = true from rfl, cond_true, n6, cond_false] at hM
          rw [hM]
          rfl
        · rintro rfl hl
          cases hl
    · rcases (show gl = 0 ∨ gl = 1 by omega) with rfl | rfl
      · rw [h3] at hM
        rw [show memOp_w 0 (2 * 2 + 0) = 49 from rfl, show ((49 : Int) == 64) = false from rfl, cond_false] at hM
        refine rmem_020 h k gn gd g7 B g6 gm gj x X h8_1 h5_2 h4_1 hh0_4 kd h7_1 kB k6_6 kk0_4 k4_2 f16_4 f12_4 f23_1 f0_12 f6_6 f0_4 f4_2 ?_ ?_ ?_ ?_ ?_ w
        · rintro rfl rfl rfl hl
          cases hl
        · rintro v (⟨rfl, rfl, rfl, hl⟩ | ⟨rfl, rfl, hB, rfl, hl⟩ | ⟨hn, rfl, rfl⟩)
          · cases hl
          · cases hl
          · have n1 : Nat.beq gn 15 = false := by rw [nbeq_w]; simp [hn]
            rw [n1, cond_false, show Nat.beq 1 0 = false from rfl, cond_false, mem_chk 49 (by decide : (44 : Int) ≤ 49 ∧ (49 : Int) ≤ 51)] at hM
            rw [hM]
            exact fin_odd _ _ x rfl
        · intro hn e7 e6
          subst e7
          subst e6
          have n1 : Nat.beq gn 15 = false := by rw [nbeq_w]; simp [hn]
          rw [n1, cond_false, show Nat.beq 0 0 = true from rfl, cond_true, cond_true, mem_chk' 49 (by decide : (44 : Int) ≤ 49 ∧ (49 : Int) ≤ 51)] at hM
          rw [hM]
          exact fin_odd _ _ x rfl
        · intro hn e7 e6
          subst e7
          have n1 : Nat.beq gn 15 = false := by rw [nbeq_w]; simp [hn]
          have n6 : Nat.beq g6 0 = false := by rw [nbeq_w]; simp [e6]
          rw [n1, cond_false, show Nat.beq 0 0 = true from rfl, cond_true, n6, cond_false] at hM
          rw [hM]
          rfl
        · rintro rfl hl
          rw [show Nat.beq 15 15 = true from rfl, cond_true, hL, show Nat.beq 0 0 = true from rfl, cond_true] at hM
          rw [hM]
          rfl
      · rw [h3] at hM
        rw [show memOp_w 0 (2 * 2 + 1) = 44 from rfl, show ((44 : Int) == 64) = false from rfl, cond_false] at hM
        refine rmem_021 h k gn gd g7 B g6 gm gj x X h8_1 h5_2 h4_1 hh0_4 kd h7_1 kB k6_6 kk0_4 k4_2 f16_4 f12_4 f23_1 f0_12 f6_6 f0_4 f4_2 ?_ ?_ ?_ ?_ ?_ w
        · rintro rfl rfl rfl hl
          rw [show Nat.beq 15 15 = true from rfl, cond_true, hL, show Nat.beq 1 0 = false from rfl, cond_false, show Nat.beq 0 0 = true from rfl, cond_true, show ((0 : Nat) != 0) = false from rfl] at hM
          rw [hM]
          rfl
        · rintro v (⟨rfl, rfl, rfl, hl⟩ | ⟨rfl, rfl, hB, rfl, hl⟩ | ⟨hn, rfl, rfl⟩)
          · rw [show Nat.beq 15 15 = true from rfl, cond_true, hL, show Nat.beq 1 0 = false from rfl, cond_false, cond_false, mem_chk 44 (by decide : (44 : Int) ≤ 44 ∧ (44 : Int) ≤ 51)] at hM
            rw [hM]
            exact fin_odd _ _ x rfl
          · have nB : (B != 0) = true := by simp [hB]
            rw [show Nat.beq 15 15 = true from rfl, cond_true, hL, show Nat.beq 1 0 = false from rfl, cond_false, show Nat.beq 0 0 = true from rfl, cond_true, nB, mem_chk 44 (by decide : (44 : Int) ≤ 44 ∧ (44 : Int) ≤ 51)] at hM
            rw [hM]
            exact fin_odd _ _ x rfl
          · have n1 : Nat.beq gn 15 = false := by rw [nbeq_w]; simp [hn]
            rw [n1, cond_false, show Nat.beq 1 0 = false from rfl, cond_false, mem_chk 44 (by decide : (44 : Int) ≤ 44 ∧ (44 : Int) ≤ 51)] at hM
            rw [hM]
            exact fin_odd _ _ x rfl
        · intro hn e7 e6
          subst e7
          subst e6
          have n1 : Nat.beq gn 15 = false := by rw [nbeq_w]; simp [hn]
          rw [n1, cond_false, show Nat.beq 0 0 = true from rfl, cond_true, cond_true, mem_chk' 44 (by decide : (44 : Int) ≤ 44 ∧ (44 : Int) ≤ 51)] at hM
          rw [hM]
          exact fin_odd _ _ x rfl
        · intro hn e7 e6
          subst e7
          have n1 : Nat.beq gn 15 = false := by rw [nbeq_w]; simp [hn]
          have n6 : Nat.beq g6 0 = false := by rw [nbeq_w]; simp [e6]
          rw [n1, cond_false, show Nat.beq 0 0 = true from rfl, cond_true, n6, cond_false] at hM
          rw [hM]
          rfl
        · rintro rfl hl
          cases hl
    · rcases (show gl = 0 ∨ gl = 1 by omega) with rfl | rfl
      · rw [h3] at hM
        exact rmem_030 h k gn gd x X h8_1 h5_2 h4_1 hh0_4 kd f16_4 f12_4 (by rw [hM]; rfl) w
      · rw [h3] at hM
        exact rmem_031 h k gn gd x X h8_1 h5_2 h4_1 hh0_4 kd f16_4 f12_4 (by rw [hM]; rfl) w
  · rcases (show gz = 0 ∨ gz = 1 ∨ gz = 2 ∨ gz = 3 by omega) with rfl | rfl | rfl | rfl
    · rcases (show gl = 0 ∨ gl = 1 by omega) with rfl | rfl
      · rw [h3] at hM
        exact rmem_100 h k gn gd x X h8_1 h5_2 h4_1 hh0_4 kd f16_4 f12_4 (by rw [hM]; rfl) w
      · rw [h3] at hM
        rw [show memOp_w 1 (0 * 2 + 1) = 47 from rfl, show ((47 : Int) == 64) = false from rfl, cond_false] at hM
        refine rmem_101 h k gn gd g7 B g6 gm gj x X h8_1 h5_2 h4_1 hh0_4 kd h7_1 kB k6_6 kk0_4 k4_2 f16_4 f12_4 f23_1 f0_12 f6_6 f0_4 f4_2 ?_ ?_ ?_ ?_ ?_ w
        · rintro rfl rfl rfl hl
          rw [show Nat.beq 15 15 = true from rfl, cond_true, hL, show Nat.beq 1 0 = false from rfl, cond_false, show Nat.beq 0 0 = true from rfl, cond_true, show ((0 : Nat) != 0) = false from rfl] at hM
          rw [hM]
          rfl
        · rintro v (⟨rfl, rfl, rfl, hl⟩ | ⟨rfl, rfl, hB, rfl, hl⟩ | ⟨hn, rfl, rfl⟩)
          · rw [show Nat.beq 15 15 = true from rfl, cond_true, hL, show Nat.beq 1 0 = false from rfl, cond_false, cond_false, mem_chk 47 (by decide : (44 : Int) ≤ 47 ∧ (47 : Int) ≤ 51)] at hM
            rw [hM]
            exact fin_odd _ _ x rfl
          · have nB : (B != 0) = true := by simp [hB]
            rw [show Nat.beq 15 15 = true from rfl, cond_true, hL, show Nat.beq 1 0 = false from rfl, cond_false, show Nat.beq 0 0 = true from rfl, cond_true, nB, mem_chk 47 (by decide : (44 : Int) ≤ 47 ∧ (47 : Int) ≤ 51)] at hM
            rw [hM]
            exact fin_odd _ _ x rfl
          · have n1 : Nat.beq gn 15 = false := by rw [nbeq_w]; simp [hn]
            rw [n1, cond_false, show Nat.beq 1 0 = false from rfl, cond_false, mem_chk 47 (by decide : (44 : Int) ≤ 47 ∧ (47 : Int) ≤ 51)] at hM
            rw [hM]
            exact fin_odd _ _ x rfl
        · intro hn e7 e6
          subst e7
          subst e6
          have n1 : Nat.beq gn 15 = false := by rw [nbeq_w]; simp [hn]
          rw [n1, cond_false, show Nat.beq 0 0 = true from rfl, cond_true, cond_true, mem_chk' 47 (by decide : (44 : Int) ≤ 47 ∧ (47 : Int) ≤ 51)] at hM
          rw [hM]
          exact fin_odd _ _ x rfl
        · intro hn e7 e6
          subst e7
          have n1 : Nat.beq gn 15 = false := by rw [nbeq_w]; simp [hn]
          have n6 : Nat.beq g6 0 = false := by rw [nbeq_w]; simp [e6]
          rw [n1, cond_false, show Nat.beq 0 0 = true from rfl, cond_true, n6, cond_false] at hM
          rw [hM]
          rfl
        · rintro rfl hl
          cases hl
    · rcases (show gl = 0 ∨ gl = 1 by omega) with rfl | rfl
      · rw [h3] at hM
        exact rmem_110 h k gn gd x X h8_1 h5_2 h4_1 hh0_4 kd f16_4 f12_4 (by rw [hM]; rfl) w
      · rw [h3] at hM
        rw [show memOp_w 1 (1 * 2 + 1) = 48 from rfl, show ((48 : Int) == 64) = false from rfl, cond_false] at hM
        refine rmem_111 h k gn gd g7 B g6 gm gj x X h8_1 h5_2 h4_1 hh0_4 kd h7_1 kB k6_6 kk0_4 k4_2 f16_4 f12_4 f23_1 f0_12 f6_6 f0_4 f4_2 ?_ ?_ ?_ ?_ ?_ w
        · rintro rfl rfl rfl hl
          rw [show Nat.beq 15 15 = true from rfl, cond_true, hL, show Nat.beq 1 0 = false from rfl, cond_false, show Nat.beq 0 0 = true from rfl, cond_true, show ((0 : Nat) != 0) = false from rfl] at hM
          rw [hM]
          rfl
        · rintro v (⟨rfl, rfl, rfl, hl⟩ | ⟨rfl, rfl, hB, rfl, hl⟩ | ⟨hn, rfl, rfl⟩)
          · rw [show Nat.beq 15 15 = true from rfl, cond_true, hL, show Nat.beq 1 0 = false from rfl, cond_false, cond_false, mem_chk 48 (by decide : (44 : Int) ≤ 48 ∧ (48 : Int) ≤ 51)] at hM
            rw [hM]
            exact fin_odd _ _ x rfl
          · have nB : (B != 0) = true := by simp [hB]
            rw [show Nat.beq 15 15 = true from rfl, cond_true, hL, show Nat.beq 1 0 = false from rfl, cond_false, show Nat.beq 0 0 = true from rfl, cond_true, nB, mem_chk 48 (by decide : (44 : Int) ≤ 48 ∧ (48 : Int) ≤ 51)] at hM
            rw [hM]
            exact fin_odd _ _ x rfl
          · have n1 : Nat.beq gn 15 = false := by rw [nbeq_w]; simp [hn]
            rw [n1, cond_false, show Nat.beq 1 0 = false from rfl, cond_false, mem_chk 48 (by decide : (44 : Int) ≤ 48 ∧ (48 : Int) ≤ 51)] at hM
            rw [hM]
            exact fin_odd _ _ x rfl
        · intro hn e7 e6
          subst e7
          subst e6
          have n1 : Nat.beq gn 15 = false := by rw [nbeq_w]; simp [hn]
          rw [n1, cond_false, show Nat.beq 0 0 = true from rfl, cond_true, cond_true, mem_chk' 48 (by decide : (44 : Int) ≤ 48 ∧ (48 : Int) ≤ 51)] at hM
          rw [hM]
          exact fin_odd _ _ x rfl
        · intro hn e7 e6
          subst e7
          have n1 : Nat.beq gn 15 = false := by rw [nbeq_w]; simp [hn]
          have n6 : Nat.beq g6 0 = false := by rw [nbeq_w]; simp [e6]
          rw [n1, cond_false, show Nat.beq 0 0 = true from rfl, cond_true, n6, cond_false] at hM
          rw [hM]
          rfl
        · rintro rfl hl
          cases hl
    · rcases (show gl = 0 ∨ gl = 1 by omega) with rfl | rfl
      · rw [h3] at hM
        exact rmem_120 h k gn gd x X h8_1 h5_2 h4_1 hh0_4 kd f16_4 f12_4 (by rw [hM]; rfl) w
      · rw [h3] at hM
        exact rmem_121 h k gn gd x X h8_1 h5_2 h4_1 hh0_4 kd f16_4 f12_4 (by rw [hM]; rfl) w
    · rcases (show gl = 0 ∨ gl = 1 by omega) with rfl | rfl
      · rw [h3] at hM
        exact rmem_130 h k gn gd x X h8_1 h5_2 h4_1 hh0_4 kd f16_4 f12_4 (by rw [hM]; rfl) w
      · rw [h3] at hM
        exact rmem_131 h k gn gd x X h8_1 h5_2 h4_1 hh0_4 kd f16_4 f12_4 (by rw [hM]; rfl) w
end Go.Proofs.YtplhblhopaheeaaGreatDoor
