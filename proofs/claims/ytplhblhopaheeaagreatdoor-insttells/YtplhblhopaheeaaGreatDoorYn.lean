/- Stage 9: the document: branches. -/
import Derived.Test.YtplhblhopaheeaaGreatDoorWg1
import Derived.Test.YtplhblhopaheeaaGreatDoorYi
import Derived.Test.YtplhblhopaheeaaGreatDoorYa
namespace Go.Proofs.YtplhblhopaheeaaGreatDoor
open Go.ChangeShapes Go.WideShapes Go.ChangeAt Go.RowKit
set_option linter.unusedVariables false
set_option linter.unusedSimpArgs false
set_option maxHeartbeats 20000000
set_option maxRecDepth 100000

theorem rbr_g (h k x s p q b12 b14 c h6 h10 k11 q1 q2 q3 q4 p1 lp m1 lq r1 r2 r3 r4 : Nat) (b : Bool) (R R2 : Int) (X : IV)
    (ks : bits .and .u16 ((h : Int) / 1024) 1 = (s : Int)) (kp : bits .and .u16 ((k : Int) / 8192) 1 = (p : Int)) (kq : bits .and .u16 ((k : Int) / 2048) 1 = (q : Int)) (k12 : bits .and .u16 ((k : Int) / 4096) 1 = (b12 : Int)) (k14 : bits .and .u16 ((k : Int) / 16384) 1 = (b14 : Int)) (kc : bits .and .u16 ((h : Int) / 64) 15 = (c : Int)) (k6 : bits .and .u16 (h : Int) 63 = (h6 : Int)) (k10 : bits .and .u16 (h : Int) 1023 = (h10 : Int)) (kk11 : bits .and .u16 (k : Int) 2047 = (k11 : Int))
    (bs : s < 2) (bp : p < 2) (bq : q < 2) (b12l : b12 < 2) (b14l : b14 < 2) (bc : c < 16) (b6 : h6 < 64) (b10 : h10 < 1024) (b11 : k11 < 2048)
    (j1 : bits .or .u32 ((s : Int) * 524288) ((q : Int) * 262144) = (q1 : Int)) (j2 : bits .or .u32 (q1 : Int) ((p : Int) * 131072) = (q2 : Int)) (j3 : bits .or .u32 (q2 : Int) ((h6 : Int) * 2048) = (q3 : Int)) (j4 : bits .or .u32 (q3 : Int) (k11 : Int) = (q4 : Int)) (bq4 : q4 < 1048576)
    (x1 : bits .xor .u32 1 (p : Int) = (p1 : Int)) (x2 : bits .xor .u32 (p1 : Int) (s : Int) = (lp : Int)) (x3 : bits .xor .u32 1 (q : Int) = (m1 : Int)) (x4 : bits .xor .u32 (m1 : Int) (s : Int) = (lq : Int)) (blp : lp < 2) (blq : lq < 2)
    (i1 : bits .or .u32 ((s : Int) * 8388608) ((lp : Int) * 4194304) = (r1 : Int)) (i2 : bits .or .u32 (r1 : Int) ((lq : Int) * 2097152) = (r2 : Int)) (i3 : bits .or .u32 (r2 : Int) ((h10 : Int) * 2048) = (r3 : Int)) (i4 : bits .or .u32 (r3 : Int) (k11 : Int) = (r4 : Int)) (br4 : r4 < 16777216)
    (CS : ∀ w, Calls Tryz.prog 38 #[.int .u32 ((q4 : Int) * 2), .int .i64 21] w fun e w' => e = .returned (.int .u32 R) ∧ w' = w) (CT : ∀ w, Calls Tryz.prog 38 #[.int .u32 ((r4 : Int) * 2), .int .i64 25] w fun e w' => e = .returned (.int .u32 R2) ∧ w' = w)
    (H0 : b12 = 0 → (b14 = 1 ∨ 14 ≤ c) → fin (startI 54 0 0) false x = X) (H1 : b12 = 0 → b14 = 0 → c < 14 → b = true → fin (startI 65 0 0) true x = X) (H2 : b12 = 0 → b14 = 0 → c < 14 → b = false → fin { startI 54 0 0 with cond := (c : Nat), imm := R } true x = X)
    (H3 : b12 = 1 → b14 = 0 → fin { startI 54 0 0 with imm := R2 } true x = X) (H4 : b12 = 1 → b14 = 1 → fin { startI 55 0 0 with imm := R2 } true x = X)
    (w : World) : Calls Tryz.prog 73 #[.int .u16 h, .int .u16 k, .bool b] w fun e w' => Two w X x e w' := by
  have QS : Hid _ := CS
  have QT : Hid _ := CT
  clear CS CT
  rcases (show b12 = 0 ∨ b12 = 1 by omega) with rfl | rfl
  focus
    replace k12 : bits .and .u16 ((k : Int) / 4096) 1 = 0 := k12
    rcases (show b14 = 0 ∨ b14 = 1 by omega) with rfl | rfl
    focus
      replace k14 : bits .and .u16 ((k : Int) / 16384) 1 = 0 := k14
      rcases (show c < 14 ∨ 14 ≤ c by omega) with hc | hc
      focus
        have c1 : decide ((14 : Int) ≤ (c : Int)) = false := by simp; omega
        have c2 : ((14 : Int) ≤ (c : Int)) = False := by simp; omega
        cases b
        focus
          have HX : Hid _ := H2 rfl rfl hc rfl
          clear H0 H1 H2 H3 H4
          clear hc
        rotate_left 1
        focus
          have HX : Hid _ := H1 rfl rfl hc rfl
          clear H0 H1 H2 H3 H4
          clear hc
        rotate_left 1
      rotate_left 2
      focus
        have c1 : decide ((14 : Int) ≤ (c : Int)) = true := by simp; omega
        have c2 : ((14 : Int) ≤ (c : Int)) = True := by simp; omega
        have HX : Hid _ := H0 rfl (.inr hc)
        clear H0 H1 H2 H3 H4
        clear hc
      rotate_left 1
    rotate_left 3
    focus
      replace k14 : bits .and .u16 ((k : Int) / 16384) 1 = 1 := k14
      have HX : Hid _ := H0 rfl (.inl rfl)
      clear H0 H1 H2 H3 H4
    rotate_left 1
  rotate_left 4
  focus
    replace k12 : bits .and .u16 ((k : Int) / 4096) 1 = 1 := k12
    rcases (show b14 = 0 ∨ b14 = 1 by omega) with rfl | rfl
    focus
      replace k14 : bits .and .u16 ((k : Int) / 16384) 1 = 0 := k14
      have HX : Hid _ := H3 rfl rfl
      clear H0 H1 H2 H3 H4
    rotate_left 1
    focus
      replace k14 : bits .and .u16 ((k : Int) / 16384) 1 = 1 := k14
      have HX : Hid _ := H4 rfl rfl
      clear H0 H1 H2 H3 H4
    rotate_left 1
  rotate_left 2
  all_goals
    go_enter Tryz.func73, Tryz.ntmps73
    have S := SH.start w
    go_wp2_with (first
     | ((with_reducible refine g_al 28 ?_); refine S.gal zI ?_; clear S; intro b w1 S)
     | (go_at_call 119; refine (rwide_c _ _).mono ?_; rintro e wf ⟨rfl, hbf⟩; replace S := S.below hbf; clear hbf)
     | ((with_reducible refine g_st 28 ?_); refine S.gst (i := ?_) (c := ?_) rfl rfl ?_ ?_ ?_ ?_ ?_; rotate_left 2; (with_reducible first | exact gi0 | exact gi1 | exact gi2 | exact gi3 | exact gi4 | exact gi5); rfl; rfl; exact sI rfl; clear S; intro w1 S; (try simp only [Cel.cells, zL, List.set_cons_zero, List.set_cons_succ, startI, secondI, noneI] at S))
     | ((with_reducible refine g_st 3 ?_); refine S.gs1 (i := ?_) (c := ?_) (cs := ?_) (.int _ _) s_int rfl rfl rfl ?_ ?_ ?_ ?_; rotate_left 3; (with_reducible first | exact gi0 | exact gi1 | exact gi2 | exact gi3 | exact gi4 | exact gi5); exact of_decide_eq_true rfl; exact rfl; clear S; intro w1 S; (try simp only [Cel.cells, zL, List.set_cons_zero, List.set_cons_succ, startI, secondI, noneI] at S))
     | (go_at_call 38; first | (with_reducible refine (QS.out _).mono ?_; rintro e wf ⟨rfl, rfl⟩) | (with_reducible refine (QT.out _).mono ?_; rintro e wf ⟨rfl, rfl⟩))
     | ((with_reducible refine g_st 26 ?_); refine S.gs1 (i := ?_) (c := ?_) (cs := ?_) (.int _ _) s_u32 rfl rfl rfl ?_ ?_ ?_ ?_; rotate_left 3; (with_reducible first | exact gi0 | exact gi1 | exact gi2 | exact gi3 | exact gi4 | exact gi5); exact of_decide_eq_true rfl; exact rfl; clear S; intro w1 S; (try simp only [Cel.cells, zL, List.set_cons_zero, List.set_cons_succ, startI, secondI, noneI] at S))
     | ((with_reducible refine g_ld 28 ?_); first | (refine g_skip rfl ?_) | (refine S.gla (i := ?_) (c := ?_) Tryz.underlying28 rfl rfl rfl ?_ ?_ ?_; rotate_left 2; (with_reducible first | exact gi0 | exact gi1 | exact gi2 | exact gi3 | exact gi4 | exact gi5); exact sI rfl))
     | (go_at_call 118; refine (runp_c _).mono ?_; rintro e wf ⟨rfl, hbf⟩; replace S := S.below hbf; clear hbf))
    (try simp only [Exit.inBlock, Exit.then])
    apply bodyPost_ret
    refine S.gR2 (i := ?_) (c := ?_) Tryz.underlying28 rfl rfl rfl ?_ ?_
    rotate_left 2
    (with_reducible first | exact gi0 | exact gi1 | exact gi2 | exact gi3 | exact gi4 | exact gi5)
    exact sI rfl
    rfl
    exact ⟨_, _, rfl, HX.out, S.low⟩
end Go.Proofs.YtplhblhopaheeaaGreatDoor
namespace Go.Proofs.YtplhblhopaheeaaGreatDoor
open Go.ChangeShapes Go.WideShapes Go.ChangeAt Go.RowKit
set_option linter.unusedVariables false
set_option linter.unusedSimpArgs false
set_option maxHeartbeats 20000000
set_option maxRecDepth 100000

theorem fin_yes' (i : IV) (x : Nat) (h : (i.op == 65) = false) : fin i true x = i := by
  unfold fin
  rw [h]
  rfl
theorem tw (a b c d e : Nat) : ((a * 8388608 + b * 4194304 + c * 2097152 + d * 2048 + e : Nat) : Int) * 2 = ((a * 16777216 + b * 8388608 + c * 4194304 + d * 4096 + e * 2 : Nat) : Int) := by omega
theorem xor_1 (p : Nat) (h : p < 2) : bits .xor .u32 1 (p : Int) = ((1 - p : Nat) : Int) := by
  rcases (show p = 0 ∨ p = 1 by omega) with rfl | rfl <;> decide +kernel
theorem xor_lk (p s : Nat) (h : p < 2) (h' : s < 2) : bits .xor .u32 ((1 - p : Nat) : Int) (s : Int) = ((lk p s : Nat) : Int) := by
  rcases (show p = 0 ∨ p = 1 by omega) with rfl | rfl <;> rcases (show s = 0 ∨ s = 1 by omega) with rfl | rfl <;> decide +kernel
theorem cond_yes (x : Nat) (h : fd_w x 22 4 < 14) : condI x = brI 54 (fd_w x 22 4 : Nat) (signS_w (condX x : Nat) 21) := by
  unfold condI
  rw [show Nat.ble 14 (fd_w x 22 4) = false by rw [nble_w]; simp; omega]
  rfl
theorem cond_no (x : Nat) (h : 14 ≤ fd_w x 22 4) : condI x = noneI 64 x := by
  unfold condI
  rw [show Nat.ble 14 (fd_w x 22 4) = true by rw [nble_w]; simp; omega]
  rfl
theorem rbranch_c (h k x : Nat) (hh : h < 65536) (hk : k < 65536) (hx0 : x = h * 65536 + k) (b : Bool) (w : World) : Calls Tryz.prog 73 #[.int .u16 h, .int .u16 k, .bool b] w fun e w' => Two w (decI b (branchI x) x) x e w' := by
  have h10_1 : bits .and .u16 ((h : Int) / 1024) 1 = ((fd_w x 26 1 : Nat) : Int) := by rw [hx0, fdh h k 10 1 hk]; exact fd_u16 h 10 1 hh (by decide) _ _ (by simp) rfl
  have k13_1 : bits .and .u16 ((k : Int) / 8192) 1 = ((fd_w x 13 1 : Nat) : Int) := by rw [hx0, fdk h k 13 1 (by decide)]; exact fd_u16 k 13 1 hk (by decide) _ _ (by simp) rfl
  have k11_1 : bits .and .u16 ((k : Int) / 2048) 1 = ((fd_w x 11 1 : Nat) : Int) := by rw [hx0, fdk h k 11 1 (by decide)]; exact fd_u16 k 11 1 hk (by decide) _ _ (by simp) rfl
  have kk12 : bits .and .u16 ((k : Int) / 4096) 1 = ((fd_w x 12 1 : Nat) : Int) := by rw [hx0, fdk h k 12 1 (by decide)]; exact fd_u16 k 12 1 hk (by decide) _ _ (by simp) rfl
  have k14_1 : bits .and .u16 ((k : Int) / 16384) 1 = ((fd_w x 14 1 : Nat) : Int) := by rw [hx0, fdk h k 14 1 (by decide)]; exact fd_u16 k 14 1 hk (by decide) _ _ (by simp) rfl
  have h6_4 : bits .and .u16 ((h : Int) / 64) 15 = ((fd_w x 22 4 : Nat) : Int) := by rw [hx0, fdh h k 6 4 hk]; exact fd_u16 h 6 4 hh (by decide) _ _ (by simp) rfl
  have h0_6 : bits .and .u16 ((h : Int)) 63 = ((fd_w x 16 6 : Nat) : Int) := by rw [hx0, fdh h k 0 6 hk]; exact fd_u16 h 0 6 hh (by decide) _ _ (by simp) rfl
  have h0_10 : bits .and .u16 ((h : Int)) 1023 = ((fd_w x 16 10 : Nat) : Int) := by rw [hx0, fdh h k 0 10 hk]; exact fd_u16 h 0 10 hh (by decide) _ _ (by simp) rfl
  have k0_11 : bits .and .u16 ((k : Int)) 2047 = ((fd_w x 0 11 : Nat) : Int) := by rw [hx0, fdk h k 0 11 (by decide)]; exact fd_u16 k 0 11 hk (by decide) _ _ (by simp) rfl
  have f26_1 : fd_w x 26 1 < 2 := fd_lt_w x 26 1
  have f13_1 : fd_w x 13 1 < 2 := fd_lt_w x 13 1
  have f11_1 : fd_w x 11 1 < 2 := fd_lt_w x 11 1
  have f12_1 : fd_w x 12 1 < 2 := fd_lt_w x 12 1
  have f14_1 : fd_w x 14 1 < 2 := fd_lt_w x 14 1
  have f22_4 : fd_w x 22 4 < 16 := fd_lt_w x 22 4
  have f16_6 : fd_w x 16 6 < 64 := fd_lt_w x 16 6
  have f16_10 : fd_w x 16 10 < 1024 := fd_lt_w x 16 10
  have f0_11 : fd_w x 0 11 < 2048 := fd_lt_w x 0 11
  have l1 : lk (fd_w x 13 1) (fd_w x 26 1) < 2 := Nat.mod_lt _ (by decide)
  have l2 : lk (fd_w x 11 1) (fd_w x 26 1) < 2 := Nat.mod_lt _ (by decide)
  have cX : condX x = fd_w x 26 1 * 1048576 + fd_w x 11 1 * 524288 + fd_w x 13 1 * 262144 + fd_w x 16 6 * 4096 + fd_w x 0 11 * 2 := rfl
  have fX : farX x = fd_w x 26 1 * 16777216 + lk (fd_w x 13 1) (fd_w x 26 1) * 8388608 + lk (fd_w x 11 1) (fd_w x 26 1) * 4194304 + fd_w x 16 10 * 4096 + fd_w x 0 11 * 2 := rfl
  have s1 : ((fd_w x 26 1 * 524288 + fd_w x 11 1 * 262144 + fd_w x 13 1 * 131072 + fd_w x 16 6 * 2048 + fd_w x 0 11 : Nat) : Int) * 2 = (condX x : Nat) := by omega
  have s2 : ((fd_w x 26 1 * 8388608 + lk (fd_w x 13 1) (fd_w x 26 1) * 4194304 + lk (fd_w x 11 1) (fd_w x 26 1) * 2097152 + fd_w x 16 10 * 2048 + fd_w x 0 11 : Nat) : Int) * 2 = (farX x : Nat) := by rw [fX]; exact tw _ _ _ _ _
  refine rbr_g h k x (fd_w x 26 1) (fd_w x 13 1) (fd_w x 11 1) (fd_w x 12 1) (fd_w x 14 1) (fd_w x 22 4) (fd_w x 16 6) (fd_w x 16 10) (fd_w x 0 11) (fd_w x 26 1 * 524288 + fd_w x 11 1 * 262144) (fd_w x 26 1 * 524288 + fd_w x 11 1 * 262144 + fd_w x 13 1 * 131072) (fd_w x 26 1 * 524288 + fd_w x 11 1 * 262144 + fd_w x 13 1 * 131072 + fd_w x 16 6 * 2048) (fd_w x 26 1 * 524288 + fd_w x 11 1 * 262144 + fd_w x 13 1 * 131072 + fd_w x 16 6 * 2048 + fd_w x 0 11)
    (1 - fd_w x 13 1) (lk (fd_w x 13 1) (fd_w x 26 1)) (1 - fd_w x 11 1) (lk (fd_w x 11 1) (fd_w x 26 1)) (fd_w x 26 1 * 8388608 + lk (fd_w x 13 1) (fd_w x 26 1) * 4194304) (fd_w x 26 1 * 8388608 + lk (fd_w x 13 1) (fd_w x 26 1) * 4194304 + lk (fd_w x 11 1) (fd_w x 26 1) * 2097152) (fd_w x 26 1 * 8388608 + lk (fd_w x 13 1) (fd_w x 26 1) * 4194304 + lk (fd_w x 11 1) (fd_w x 26 1) * 2097152 + fd_w x 16 10 * 2048) (fd_w x 26 1 * 8388608 + lk (fd_w x 13 1) (fd_w x 26 1) * 4194304 + lk (fd_w x 11 1) (fd_w x 26 1) * 2097152 + fd_w x 16 10 * 2048 + fd_w x 0 11)
    b (signS_w (condX x : Nat) 21) (signS_w (farX x : Nat) 25) (decI b (branchI x) x)
    h10_1 k13_1 k11_1 kk12 k14_1 h6_4 h0_6 h0_10 k0_11 f26_1 f13_1 f11_1 f12_1 f14_1 f22_4 f16_6 f16_10 f0_11
    (u32_join (fd_w x 26 1 * 524288) (fd_w x 11 1 * 262144) 19 (by omega) (by omega) (by omega) (by omega)) (u32_join (fd_w x 26 1 * 524288 + fd_w x 11 1 * 262144) (fd_w x 13 1 * 131072) 18 (by omega) (by omega) (by omega) (by omega)) (u32_join (fd_w x 26 1 * 524288 + fd_w x 11 1 * 262144 + fd_w x 13 1 * 131072) (fd_w x 16 6 * 2048) 17 (by omega) (by omega) (by omega) (by omega)) (u32_join (fd_w x 26 1 * 524288 + fd_w x 11 1 * 262144 + fd_w x 13 1 * 131072 + fd_w x 16 6 * 2048) (fd_w x 0 11) 11 (by omega) (by omega) (by omega) (by omega)) (by omega)
    (xor_1 _ f13_1) (xor_lk _ _ f13_1 f26_1) (xor_1 _ f11_1) (xor_lk _ _ f11_1 f26_1) l1 l2
    (u32_join (fd_w x 26 1 * 8388608) (lk (fd_w x 13 1) (fd_w x 26 1) * 4194304) 23 (by omega) (by omega) (by omega) (by omega)) (u32_join (fd_w x 26 1 * 8388608 + lk (fd_w x 13 1) (fd_w x 26 1) * 4194304) (lk (fd_w x 11 1) (fd_w x 26 1) * 2097152) 22 (by omega) (by omega) (by omega) (by omega)) (u32_join (fd_w x 26 1 * 8388608 + lk (fd_w x 13 1) (fd_w x 26 1) * 4194304 + lk (fd_w x 11 1) (fd_w x 26 1) * 2097152) (fd_w x 16 10 * 2048) 21 (by omega) (by omega) (by omega) (by omega)) (u32_join (fd_w x 26 1 * 8388608 + lk (fd_w x 13 1) (fd_w x 26 1) * 4194304 + lk (fd_w x 11 1) (fd_w x 26 1) * 2097152 + fd_w x 16 10 * 2048) (fd_w x 0 11) 11 (by omega) (by omega) (by omega) (by omega)) (by omega)
    (fun w => by
      rw [s1]
      exact rSign_c (condX x : Nat) 21 (by decide) (by decide) (by omega) (by omega) w) (fun w => by
      rw [s2]
      exact rSign_c (farX x : Nat) 25 (by decide) (by decide) (by omega) (by omega) w) ?_ ?_ ?_ ?_ ?_ w
  · intro e12 ho
    have : branchI x = noneI 64 x := by
      rcases Nat.lt_or_ge (fd_w x 14 1) 1 with h14 | h14
      · rw [brI0 x (by omega) e12]
        exact cond_no x (by omega)
      · exact brI1 x (by omega) e12
    rw [this]
    cases b <;> rfl
  · intro e12 e14 hc hb
    rw [brI0 x e14 e12, cond_yes x hc, hb]
    have h1 : ((fd_w x 22 4 : Int) != 14) = true := by simp; omega
    show noneI 65 x = decI true (brI 54 (fd_w x 22 4 : Nat) (signS_w (condX x : Nat) 21)) x
    unfold decI
    show noneI 65 x = bif true && (true && ((fd_w x 22 4 : Nat) : Int) != 14) then noneI 65 x else _
    rw [h1]
    rfl
  · intro e12 e14 hc hb
    rw [brI0 x e14 e12, cond_yes x hc, hb]
    exact fin_yes' _ x rfl
  · intro e12 e14
    rw [brI2 x e14 e12]
    refine (fin_yes' _ x rfl).trans ?_
    cases b <;> rfl
  · intro e12 e14
    rw [brI3 x e14 e12]
    refine (fin_yes' _ x rfl).trans ?_
    cases b <;> rfl
end Go.Proofs.YtplhblhopaheeaaGreatDoor
