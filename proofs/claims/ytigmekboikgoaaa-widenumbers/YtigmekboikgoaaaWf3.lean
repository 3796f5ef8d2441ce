/- Stage 9: the words of Movs. -/
import Derived.Test.YtigmekboikgoaaaWf2
namespace Go.Proofs.Ytigmekboikgoaaa
open Go.ChangeShapes Go.WideShapes Go.ChangeAt Go.RowKit
set_option linter.unusedVariables false
set_option linter.unusedSimpArgs false

theorem numB_lt (v : Nat) : numB v < 67141632 := by
  unfold numB
  have := Nat.mod_lt (v / 2048) (show 0 < 2 by decide)
  have := Nat.mod_lt (v / 256) (show 0 < 8 by decide)
  have := Nat.mod_lt v (show 0 < 256 by decide)
  omega
theorem or_nat {x y z : Nat} (hx : x < 4294967296) (hy : y < 4294967296) (h : bits .or .u32 (x : Int) (y : Int) = (z : Int)) : x ||| y = z := by
  rw [u32_or_nat _ _ hx hy] at h
  exact Int.ofNat.inj h
/-- A number's bits among those of a row. -/
theorem or_num (A B n r v : Nat) (hA : A % 134217728 = 0) (hA1 : A < 4026531841) (hB : B % 1048576 = 0) (hB1 : B < 67108864) (hn : n < 16) (hr : r < 16) : bits .or .u32 ((A + B + (n * 65536 + r * 256) : Nat) : Int) (numB v : Nat) = ((A + B + (n * 65536 + r * 256) + numB v : Nat) : Int) := by
  have a1 := Nat.mod_lt (v / 2048) (show 0 < 2 by decide)
  have a2 := Nat.mod_lt (v / 256) (show 0 < 8 by decide)
  have a3 := Nat.mod_lt v (show 0 < 256 by decide)
  have hN : numB v = v / 2048 % 2 * 67108864 + v / 256 % 8 * 4096 + v % 256 := rfl
  have hlt := numB_lt v
  generalize v / 2048 % 2 = b at *
  generalize v / 256 % 8 = m at *
  generalize v % 256 = l at *
  have s1 := or_nat (by omega) (by omega) (u32_between A (b * 67108864) (B + (n * 65536 + r * 256)) 26 27 (by omega) (by omega) (by omega) (by omega) (by omega) (by omega))
  have s2 := or_nat (by omega) (by omega) (u32_between (A + b * 67108864 + B + n * 65536) (m * 4096) (r * 256) 12 15 (by omega) (by omega) (by omega) (by omega) (by omega) (by omega))
  have s3 := or_nat (by omega) (by omega) (u32_join (A + b * 67108864 + B + n * 65536 + m * 4096 + r * 256) l 8 (by omega) (by omega) (by omega) (by omega))
  have n1 := or_nat (by omega) (by omega) (u32_join (b * 67108864) (m * 4096) 15 (by omega) (by omega) (by omega) (by omega))
  have n2 := or_nat (by omega) (by omega) (u32_join (b * 67108864 + m * 4096) l 12 (by omega) (by omega) (by omega) (by omega))
  rw [u32_or_nat _ _ (by omega) (by omega)]
  refine congrArg _ ?_
  rw [hN, ← n2, ← n1, ← Nat.or_assoc, ← Nat.or_assoc, show A + B + (n * 65536 + r * 256) = A + (B + (n * 65536 + r * 256)) by omega, s1, show A + b * 67108864 + (B + (n * 65536 + r * 256)) = A + b * 67108864 + B + n * 65536 + r * 256 by omega, s2, s3, n1, n2]
  omega
def wordP (r v : Nat) : Nat := 4026531840 + 37748736 + (v / 4096 % 16 * 65536 + r * 256) + numB v
def wordM (s : Bool) (r n : Nat) : Nat := 4026531840 + (4194304 + sB s) + (15 * 65536 + r * 256) + numB n
set_option maxHeartbeats 20000000 in
set_option maxRecDepth 100000 in
theorem plainWM_c (r v : Nat) (hr : r < 16) (hv : v < 4294967296) (w : World) : Calls Try.prog 69 #[(movJ false r v 2).val] w fun e w' => e = .returned (.int .u32 (wordP r v : Nat)) ∧ Below w.heap.size w w' := by
  have C4 : Hid (∀ w, Calls Try.prog 67 #[.int .i64 r, .int .i64 ((v : Int) / 4096), .int .i64 0, .int .i64 0] w fun e w' => e = .returned (.int .u32 ((v / 4096 % 16 * 65536 + r * 256 : Nat) : Int)) ∧ w' = w) := fun w => by
    have h := four_c r (v / 4096) 0 0 (by omega) (by omega) (by decide) (by decide) w
    rw [show fourB r (v / 4096) 0 0 = v / 4096 % 16 * 65536 + r * 256 by unfold fourB; omega] at h
    exact h
  have CB : Hid (∀ w, Calls Try.prog 72 #[.int .i64 v] w fun e w' => e = .returned (.int .u32 (numB v : Nat)) ∧ w' = w) := numberBits_c v (by omega)
  have o1 : bits .or .u32 4064280576 ((v / 4096 % 16 * 65536 + r * 256 : Nat) : Int) = ((4026531840 + 37748736 + (v / 4096 % 16 * 65536 + r * 256) : Nat) : Int) := u32_join 4064280576 _ 20 (by decide) (by decide) (by omega) (by omega)
  have o2 : bits .or .u32 ((4026531840 + 37748736 + (v / 4096 % 16 * 65536 + r * 256) : Nat) : Int) (numB v : Nat) = (wordP r v : Nat) := or_num 4026531840 37748736 (v / 4096 % 16) r v (by decide) (by decide) (by decide) (by decide) (by omega) hr
  obtain ⟨q1, e1⟩ : ∃ q1, 4026531840 + 37748736 + (v / 4096 % 16 * 65536 + r * 256) = q1 := ⟨_, rfl⟩
  rw [e1] at o1 o2
  clear e1
  obtain ⟨q2, e2⟩ : ∃ q2, v / 4096 % 16 * 65536 + r * 256 = q2 := ⟨_, rfl⟩
  rw [e2] at o1 C4
  clear e2
  obtain ⟨q3, e3⟩ : ∃ q3, numB v = q3 := ⟨_, rfl⟩
  rw [e3] at o2 CB
  clear e3
  obtain ⟨X, e4⟩ : ∃ X, wordP r v = X := ⟨_, rfl⟩
  rw [e4] at o2 ⊢
  clear e4
  go_enter Try.func69, Try.ntmps69
  have S := SH.start w
  go_wp2_with (first
    | ((with_reducible refine wpl_isDst 1 ?_); (first | refine S.boxA rfl 30 _ rfl _ rfl ?_ | refine SH.boxA (L := []) S rfl 30 _ rfl _ rfl ?_); clear S; intro b1 w1 S; (try (simp only [Cel.cells, IV.cellsL, zeroL, List.set_cons_zero, List.set_cons_succ, startI, secondI, noneI, movJ] at S)))
    | ((with_reducible refine wpl_isDst 5 ?_); refine S.ld 28 _ rfl b1 8 rfl 0 _ rfl _ rfl _ Try.underlying28 rfl rfl ?_)
    | ((with_reducible refine wpl_isDst 8 ?_); refine S.ld 3 _ rfl b1 0 rfl 0 _ rfl _ rfl _ Try.underlying3 rfl rfl ?_)
    | ((with_reducible refine wpl_isDst 12 ?_); refine S.ld 3 _ rfl b1 4 rfl 0 _ rfl _ rfl _ Try.underlying3 rfl rfl ?_)
    | ((with_reducible refine wpl_isDst 14 ?_); refine S.ld 3 _ rfl b1 5 rfl 0 _ rfl _ rfl _ Try.underlying3 rfl rfl ?_)
    | (go_at_call 67; refine (C4.out _).mono ?_; rintro e wf ⟨rfl, rfl⟩)
    | (go_at_call 72; refine (CB.out _).mono ?_; rintro e wf ⟨rfl, rfl⟩)
    | ((with_reducible refine wpl_isDst 23 ?_); refine S.ld 3 _ rfl b1 4 rfl 0 _ rfl _ rfl _ Try.underlying3 rfl rfl ?_)
    | ((with_reducible refine wpl_isDst 25 ?_); refine S.ld 3 _ rfl b1 5 rfl 0 _ rfl _ rfl _ Try.underlying3 rfl rfl ?_)
    | ((with_reducible refine wpl_isDst 34 ?_); refine S.ld 3 _ rfl b1 4 rfl 0 _ rfl _ rfl _ Try.underlying3 rfl rfl ?_)
    | ((with_reducible refine wpl_isDst 45 ?_); refine S.ld 3 _ rfl b1 4 rfl 0 _ rfl _ rfl _ Try.underlying3 rfl rfl ?_))
  go_ret
  exact ⟨rfl, S.low⟩
set_option maxHeartbeats 20000000 in
set_option maxRecDepth 100000 in
theorem dataWP_c (r v : Nat) (hr : r < 16) (hv : v < 4294967296) (w : World) : Calls Try.prog 36 #[(movJ false r v 2).val] w fun e w' => e = .returned (.int .u32 (wordP r v : Nat)) ∧ Below w.heap.size w w' := by
  go_enter Try.func36, Try.ntmps36
  have S := SH.start w
  go_wp2_with (first
    | ((with_reducible refine wpl_isDst 1 ?_); (first | refine S.boxA rfl 30 _ rfl _ rfl ?_ | refine SH.boxA (L := []) S rfl 30 _ rfl _ rfl ?_); clear S; intro b1 w1 S; (try (simp only [Cel.cells, IV.cellsL, zeroL, List.set_cons_zero, List.set_cons_succ, startI, secondI, noneI, movJ] at S)))
    | ((with_reducible refine wpl_isDst 8 ?_); refine S.ld 3 _ rfl b1 0 rfl 0 _ rfl _ rfl _ Try.underlying3 rfl rfl ?_)
    | ((with_reducible refine wpl_isDst 15 ?_); refine S.ld 3 _ rfl b1 0 rfl 0 _ rfl _ rfl _ Try.underlying3 rfl rfl ?_)
    | ((with_reducible refine wpl_isDst 18 ?_); refine S.ld 3 _ rfl b1 4 rfl 0 _ rfl _ rfl _ Try.underlying3 rfl rfl ?_)
    | ((with_reducible refine wpl_isDst 20 ?_); refine S.ld 3 _ rfl b1 5 rfl 0 _ rfl _ rfl _ Try.underlying3 rfl rfl ?_)
    | ((with_reducible refine wpl_isDst 22 ?_); refine S.ld 3 _ rfl b1 6 rfl 0 _ rfl _ rfl _ Try.underlying3 rfl rfl ?_)
    | ((with_reducible refine wpl_isDst 26 ?_); refine S.ld 4 _ rfl b1 2 rfl 0 _ rfl _ rfl _ Try.underlying4 rfl rfl ?_)
    | ((with_reducible refine wpl_isDst 33 ?_); refine S.ld 4 _ rfl b1 9 rfl 0 _ rfl _ rfl _ Try.underlying4 rfl rfl ?_)
    | ((with_reducible refine wpl_isDst 36 ?_); first | (refine wpl_skip rfl ?_) | refine S.ld 3 _ rfl b1 7 rfl 0 _ rfl _ rfl _ Try.underlying3 rfl rfl ?_)
    | ((with_reducible refine wpl_isDst 39 ?_); refine S.ldAll 30 _ rfl b1 rfl 0 _ rfl _ Try.underlying30 rfl (szA _ rfl) rfl ?_)
    | (go_at_call 69; refine (plainWM_c r v hr hv _).mono ?_; rintro e wf ⟨rfl, hbf⟩; replace S := S.below hbf; clear hbf)
    | ((with_reducible refine wpl_isDst 43 ?_); refine S.ld 4 _ rfl b1 9 rfl 0 _ rfl _ rfl _ Try.underlying4 rfl rfl ?_)
    | ((with_reducible refine wpl_isDst 46 ?_); refine S.ld 28 _ rfl b1 8 rfl 0 _ rfl _ rfl _ Try.underlying28 rfl rfl ?_)
    | ((with_reducible refine wpl_isDst 50 ?_); refine S.ldAll 30 _ rfl b1 rfl 0 _ rfl _ Try.underlying30 rfl (szA _ rfl) rfl ?_)
    | ((with_reducible refine wpl_isDst 59 ?_); refine S.ld 3 _ rfl b1 10 rfl 0 _ rfl _ rfl _ Try.underlying3 rfl rfl ?_)
    | ((with_reducible refine wpl_isDst 61 ?_); refine S.ld 3 _ rfl b1 11 rfl 0 _ rfl _ rfl _ Try.underlying3 rfl rfl ?_)
    | ((with_reducible refine wpl_isDst 65 ?_); refine S.ldAll 30 _ rfl b1 rfl 0 _ rfl _ Try.underlying30 rfl (szA _ rfl) rfl ?_)
    | ((with_reducible refine wpl_isDst 69 ?_); refine S.ld 3 _ rfl b1 6 rfl 0 _ rfl _ rfl _ Try.underlying3 rfl rfl ?_))
  go_ret
  exact ⟨rfl, S.low⟩
set_option maxHeartbeats 20000000 in
set_option maxRecDepth 100000 in
theorem dataWM_c (s : Bool) (r v a n : Nat) (ok : Bool) (hr : r < 16) (hv : v < 4294967296) (ha : a < 2) (hn : n < 4096) (hc : compressS (v : Nat) = ((n : Int), ok)) (w : World) : Calls Try.prog 36 #[(movJ s r v a).val] w fun e w' => e = .returned (.int .u32 (wordM s r n : Nat)) ∧ Below w.heap.size w w' := by
  have CC : Hid (∀ w, Calls Try.prog 70 #[.int .u32 v] w fun e w' => e = .returned (.tuple #[.int .u32 n, .bool ok]) ∧ w' = w) := fun w => by
    have h := compress_c (v : Nat) (by omega) (by omega) w
    rw [hc] at h
    exact h
  have CD : Hid (∀ w, Calls Try.prog 71 #[(movJ s r v a).val] w fun e w' => e = .returned (.int .u32 ((4194304 + sB s + (983040 + r * 256) : Nat) : Int)) ∧ Below w.heap.size w w') := dataBM_c s r v a hr
  have CB : Hid (∀ w, Calls Try.prog 72 #[.int .i64 n] w fun e w' => e = .returned (.int .u32 (numB n : Nat)) ∧ w' = w) := numberBits_c n (by omega)
  have hs := sB_le s
  have o1 : bits .or .u32 4026531840 ((4194304 + sB s + (983040 + r * 256) : Nat) : Int) = ((4026531840 + (4194304 + sB s) + (15 * 65536 + r * 256) : Nat) : Int) := by
    have := u32_join 4026531840 (4194304 + sB s + (983040 + r * 256)) 27 (by decide) (by decide) (by omega) (by omega)
    rw [show 4026531840 + (4194304 + sB s) + (15 * 65536 + r * 256) = 4026531840 + (4194304 + sB s + (983040 + r * 256)) by omega]
    exact this
  have o2 : bits .or .u32 ((4026531840 + (4194304 + sB s) + (15 * 65536 + r * 256) : Nat) : Int) (numB n : Nat) = (wordM s r n : Nat) := or_num 4026531840 (4194304 + sB s) 15 r n (by decide) (by decide) (by omega) (by omega) (by decide) hr
  have ha2 : ((a : Int) == 2) = false := by simp; omega
  clear hs
  obtain ⟨q1, e1⟩ : ∃ q1, 4026531840 + (4194304 + sB s) + (15 * 65536 + r * 256) = q1 := ⟨_, rfl⟩
  rw [e1] at o1 o2
  clear e1
  obtain ⟨q2, e2⟩ : ∃ q2, 4194304 + sB s + (983040 + r * 256) = q2 := ⟨_, rfl⟩
  rw [e2] at o1 CD
  clear e2
  obtain ⟨q3, e3⟩ : ∃ q3, numB n = q3 := ⟨_, rfl⟩
  rw [e3] at o2 CB
  clear e3
  obtain ⟨X, e4⟩ : ∃ X, wordM s r n = X := ⟨_, rfl⟩
  rw [e4] at o2 ⊢
  clear e4 hc
  go_enter Try.func36, Try.ntmps36
  have S := SH.start w
  go_wp2_with (first
    | ((with_reducible refine wpl_isDst 1 ?_); (first | refine S.boxA rfl 30 _ rfl _ rfl ?_ | refine SH.boxA (L := []) S rfl 30 _ rfl _ rfl ?_); clear S; intro b1 w1 S; (try (simp only [Cel.cells, IV.cellsL, zeroL, List.set_cons_zero, List.set_cons_succ, startI, secondI, noneI, movJ] at S)))
    | ((with_reducible refine wpl_isDst 8 ?_); refine S.ld 3 _ rfl b1 0 rfl 0 _ rfl _ rfl _ Try.underlying3 rfl rfl ?_)
    | ((with_reducible refine wpl_isDst 15 ?_); refine S.ld 3 _ rfl b1 0 rfl 0 _ rfl _ rfl _ Try.underlying3 rfl rfl ?_)
    | ((with_reducible refine wpl_isDst 18 ?_); refine S.ld 3 _ rfl b1 4 rfl 0 _ rfl _ rfl _ Try.underlying3 rfl rfl ?_)
    | ((with_reducible refine wpl_isDst 20 ?_); refine S.ld 3 _ rfl b1 5 rfl 0 _ rfl _ rfl _ Try.underlying3 rfl rfl ?_)
    | ((with_reducible refine wpl_isDst 22 ?_); refine S.ld 3 _ rfl b1 6 rfl 0 _ rfl _ rfl _ Try.underlying3 rfl rfl ?_)
    | ((with_reducible refine wpl_isDst 26 ?_); refine S.ld 4 _ rfl b1 2 rfl 0 _ rfl _ rfl _ Try.underlying4 rfl rfl ?_)
    | ((with_reducible refine wpl_isDst 33 ?_); refine S.ld 4 _ rfl b1 9 rfl 0 _ rfl _ rfl _ Try.underlying4 rfl rfl ?_)
    | ((with_reducible refine wpl_isDst 36 ?_); first | (refine wpl_skip rfl ?_) | refine S.ld 3 _ rfl b1 7 rfl 0 _ rfl _ rfl _ Try.underlying3 rfl rfl ?_)
    | ((with_reducible refine wpl_isDst 39 ?_); refine S.ldAll 30 _ rfl b1 rfl 0 _ rfl _ Try.underlying30 rfl (szA _ rfl) rfl ?_)
    | ((with_reducible refine wpl_isDst 43 ?_); refine S.ld 4 _ rfl b1 9 rfl 0 _ rfl _ rfl _ Try.underlying4 rfl rfl ?_)
    | ((with_reducible refine wpl_isDst 46 ?_); refine S.ld 28 _ rfl b1 8 rfl 0 _ rfl _ rfl _ Try.underlying28 rfl rfl ?_)
    | (go_at_call 70; refine (CC.out _).mono ?_; rintro e wf ⟨rfl, rfl⟩)
    | ((with_reducible refine wpl_isDst 50 ?_); refine S.ldAll 30 _ rfl b1 rfl 0 _ rfl _ Try.underlying30 rfl (szA _ rfl) rfl ?_)
    | (go_at_call 71; refine (CD.out _).mono ?_; rintro e wf ⟨rfl, hbf⟩; replace S := S.below hbf; clear hbf)
    | (go_at_call 72; refine (CB.out _).mono ?_; rintro e wf ⟨rfl, rfl⟩)
    | ((with_reducible refine wpl_isDst 59 ?_); refine S.ld 3 _ rfl b1 10 rfl 0 _ rfl _ rfl _ Try.underlying3 rfl rfl ?_)
    | ((with_reducible refine wpl_isDst 61 ?_); refine S.ld 3 _ rfl b1 11 rfl 0 _ rfl _ rfl _ Try.underlying3 rfl rfl ?_)
    | ((with_reducible refine wpl_isDst 65 ?_); refine S.ldAll 30 _ rfl b1 rfl 0 _ rfl _ Try.underlying30 rfl (szA _ rfl) rfl ?_)
    | ((with_reducible refine wpl_isDst 69 ?_); refine S.ld 3 _ rfl b1 6 rfl 0 _ rfl _ rfl _ Try.underlying3 rfl rfl ?_))
  go_ret
  exact ⟨rfl, S.low⟩
set_option maxHeartbeats 20000000 in
set_option maxRecDepth 100000 in
theorem wordMv_c (s : Bool) (r v a x : Nat) (C : ∀ w, Calls Try.prog 36 #[(movJ s r v a).val] w fun e w' => e = .returned (.int .u32 (x : Nat)) ∧ Below w.heap.size w w') (w : World) : Calls Try.prog 17 #[(movJ s r v a).val] w fun e w' => e = .returned (.int .u32 (x : Nat)) ∧ Below w.heap.size w w' := by
  have CC : Hid (∀ w1, Calls Try.prog 35 #[.int .i64 13] w1 fun e w' => e = .returned (.int .i64 1) ∧ w' = w1) := fun w1 => class_c 13 w1
  have CD : Hid _ := C
  clear C
  go_enter Try.func17, Try.ntmps17
  have S := SH.start w
  go_wp2_with (first
    | ((with_reducible refine wpl_isDst 1 ?_); (first | refine S.boxA rfl 30 _ rfl _ rfl ?_ | refine SH.boxA (L := []) S rfl 30 _ rfl _ rfl ?_); clear S; intro b1 w1 S; (try (simp only [Cel.cells, IV.cellsL, zeroL, List.set_cons_zero, List.set_cons_succ, startI, secondI, noneI, movJ] at S)))
    | ((with_reducible refine wpl_isDst 4 ?_); refine S.ld 3 _ rfl b1 0 rfl 0 _ rfl _ rfl _ Try.underlying3 rfl rfl ?_)
    | (go_at_call 35; refine (CC.out _).mono ?_; rintro e wf ⟨rfl, rfl⟩)
    | ((with_reducible refine wpl_isDst 8 ?_); refine S.ldAll 30 _ rfl b1 rfl 0 _ rfl _ Try.underlying30 rfl (szA _ rfl) rfl ?_)
    | (go_at_call 36; refine (CD.out _).mono ?_; rintro e wf ⟨rfl, hbf⟩; replace S := S.below hbf; clear hbf)
    | ((with_reducible refine wpl_isDst 12 ?_); refine S.ldAll 30 _ rfl b1 rfl 0 _ rfl _ Try.underlying30 rfl (szA _ rfl) rfl ?_)
    | ((with_reducible refine wpl_isDst 16 ?_); refine S.ldAll 30 _ rfl b1 rfl 0 _ rfl _ Try.underlying30 rfl (szA _ rfl) rfl ?_)
    | ((with_reducible refine wpl_isDst 20 ?_); refine S.ldAll 30 _ rfl b1 rfl 0 _ rfl _ Try.underlying30 rfl (szA _ rfl) rfl ?_)
    | ((with_reducible refine wpl_isDst 24 ?_); refine S.ldAll 30 _ rfl b1 rfl 0 _ rfl _ Try.underlying30 rfl (szA _ rfl) rfl ?_)
    | ((with_reducible refine wpl_isDst 28 ?_); refine S.ldAll 30 _ rfl b1 rfl 0 _ rfl _ Try.underlying30 rfl (szA _ rfl) rfl ?_))
  go_ret
  exact ⟨rfl, S.low⟩
end Go.Proofs.Ytigmekboikgoaaa
