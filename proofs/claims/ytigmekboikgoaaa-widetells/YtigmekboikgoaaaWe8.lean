/- Stage 9: which lists there may be. -/
import Derived.Test.YtigmekboikgoaaaWe7
namespace Go.Proofs.Ytigmekboikgoaaa
open Go.ChangeShapes Go.WideShapes Go.ChangeAt Go.RowKit
set_option linter.unusedVariables false
set_option linter.unusedSimpArgs false

theorem i64_mid (x a s : Nat) (m : Int) (hx : x < 65536) (hm : m = (((2 ^ s - 1) * 2 ^ a : Nat) : Int)) (h32 : (2 ^ s - 1) * 2 ^ a < 65536) : bits .and .i64 (x : Int) m = ((fd x a s * 2 ^ a : Nat) : Int) := by
  rw [hm, (bits_nat .i64 33 (by decide) (fun n h1 h2 => by rw [IntKind.wrap_i64]; omega) _ _ (by omega) (by omega)).1, and_mid]
theorem i64_bitv (x n : Nat) (hx : x < 65536) : bits .and .i64 ((x : Int) / 2 ^ n) 1 = ((fd x n 1 : Nat) : Int) := by
  have : x / 2 ^ n ≤ x := Nat.div_le_self _ _
  rw [show ((x : Int) / 2 ^ n) = ((x / 2 ^ n : Nat) : Int) by simp, show (1 : Int) = ((2 ^ 1 - 1 : Nat) : Int) from rfl, (bits_nat .i64 33 (by decide) (fun n h1 h2 => by rw [IntKind.wrap_i64]; omega) _ _ (by omega) (by decide)).1, fd_land]
set_option maxHeartbeats 20000000 in
set_option maxRecDepth 100000 in
theorem mayL_c (ldm : Bool) (n l : Nat) (back down : Bool) (hn : n < 16) (hl : l < 65536) (w : World) : Calls Try.prog 48 #[(manyI ldm n l back down).val] w fun e w' => e = .returned (.bool (mayL ldm l n back)) ∧ Below w.heap.size w w' := by
  have k13 : bits .and .i64 (l : Int) 8192 = ((fd l 13 1 * 8192 : Nat) : Int) := i64_mid l 13 1 8192 hl rfl (by decide)
  have k15 : bits .and .i64 (l : Int) 32768 = ((fd l 15 1 * 32768 : Nat) : Int) := i64_mid l 15 1 32768 hl rfl (by decide)
  have k14 : bits .and .i64 (l : Int) 49152 = ((fd l 14 2 * 16384 : Nat) : Int) := i64_mid l 14 2 49152 hl rfl (by decide)
  have kn := i64_bitv l n hl
  have CP : Hid (∀ w, Calls Try.prog 84 #[.int .u64 l] w fun e w' => e = .returned (.int .i64 (popN l 16 : Nat)) ∧ w' = w) := fun w => by
    have := ones_c l hl w
    rw [ones_pop l hl] at this
    exact this
  have f13 : fd l 13 1 < 2 := fd_lt l 13 1
  have f15 : fd l 15 1 < 2 := fd_lt l 15 1
  have f14 : fd l 14 2 < 4 := fd_lt l 14 2
  have fn : fd l n 1 < 2 := fd_lt l n 1
  have n0 : (0 : Int) ≤ (n : Int) := by omega
  have hM : mayL ldm l n back = (!(Nat.beq (fd l 13 1) 1 || (Nat.ble (popN l 16) 1 || (back && Nat.beq (fd l n 1) 1))) && (bif ldm then !(Nat.beq (fd l 14 2) 3) else Nat.beq (fd l 15 1) 0)) := rfl
  generalize mayL ldm l n back = R at *
  generalize fd l 13 1 = g13 at *
  generalize fd l 15 1 = g15 at *
  generalize fd l 14 2 = g14 at *
  generalize fd l n 1 = gn at *
  generalize popN l 16 = p at *
  rcases (show g13 = 0 ∨ g13 = 1 by omega) with rfl | rfl
  focus
    rw [show ((0 * 8192 : Nat) : Int) = 0 from rfl] at k13
    rcases (show p < 2 ∨ 2 ≤ p by omega) with hp | hp
    focus
      have p1 : Nat.ble p 1 = true := by rw [nble]; simp; omega
      have p2 : decide ((p : Int) < 2) = true := by simp; omega
      have p3 : ((p : Int) < 2) = True := by simp; omega
      replace hM : R = false := by rw [hM]; first | rfl | (simp [nbeq, *]; done) | (simp [*]; done)
      rw [hM]
      clear hM
      clear hp
    rotate_left 1
    focus
      have p1 : Nat.ble p 1 = false := by rw [nble]; simp; omega
      have p2 : decide ((p : Int) < 2) = false := by simp; omega
      have p3 : ((p : Int) < 2) = False := by simp; omega
      cases back
      focus
        cases ldm
        focus
          rcases (show g15 = 0 ∨ g15 = 1 by omega) with rfl | rfl
          focus
            rw [show ((0 * 32768 : Nat) : Int) = 0 from rfl] at k15
            replace hM : R = true := by rw [hM]; first | rfl | (simp [nbeq, *]; done) | (simp [*]; done)
            rw [hM]
            clear hM
            clear hp
          rotate_left 1
          focus
            rw [show ((1 * 32768 : Nat) : Int) = 32768 from rfl] at k15
            replace hM : R = false := by rw [hM]; first | rfl | (simp [nbeq, *]; done) | (simp [*]; done)
            rw [hM]
            clear hM
            clear hp
          rotate_left 1
        rotate_left 2
        focus
          rcases (show g14 = 3 ∨ g14 ≠ 3 by omega) with rfl | h14
          focus
            rw [show ((3 * 16384 : Nat) : Int) = 49152 from rfl] at k14
            replace hM : R = false := by rw [hM]; first | rfl | (simp [nbeq, *]; done) | (simp [*]; done)
            rw [hM]
            clear hM
            clear hp
          rotate_left 1
          focus
            have q1 : Nat.beq g14 3 = false := by rw [nbeq]; simp; omega
            have q2 : ((((g14 * 16384 : Nat) : Int)) != 49152) = true := by simp; omega
            generalize ((g14 * 16384 : Nat) : Int) = y14 at *
            replace hM : R = true := by rw [hM]; first | rfl | (simp [nbeq, *]; done) | (simp [*]; done)
            rw [hM]
            clear hM
            clear hp h14
          rotate_left 1
        rotate_left 2
      rotate_left 4
      focus
        rcases (show gn = 0 ∨ gn = 1 by omega) with rfl | rfl
        focus
          cases ldm
          focus
            rcases (show g15 = 0 ∨ g15 = 1 by omega) with rfl | rfl
            focus
              rw [show ((0 * 32768 : Nat) : Int) = 0 from rfl] at k15
              replace hM : R = true := by rw [hM]; first | rfl | (simp [nbeq, *]; done) | (simp [*]; done)
              rw [hM]
              clear hM
              clear hp
            rotate_left 1
            focus
              rw [show ((1 * 32768 : Nat) : Int) = 32768 from rfl] at k15
              replace hM : R = false := by rw [hM]; first | rfl | (simp [nbeq, *]; done) | (simp [*]; done)
              rw [hM]
              clear hM
              clear hp
            rotate_left 1
          rotate_left 2
          focus
            rcases (show g14 = 3 ∨ g14 ≠ 3 by omega) with rfl | h14
            focus
              rw [show ((3 * 16384 : Nat) : Int) = 49152 from rfl] at k14
              replace hM : R = false := by rw [hM]; first | rfl | (simp [nbeq, *]; done) | (simp [*]; done)
              rw [hM]
              clear hM
              clear hp
            rotate_left 1
            focus
              have q1 : Nat.beq g14 3 = false := by rw [nbeq]; simp; omega
              have q2 : ((((g14 * 16384 : Nat) : Int)) != 49152) = true := by simp; omega
              generalize ((g14 * 16384 : Nat) : Int) = y14 at *
              replace hM : R = true := by rw [hM]; first | rfl | (simp [nbeq, *]; done) | (simp [*]; done)
              rw [hM]
              clear hM
              clear hp h14
            rotate_left 1
          rotate_left 2
        rotate_left 4
        focus
          replace hM : R = false := by rw [hM]; first | rfl | (simp [nbeq, *]; done) | (simp [*]; done)
          rw [hM]
          clear hM
          clear hp
        rotate_left 1
      rotate_left 5
    rotate_left 9
  rotate_left 10
  focus
    rw [show ((1 * 8192 : Nat) : Int) = 8192 from rfl] at k13
    replace hM : R = false := by rw [hM]; first | rfl | (simp [nbeq, *]; done) | (simp [*]; done)
    rw [hM]
    clear hM
  rotate_left 1
  all_goals
    go_enter Try.func48, Try.ntmps48
    have S := SH.start w
    go_wp2_with (first
      | ((with_reducible refine wpl_isDst 1 ?_); (first | refine S.boxA rfl 30 _ rfl _ rfl ?_ | refine SH.boxA (L := []) S rfl 30 _ rfl _ rfl ?_); clear S; intro b1 w1 S; (try (simp only [Cel.cells, IV.cellsL, zeroL, List.set_cons_zero, List.set_cons_succ, startI, secondI, noneI, manyI] at S)))
      | ((with_reducible refine wpl_isDst 5 ?_); refine S.ld 3 _ rfl b1 12 rfl 0 _ rfl _ rfl _ Try.underlying3 rfl rfl ?_)
      | ((with_reducible refine wpl_isDst 9 ?_); refine S.ld 3 _ rfl b1 12 rfl 0 _ rfl _ rfl _ Try.underlying3 rfl rfl ?_)
      | (go_at_call 84; refine (CP.out _).mono ?_; rintro e wf ⟨rfl, rfl⟩)
      | ((with_reducible refine wpl_isDst 14 ?_); refine S.ld 4 _ rfl b1 13 rfl 0 _ rfl _ rfl _ Try.underlying4 rfl rfl ?_)
      | ((with_reducible refine wpl_isDst 17 ?_); first | (refine wpl_skip rfl ?_) | refine S.ld 3 _ rfl b1 12 rfl 0 _ rfl _ rfl _ Try.underlying3 rfl rfl ?_)
      | ((with_reducible refine wpl_isDst 19 ?_); first | (refine wpl_skip rfl ?_) | refine S.ld 3 _ rfl b1 5 rfl 0 _ rfl _ rfl _ Try.underlying3 rfl rfl ?_)
      | ((with_reducible refine wpl_isDst 26 ?_); refine S.ld 3 _ rfl b1 0 rfl 0 _ rfl _ rfl _ Try.underlying3 rfl rfl ?_)
      | ((with_reducible refine wpl_isDst 29 ?_); refine S.ld 3 _ rfl b1 12 rfl 0 _ rfl _ rfl _ Try.underlying3 rfl rfl ?_)
      | ((with_reducible refine wpl_isDst 33 ?_); refine S.ld 3 _ rfl b1 12 rfl 0 _ rfl _ rfl _ Try.underlying3 rfl rfl ?_))
    go_ret
    exact ⟨rfl, S.low⟩
end Go.Proofs.Ytigmekboikgoaaa
