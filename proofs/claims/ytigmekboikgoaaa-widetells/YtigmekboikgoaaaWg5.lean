/- Stage 9: the document: which registers there may be. -/
import Derived.Test.YtigmekboikgoaaaWg1
namespace Go.Proofs.Ytigmekboikgoaaa
open Go.ChangeShapes Go.WideShapes Go.ChangeAt Go.RowKit
set_option linter.unusedVariables false
set_option linter.unusedSimpArgs false

set_option maxHeartbeats 20000000 in
set_option maxRecDepth 100000 in
theorem rmay_c (i : IV) (num : Bool) (w : World) : Calls Try.prog 60 #[i.val, .bool num] w fun e w' => e = .returned (.bool (mayS i num)) ∧ Below w.heap.size w w' := by
  obtain ⟨op, iw, is, ic, d, n, im, ia, ii, iu, ish, iam, il, ib, ido⟩ := i
  have CN : Hid (∀ w, Calls Try.prog 63 #[.int .i64 n] w fun e w' => e = .returned (.bool (oddS n)) ∧ w' = w) := rodd_c n
  have CD : Hid (∀ w, Calls Try.prog 63 #[.int .i64 d] w fun e w' => e = .returned (.bool (oddS d)) ∧ w' = w) := rodd_c d
  have hM : mayS ⟨op, iw, is, ic, d, n, im, ia, ii, iu, ish, iam, il, ib, ido⟩ num = (bif oddS n && !(n == 13 && (num && ((num && (op == 5 || op == 3)) || (op == 10 || op == 11)))) then false else !oddS d || (d == 13 && ((num && (op == 5 || op == 3)) && n == 13))) := rfl
  generalize mayS ⟨op, iw, is, ic, d, n, im, ia, ii, iu, ish, iam, il, ib, ido⟩ num = R at *
  generalize oddS n = rn at *
  generalize oddS d = rd at *
  cases num
  focus
    cases rn
    focus
      cases rd
      focus
        replace hM : R = true := by rw [hM]; simp [*]
        rw [hM]
        clear hM
      rotate_left 1
      focus
        cases hd13 : (d == 13)
        focus
          replace hM : R = false := by rw [hM]; simp [*]
          rw [hM]
          clear hM
        rotate_left 1
        focus
          replace hM : R = false := by rw [hM]; simp [*]
          rw [hM]
          clear hM
        rotate_left 1
      rotate_left 2
    rotate_left 3
    focus
      cases hn13 : (n == 13)
      focus
        replace hM : R = false := by rw [hM]; simp [*]
        rw [hM]
        clear hM
      rotate_left 1
      focus
        replace hM : R = false := by rw [hM]; simp [*]
        rw [hM]
        clear hM
      rotate_left 1
    rotate_left 2
  rotate_left 5
  focus
    cases ho5 : (op == 5)
    focus
      cases ho3 : (op == 3)
      focus
        cases rn
        focus
          cases rd
          focus
            replace hM : R = true := by rw [hM]; simp [*]
            rw [hM]
            clear hM
          rotate_left 1
          focus
            cases hd13 : (d == 13)
            focus
              replace hM : R = false := by rw [hM]; simp [*]
              rw [hM]
              clear hM
            rotate_left 1
            focus
              replace hM : R = false := by rw [hM]; simp [*]
              rw [hM]
              clear hM
            rotate_left 1
          rotate_left 2
        rotate_left 3
        focus
          cases hn13 : (n == 13)
          focus
            replace hM : R = false := by rw [hM]; simp [*]
            rw [hM]
            clear hM
          rotate_left 1
          focus
            cases ho10 : (op == 10)
            focus
              cases ho11 : (op == 11)
              focus
                replace hM : R = false := by rw [hM]; simp [*]
                rw [hM]
                clear hM
              rotate_left 1
              focus
                cases rd
                focus
                  replace hM : R = true := by rw [hM]; simp [*]
                  rw [hM]
                  clear hM
                rotate_left 1
                focus
                  cases hd13 : (d == 13)
                  focus
                    replace hM : R = false := by rw [hM]; simp [*]
                    rw [hM]
                    clear hM
                  rotate_left 1
                  focus
                    replace hM : R = false := by rw [hM]; simp [*]
                    rw [hM]
                    clear hM
                  rotate_left 1
                rotate_left 2
              rotate_left 3
            rotate_left 4
            focus
              cases rd
              focus
                replace hM : R = true := by rw [hM]; simp [*]
                rw [hM]
                clear hM
              rotate_left 1
              focus
                cases hd13 : (d == 13)
                focus
                  replace hM : R = false := by rw [hM]; simp [*]
                  rw [hM]
                  clear hM
                rotate_left 1
                focus
                  replace hM : R = false := by rw [hM]; simp [*]
                  rw [hM]
                  clear hM
                rotate_left 1
              rotate_left 2
            rotate_left 3
          rotate_left 7
        rotate_left 8
      rotate_left 11
      focus
        cases rn
        focus
          cases rd
          focus
            replace hM : R = true := by rw [hM]; simp [*]
            rw [hM]
            clear hM
          rotate_left 1
          focus
            cases hd13 : (d == 13)
            focus
              replace hM : R = false := by rw [hM]; simp [*]
              rw [hM]
              clear hM
            rotate_left 1
            focus
              cases hn13 : (n == 13)
              focus
                replace hM : R = false := by rw [hM]; simp [*]
                rw [hM]
                clear hM
              rotate_left 1
              focus
                replace hM : R = true := by rw [hM]; simp [*]
                rw [hM]
                clear hM
              rotate_left 1
            rotate_left 2
          rotate_left 3
        rotate_left 4
        focus
          cases hn13 : (n == 13)
          focus
            replace hM : R = false := by rw [hM]; simp [*]
            rw [hM]
            clear hM
          rotate_left 1
          focus
            cases rd
            focus
              replace hM : R = true := by rw [hM]; simp [*]
              rw [hM]
              clear hM
            rotate_left 1
            focus
              cases hd13 : (d == 13)
              focus
                replace hM : R = false := by rw [hM]; simp [*]
                rw [hM]
                clear hM
              rotate_left 1
              focus
                replace hM : R = true := by rw [hM]; simp [*]
                rw [hM]
                clear hM
              rotate_left 1
            rotate_left 2
          rotate_left 3
        rotate_left 4
      rotate_left 8
    rotate_left 19
    focus
      cases rn
      focus
        cases rd
        focus
          replace hM : R = true := by rw [hM]; simp [*]
          rw [hM]
          clear hM
        rotate_left 1
        focus
          cases hd13 : (d == 13)
          focus
            replace hM : R = false := by rw [hM]; simp [*]
            rw [hM]
            clear hM
          rotate_left 1
          focus
            cases hn13 : (n == 13)
            focus
              replace hM : R = false := by rw [hM]; simp [*]
              rw [hM]
              clear hM
            rotate_left 1
            focus
              replace hM : R = true := by rw [hM]; simp [*]
              rw [hM]
              clear hM
            rotate_left 1
          rotate_left 2
        rotate_left 3
      rotate_left 4
      focus
        cases hn13 : (n == 13)
        focus
          replace hM : R = false := by rw [hM]; simp [*]
          rw [hM]
          clear hM
        rotate_left 1
        focus
          cases rd
          focus
            replace hM : R = true := by rw [hM]; simp [*]
            rw [hM]
            clear hM
          rotate_left 1
          focus
            cases hd13 : (d == 13)
            focus
              replace hM : R = false := by rw [hM]; simp [*]
              rw [hM]
              clear hM
            rotate_left 1
            focus
              replace hM : R = true := by rw [hM]; simp [*]
              rw [hM]
              clear hM
            rotate_left 1
          rotate_left 2
        rotate_left 3
      rotate_left 4
    rotate_left 8
  rotate_left 27
  all_goals
    go_enter Try.func60, Try.ntmps60
    have S := SH.start w
    go_wp2_with (first
      | ((with_reducible refine wpl_isDst 2 ?_); (first | refine S.boxA rfl 30 _ rfl _ rfl ?_ | refine SH.boxA (L := []) S rfl 30 _ rfl _ rfl ?_); clear S; intro b2 w2 S; (try (simp only [Cel.cells, IV.cellsL, zeroL, List.set_cons_zero, List.set_cons_succ, startI, secondI, noneI, startI] at S)))
      | ((with_reducible refine wpl_isDst 9 ?_); first | (refine wpl_skip rfl ?_) | refine S.ld 3 _ rfl b2 0 rfl 0 _ rfl _ rfl _ Try.underlying3 rfl rfl ?_)
      | ((with_reducible refine wpl_isDst 13 ?_); first | (refine wpl_skip rfl ?_) | refine S.ld 3 _ rfl b2 0 rfl 0 _ rfl _ rfl _ Try.underlying3 rfl rfl ?_)
      | ((with_reducible refine wpl_isDst 18 ?_); refine S.ld 3 _ rfl b2 5 rfl 0 _ rfl _ rfl _ Try.underlying3 rfl rfl ?_)
      | (go_at_call 63; first | (with_reducible refine (CN.out _).mono ?_; rintro e wf ⟨rfl, rfl⟩) | (with_reducible refine (CD.out _).mono ?_; rintro e wf ⟨rfl, rfl⟩))
      | ((with_reducible refine wpl_isDst 22 ?_); first | (refine wpl_skip rfl ?_) | refine S.ld 3 _ rfl b2 5 rfl 0 _ rfl _ rfl _ Try.underlying3 rfl rfl ?_)
      | ((with_reducible refine wpl_isDst 31 ?_); first | (refine wpl_skip rfl ?_) | refine S.ld 3 _ rfl b2 0 rfl 0 _ rfl _ rfl _ Try.underlying3 rfl rfl ?_)
      | ((with_reducible refine wpl_isDst 36 ?_); first | (refine wpl_skip rfl ?_) | refine S.ld 3 _ rfl b2 0 rfl 0 _ rfl _ rfl _ Try.underlying3 rfl rfl ?_)
      | ((with_reducible refine wpl_isDst 43 ?_); refine S.ld 3 _ rfl b2 4 rfl 0 _ rfl _ rfl _ Try.underlying3 rfl rfl ?_)
      | ((with_reducible refine wpl_isDst 48 ?_); first | (refine wpl_skip rfl ?_) | refine S.ld 3 _ rfl b2 4 rfl 0 _ rfl _ rfl _ Try.underlying3 rfl rfl ?_)
      | ((with_reducible refine wpl_isDst 55 ?_); first | (refine wpl_skip rfl ?_) | refine S.ld 3 _ rfl b2 5 rfl 0 _ rfl _ rfl _ Try.underlying3 rfl rfl ?_))
    go_ret
    exact ⟨rfl, S.low⟩
end Go.Proofs.Ytigmekboikgoaaa
