/- Stage 9: the document: which registers there may be. -/
import Derived.Test.YtplhblhopaheeaaGreatDoorWg1
import Derived.Test.YtplhblhopaheeaaGreatDoorYa
namespace Go.Proofs.YtplhblhopaheeaaGreatDoor
open Go.ChangeShapes Go.WideShapes Go.ChangeAt Go.RowKit
set_option linter.unusedVariables false
set_option linter.unusedSimpArgs false
set_option maxHeartbeats 20000000
set_option maxRecDepth 100000

theorem rmay_c (i : IV) (num : Bool) (w : World) : Calls Tryz.prog 117 #[i.val, .bool num] w fun e w' => e = .returned (.bool (mayS i num)) ∧ Below w.heap.size w w' := by
  obtain ⟨op, iw, is, ic, d, n, im, ia, ii, iu, ish, iam, il, ib, ido⟩ := i
  have CN : Hid (∀ w, Calls Tryz.prog 120 #[.int .i64 n] w fun e w' => e = .returned (.bool (oddS n)) ∧ w' = w) := rodd_c n
  have CD : Hid (∀ w, Calls Tryz.prog 120 #[.int .i64 d] w fun e w' => e = .returned (.bool (oddS d)) ∧ w' = w) := rodd_c d
  have hM : mayS ⟨op, iw, is, ic, d, n, im, ia, ii, iu, ish, iam, il, ib, ido⟩ num = (bif oddS n && !(n == 13 && (num && ((num && (op == 5 || op == 3)) || (op == 10 || op == 11)))) then false else !oddS d || (d == 13 && ((num && (op == 5 || op == 3)) && n == 13))) := rfl
  generalize mayS ⟨op, iw, is, ic, d, n, im, ia, ii, iu, ish, iam, il, ib, ido⟩ num = R at *
  generalize oddS n = rn at *
  generalize oddS d = rd at *
  cases num
  focus
    cases rn
    focus
      cases rd
      focus
        replace hM : R = true := by rw [hM]; simp [*]
        rw [hM]
        clear hM
      rotate_left 1
      focus
        cases hd13 : (d == 13)
        focus
          replace hM : R = false := by rw [hM]; simp [*]
          rw [hM]
          clear hM
        rotate_left 1
        focus
          replace hM : R = false := by rw [hM]; simp [*]
          rw [hM]
          clear hM
        rotate_left 1
      rotate_left 2
    rotate_left 3
    focus
      cases hn13 : (n == 13)
      focus
        replace hM : R = false := by rw [hM]; simp [*]
        rw [hM]
        clear hM
      rotate_left 1
      focus
        replace hM : R = false := by rw [hM]; simp [*]
        rw [hM]
        clear hM
      rotate_left 1
    rotate_left 2
  rotate_left 5
  focus
    cases ho5 : (op == 5)
    focus
      cases ho3 : (op == 3)
      focus
        cases rn
        focus
          cases rd
          focus
            replace hM : R = true := by rw [hM]; simp [*]
            rw [hM]
            clear hM
          rotate_left 1
          focus
            cases hd13 : (d == 13)
            focus
              replace hM : R = false := by rw [hM]; simp [*]
              rw [hM]
              clear hM
            rotate_left 1
            focus
              replace hM : R = false := by rw [hM]; simp [*]
              rw [hM]
              clear hM
            rotate_left 1
          rotate_left 2
        rotate_left 3
        focus
          cases hn13 : (n == 13)
          focus
            replace hM : R = false := by rw [hM]; simp [*]
            rw [hM]
            clear hM
          rotate_left 1
          focus
            cases ho10 : (op == 10)
            focus
              cases ho11 : (op == 11)
              focus
                replace hM : R = false := by rw [hM]; simp [*]
                rw [hM]
                clear hM
              rotate_left 1
              focus
                cases rd
                focus
                  replace hM : R = true := by rw [hM]; simp [*]
                  rw [hM]
                  clear hM
                rotate_left 1
                focus
                  cases hd13 : (d == 13)
                  focus
                    replace hM : R = false := by rw [hM]; simp [*]
                    rw [hM]
                    clear hM
                  rotate_left 1
                  focus
                    replace hM : R = false := by rw [hM]; simp [*]
                    rw [hM]
                    clear hM
                  rotate_left 1
                rotate_left 2
              rotate_left 3
            rotate_left 4
            focus
              cases rd
              focus
                replace hM : R = true := by rw [hM]; simp [*]
                rw [hM]
                clear hM
              rotate_left 1
              focus
                cases hd13 : (d == 13)
                focus
                  replace hM : R = false := by rw [hM]; simp [*]
                  rw [hM]
                  clear hM
                rotate_left 1
                focus
                  replace hM : R = false := by rw [hM]; simp [*]
                  rw [hM]
                  clear hM
                rotate_left 1
              rotate_left 2
            rotate_left 3
          rotate_left 7
        rotate_left 8
      rotate_left 11
      focus
        cases rn
        focus
          cases rd
          focus
            replace hM : R = true := by rw [hM]; simp [*]
            rw [hM]
            clear hM
          rotate_left 1
          focus
            cases hd13 : (d == 13)
            focus
              replace hM : R = false := by rw [hM]; simp [*]
              rw [hM]
              clear hM
            rotate_left 1
            focus
              cases hn13 : (n == 13)
              focus
                replace hM : R = false := by rw [hM]; simp [*]
                rw [hM]
                clear hM
              rotate_left 1
              focus
                replace hM : R = true := by rw [hM]; simp [*]
                rw [hM]
                clear hM
              rotate_left 1
            rotate_left 2
          rotate_left 3
        rotate_left 4
        focus
          cases hn13 : (n == 13)
          focus
            replace hM : R = false := by rw [hM]; simp [*]
            rw [hM]
            clear hM
          rotate_left 1
          focus
            cases rd
            focus
              replace hM : R = true := by rw [hM]; simp [*]
              rw [hM]
              clear hM
            rotate_left 1
            focus
              cases hd13 : (d == 13)
              focus
                replace hM : R = false := by rw [hM]; simp [*]
                rw [hM]
                clear hM
              rotate_left 1
              focus
                replace hM : R = true := by rw [hM]; simp [*]
                rw [hM]
                clear hM
              rotate_left 1
            rotate_left 2
          rotate_left 3
        rotate_left 4
      rotate_left 8
    rotate_left 19
    focus
      cases rn
      focus
        cases rd
        focus
          replace hM : R = true := by rw [hM]; simp [*]
          rw [hM]
          clear hM
        rotate_left 1
        focus
          cases hd13 : (d == 13)
          focus
            replace hM : R = false := by rw [hM]; simp [*]
            rw [hM]
            clear hM
          rotate_left 1
          focus
            cases hn13 : (n == 13)
            focus
              replace hM : R = false := by rw [hM]; simp [*]
              rw [hM]
              clear hM
            rotate_left 1
            focus
              replace hM : R = true := by rw [hM]; simp [*]
              rw [hM]
              clear hM
            rotate_left 1
          rotate_left 2
        rotate_left 3
      rotate_left 4
      focus
        cases hn13 : (n == 13)
        focus
          replace hM : R = false := by rw [hM]; simp [*]
          rw [hM]
          clear hM
        rotate_left 1
        focus
          cases rd
          focus
            replace hM : R = true := by rw [hM]; simp [*]
            rw [hM]
            clear hM
          rotate_left 1
          focus
            cases hd13 : (d == 13)
            focus
              replace hM : R = false := by rw [hM]; simp [*]
              rw [hM]
              clear hM
            rotate_left 1
            focus
              replace hM : R = true := by rw [hM]; simp [*]
              rw [hM]
              clear hM
            rotate_left 1
          rotate_left 2
        rotate_left 3
      rotate_left 4
    rotate_left 8
  rotate_left 27
  all_goals
    go_enter Tryz.func117, Tryz.ntmps117
    have S := SH.start w
    go_wp2_with (first
     | ((with_reducible refine g_bx 28 ?_); refine S.gbx rfl ?_; clear S; intro b w1 S; (try simp only [Cel.cells, zL, List.set_cons_zero, List.set_cons_succ, startI, secondI, noneI] at S))
     | ((with_reducible refine g_ld 3 ?_); first | (refine g_skip rfl ?_) | (refine S.gld (i := ?_) (c := ?_) (v := ?_) Tryz.underlying3 rfl rfl rfl ?_ ?_ ?_; rotate_left 3; (with_reducible first | exact gi0 | exact gi1 | exact gi2 | exact gi3 | exact gi4 | exact gi5); exact rfl))
     | (go_at_call 120; first | (with_reducible refine (CN.out _).mono ?_; rintro e wf ⟨rfl, rfl⟩) | (with_reducible refine (CD.out _).mono ?_; rintro e wf ⟨rfl, rfl⟩)))
    go_ret
    exact ⟨rfl, S.low⟩
end Go.Proofs.YtplhblhopaheeaaGreatDoor
