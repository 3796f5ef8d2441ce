/- Stage 9: which registers an instruction may have, walked. -/
import Derived.Test.YtigmekboikgoaaaWd1
namespace Go.Proofs.Ytigmekboikgoaaa
open Go.ChangeShapes Go.WideShapes Go.ChangeAt Go.RowKit
set_option linter.unusedVariables false
set_option linter.unusedSimpArgs false

theorem wpl_skip {P : Program} {ops : Array Oper} {rest : List Oper} {o : Oper} {a : Act} {Q : Exit → Act → World → Prop} {w : World} (hw : Region.wanted o (yielded ops a.tmps) = false) (h : wpList P ops Q rest (a.put o.dst undef) w) : wpList P ops Q (o :: rest) a w :=
  wpList_step fun K hK => by
    rw [if_neg (by simp [hw])]
    exact hK _ _ h
def mayD (i : IV) : Bool := bif (i.d == 13 && (i.n == 13 && i.useImm)) then (i.op == 5 || i.op == 3) else !resS i.d
def mayN (i : IV) : Bool := bif i.n == 13 then (classS i.op == 4 || (classS i.op == 5 || (i.useImm && sumW i.op))) else bif i.n == 15 then (classS i.op == 4 || i.op == 33) else true
def checkedI (i : IV) (ok : Bool) (w : Nat) : IV := bif (!ok || (resS i.m || (resS i.a || (!mayD i || !mayN i)))) then noneI 65 w else i
set_option maxHeartbeats 4000000 in
set_option maxRecDepth 100000 in
theorem mayD_c (i : IV) (w : World) : Calls Try.prog 82 #[i.val] w fun e w' => e = .returned (.bool (mayD i)) ∧ Below w.heap.size w w' := by
  have HM : Hid (mayD i = bif (i.d == 13 && (i.n == 13 && i.useImm)) then (i.op == 5 || i.op == 3) else !resS i.d) := rfl
  generalize mayD i = r at *
  cases h1 : (i.d == 13)
  · have HR : Hid (r = !resS i.d) := by have := HM.out; rw [h1] at this; exact this
    go_enter Try.func82, Try.ntmps82
    have S := SH.start w
    go_wp2_with (first
      | (go_at_call 81; refine (reserved_c _ _).mono ?_; rintro e wf ⟨rfl, rfl⟩)
      | ((with_reducible refine wpl_is ?_); first
        | (refine SH.box (L := []) S rfl 30 _ rfl (Cel.iv i) rfl ?_; clear S; intro b2 w0 S)
        | (refine S.ld 3 _ rfl _ 0 rfl 0 (Cel.iv i) rfl _ rfl _ Try.underlying3 rfl rfl ?_)
        | (refine S.ld 3 _ rfl _ 4 rfl 0 (Cel.iv i) rfl _ rfl _ Try.underlying3 rfl rfl ?_)
        | (refine S.ld 3 _ rfl _ 5 rfl 0 (Cel.iv i) rfl _ rfl _ Try.underlying3 rfl rfl ?_)
        | (refine S.ld 4 _ rfl _ 9 rfl 0 (Cel.iv i) rfl _ rfl _ Try.underlying4 rfl rfl ?_)))
    go_ret
    exact ⟨by rw [HR.out]; rfl, S.low⟩
  · cases h2 : (i.n == 13)
    · have HR : Hid (r = !resS i.d) := by have := HM.out; rw [h1, h2] at this; exact this
      go_enter Try.func82, Try.ntmps82
      have S := SH.start w
      go_wp2_with (first
        | (go_at_call 81; refine (reserved_c _ _).mono ?_; rintro e wf ⟨rfl, rfl⟩)
        | ((with_reducible refine wpl_is ?_); first
          | (refine SH.box (L := []) S rfl 30 _ rfl (Cel.iv i) rfl ?_; clear S; intro b2 w0 S)
          | (refine S.ld 3 _ rfl _ 0 rfl 0 (Cel.iv i) rfl _ rfl _ Try.underlying3 rfl rfl ?_)
          | (refine S.ld 3 _ rfl _ 4 rfl 0 (Cel.iv i) rfl _ rfl _ Try.underlying3 rfl rfl ?_)
          | (refine S.ld 3 _ rfl _ 5 rfl 0 (Cel.iv i) rfl _ rfl _ Try.underlying3 rfl rfl ?_)
          | (refine S.ld 4 _ rfl _ 9 rfl 0 (Cel.iv i) rfl _ rfl _ Try.underlying4 rfl rfl ?_)))
      go_ret
      exact ⟨by rw [HR.out]; rfl, S.low⟩
    · cases h3 : i.useImm
      · have HR : Hid (r = !resS i.d) := by have := HM.out; rw [h1, h2, h3] at this; exact this
        go_enter Try.func82, Try.ntmps82
        have S := SH.start w
        go_wp2_with (first
          | (go_at_call 81; refine (reserved_c _ _).mono ?_; rintro e wf ⟨rfl, rfl⟩)
          | ((with_reducible refine wpl_is ?_); first
            | (refine SH.box (L := []) S rfl 30 _ rfl (Cel.iv i) rfl ?_; clear S; intro b2 w0 S)
            | (refine S.ld 3 _ rfl _ 0 rfl 0 (Cel.iv i) rfl _ rfl _ Try.underlying3 rfl rfl ?_)
            | (refine S.ld 3 _ rfl _ 4 rfl 0 (Cel.iv i) rfl _ rfl _ Try.underlying3 rfl rfl ?_)
            | (refine S.ld 3 _ rfl _ 5 rfl 0 (Cel.iv i) rfl _ rfl _ Try.underlying3 rfl rfl ?_)
            | (refine S.ld 4 _ rfl _ 9 rfl 0 (Cel.iv i) rfl _ rfl _ Try.underlying4 rfl rfl ?_)))
        go_ret
        exact ⟨by rw [HR.out]; rfl, S.low⟩
      · cases h4 : (i.op == 5)
        · have HR : Hid (r = (i.op == 3)) := by have := HM.out; rw [h1, h2, h3, h4] at this; exact this
          go_enter Try.func82, Try.ntmps82
          have S := SH.start w
          go_wp2_with (first
            | (go_at_call 81; refine (reserved_c _ _).mono ?_; rintro e wf ⟨rfl, rfl⟩)
            | ((with_reducible refine wpl_is ?_); first
              | (refine SH.box (L := []) S rfl 30 _ rfl (Cel.iv i) rfl ?_; clear S; intro b2 w0 S)
              | (refine S.ld 3 _ rfl _ 0 rfl 0 (Cel.iv i) rfl _ rfl _ Try.underlying3 rfl rfl ?_)
              | (refine S.ld 3 _ rfl _ 4 rfl 0 (Cel.iv i) rfl _ rfl _ Try.underlying3 rfl rfl ?_)
              | (refine S.ld 3 _ rfl _ 5 rfl 0 (Cel.iv i) rfl _ rfl _ Try.underlying3 rfl rfl ?_)
              | (refine S.ld 4 _ rfl _ 9 rfl 0 (Cel.iv i) rfl _ rfl _ Try.underlying4 rfl rfl ?_)))
          go_ret
          exact ⟨by rw [HR.out]; rfl, S.low⟩
        · have HR : Hid (r = true) := by have := HM.out; rw [h1, h2, h3, h4] at this; exact this
          go_enter Try.func82, Try.ntmps82
          have S := SH.start w
          go_wp2_with (first
            | (go_at_call 81; refine (reserved_c _ _).mono ?_; rintro e wf ⟨rfl, rfl⟩)
            | ((with_reducible refine wpl_is ?_); first
              | (refine SH.box (L := []) S rfl 30 _ rfl (Cel.iv i) rfl ?_; clear S; intro b2 w0 S)
              | (refine S.ld 3 _ rfl _ 0 rfl 0 (Cel.iv i) rfl _ rfl _ Try.underlying3 rfl rfl ?_)
              | (refine S.ld 3 _ rfl _ 4 rfl 0 (Cel.iv i) rfl _ rfl _ Try.underlying3 rfl rfl ?_)
              | (refine S.ld 3 _ rfl _ 5 rfl 0 (Cel.iv i) rfl _ rfl _ Try.underlying3 rfl rfl ?_)
              | (refine S.ld 4 _ rfl _ 9 rfl 0 (Cel.iv i) rfl _ rfl _ Try.underlying4 rfl rfl ?_)))
          go_ret
          exact ⟨by rw [HR.out]; rfl, S.low⟩
set_option maxHeartbeats 4000000 in
set_option maxRecDepth 100000 in
theorem mayN_c (i : IV) (w : World) : Calls Try.prog 83 #[i.val] w fun e w' => e = .returned (.bool (mayN i)) ∧ Below w.heap.size w w' := by
  have HM : Hid (mayN i = bif i.n == 13 then (classS i.op == 4 || (classS i.op == 5 || (i.useImm && sumW i.op))) else bif i.n == 15 then (classS i.op == 4 || i.op == 33) else true) := rfl
  generalize mayN i = r at *
  have CC : Hid (∀ w1, Calls Try.prog 35 #[.int .i64 i.op] w1 fun e w' => e = .returned (.int .i64 (classS i.op)) ∧ w' = w1) := fun w1 => class_c i.op w1
  have CS : Hid (∀ w1, Calls Try.prog 94 #[.int .i64 i.op] w1 fun e w' => e = .returned (.bool (sumW i.op)) ∧ w' = w1) := fun w1 => sumW_c i.op w1
  generalize classS i.op = c at *
  generalize sumW i.op = sm at *
  cases h1 : (i.n == 13)
  · cases h2 : (i.n == 15)
    · have HR : Hid (r = true) := by have := HM.out; rw [h1, h2] at this; exact this
      go_enter Try.func83, Try.ntmps83
      have S := SH.start w
      go_wp2_with (first
        | ((with_reducible refine wpl_isDst 5 ?_); first | (refine wpl_skip rfl ?_) | (refine S.ld 3 _ rfl _ 0 rfl 0 (Cel.iv i) rfl _ rfl _ Try.underlying3 rfl rfl ?_))
        | ((with_reducible refine wpl_isDst 8 ?_); first | (refine wpl_skip rfl ?_) | (refine S.ld 3 _ rfl _ 5 rfl 0 (Cel.iv i) rfl _ rfl _ Try.underlying3 rfl rfl ?_))
        | ((with_reducible refine wpl_isDst 19 ?_); first | (refine wpl_skip rfl ?_) | (refine S.ld 4 _ rfl _ 9 rfl 0 (Cel.iv i) rfl _ rfl _ Try.underlying4 rfl rfl ?_))
        | ((with_reducible refine wpl_isDst 22 ?_); first | (refine wpl_skip rfl ?_) | (refine S.ld 3 _ rfl _ 0 rfl 0 (Cel.iv i) rfl _ rfl _ Try.underlying3 rfl rfl ?_))
        | ((with_reducible refine wpl_isDst 32 ?_); first | (refine wpl_skip rfl ?_) | (refine S.ld 3 _ rfl _ 0 rfl 0 (Cel.iv i) rfl _ rfl _ Try.underlying3 rfl rfl ?_))
        | (go_at_call 35; refine (CC.out _).mono ?_; rintro e wf ⟨rfl, rfl⟩)
        | (go_at_call 94; refine (CS.out _).mono ?_; rintro e wf ⟨rfl, rfl⟩)
        | ((with_reducible refine wpl_isDst 1 ?_); (refine SH.box (L := []) S rfl 30 _ rfl (Cel.iv i) rfl ?_; clear S; intro b2 w0 S)))
      go_ret
      exact ⟨by rw [HR.out]; rfl, S.low⟩
    · cases h3 : (c == 4)
      · have HR : Hid (r = (i.op == 33)) := by have := HM.out; rw [h1, h2, h3] at this; exact this
        go_enter Try.func83, Try.ntmps83
        have S := SH.start w
        go_wp2_with (first
          | ((with_reducible refine wpl_isDst 5 ?_); first | (refine wpl_skip rfl ?_) | (refine S.ld 3 _ rfl _ 0 rfl 0 (Cel.iv i) rfl _ rfl _ Try.underlying3 rfl rfl ?_))
          | ((with_reducible refine wpl_isDst 8 ?_); first | (refine wpl_skip rfl ?_) | (refine S.ld 3 _ rfl _ 5 rfl 0 (Cel.iv i) rfl _ rfl _ Try.underlying3 rfl rfl ?_))
          | ((with_reducible refine wpl_isDst 19 ?_); first | (refine wpl_skip rfl ?_) | (refine S.ld 4 _ rfl _ 9 rfl 0 (Cel.iv i) rfl _ rfl _ Try.underlying4 rfl rfl ?_))
          | ((with_reducible refine wpl_isDst 22 ?_); first | (refine wpl_skip rfl ?_) | (refine S.ld 3 _ rfl _ 0 rfl 0 (Cel.iv i) rfl _ rfl _ Try.underlying3 rfl rfl ?_))
          | ((with_reducible refine wpl_isDst 32 ?_); first | (refine wpl_skip rfl ?_) | (refine S.ld 3 _ rfl _ 0 rfl 0 (Cel.iv i) rfl _ rfl _ Try.underlying3 rfl rfl ?_))
          | (go_at_call 35; refine (CC.out _).mono ?_; rintro e wf ⟨rfl, rfl⟩)
          | (go_at_call 94; refine (CS.out _).mono ?_; rintro e wf ⟨rfl, rfl⟩)
          | ((with_reducible refine wpl_isDst 1 ?_); (refine SH.box (L := []) S rfl 30 _ rfl (Cel.iv i) rfl ?_; clear S; intro b2 w0 S)))
        go_ret
        exact ⟨by rw [HR.out]; rfl, S.low⟩
      · have HR : Hid (r = true) := by have := HM.out; rw [h1, h2, h3] at this; exact this
        go_enter Try.func83, Try.ntmps83
        have S := SH.start w
        go_wp2_with (first
          | ((with_reducible refine wpl_isDst 5 ?_); first | (refine wpl_skip rfl ?_) | (refine S.ld 3 _ rfl _ 0 rfl 0 (Cel.iv i) rfl _ rfl _ Try.underlying3 rfl rfl ?_))
          | ((with_reducible refine wpl_isDst 8 ?_); first | (refine wpl_skip rfl ?_) | (refine S.ld 3 _ rfl _ 5 rfl 0 (Cel.iv i) rfl _ rfl _ Try.underlying3 rfl rfl ?_))
          | ((with_reducible refine wpl_isDst 19 ?_); first | (refine wpl_skip rfl ?_) | (refine S.ld 4 _ rfl _ 9 rfl 0 (Cel.iv i) rfl _ rfl _ Try.underlying4 rfl rfl ?_))
          | ((with_reducible refine wpl_isDst 22 ?_); first | (refine wpl_skip rfl ?_) | (refine S.ld 3 _ rfl _ 0 rfl 0 (Cel.iv i) rfl _ rfl _ Try.underlying3 rfl rfl ?_))
          | ((with_reducible refine wpl_isDst 32 ?_); first | (refine wpl_skip rfl ?_) | (refine S.ld 3 _ rfl _ 0 rfl 0 (Cel.iv i) rfl _ rfl _ Try.underlying3 rfl rfl ?_))
          | (go_at_call 35; refine (CC.out _).mono ?_; rintro e wf ⟨rfl, rfl⟩)
          | (go_at_call 94; refine (CS.out _).mono ?_; rintro e wf ⟨rfl, rfl⟩)
          | ((with_reducible refine wpl_isDst 1 ?_); (refine SH.box (L := []) S rfl 30 _ rfl (Cel.iv i) rfl ?_; clear S; intro b2 w0 S)))
        go_ret
        exact ⟨by rw [HR.out]; rfl, S.low⟩
  · cases h3 : (c == 4)
    · cases h4 : (c == 5)
      · cases h5 : i.useImm
        · have HR : Hid (r = false) := by have := HM.out; rw [h1, h3, h4, h5] at this; exact this
          go_enter Try.func83, Try.ntmps83
          have S := SH.start w
          go_wp2_with (first
            | ((with_reducible refine wpl_isDst 5 ?_); first | (refine wpl_skip rfl ?_) | (refine S.ld 3 _ rfl _ 0 rfl 0 (Cel.iv i) rfl _ rfl _ Try.underlying3 rfl rfl ?_))
            | ((with_reducible refine wpl_isDst 8 ?_); first | (refine wpl_skip rfl ?_) | (refine S.ld 3 _ rfl _ 5 rfl 0 (Cel.iv i) rfl _ rfl _ Try.underlying3 rfl rfl ?_))
            | ((with_reducible refine wpl_isDst 19 ?_); first | (refine wpl_skip rfl ?_) | (refine S.ld 4 _ rfl _ 9 rfl 0 (Cel.iv i) rfl _ rfl _ Try.underlying4 rfl rfl ?_))
            | ((with_reducible refine wpl_isDst 22 ?_); first | (refine wpl_skip rfl ?_) | (refine S.ld 3 _ rfl _ 0 rfl 0 (Cel.iv i) rfl _ rfl _ Try.underlying3 rfl rfl ?_))
            | ((with_reducible refine wpl_isDst 32 ?_); first | (refine wpl_skip rfl ?_) | (refine S.ld 3 _ rfl _ 0 rfl 0 (Cel.iv i) rfl _ rfl _ Try.underlying3 rfl rfl ?_))
            | (go_at_call 35; refine (CC.out _).mono ?_; rintro e wf ⟨rfl, rfl⟩)
            | (go_at_call 94; refine (CS.out _).mono ?_; rintro e wf ⟨rfl, rfl⟩)
            | ((with_reducible refine wpl_isDst 1 ?_); (refine SH.box (L := []) S rfl 30 _ rfl (Cel.iv i) rfl ?_; clear S; intro b2 w0 S)))
          go_ret
          exact ⟨by rw [HR.out]; rfl, S.low⟩
        · have HR : Hid (r = sm) := by have := HM.out; rw [h1, h3, h4, h5] at this; exact this
          go_enter Try.func83, Try.ntmps83
          have S := SH.start w
          go_wp2_with (first
            | ((with_reducible refine wpl_isDst 5 ?_); first | (refine wpl_skip rfl ?_) | (refine S.ld 3 _ rfl _ 0 rfl 0 (Cel.iv i) rfl _ rfl _ Try.underlying3 rfl rfl ?_))
            | ((with_reducible refine wpl_isDst 8 ?_); first | (refine wpl_skip rfl ?_) | (refine S.ld 3 _ rfl _ 5 rfl 0 (Cel.iv i) rfl _ rfl _ Try.underlying3 rfl rfl ?_))
            | ((with_reducible refine wpl_isDst 19 ?_); first | (refine wpl_skip rfl ?_) | (refine S.ld 4 _ rfl _ 9 rfl 0 (Cel.iv i) rfl _ rfl _ Try.underlying4 rfl rfl ?_))
            | ((with_reducible refine wpl_isDst 22 ?_); first | (refine wpl_skip rfl ?_) | (refine S.ld 3 _ rfl _ 0 rfl 0 (Cel.iv i) rfl _ rfl _ Try.underlying3 rfl rfl ?_))
            | ((with_reducible refine wpl_isDst 32 ?_); first | (refine wpl_skip rfl ?_) | (refine S.ld 3 _ rfl _ 0 rfl 0 (Cel.iv i) rfl _ rfl _ Try.underlying3 rfl rfl ?_))
            | (go_at_call 35; refine (CC.out _).mono ?_; rintro e wf ⟨rfl, rfl⟩)
            | (go_at_call 94; refine (CS.out _).mono ?_; rintro e wf ⟨rfl, rfl⟩)
            | ((with_reducible refine wpl_isDst 1 ?_); (refine SH.box (L := []) S rfl 30 _ rfl (Cel.iv i) rfl ?_; clear S; intro b2 w0 S)))
          go_ret
          exact ⟨by rw [HR.out]; rfl, S.low⟩
      · have HR : Hid (r = true) := by have := HM.out; rw [h1, h3, h4] at this; exact this
        go_enter Try.func83, Try.ntmps83
        have S := SH.start w
        go_wp2_with (first
          | ((with_reducible refine wpl_isDst 5 ?_); first | (refine wpl_skip rfl ?_) | (refine S.ld 3 _ rfl _ 0 rfl 0 (Cel.iv i) rfl _ rfl _ Try.underlying3 rfl rfl ?_))
          | ((with_reducible refine wpl_isDst 8 ?_); first | (refine wpl_skip rfl ?_) | (refine S.ld 3 _ rfl _ 5 rfl 0 (Cel.iv i) rfl _ rfl _ Try.underlying3 rfl rfl ?_))
          | ((with_reducible refine wpl_isDst 19 ?_); first | (refine wpl_skip rfl ?_) | (refine S.ld 4 _ rfl _ 9 rfl 0 (Cel.iv i) rfl _ rfl _ Try.underlying4 rfl rfl ?_))
          | ((with_reducible refine wpl_isDst 22 ?_); first | (refine wpl_skip rfl ?_) | (refine S.ld 3 _ rfl _ 0 rfl 0 (Cel.iv i) rfl _ rfl _ Try.underlying3 rfl rfl ?_))
          | ((with_reducible refine wpl_isDst 32 ?_); first | (refine wpl_skip rfl ?_) | (refine S.ld 3 _ rfl _ 0 rfl 0 (Cel.iv i) rfl _ rfl _ Try.underlying3 rfl rfl ?_))
          | (go_at_call 35; refine (CC.out _).mono ?_; rintro e wf ⟨rfl, rfl⟩)
          | (go_at_call 94; refine (CS.out _).mono ?_; rintro e wf ⟨rfl, rfl⟩)
          | ((with_reducible refine wpl_isDst 1 ?_); (refine SH.box (L := []) S rfl 30 _ rfl (Cel.iv i) rfl ?_; clear S; intro b2 w0 S)))
        go_ret
        exact ⟨by rw [HR.out]; rfl, S.low⟩
    · have HR : Hid (r = true) := by have := HM.out; rw [h1, h3] at this; exact this
      go_enter Try.func83, Try.ntmps83
      have S := SH.start w
      go_wp2_with (first
        | ((with_reducible refine wpl_isDst 5 ?_); first | (refine wpl_skip rfl ?_) | (refine S.ld 3 _ rfl _ 0 rfl 0 (Cel.iv i) rfl _ rfl _ Try.underlying3 rfl rfl ?_))
        | ((with_reducible refine wpl_isDst 8 ?_); first | (refine wpl_skip rfl ?_) | (refine S.ld 3 _ rfl _ 5 rfl 0 (Cel.iv i) rfl _ rfl _ Try.underlying3 rfl rfl ?_))
        | ((with_reducible refine wpl_isDst 19 ?_); first | (refine wpl_skip rfl ?_) | (refine S.ld 4 _ rfl _ 9 rfl 0 (Cel.iv i) rfl _ rfl _ Try.underlying4 rfl rfl ?_))
        | ((with_reducible refine wpl_isDst 22 ?_); first | (refine wpl_skip rfl ?_) | (refine S.ld 3 _ rfl _ 0 rfl 0 (Cel.iv i) rfl _ rfl _ Try.underlying3 rfl rfl ?_))
        | ((with_reducible refine wpl_isDst 32 ?_); first | (refine wpl_skip rfl ?_) | (refine S.ld 3 _ rfl _ 0 rfl 0 (Cel.iv i) rfl _ rfl _ Try.underlying3 rfl rfl ?_))
        | (go_at_call 35; refine (CC.out _).mono ?_; rintro e wf ⟨rfl, rfl⟩)
        | (go_at_call 94; refine (CS.out _).mono ?_; rintro e wf ⟨rfl, rfl⟩)
        | ((with_reducible refine wpl_isDst 1 ?_); (refine SH.box (L := []) S rfl 30 _ rfl (Cel.iv i) rfl ?_; clear S; intro b2 w0 S)))
      go_ret
      exact ⟨by rw [HR.out]; rfl, S.low⟩
set_option maxHeartbeats 4000000 in
set_option maxRecDepth 100000 in
theorem checked_c (i : IV) (ok : Bool) (x : Nat) (hx : x < 4294967296) (w : World) : Calls Try.prog 47 #[i.val, .bool ok, .int .u32 x] w fun e w' => Says w (checkedI i ok x) e w' := by
  unfold Says
  have HM : Hid (checkedI i ok x = bif (!ok || (resS i.m || (resS i.a || (!mayD i || !mayN i)))) then noneI 65 x else i) := rfl
  have CD : Hid (∀ w1, Calls Try.prog 82 #[i.val] w1 fun e w' => e = .returned (.bool (mayD i)) ∧ Below w1.heap.size w1 w') := mayD_c i
  have CN : Hid (∀ w1, Calls Try.prog 83 #[i.val] w1 fun e w' => e = .returned (.bool (mayN i)) ∧ Below w1.heap.size w1 w') := mayN_c i
  have CM : Hid (∀ w1, Calls Try.prog 81 #[.int .i64 i.m] w1 fun e w' => e = .returned (.bool (resS i.m)) ∧ w' = w1) := reserved_c i.m
  have CA : Hid (∀ w1, Calls Try.prog 81 #[.int .i64 i.a] w1 fun e w' => e = .returned (.bool (resS i.a)) ∧ w' = w1) := reserved_c i.a
  generalize checkedI i ok x = J at *
  generalize mayD i = fd' at *
  generalize mayN i = fn' at *
  generalize resS i.m = fm at *
  generalize resS i.a = fa at *
  cases ok
  · have HR : Hid (J = noneI 65 x) := HM.out
    rw [HR.out]
    clear HR HM
    go_enter Try.func47, Try.ntmps47
    have S := SH.start w
    go_wp2_with (first
      | (go_at_call 82; refine (CD.out _).mono ?_; rintro e wf ⟨rfl, hbf⟩; replace S := S.below hbf; clear hbf)
      | (go_at_call 83; refine (CN.out _).mono ?_; rintro e wf ⟨rfl, hbf⟩; replace S := S.below hbf; clear hbf)
      | (go_at_call 13; refine (none_c 65 x hx _).mono ?_; rintro e wf ⟨rfl, hbf⟩; replace S := S.below hbf; clear hbf)
      | (go_at_call 81; (first | with_reducible refine (CM.out _).mono ?_ | with_reducible refine (CA.out _).mono ?_); rintro e wf ⟨rfl, rfl⟩)
      | ((with_reducible refine wpl_is ?_); first
        | (refine SH.box (L := []) S rfl 30 _ rfl (Cel.iv i) rfl ?_; clear S; intro b2 w0 S)
        | (refine S.alloc rfl 30 rfl (Cel.iv IV.zero) zeroIV ?_; clear S; intro b1 w1 S)
        | (refine S.ldAll 30 _ rfl b2 rfl 1 (Cel.iv i) rfl _ Try.underlying30 rfl (szIV _) rfl ?_)
        | (refine S.ld 3 _ rfl _ 6 rfl 1 (Cel.iv i) rfl _ rfl _ Try.underlying3 rfl rfl ?_)
        | (refine S.ld 3 _ rfl _ 7 rfl 1 (Cel.iv i) rfl _ rfl _ Try.underlying3 rfl rfl ?_)
        | (refine S.storeAll rfl 30 _ _ rfl b1 (Cel.iv (noneI 65 x)) rfl rfl 0 _ rfl rfl (one_iv _) (szIV _) ?_; clear S; intro w2 S; simp only [List.set_cons_zero] at S)))
    (try simp only [Exit.inBlock, Exit.then])
    refine bodyPost_ret (S.results rfl _ _ rfl 0 _ rfl _ Try.underlying30 rfl (szIV _)) rfl ⟨rfl, S.low⟩
  · cases fm
    · cases fa
      · cases fd'
        · have HR : Hid (J = noneI 65 x) := HM.out
          rw [HR.out]
          clear HR HM
          go_enter Try.func47, Try.ntmps47
          have S := SH.start w
          go_wp2_with (first
            | (go_at_call 82; refine (CD.out _).mono ?_; rintro e wf ⟨rfl, hbf⟩; replace S := S.below hbf; clear hbf)
            | (go_at_call 83; refine (CN.out _).mono ?_; rintro e wf ⟨rfl, hbf⟩; replace S := S.below hbf; clear hbf)
            | (go_at_call 13; refine (none_c 65 x hx _).mono ?_; rintro e wf ⟨rfl, hbf⟩; replace S := S.below hbf; clear hbf)
            | (go_at_call 81; (first | with_reducible refine (CM.out _).mono ?_ | with_reducible refine (CA.out _).mono ?_); rintro e wf ⟨rfl, rfl⟩)
            | ((with_reducible refine wpl_is ?_); first
              | (refine SH.box (L := []) S rfl 30 _ rfl (Cel.iv i) rfl ?_; clear S; intro b2 w0 S)
              | (refine S.alloc rfl 30 rfl (Cel.iv IV.zero) zeroIV ?_; clear S; intro b1 w1 S)
              | (refine S.ldAll 30 _ rfl b2 rfl 1 (Cel.iv i) rfl _ Try.underlying30 rfl (szIV _) rfl ?_)
              | (refine S.ld 3 _ rfl _ 6 rfl 1 (Cel.iv i) rfl _ rfl _ Try.underlying3 rfl rfl ?_)
              | (refine S.ld 3 _ rfl _ 7 rfl 1 (Cel.iv i) rfl _ rfl _ Try.underlying3 rfl rfl ?_)
              | (refine S.storeAll rfl 30 _ _ rfl b1 (Cel.iv (noneI 65 x)) rfl rfl 0 _ rfl rfl (one_iv _) (szIV _) ?_; clear S; intro w2 S; simp only [List.set_cons_zero] at S)))
          (try simp only [Exit.inBlock, Exit.then])
          refine bodyPost_ret (S.results rfl _ _ rfl 0 _ rfl _ Try.underlying30 rfl (szIV _)) rfl ⟨rfl, S.low⟩
        · cases fn'
          · have HR : Hid (J = noneI 65 x) := HM.out
            rw [HR.out]
            clear HR HM
            go_enter Try.func47, Try.ntmps47
            have S := SH.start w
            go_wp2_with (first
              | (go_at_call 82; refine (CD.out _).mono ?_; rintro e wf ⟨rfl, hbf⟩; replace S := S.below hbf; clear hbf)
              | (go_at_call 83; refine (CN.out _).mono ?_; rintro e wf ⟨rfl, hbf⟩; replace S := S.below hbf; clear hbf)
              | (go_at_call 13; refine (none_c 65 x hx _).mono ?_; rintro e wf ⟨rfl, hbf⟩; replace S := S.below hbf; clear hbf)
              | (go_at_call 81; (first | with_reducible refine (CM.out _).mono ?_ | with_reducible refine (CA.out _).mono ?_); rintro e wf ⟨rfl, rfl⟩)
              | ((with_reducible refine wpl_is ?_); first
                | (refine SH.box (L := []) S rfl 30 _ rfl (Cel.iv i) rfl ?_; clear S; intro b2 w0 S)
                | (refine S.alloc rfl 30 rfl (Cel.iv IV.zero) zeroIV ?_; clear S; intro b1 w1 S)
                | (refine S.ldAll 30 _ rfl b2 rfl 1 (Cel.iv i) rfl _ Try.underlying30 rfl (szIV _) rfl ?_)
                | (refine S.ld 3 _ rfl _ 6 rfl 1 (Cel.iv i) rfl _ rfl _ Try.underlying3 rfl rfl ?_)
                | (refine S.ld 3 _ rfl _ 7 rfl 1 (Cel.iv i) rfl _ rfl _ Try.underlying3 rfl rfl ?_)
                | (refine S.storeAll rfl 30 _ _ rfl b1 (Cel.iv (noneI 65 x)) rfl rfl 0 _ rfl rfl (one_iv _) (szIV _) ?_; clear S; intro w2 S; simp only [List.set_cons_zero] at S)))
            (try simp only [Exit.inBlock, Exit.then])
            refine bodyPost_ret (S.results rfl _ _ rfl 0 _ rfl _ Try.underlying30 rfl (szIV _)) rfl ⟨rfl, S.low⟩
          · have HR : Hid (J = i) := HM.out
            rw [HR.out]
            clear HR HM
            go_enter Try.func47, Try.ntmps47
            have S := SH.start w
            go_wp2_with (first
              | (go_at_call 82; refine (CD.out _).mono ?_; rintro e wf ⟨rfl, hbf⟩; replace S := S.below hbf; clear hbf)
              | (go_at_call 83; refine (CN.out _).mono ?_; rintro e wf ⟨rfl, hbf⟩; replace S := S.below hbf; clear hbf)
              | (go_at_call 13; refine (none_c 65 x hx _).mono ?_; rintro e wf ⟨rfl, hbf⟩; replace S := S.below hbf; clear hbf)
              | (go_at_call 81; (first | with_reducible refine (CM.out _).mono ?_ | with_reducible refine (CA.out _).mono ?_); rintro e wf ⟨rfl, rfl⟩)
              | ((with_reducible refine wpl_is ?_); first
                | (refine SH.box (L := []) S rfl 30 _ rfl (Cel.iv i) rfl ?_; clear S; intro b2 w0 S)
                | (refine S.alloc rfl 30 rfl (Cel.iv IV.zero) zeroIV ?_; clear S; intro b1 w1 S)
                | (refine S.ldAll 30 _ rfl b2 rfl 1 (Cel.iv i) rfl _ Try.underlying30 rfl (szIV _) rfl ?_)
                | (refine S.ld 3 _ rfl _ 6 rfl 1 (Cel.iv i) rfl _ rfl _ Try.underlying3 rfl rfl ?_)
                | (refine S.ld 3 _ rfl _ 7 rfl 1 (Cel.iv i) rfl _ rfl _ Try.underlying3 rfl rfl ?_)
                | (refine S.storeAll rfl 30 _ _ rfl b1 (Cel.iv i) rfl rfl 0 _ rfl rfl (one_iv _) (szIV _) ?_; clear S; intro w2 S; simp only [List.set_cons_zero] at S)))
            (try simp only [Exit.inBlock, Exit.then])
            refine bodyPost_ret (S.results rfl _ _ rfl 0 _ rfl _ Try.underlying30 rfl (szIV _)) rfl ⟨rfl, S.low⟩
      · have HR : Hid (J = noneI 65 x) := HM.out
        rw [HR.out]
        clear HR HM
        go_enter Try.func47, Try.ntmps47
        have S := SH.start w
        go_wp2_with (first
          | (go_at_call 82; refine (CD.out _).mono ?_; rintro e wf ⟨rfl, hbf⟩; replace S := S.below hbf; clear hbf)
          | (go_at_call 83; refine (CN.out _).mono ?_; rintro e wf ⟨rfl, hbf⟩; replace S := S.below hbf; clear hbf)
          | (go_at_call 13; refine (none_c 65 x hx _).mono ?_; rintro e wf ⟨rfl, hbf⟩; replace S := S.below hbf; clear hbf)
          | (go_at_call 81; (first | with_reducible refine (CM.out _).mono ?_ | with_reducible refine (CA.out _).mono ?_); rintro e wf ⟨rfl, rfl⟩)
          | ((with_reducible refine wpl_is ?_); first
            | (refine SH.box (L := []) S rfl 30 _ rfl (Cel.iv i) rfl ?_; clear S; intro b2 w0 S)
            | (refine S.alloc rfl 30 rfl (Cel.iv IV.zero) zeroIV ?_; clear S; intro b1 w1 S)
            | (refine S.ldAll 30 _ rfl b2 rfl 1 (Cel.iv i) rfl _ Try.underlying30 rfl (szIV _) rfl ?_)
            | (refine S.ld 3 _ rfl _ 6 rfl 1 (Cel.iv i) rfl _ rfl _ Try.underlying3 rfl rfl ?_)
            | (refine S.ld 3 _ rfl _ 7 rfl 1 (Cel.iv i) rfl _ rfl _ Try.underlying3 rfl rfl ?_)
            | (refine S.storeAll rfl 30 _ _ rfl b1 (Cel.iv (noneI 65 x)) rfl rfl 0 _ rfl rfl (one_iv _) (szIV _) ?_; clear S; intro w2 S; simp only [List.set_cons_zero] at S)))
        (try simp only [Exit.inBlock, Exit.then])
        refine bodyPost_ret (S.results rfl _ _ rfl 0 _ rfl _ Try.underlying30 rfl (szIV _)) rfl ⟨rfl, S.low⟩
    · have HR : Hid (J = noneI 65 x) := HM.out
      rw [HR.out]
      clear HR HM
      go_enter Try.func47, Try.ntmps47
      have S := SH.start w
      go_wp2_with (first
        | (go_at_call 82; refine (CD.out _).mono ?_; rintro e wf ⟨rfl, hbf⟩; replace S := S.below hbf; clear hbf)
        | (go_at_call 83; refine (CN.out _).mono ?_; rintro e wf ⟨rfl, hbf⟩; replace S := S.below hbf; clear hbf)
        | (go_at_call 13; refine (none_c 65 x hx _).mono ?_; rintro e wf ⟨rfl, hbf⟩; replace S := S.below hbf; clear hbf)
        | (go_at_call 81; (first | with_reducible refine (CM.out _).mono ?_ | with_reducible refine (CA.out _).mono ?_); rintro e wf ⟨rfl, rfl⟩)
        | ((with_reducible refine wpl_is ?_); first
          | (refine SH.box (L := []) S rfl 30 _ rfl (Cel.iv i) rfl ?_; clear S; intro b2 w0 S)
          | (refine S.alloc rfl 30 rfl (Cel.iv IV.zero) zeroIV ?_; clear S; intro b1 w1 S)
          | (refine S.ldAll 30 _ rfl b2 rfl 1 (Cel.iv i) rfl _ Try.underlying30 rfl (szIV _) rfl ?_)
          | (refine S.ld 3 _ rfl _ 6 rfl 1 (Cel.iv i) rfl _ rfl _ Try.underlying3 rfl rfl ?_)
          | (refine S.ld 3 _ rfl _ 7 rfl 1 (Cel.iv i) rfl _ rfl _ Try.underlying3 rfl rfl ?_)
          | (refine S.storeAll rfl 30 _ _ rfl b1 (Cel.iv (noneI 65 x)) rfl rfl 0 _ rfl rfl (one_iv _) (szIV _) ?_; clear S; intro w2 S; simp only [List.set_cons_zero] at S)))
      (try simp only [Exit.inBlock, Exit.then])
      refine bodyPost_ret (S.results rfl _ _ rfl 0 _ rfl _ Try.underlying30 rfl (szIV _)) rfl ⟨rfl, S.low⟩
end Go.Proofs.Ytigmekboikgoaaa
