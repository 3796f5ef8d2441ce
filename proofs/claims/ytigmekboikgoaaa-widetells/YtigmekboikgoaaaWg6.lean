/- Stage 9: the document: the first two rows, whole. -/
import Derived.Test.YtigmekboikgoaaaWg2
import Derived.Test.YtigmekboikgoaaaWg3
import Derived.Test.YtigmekboikgoaaaWg4
import Derived.Test.YtigmekboikgoaaaWg5
import Derived.Test.YtigmekboikgoaaaXr
namespace Go.Proofs.Ytigmekboikgoaaa
open Go.ChangeShapes Go.WideShapes Go.ChangeAt Go.RowKit
set_option linter.unusedVariables false
set_option linter.unusedSimpArgs false

def formI (o : Nat) (d n : Int) (s : Bool) : IV := bif dataOpS o == 64 then ⟨0, true, s, 14, d, n, 0, 0, 0, false, 0, 0, 0, false, false⟩ else dataJ (dataOpS o) d n s
theorem rform_c (o : Nat) (ho : o < 16) (d n : Int) (s : Bool) (w : World) : Calls Try.prog 59 #[.int .i64 (o : Nat), .int .i64 d, .int .i64 n, .bool s] w fun e w' => e = .returned (.tuple #[IV.val (formI o d n s), .bool (dataOpS o != 64)]) ∧ Below w.heap.size w w' := by
  rcases (show o = 0 ∨ o = 1 ∨ o = 2 ∨ o = 3 ∨ o = 4 ∨ o = 5 ∨ o = 6 ∨ o = 7 ∨ 8 ≤ o by omega) with rfl | rfl | rfl | rfl | rfl | rfl | rfl | rfl | h8
  · exact rform_0 d n s w
  · exact rform_1 d n s w
  · exact rform_2 d n s w
  · exact rform_3 d n s w
  · exact rform_4 d n s w
  · exact rform_5 d n s w
  · exact rform_6 d n s w
  · exact rform_7 d n s w
  · rcases (show o = 8 ∨ o = 9 ∨ o = 10 ∨ o = 11 ∨ o = 12 ∨ o = 13 ∨ o = 14 ∨ o = 15 by omega) with rfl | rfl | rfl | rfl | rfl | rfl | rfl | rfl
    · exact rform_8 d n s w
    · exact rform_9 d n s w
    · exact rform_10 d n s w
    · exact rform_11 d n s w
    · exact rform_12 d n s w
    · exact rform_13 d n s w
    · exact rform_14 d n s w
    · exact rform_15 d n s w
theorem form_no (x : Nat) (h : (dataOpS (fd x 21 4 : Nat) != 64) = false) : ((dataX x).op == 64) = true := by
  have h1 : dataOpS (fd x 21 4 : Nat) = 64 := by simpa using h
  unfold dataX
  rw [h1]
  unfold dataJ
  rw [show lessD 64 = 64 from rfl, show lessN 64 = 64 from rfl]
  rfl
def chkD (o d n : Nat) (s : Bool) : Bool :=
  let J := dataJ (dataOpS o) d n s
  dataOpS o == 64 || ((mayS J true == (mayD (secondI J 0 0) && mayN (secondI J 0 0))) && ((mayS J false == (mayD J && mayN J)) && (J.op != 64 && J.op != 65 && J.m == 0 && J.a == 0)))
theorem chkD_all : (List.range 16).all (fun o => (List.range 16).all fun d => (List.range 16).all fun n => chkD o d n true && chkD o d n false) = true := by decide +kernel
theorem chkD_at (o d n : Nat) (s : Bool) (ho : o < 16) (hd : d < 16) (hn : n < 16) : chkD o d n s = true := by
  have := List.all_eq_true.1 (List.all_eq_true.1 (List.all_eq_true.1 chkD_all o (List.mem_range.2 ho)) d (List.mem_range.2 hd)) n (List.mem_range.2 hn)
  simp only [Bool.and_eq_true] at this
  cases s
  · exact this.2
  · exact this.1
theorem form_yes (x : Nat) (h : (dataOpS (fd x 21 4 : Nat) != 64) = true) : ((dataX x).op == 64) = false ∧ ((dataX x).op == 65) = false ∧ (dataX x).m = 0 ∧ (dataX x).a = 0 ∧ mayS (dataX x) true = (mayD (secondI (dataX x) 0 0) && mayN (secondI (dataX x) 0 0)) ∧ mayS (dataX x) false = (mayD (dataX x) && mayN (dataX x)) := by
  have h1 : (dataOpS (fd x 21 4 : Nat) == 64) = false := by simpa using h
  have c := chkD_at (fd x 21 4) (fd x 8 4) (fd x 16 4) (fd x 20 1 != 0) (fd_lt x 21 4) (fd_lt x 8 4) (fd_lt x 16 4)
  unfold chkD at c
  change (dataOpS (fd x 21 4 : Nat) == 64 || ((mayS (dataX x) true == (mayD (secondI (dataX x) 0 0) && mayN (secondI (dataX x) 0 0))) && ((mayS (dataX x) false == (mayD (dataX x) && mayN (dataX x))) && ((dataX x).op != 64 && (dataX x).op != 65 && (dataX x).m == 0 && (dataX x).a == 0)))) = true at c
  rw [h1, Bool.false_or] at c
  simp only [Bool.and_eq_true, beq_iff_eq, bne_iff_ne] at c
  obtain ⟨c1, c2, ⟨⟨c3, c4⟩, c5⟩, c6⟩ := c
  refine ⟨by simpa using c3, by simpa using c4, c5, c6, c1, c2⟩
theorem mod_fin (x : Nat) (hN : (dataOpS (fd x 21 4 : Nat) != 64) = true) (v a : Int) (ok : Bool) (ha : a = 0 ∨ a = 1) :
    (mayS (dataX x) true && ok) = false → checkedI (secondI (dataX x) v a) ok x = noneI 65 x := by
  intro h
  obtain ⟨h1, h2, h3, h4, h5, h6⟩ := form_yes x hN
  rw [h5] at h
  unfold checkedI
  have e1 : mayD (secondI (dataX x) v a) = mayD (secondI (dataX x) 0 0) := rfl
  have e2 : mayN (secondI (dataX x) v a) = mayN (secondI (dataX x) 0 0) := rfl
  rw [e1, e2]
  cases ok
  · rfl
  · rw [Bool.and_true] at h
    have : (!mayD (secondI (dataX x) 0 0) || !mayN (secondI (dataX x) 0 0)) = true := by
      revert h
      cases mayD (secondI (dataX x) 0 0) <;> cases mayN (secondI (dataX x) 0 0) <;> decide
    rw [this]
    simp
theorem mod_fin' (x : Nat) (hN : (dataOpS (fd x 21 4 : Nat) != 64) = true) (v a : Int) (ha : a = 0 ∨ a = 1) (h : mayS (dataX x) true = true) : checkedI (secondI (dataX x) v a) true x = secondI (dataX x) v a := by
  obtain ⟨h1, h2, h3, h4, h5, h6⟩ := form_yes x hN
  rw [h5] at h
  simp only [Bool.and_eq_true] at h
  unfold checkedI
  have e1 : mayD (secondI (dataX x) v a) = true := h.1
  have e2 : mayN (secondI (dataX x) v a) = true := h.2
  have e3 : resS (secondI (dataX x) v a).m = false := by show resS (dataX x).m = false; rw [h3]; rfl
  have e4 : resS (secondI (dataX x) v a).a = false := by show resS a = false; rcases ha with rfl | rfl <;> rfl
  rw [e1, e2, e3, e4]
  rfl
end Go.Proofs.Ytigmekboikgoaaa
