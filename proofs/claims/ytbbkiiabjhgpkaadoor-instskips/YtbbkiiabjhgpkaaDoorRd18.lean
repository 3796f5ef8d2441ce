/- Stage 8: the document's narrow words, walked. -/
import Derived.Test.YtbbkiiabjhgpkaaDoorRd23
import Derived.Test.YtbbkiiabjhgpkaaDoorRd45
import Derived.Test.YtbbkiiabjhgpkaaDoorRd12z
import Derived.Test.YtbbkiiabjhgpkaaDoorRd13
import Derived.Test.YtbbkiiabjhgpkaaDoorRd0z
namespace Go.Proofs.YtbbkiiabjhgpkaaDoor
open Go.ChangeShapes Go.WideShapes Go.ChangeAt Go.RowKit
set_option linter.unusedVariables false
set_option linter.unusedSimpArgs false

theorem rdecode_r (h : Nat) (hh : h < 65536) (b : Bool) (w : World) : Calls Tryd.prog 11 #[.int .u16 h, .bool b] w fun e w' => Says w (rdecN h b) e w' := by
  have f65 : fd h 6 5 = 0 ∨ fd h 6 5 ≠ 0 := by omega
  have f93 : fd h 9 3 < 8 := fd_lt h 9 3
  have e93 : fd h 9 3 = h / 512 % 8 := by simp [fd]
  have f83 : fd h 8 3 < 8 := fd_lt h 8 3
  have f91 : fd h 9 1 < 2 := fd_lt h 9 1
  have f10 : fd h 10 1 < 2 := fd_lt h 10 1
  rcases (show h / 2048 = 0 ∨ h / 2048 = 1 ∨ h / 2048 = 2 ∨ h / 2048 = 3 ∨ h / 2048 = 4 ∨ h / 2048 = 5 ∨ h / 2048 = 6 ∨ h / 2048 = 7 ∨ h / 2048 = 8 ∨ h / 2048 = 9 ∨ h / 2048 = 10 ∨ h / 2048 = 11 ∨ h / 2048 = 12 ∨ h / 2048 = 13 ∨ h / 2048 = 14 ∨ h / 2048 = 15 ∨ h / 2048 = 16 ∨ h / 2048 = 17 ∨ h / 2048 = 18 ∨ h / 2048 = 19 ∨ h / 2048 = 20 ∨ h / 2048 = 21 ∨ h / 2048 = 22 ∨ h / 2048 = 23 ∨ h / 2048 = 24 ∨ h / 2048 = 25 ∨ h / 2048 = 26 ∨ h / 2048 = 27 ∨ h / 2048 = 28 ∨ h / 2048 = 29 ∨ h / 2048 = 30 ∨ h / 2048 = 31 by omega) with q1 | q1 | q1 | q1 | q1 | q1 | q1 | q1 | q1 | q1 | q1 | q1 | q1 | q1 | q1 | q1 | q1 | q1 | q1 | q1 | q1 | q1 | q1 | q1 | q1 | q1 | q1 | q1 | q1 | q1 | q1 | q1
  · cases b
    · rcases f65 with z | z
      · exact rd_0 h hh q1 z w
      · exact rd_1 h hh q1 z w
    · rcases f65 with z | z
      · exact rd_33 h hh q1 z w
      · exact rd_34 h hh q1 z w
  · cases b
    · rcases f65 with z | z
      · exact rd_2 h hh q1 z w
      · exact rd_3 h hh q1 z w
    · rcases f65 with z | z
      · exact rd_35 h hh q1 z w
      · exact rd_36 h hh q1 z w
  · cases b
    · rcases f65 with z | z
      · exact rd_4 h hh q1 z w
      · exact rd_5 h hh q1 z w
    · rcases f65 with z | z
      · exact rd_37 h hh q1 z w
      · exact rd_38 h hh q1 z w
  · cases b
    · rcases (show (fd h 9 1 = 0 ∧ fd h 10 1 = 0) ∨ (fd h 9 1 = 0 ∧ fd h 10 1 = 1) ∨ (fd h 9 1 = 1 ∧ fd h 10 1 = 0) ∨ (fd h 9 1 = 1 ∧ fd h 10 1 = 1) by omega) with z | z | z | z
      · exact rd_6 h hh q1 z w
      · exact rd_7 h hh q1 z w
      · exact rd_8 h hh q1 z w
      · exact rd_9 h hh q1 z w
    · rcases (show (fd h 9 1 = 0 ∧ fd h 10 1 = 0) ∨ (fd h 9 1 = 0 ∧ fd h 10 1 = 1) ∨ (fd h 9 1 = 1 ∧ fd h 10 1 = 0) ∨ (fd h 9 1 = 1 ∧ fd h 10 1 = 1) by omega) with z | z | z | z
      · exact rd_39 h hh q1 z w
      · exact rd_40 h hh q1 z w
      · exact rd_41 h hh q1 z w
      · exact rd_42 h hh q1 z w
  · cases b
    · exact rd_10 h hh q1 w
    · exact rd_43 h hh q1 w
  · cases b
    · exact rd_11 h hh q1 w
    · exact rd_44 h hh q1 w
  · cases b
    · exact rd_12 h hh q1 w
    · exact rd_45 h hh q1 w
  · cases b
    · exact rd_13 h hh q1 w
    · exact rd_46 h hh q1 w
  · exact rdr_8 h hh q1 b w
  · cases b
    · exact rd_14 h hh q1 w
    · exact rd_47 h hh q1 w
  · cases b
    · rcases (show fd h 9 3 = 0 ∨ fd h 9 3 = 1 ∨ fd h 9 3 = 2 ∨ fd h 9 3 = 3 by omega) with z | z | z | z
      · exact rd_15 h hh q1 z w
      · exact rd_16 h hh q1 z w
      · exact rd_17 h hh q1 z w
      · exact rd_18 h hh q1 z w
    · rcases (show fd h 9 3 = 0 ∨ fd h 9 3 = 1 ∨ fd h 9 3 = 2 ∨ fd h 9 3 = 3 by omega) with z | z | z | z
      · exact rd_48 h hh q1 z w
      · exact rd_49 h hh q1 z w
      · exact rd_50 h hh q1 z w
      · exact rd_51 h hh q1 z w
  · cases b
    · rcases (show fd h 9 3 = 4 ∨ fd h 9 3 = 5 ∨ fd h 9 3 = 6 ∨ fd h 9 3 = 7 by omega) with z | z | z | z
      · exact rd_19 h hh q1 z w
      · exact rd_20 h hh q1 z w
      · exact rd_21 h hh q1 z w
      · exact rd_22 h hh q1 z w
    · rcases (show fd h 9 3 = 4 ∨ fd h 9 3 = 5 ∨ fd h 9 3 = 6 ∨ fd h 9 3 = 7 by omega) with z | z | z | z
      · exact rd_52 h hh q1 z w
      · exact rd_53 h hh q1 z w
      · exact rd_54 h hh q1 z w
      · exact rd_55 h hh q1 z w
  · cases b
    · exact rd_23 h hh q1 w
    · exact rd_56 h hh q1 w
  · cases b
    · exact rd_24 h hh q1 w
    · exact rd_57 h hh q1 w
  · cases b
    · exact rd_25 h hh q1 w
    · exact rd_58 h hh q1 w
  · cases b
    · exact rd_26 h hh q1 w
    · exact rd_59 h hh q1 w
  · cases b
    · exact rd_27 h hh q1 w
    · exact rd_60 h hh q1 w
  · cases b
    · exact rd_28 h hh q1 w
    · exact rd_61 h hh q1 w
  · cases b
    · exact rd_29 h hh q1 w
    · exact rd_62 h hh q1 w
  · cases b
    · exact rd_30 h hh q1 w
    · exact rd_63 h hh q1 w
  · cases b
    · exact rd_31 h hh q1 w
    · exact rd_64 h hh q1 w
  · cases b
    · exact rd_32 h hh q1 w
    · exact rd_65 h hh q1 w
  · exact rdr_22 h hh q1 b w
  · exact rdr_23 h hh q1 b w
  · have g1 : fd (fd h 0 8) (fd h 8 3) 1 < 2 := fd_lt _ _ 1
    rcases (show fd h 0 8 = 0 ∨ (fd h 0 8 ≠ 0 ∧ fd (fd h 0 8) (fd h 8 3) 1 = 1) ∨ (fd h 0 8 ≠ 0 ∧ fd (fd h 0 8) (fd h 8 3) 1 = 0) by omega) with z | z | z
    · exact rdr_24z h hh q1 z b w
    · exact rdr_24h h hh q1 z b w
    · exact rdr_24n h hh q1 z b w
  · have g1 : fd (fd h 0 8) (fd h 8 3) 1 < 2 := fd_lt _ _ 1
    rcases (show fd h 0 8 = 0 ∨ (fd h 0 8 ≠ 0 ∧ fd (fd h 0 8) (fd h 8 3) 1 = 1) ∨ (fd h 0 8 ≠ 0 ∧ fd (fd h 0 8) (fd h 8 3) 1 = 0) by omega) with z | z | z
    · exact rdr_25z h hh q1 z b w
    · exact rdr_25h h hh q1 z b w
    · exact rdr_25n h hh q1 z b w
  · exact rdr_26 h hh q1 b w
  · exact rdr_27 h hh q1 b w
  · exact rdr_28 h hh q1 b w
  · exact rdr_29 h hh q1 b w
  · exact rdr_30 h hh q1 b w
  · exact rdr_31 h hh q1 b w
theorem rdecode_c (h : Nat) (hh : h < 65536) (b : Bool) (w : World) : Calls Tryd.prog 11 #[.int .u16 h, .bool b] w fun e w' => Says w (decN h b) e w' := by
  have := rdecode_r h hh b w
  cases b
  · rwa [rdec_false h hh] at this
  · rwa [rdec_true h hh] at this
end Go.Proofs.YtbbkiiabjhgpkaaDoor
