/- The names of the instructions, the document's, walked. -/
import Derived.Test.YtklhnaineeleoaaDoorHst7a
import Derived.Test.YtklhnaineeleoaaDoorHst7b
import Derived.Test.YtklhnaineeleoaaDoorHst7c
import Derived.Test.YtklhnaineeleoaaDoorHst7d
namespace Go.Proofs.YtklhnaineeleoaaDoor
open Go.ChangeShapes Go.WideShapes Go.ChangeAt Go.RowKit
set_option linter.unusedVariables false
set_option linter.unusedSimpArgs false

theorem rname_c (o : Int) (w : World) : Calls Tryd.prog 22 #[.int .i64 o] w fun e w' => e = .returned (.string (nmS o)) ∧ Below w.heap.size w w' := by
  rcases (show o < 1 ∨ 31 < o ∨ o = 1 ∨ o = 2 ∨ o = 3 ∨ o = 4 ∨ o = 5 ∨ o = 6 ∨ o = 7 ∨ o = 8 ∨ o = 9 ∨ o = 10 ∨ o = 11 ∨ o = 12 ∨ o = 13 ∨ o = 14 ∨ o = 15 ∨ o = 16 ∨ o = 17 ∨ o = 18 ∨ o = 19 ∨ o = 20 ∨ o = 21 ∨ o = 22 ∨ o = 23 ∨ o = 24 ∨ o = 25 ∨ o = 26 ∨ o = 27 ∨ o = 28 ∨ o = 29 ∨ o = 30 ∨ o = 31 by omega) with h | h | rfl | rfl | rfl | rfl | rfl | rfl | rfl | rfl | rfl | rfl | rfl | rfl | rfl | rfl | rfl | rfl | rfl | rfl | rfl | rfl | rfl | rfl | rfl | rfl | rfl | rfl | rfl | rfl | rfl | rfl | rfl
  · exact rname_lo o h w
  · exact rname_hi o h w
  · exact rname_1 w
  · exact rname_2 w
  · exact rname_3 w
  · exact rname_4 w
  · exact rname_5 w
  · exact rname_6 w
  · exact rname_7 w
  · exact rname_8 w
  · exact rname_9 w
  · exact rname_10 w
  · exact rname_11 w
  · exact rname_12 w
  · exact rname_13 w
  · exact rname_14 w
  · exact rname_15 w
  · exact rname_16 w
  · exact rname_17 w
  · exact rname_18 w
  · exact rname_19 w
  · exact rname_20 w
  · exact rname_21 w
  · exact rname_22 w
  · exact rname_23 w
  · exact rname_24 w
  · exact rname_25 w
  · exact rname_26 w
  · exact rname_27 w
  · exact rname_28 w
  · exact rname_29 w
  · exact rname_30 w
  · exact rname_31 w
end Go.Proofs.YtklhnaineeleoaaDoor
