/- ThumbFlags, its argument a number. -/
import Derived.Test.YtblcklknlfofgaaDoorThFl
namespace Go.Proofs.YtblcklknlfofgaaDoor
open Go.ChangeShapes Go.WideShapes Go.ChangeAt Go.RowKit
theorem flags_i (a : Int) (h0 : 0 ≤ a) (h1 : a ≤ 65535) (w : World) (HT : LT w) : Calls Tryd.prog 6 #[.int .u16 a] w fun e w' => e = .returned (.bool true) ∧ Below w.heap.size w w' := by
  obtain ⟨h, rfl⟩ := Int.eq_ofNat_of_zero_le h0
  exact flags_c h (by omega) w HT
end Go.Proofs.YtblcklknlfofgaaDoor
