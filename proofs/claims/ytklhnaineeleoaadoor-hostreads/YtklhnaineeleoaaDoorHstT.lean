/- HostReads returns true, whatever the bytes. -/
import Derived.Test.YtklhnaineeleoaaDoorHstS
namespace Go.Proofs.YtklhnaineeleoaaDoor
open Go.ChangeShapes Go.WideShapes Go.ChangeAt Go.RowKit
set_option linter.unusedVariables false
set_option linter.unusedSimpArgs false

theorem reads_walk (A : Option Addr) (n cc : Nat) (bs : List Int) (o d a b c v at_ x : Int) (ho : 0 ≤ o ∧ o ≤ 255) (hd : 0 ≤ d ∧ d ≤ 255) (ha : 0 ≤ a ∧ a ≤ 255) (hb : 0 ≤ b ∧ b ≤ 255) (hc : 0 ≤ c ∧ c ≤ 255) (hv : 0 ≤ v ∧ v ≤ 4294967295) (ht : 0 ≤ at_ ∧ at_ ≤ 255) (hx : 0 ≤ x ∧ x ≤ 255)
    (w : World) (hT : LT w) (hn : n ≤ maxLen) (hbl : BL w (fun b => b < w.heap.size) (.slice A n cc) bs) :
    Calls Tryd.prog 5 #[.slice A n cc, .int .u8 o, .int .u8 d, .int .u8 a, .int .u8 b, .int .u8 c, .int .u32 v, .int .u8 at_, .int .u8 x] w fun e w' => e = .returned (.bool true) ∧ Below w.heap.size w w' := by
  by_cases h30 : n ≤ 30
  · exact reads_w A n cc bs o d a b c v at_ x _ _ _ _ _ (at_ % 9).toNat ho.1 ho.2 hd.1 hd.2 ha.1 ha.2 hb.1 hb.2 hc.1 hc.2 hv.1 hv.2 ht.1 ht.2 hx.1 hx.2 rfl rfl rfl rfl rfl (by omega) w hT h30 hbl
  · have h31 : (30 : Int) < n := by omega
    have K : Hid (Calls Tryd.prog 7 #[] w fun e w' => e = .returned (.bool true) ∧ Below w.heap.size w w') := known_c w hT
    clear hT hbl
    go_enter Tryd.func5, Tryd.ntmps5
    go_wp2_with fail
    refine Calls.mono K.out ?_
    rintro e w1 ⟨rfl, hw1⟩
    clear K
    go_wp2
    go_ret
    exact ⟨rfl, hw1⟩
end Go.Proofs.YtklhnaineeleoaaDoor
