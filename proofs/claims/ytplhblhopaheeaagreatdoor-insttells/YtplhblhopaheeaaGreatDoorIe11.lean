/- Stage 7: InstTells (built in /work/z: mkz7.sh). -/
import Derived.Test.YtplhblhopaheeaaGreatDoorIe9
import Derived.Test.YtplhblhopaheeaaGreatDoorIe10
import Derived.Test.YtplhblhopaheeaaGreatDoorIn11z
import Derived.Test.YtplhblhopaheeaaGreatDoorRgH
import Derived.Test.YtplhblhopaheeaaGreatDoorWh1
import Derived.Test.YtplhblhopaheeaaGreatDoorYo
namespace Go.Proofs.YtplhblhopaheeaaGreatDoor
open Go.ChangeShapes Go.WideShapes Go.ChangeAt Go.RowKit
set_option linter.unusedVariables false
set_option linter.unusedSimpArgs false

theorem nat_of (z : Int) (h : 0 ≤ z) : ∃ n : Nat, z = (n : Int) := ⟨z.toNat, by omega⟩
theorem tells_i (h k n x y : Int) (b : Bool) (c : Int) (hh : 0 ≤ h ∧ h ≤ 65535) (hk : 0 ≤ k ∧ k ≤ 65535) (hn : 0 ≤ n ∧ n ≤ 255) (hx : 0 ≤ x ∧ x ≤ 65535) (hy : 0 ≤ y ∧ y ≤ 65535) (hc : 0 ≤ c ∧ c ≤ 255) (w : World) (hT : NT w) :
    Calls Tryz.prog 3 #[.int .u16 h, .int .u16 k, .int .u8 n, .int .u16 x, .int .u16 y, .bool b, .int .u8 c] w fun e w' => e = .returned (.bool true) ∧ Below w.heap.size w w' := by
  refine tells_g h k n x y c b w hh hk hc (known_c w hT) ?_ ?_ ?_ ?_
  · intro w1
    obtain ⟨n', rfl⟩ := nat_of n hn.1
    obtain ⟨x', rfl⟩ := nat_of x hx.1
    obtain ⟨y', rfl⟩ := nat_of y hy.1
    refine (pair_c n' x' y' (by omega) (by omega) w1).mono ?_
    rintro e w' ⟨⟨p, q, he, hp, hq⟩, hb⟩
    exact ⟨p, q, he, by omega, by omega, hb⟩
  · intro w1
    refine (half_c n x hn.1 hx.1 hx.2 w1).mono ?_
    rintro e w' ⟨⟨p, he, h0, h1⟩, hb⟩
    exact ⟨p, he, ⟨h0, h1⟩, hb⟩
  · intro z hz w1
    obtain ⟨z', rfl⟩ := nat_of z hz.1
    have hz' : z' < 65536 := by omega
    refine (rdecode_c z' hz' b w1).mono ?_
    rintro e w' ⟨he, hb⟩
    exact ⟨(decN z' b).iv, fit_narrow z' hz' b, he, hb⟩
  · intro z z2 hz hz2 w1
    obtain ⟨z', rfl⟩ := nat_of z hz.1
    obtain ⟨z2', rfl⟩ := nat_of z2 hz2.1
    refine (rdecodeWide_c z' z2' (by omega) (by omega) b w1).mono ?_
    rintro e w' ⟨he, hb⟩
    exact ⟨decI b (aloX (z' * 65536 + z2')) (z' * 65536 + z2'), fit_wide b _, he, hb⟩
end Go.Proofs.YtplhblhopaheeaaGreatDoor
