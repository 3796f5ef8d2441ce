/- CondOthers returns true for every number and all flags: of a condition and its other one just one holds. -/
import Derived.Test.YtmgnmoohfnaekaaDoorCKnown
namespace Go.Proofs.YtmgnmoohfnaekaaDoor
open Go.ChangeShapes Go.WideShapes Go.ChangeAt Go.RowKit
set_option linter.unusedVariables false
set_option linter.unusedSimpArgs false

set_option maxHeartbeats 1000000 in
theorem others_walk (c f : Int) (n z k v : Bool) (w : World) (h1 : 1 < w.heap.size) (hT : w.cell? ⟨1, 1, none⟩ = some (.int .u8 1)) :
    Calls Tryd.prog 4 #[.int .i64 c, .int .i64 f, .bool n, .bool z, .bool k, .bool v] w fun e w' => e = .returned (.bool true) ∧ Below w.heap.size w w' := by
  have hb := and15 c
  obtain ⟨K, hK⟩ : ∃ K : Nat, bits .and .i64 c 15 = (K : Int) := ⟨(bits .and .i64 c 15).toNat, by omega⟩
  rw [hK] at hb
  have KN : Hid _ := known_true w h1 hT
  have O1 : Hid _ := fun w => of_c n z k v w
  clear h1 hT
  by_cases hk : K < 14
  · have O2 : Hid _ := fun w => rOf_c n z k v w
    have A1 : Hid _ := fun w => holds_c K (ofS n z k v) w
    have A2 : Hid _ := fun w => holds_c (notS K) (ofS n z k v) w
    have A3 : Hid _ := fun w => holds_c K (bits .or .i64 (ofS n z k v) 16) w
    have B1 : Hid _ := fun w => holds_c K f w
    have B2 : Hid _ := fun w => holds_c (notS K) f w
    have N1 : Hid _ := fun w => not_c K w
    have N2 : Hid _ := fun w => not_c (notS K) w
    rw [notS_twice K hk] at N2
    have e1 : flagsHold (notS K) f = !flagsHold K f := other_holds K hk _ _ _ _
    rw [more_holds] at A3
    rw [of_holds] at A1 A2
    rw [other_holds K hk] at A2
    rw [e1] at B2
    clear e1
    generalize holdsS K n z k v = p at *
    generalize flagsHold K f = q at *
    generalize notS K = M at *
    generalize ofS n z k v = F at *
    have p1 : (p != !p) = true := by cases p <;> rfl
    have q1 : (q != !q) = true := by cases q <;> rfl
    go_enter Tryd.func4, Tryd.ntmps4
    go_wp2_with fail
    refine Calls.mono KN.out ?_
    rintro e w1 ⟨rfl, hb1⟩
    have HB : Hid _ := hb1
    clear hb1
    go_wp2_with fail
    refine (O1.out _).mono ?_
    rintro e _ ⟨rfl, rfl⟩
    go_wp2_with fail
    refine (A1.out _).mono ?_
    rintro e _ ⟨rfl, rfl⟩
    go_wp2_with fail
    refine (N1.out _).mono ?_
    rintro e _ ⟨rfl, rfl⟩
    go_wp2_with fail
    refine (A2.out _).mono ?_
    rintro e _ ⟨rfl, rfl⟩
    go_wp2_with fail
    refine (B1.out _).mono ?_
    rintro e _ ⟨rfl, rfl⟩
    go_wp2_with fail
    refine (N1.out _).mono ?_
    rintro e _ ⟨rfl, rfl⟩
    go_wp2_with fail
    refine (B2.out _).mono ?_
    rintro e _ ⟨rfl, rfl⟩
    go_wp2_with fail
    refine (N1.out _).mono ?_
    rintro e _ ⟨rfl, rfl⟩
    go_wp2_with fail
    refine (N2.out _).mono ?_
    rintro e _ ⟨rfl, rfl⟩
    go_wp2_with fail
    refine (O2.out _).mono ?_
    rintro e _ ⟨rfl, rfl⟩
    go_wp2_with fail
    refine (A1.out _).mono ?_
    rintro e _ ⟨rfl, rfl⟩
    go_wp2_with fail
    refine (A3.out _).mono ?_
    rintro e _ ⟨rfl, rfl⟩
    go_wp2
    go_ret
    exact ⟨rfl, HB.out⟩
  · have A1 : Hid _ := fun w => holds_c 14 (ofS n z k v) w
    have B1 : Hid _ := fun w => holds_c 14 f w
    have N1 : Hid _ := fun w => not_c 14 w
    rw [show notS 14 = 14 by decide +kernel] at N1
    have e1 : ∀ g, flagsHold 14 g = true := fun g => rfl
    rw [e1] at A1 B1
    clear e1
    generalize ofS n z k v = F at *
    go_enter Tryd.func4, Tryd.ntmps4
    go_wp2_with fail
    refine Calls.mono KN.out ?_
    rintro e w1 ⟨rfl, hb1⟩
    have HB : Hid _ := hb1
    clear hb1
    go_wp2_with fail
    refine (O1.out _).mono ?_
    rintro e _ ⟨rfl, rfl⟩
    go_wp2_with fail
    refine (A1.out _).mono ?_
    rintro e _ ⟨rfl, rfl⟩
    go_wp2_with fail
    refine (N1.out _).mono ?_
    rintro e _ ⟨rfl, rfl⟩
    go_wp2_with fail
    refine (B1.out _).mono ?_
    rintro e _ ⟨rfl, rfl⟩
    go_wp2
    go_ret
    exact ⟨rfl, HB.out⟩
end Go.Proofs.YtmgnmoohfnaekaaDoor
