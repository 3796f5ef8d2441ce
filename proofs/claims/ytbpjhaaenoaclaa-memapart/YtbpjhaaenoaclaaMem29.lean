/- MemApart, walked for every input. -/
import Derived.Test.YtbpjhaaenoaclaaMem27
namespace Go.Proofs.Ytbpjhaaenoaclaa
open Go.ChangeShapes Go.WideShapes Go.ChangeAt Go.RowKit
set_option linter.unusedVariables false
set_option linter.unusedSimpArgs false

set_option maxHeartbeats 4000000 in
set_option maxRecDepth 100000 in
theorem memapart_c (A1 A2 A3 : Option Addr) (n1 c1 n2 c2 n3 c3 : Nat) (b1 b2 : List Int) (X : Nat → ActS) (w : World) (h1 : BL w (fun b => b < w.heap.size) (.slice A1 n1 c1) b1) (h2 : BL w (fun b => b < w.heap.size) (.slice A2 n2 c2) b2) (h3 : AL w A3 n3 X)
    (f1 : n1 ≤ c1 ∧ (n1 : Int) ≤ 9223372036854775807) (f2 : n2 ≤ c2 ∧ (n2 : Int) ≤ 9223372036854775807) :
    Calls Try.prog 7 #[.slice A1 n1 c1, .slice A2 n2 c2, .slice A3 n3 c3] w fun e w' => e = .returned (.bool true) ∧ Below w.heap.size w w' := by
  by_cases hok : n1 ≤ 300 ∧ n2 ≤ 200 ∧ n3 ≤ 30
  · exact memapart_main A1 A2 A3 n1 c1 n2 c2 n3 c3 b1 b2 X w h1 h2 h3 f1.1 f2.1 hok.1 hok.2.1 hok.2.2
  · have hn3 := h3.1
    obtain ⟨_, hn1⟩ := f1
    obtain ⟨_, hn2⟩ := f2
    have K : Hid _ := known_c w
    clear h1 h2 h3
    by_cases q1 : n1 ≤ 300
    · have hd1 : decide ((300 : Int) < n1) = false := by simp; omega
      by_cases q2 : n2 ≤ 200
      · have hd2 : decide ((200 : Int) < n2) = false := by simp; omega
        have hd3 : (30 : Int) < n3 := by omega
        go_enter Try.func7, Try.ntmps7
        go_wp2_with fail
        refine Calls.mono K.out ?_
        rintro e w1 ⟨rfl, hb1⟩
        go_wp2
        go_ret
        exact ⟨rfl, hb1⟩
      · have hd2 : (200 : Int) < n2 := by omega
        go_enter Try.func7, Try.ntmps7
        go_wp2_with fail
        refine Calls.mono K.out ?_
        rintro e w1 ⟨rfl, hb1⟩
        go_wp2
        go_ret
        exact ⟨rfl, hb1⟩
    · have hd1 : (300 : Int) < n1 := by omega
      go_enter Try.func7, Try.ntmps7
      go_wp2_with fail
      refine Calls.mono K.out ?_
      rintro e w1 ⟨rfl, hb1⟩
      go_wp2
      go_ret
      exact ⟨rfl, hb1⟩
end Go.Proofs.Ytbpjhaaenoaclaa
