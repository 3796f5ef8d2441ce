/- What the laid tables give a walk: the second place of math/bits.deBruijn64tab holds 1; and that the heap which the program's own initialisers leave meets the condition. -/
import Derived.Test.YtmgnmoohfnaekaaDoorRows
import Derived.WalkKit
import Derived.ProofKit
import Derived.OpenShut
import Derived.LaidMore
import Derived.Lib.LaidTab
import Derived.Stop.Joined
namespace Go.Proofs.YtmgnmoohfnaekaaDoor
open Go.ChangeShapes Go.WideShapes Go.ChangeAt Go.RowKit
set_option maxRecDepth 100000

theorem own : ownKnob Tryd.prog.godebug = none := by kernel_rfl
def laidL : List (String × DataW Unit) := [("math/bits.deBruijn32tab", Rows.laid_math_bits_deBruijn32tab), ("math/bits.deBruijn64tab", Rows.laid_math_bits_deBruijn64tab)]
theorem gTab : Tryd.prog.globalNamed "math/bits.deBruijn64tab" = some 1 := by kernel_rfl
theorem tTab : (Tryd.prog.globals[1]?).map (·.type) = some 47 := by kernel_rfl
theorem uTab : Tryd.prog.underlying 47 = some (.array 64 5) := by kernel_rfl
theorem uByte : Tryd.prog.underlying 5 = some (.int .u8) := by kernel_rfl
theorem cByte : Tryd.prog.cellsOf 5 = 1 := by kernel_rfl
theorem cTab : Tryd.prog.cellsOf 47 = 64 := by kernel_rfl

theorem door_met (os : Os) (args : Array Value) : laidMetH Tryd.prog laidL ((World.doorLaid Tryd.prog 400 os).forCall (fun _ _ => 0) ⟨#[], args, []⟩).memory :=
  laidMetH_of_parts3 (fuel := 8) (laidMet_of_run' 8 (by kernel_rfl) (by kernel_rfl)) (by kernel_rfl) (by kernel_rfl)

def tabL : List Int := [0, 1, 56, 2, 57, 49, 28, 3, 61, 58, 42, 50, 38, 29, 17, 4, 62, 47, 59, 36, 45, 43, 51, 22, 53, 39, 33, 30, 24, 18, 12, 5, 63, 55, 48, 27, 60, 41, 37, 16, 46, 35, 44, 21, 52, 32, 23, 11, 54, 26, 40, 15, 34, 20, 31, 10, 25, 14, 19, 9, 13, 8, 7, 6]

theorem of_laid {W : World} (h : laidMetH Tryd.prog laidL W) : 1 < W.heap.size ∧ W.cell? ⟨1, 1, none⟩ = some (.int .u8 1) := by
  rw [MakeChecks.laidMetH_plain _ _ _ (by kernel_rfl)] at h
  obtain ⟨ps, ⟨g0, t0, cs0, f0, p0, q0, hg0, ht0, hv0, hd0, ⟨g1, t1, cs1, f1, p1, q1, hg1, ht1, hv1, hd1, _, _⟩, _⟩, _, _⟩ := h
  obtain rfl := Option.some.inj (gTab.symm.trans hg1)
  obtain rfl := Option.some.inj (tTab.symm.trans ht1)
  have hd : DataW.trod _ Tryd.prog W 0 _ false f1 47 cs1.toList = some (Lib.tabData .u8 tabL, p1) := hd1
  have hcs := Lib.cells_of_tab uTab uByte cByte cTab hd
  have hc : W.cell? ⟨1, 1, none⟩ = some (.int .u8 1) := by
    have := World.var?_cell hg1 hv1 1
    rw [show cs1[1]? = some (Value.int .u8 1) by rw [← Array.getElem?_toList, hcs]; rfl] at this
    exact this
  refine ⟨?_, hc⟩
  apply Nat.lt_of_not_le
  intro hle
  have hn : W.heap[1]? = none := by simp; omega
  simp [World.cell?, hn] at hc
end Go.Proofs.YtmgnmoohfnaekaaDoor
