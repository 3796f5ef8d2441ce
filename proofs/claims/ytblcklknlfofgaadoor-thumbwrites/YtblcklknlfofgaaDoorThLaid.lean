/- Stage 8: what the laid tables give a walk: the cells of thumb's four tables of operations and of math/bits.deBruijn64tab; and that the heap which the program's own initialisers leave meets the condition. -/
import Derived.Test.YtblcklknlfofgaaDoorRows
import Derived.Test.YtblcklknlfofgaaDoorTh0
import Derived.WalkKit
import Derived.ProofKit
import Derived.OpenShut
import Derived.LaidMore
import Derived.Lib.LaidTab
import Derived.Stop.Joined
namespace Go.Proofs.YtblcklknlfofgaaDoor
open Go.ChangeShapes Go.WideShapes Go.ChangeAt Go.RowKit
set_option maxRecDepth 100000

theorem own : ownKnob Tryd.prog.godebug = none := by kernel_rfl
def laidL : List (String × DataW Unit) := [("math/bits.deBruijn32tab", Rows.laid_math_bits_deBruijn32tab), ("math/bits.deBruijn64tab", Rows.laid_math_bits_deBruijn64tab), ("sourdine/thumb.lowOps", Rows.laid_sourdine_thumb_lowOps), ("sourdine/thumb.memoryOps", Rows.laid_sourdine_thumb_memoryOps), ("sourdine/thumb.extOps", Rows.laid_sourdine_thumb_extOps), ("sourdine/thumb.revOps", Rows.laid_sourdine_thumb_revOps)]
theorem uInt : Tryd.prog.underlying 3 = some (.int .i64) := by kernel_rfl
theorem cInt : Tryd.prog.cellsOf 3 = 1 := by kernel_rfl
theorem uByte : Tryd.prog.underlying 5 = some (.int .u8) := by kernel_rfl
theorem cByte : Tryd.prog.cellsOf 5 = 1 := by kernel_rfl
theorem gT0 : Tryd.prog.globalNamed "math/bits.deBruijn64tab" = some 5 := by kernel_rfl
theorem tT0 : (Tryd.prog.globals[5]?).map (·.type) = some 73 := by kernel_rfl
theorem uT0 : Tryd.prog.underlying 73 = some (.array 64 5) := by kernel_rfl
theorem cT0 : Tryd.prog.cellsOf 73 = 64 := by kernel_rfl
def tL0 : List Int := [0, 1, 56, 2, 57, 49, 28, 3, 61, 58, 42, 50, 38, 29, 17, 4, 62, 47, 59, 36, 45, 43, 51, 22, 53, 39, 33, 30, 24, 18, 12, 5, 63, 55, 48, 27, 60, 41, 37, 16, 46, 35, 44, 21, 52, 32, 23, 11, 54, 26, 40, 15, 34, 20, 31, 10, 25, 14, 19, 9, 13, 8, 7, 6]
theorem gT1 : Tryd.prog.globalNamed "sourdine/thumb.lowOps" = some 3 := by kernel_rfl
theorem tT1 : (Tryd.prog.globals[3]?).map (·.type) = some 65 := by kernel_rfl
theorem uT1 : Tryd.prog.underlying 65 = some (.array 16 3) := by kernel_rfl
theorem cT1 : Tryd.prog.cellsOf 65 = 16 := by kernel_rfl
def tL1 : List Int := [1, 2, 17, 18, 19, 6, 7, 20, 8, 4, 10, 11, 12, 21, 14, 15]
theorem gT2 : Tryd.prog.globalNamed "sourdine/thumb.memoryOps" = some 0 := by kernel_rfl
theorem tT2 : (Tryd.prog.globals[0]?).map (·.type) = some 50 := by kernel_rfl
theorem uT2 : Tryd.prog.underlying 50 = some (.array 8 3) := by kernel_rfl
theorem cT2 : Tryd.prog.cellsOf 50 = 8 := by kernel_rfl
def tL2 : List Int := [49, 51, 50, 47, 44, 46, 45, 48]
theorem gT3 : Tryd.prog.globalNamed "sourdine/thumb.extOps" = some 1 := by kernel_rfl
theorem tT3 : (Tryd.prog.globals[1]?).map (·.type) = some 59 := by kernel_rfl
theorem uT3 : Tryd.prog.underlying 59 = some (.array 4 3) := by kernel_rfl
theorem cT3 : Tryd.prog.cellsOf 59 = 4 := by kernel_rfl
def tL3 : List Int := [40, 39, 42, 41]
theorem gT4 : Tryd.prog.globalNamed "sourdine/thumb.revOps" = some 2 := by kernel_rfl
theorem tT4 : (Tryd.prog.globals[2]?).map (·.type) = some 59 := by kernel_rfl
theorem uT4 : Tryd.prog.underlying 59 = some (.array 4 3) := by kernel_rfl
theorem cT4 : Tryd.prog.cellsOf 59 = 4 := by kernel_rfl
def tL4 : List Int := [36, 37, 0, 38]

theorem door_met (os : Os) (args : Array Value) : laidMetH Tryd.prog laidL ((World.doorLaid Tryd.prog 400 os).forCall (fun _ _ => 0) ⟨#[], args, []⟩).memory :=
  laidMetH_of_parts3 (fuel := 8) (laidMet_of_run' 8 (by kernel_rfl) (by kernel_rfl)) (by kernel_rfl) (by kernel_rfl)

/-- The tables lie. -/
structure LT (W : World) : Prop where
  pos : 5 < W.heap.size
  mem : ∀ k, k < 8 → W.cell? ⟨0, k, none⟩ = some (.int .i64 (memOp k))
  low : ∀ k, k < 16 → W.cell? ⟨3, k, none⟩ = some (.int .i64 (lowOp k))
  ext : ∀ k, k < 4 → W.cell? ⟨1, k, none⟩ = some (.int .i64 (extOp k))
  rev : ∀ k, k < 4 → W.cell? ⟨2, k, none⟩ = some (.int .i64 (revOp k))
  tz : ∀ k, k < 64 → W.cell? ⟨5, k, none⟩ = some (.int .u8 (tL0.getD k 0))
theorem LT.below {B : Nat} {w w' : World} (h : LT w) (hb : Below B w w') (hB : 5 < B) : LT w' :=
  ⟨Nat.lt_of_lt_of_le h.pos hb.size, fun k hk => (hb.cell (by show 0 < B; omega)).trans (h.mem k hk), fun k hk => (hb.cell (by show 3 < B; omega)).trans (h.low k hk), fun k hk => (hb.cell (by show 1 < B; omega)).trans (h.ext k hk), fun k hk => (hb.cell (by show 2 < B; omega)).trans (h.rev k hk), fun k hk => (hb.cell (by show 5 < B; omega)).trans (h.tz k hk)⟩
theorem LT.next {w w' : World} (h : LT w) (hb : Below w.heap.size w w') : LT w' := h.below hb h.pos

theorem of_laid {W : World} (h : laidMetH Tryd.prog laidL W) : LT W := by
  rw [MakeChecks.laidMetH_plain _ _ _ (by kernel_rfl)] at h
  obtain ⟨ps, ⟨g0, t0, cs0, f0, p0, q0, hg0, ht0, hv0, hd0, ⟨g1, t1, cs1, f1, p1, q1, hg1, ht1, hv1, hd1, ⟨g2, t2, cs2, f2, p2, q2, hg2, ht2, hv2, hd2, ⟨g3, t3, cs3, f3, p3, q3, hg3, ht3, hv3, hd3, ⟨g4, t4, cs4, f4, p4, q4, hg4, ht4, hv4, hd4, ⟨g5, t5, cs5, f5, p5, q5, hg5, ht5, hv5, hd5, _⟩, _⟩, _⟩, _⟩, _⟩, _⟩, _, _⟩ := h
  obtain rfl := Option.some.inj (gT0.symm.trans hg1)
  obtain rfl := Option.some.inj (tT0.symm.trans ht1)
  have hd0' : DataW.trod _ Tryd.prog W 0 _ false f1 73 cs1.toList = some (Lib.tabData .u8 tL0, p1) := hd1
  have hcs0 := Lib.cells_of_tab uT0 uByte cByte cT0 hd0'
  have hc0 : ∀ k, k < 64 → W.cell? ⟨5, k, none⟩ = some (.int .u8 (tL0.getD k 0)) := fun k hk => by
    have := World.var?_cell hg1 hv1 k
    have hk' : tL0[k]? = some (tL0.getD k 0) := by
      rw [List.getD, List.getElem?_eq_getElem (show k < tL0.length from hk)]
      rfl
    rw [show cs1[k]? = some (Value.int .u8 (tL0.getD k 0)) by rw [← Array.getElem?_toList, hcs0, List.getElem?_map, hk']; rfl] at this
    exact this
  obtain rfl := Option.some.inj (gT1.symm.trans hg2)
  obtain rfl := Option.some.inj (tT1.symm.trans ht2)
  have hd1' : DataW.trod _ Tryd.prog W 0 _ false f2 65 cs2.toList = some (Lib.tabData .i64 tL1, p2) := hd2
  have hcs1 := Lib.cells_of_tab uT1 uInt cInt cT1 hd1'
  have hc1 : ∀ k, k < 16 → W.cell? ⟨3, k, none⟩ = some (.int .i64 (tL1.getD k 0)) := fun k hk => by
    have := World.var?_cell hg2 hv2 k
    have hk' : tL1[k]? = some (tL1.getD k 0) := by
      rw [List.getD, List.getElem?_eq_getElem (show k < tL1.length from hk)]
      rfl
    rw [show cs2[k]? = some (Value.int .i64 (tL1.getD k 0)) by rw [← Array.getElem?_toList, hcs1, List.getElem?_map, hk']; rfl] at this
    exact this
  obtain rfl := Option.some.inj (gT2.symm.trans hg3)
  obtain rfl := Option.some.inj (tT2.symm.trans ht3)
  have hd2' : DataW.trod _ Tryd.prog W 0 _ false f3 50 cs3.toList = some (Lib.tabData .i64 tL2, p3) := hd3
  have hcs2 := Lib.cells_of_tab uT2 uInt cInt cT2 hd2'
  have hc2 : ∀ k, k < 8 → W.cell? ⟨0, k, none⟩ = some (.int .i64 (tL2.getD k 0)) := fun k hk => by
    have := World.var?_cell hg3 hv3 k
    have hk' : tL2[k]? = some (tL2.getD k 0) := by
      rw [List.getD, List.getElem?_eq_getElem (show k < tL2.length from hk)]
      rfl
    rw [show cs3[k]? = some (Value.int .i64 (tL2.getD k 0)) by rw [← Array.getElem?_toList, hcs2, List.getElem?_map, hk']; rfl] at this
    exact this
  obtain rfl := Option.some.inj (gT3.symm.trans hg4)
  obtain rfl := Option.some.inj (tT3.symm.trans ht4)
  have hd3' : DataW.trod _ Tryd.prog W 0 _ false f4 59 cs4.toList = some (Lib.tabData .i64 tL3, p4) := hd4
  have hcs3 := Lib.cells_of_tab uT3 uInt cInt cT3 hd3'
  have hc3 : ∀ k, k < 4 → W.cell? ⟨1, k, none⟩ = some (.int .i64 (tL3.getD k 0)) := fun k hk => by
    have := World.var?_cell hg4 hv4 k
    have hk' : tL3[k]? = some (tL3.getD k 0) := by
      rw [List.getD, List.getElem?_eq_getElem (show k < tL3.length from hk)]
      rfl
    rw [show cs4[k]? = some (Value.int .i64 (tL3.getD k 0)) by rw [← Array.getElem?_toList, hcs3, List.getElem?_map, hk']; rfl] at this
    exact this
  obtain rfl := Option.some.inj (gT4.symm.trans hg5)
  obtain rfl := Option.some.inj (tT4.symm.trans ht5)
  have hd4' : DataW.trod _ Tryd.prog W 0 _ false f5 59 cs5.toList = some (Lib.tabData .i64 tL4, p5) := hd5
  have hcs4 := Lib.cells_of_tab uT4 uInt cInt cT4 hd4'
  have hc4 : ∀ k, k < 4 → W.cell? ⟨2, k, none⟩ = some (.int .i64 (tL4.getD k 0)) := fun k hk => by
    have := World.var?_cell hg5 hv5 k
    have hk' : tL4[k]? = some (tL4.getD k 0) := by
      rw [List.getD, List.getElem?_eq_getElem (show k < tL4.length from hk)]
      rfl
    rw [show cs5[k]? = some (Value.int .i64 (tL4.getD k 0)) by rw [← Array.getElem?_toList, hcs4, List.getElem?_map, hk']; rfl] at this
    exact this
  refine ⟨World.block_lt_of_cell? W ⟨5, 0, none⟩ (hc0 0 (by decide)), fun k hk => (hc2 k hk).trans ?_, fun k hk => (hc1 k hk).trans ?_, fun k hk => (hc3 k hk).trans ?_, fun k hk => (hc4 k hk).trans ?_, hc0⟩
  · have : ∀ k, k < 8 → tL2.getD k 0 = ((memOp k : Nat) : Int) := by decide
    rw [this k hk]
  · have : ∀ k, k < 16 → tL1.getD k 0 = ((lowOp k : Nat) : Int) := by decide
    rw [this k hk]
  · have : ∀ k, k < 4 → tL3.getD k 0 = ((extOp k : Nat) : Int) := by decide
    rw [this k hk]
  · have : ∀ k, k < 4 → tL4.getD k 0 = ((revOp k : Nat) : Int) := by decide
    rw [this k hk]
end Go.Proofs.YtblcklknlfofgaaDoor
