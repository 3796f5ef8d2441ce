/- What the laid table gives a walk: the cells of sourdine/host.names; and that the heap which the program's own initialisers leave meets the condition. -/
import Derived.Test.YtklhnaineeleoaaDoorRows
import Derived.WalkKit
import Derived.ProofKit
import Derived.OpenShut
import Derived.LaidMore
import Derived.Lib.LaidTab
import Derived.Stop.Joined
namespace Go.Proofs.YtklhnaineeleoaaDoor
open Go.ChangeShapes Go.WideShapes Go.ChangeAt Go.RowKit
set_option maxRecDepth 100000

theorem own : ownKnob Tryd.prog.godebug = none := by kernel_rfl
def laidL : List (String × DataW Unit) := [("sourdine/host.names", Rows.laid_sourdine_host_names)]
theorem gTab : Tryd.prog.globalNamed "sourdine/host.names" = some 0 := by kernel_rfl
theorem tTab : (Tryd.prog.globals[0]?).map (·.type) = some 48 := by kernel_rfl
theorem uTab : Tryd.prog.underlying 48 = some (.array 32 9) := by kernel_rfl
theorem uStr : Tryd.prog.underlying 9 = some .string := by kernel_rfl
theorem cStr : Tryd.prog.cellsOf 9 = 1 := by kernel_rfl
theorem cTab : Tryd.prog.cellsOf 48 = 32 := by kernel_rfl

theorem door_met (os : Os) (args : Array Value) : laidMetH Tryd.prog laidL ((World.doorLaid Tryd.prog 400 os).forCall (fun _ _ => 0) ⟨#[], args, []⟩).memory :=
  laidMetH_of_parts3 (fuel := 8) (laidMet_of_run' 8 (by kernel_rfl) (by kernel_rfl)) (by kernel_rfl) (by kernel_rfl)

def nmL : List (List UInt8) := [[], [77, 111, 118, 73], [77, 111, 118], [65, 100, 100], [83, 117, 98], [65, 110, 100], [79, 114], [88, 111, 114], [83, 104, 108], [83, 104, 114], [83, 97, 114], [82, 111, 114], [77, 117, 108], [77, 117, 108, 85], [77, 117, 108, 83], [68, 105, 118, 85], [68, 105, 118, 83], [67, 108, 122], [76, 116, 85], [76, 116, 83], [69, 113], [83, 101, 108], [76, 100, 49], [76, 100, 50], [76, 100, 52], [83, 116, 49], [83, 116, 50], [83, 116, 52], [74, 109, 112], [74, 122], [69, 120, 105, 116], [84, 114, 97, 112]]
def nmT (k : Nat) : ByteArray := ⟨(nmL.getD k []).toArray⟩
def strData {H : Type} (zs : List (List UInt8)) : DataW H := .agg (zs.map fun z => .lit (.string z))

/-- An array of strings that reads as the table holds the table's strings, cell for cell. -/
theorem cells_of_strs {H : Type} {enc : TypeId × Value → H} {P : Program} {w : World} {base : Nat} {sp : Nat → Bool} {held : Bool} {fuel : Nat} {t e : TypeId} {n : Nat} {cs : List Value} {zs : List (List UInt8)} {p : List MemPlace}
    (ht : P.underlying t = some (.array n e)) (he : P.underlying e = some .string) (hce : P.cellsOf e = 1) (hct : P.cellsOf t = n)
    (h : DataW.trod enc P w base sp held fuel t cs = some (strData zs, p)) : ∀ (i : Nat) (z : List UInt8), zs[i]? = some z → cs[i]? = some (Value.string ⟨z.toArray⟩) := by
  cases fuel with
  | zero => simp [DataW.trod] at h
  | succ fuel =>
    simp only [DataW.trod, ht, hce, hct, Nat.mul_one] at h
    split at h
    · rename_i hl
      obtain ⟨xs, hm, hx⟩ := Option.map_eq_some_iff.1 h
      have hxs : xs.map (·.1) = zs.map fun z => (DataW.lit (.string z) : DataW H) := by
        have := congrArg Prod.fst hx
        simpa [strData] using this
      have hxl : xs.length = n := by simpa using Lib.mapM_length hm
      have hzl : zs.length = n := by
        have := congrArg List.length hxs
        simp at this
        omega
      intro i z hz
      have hi : i < n := by
        have := (List.getElem?_eq_some_iff.1 hz).1
        omega
      obtain ⟨b, hb, hf⟩ := Lib.mapM_at hm i i (by simp [hi])
      obtain ⟨s, hc, rfl, _⟩ := DataW.trod_string he hf
      have h1 : cs[i]? = some (.string s) := by
        have := congrArg (·[0]?) hc
        simpa [List.getElem?_take, List.getElem?_drop] using this
      have h2 : (xs.map (·.1))[i]? = some (DataW.lit (.string s.data.toList) : DataW H) := by simp [hb]
      rw [hxs] at h2
      simp only [List.getElem?_map, hz, Option.map_some, Option.some.injEq, DataW.lit.injEq, Lit.string.injEq] at h2
      rw [h1, h2]
    · cases h

/-- The table lies. -/
def LT (W : World) : Prop := 0 < W.heap.size ∧ ∀ k, k < 32 → W.cell? ⟨0, k, none⟩ = some (.string (nmT k))
theorem LT.below {B : Nat} {w w' : World} (h : LT w) (hb : Below B w w') (hB : 0 < B) : LT w' := ⟨Nat.lt_of_lt_of_le h.1 hb.size, fun k hk => (hb.cell hB).trans (h.2 k hk)⟩
theorem LT.next {w w' : World} (h : LT w) (hb : Below w.heap.size w w') : LT w' := h.below hb h.1

theorem of_laid {W : World} (h : laidMetH Tryd.prog laidL W) : LT W := by
  rw [MakeChecks.laidMetH_plain _ _ _ (by kernel_rfl)] at h
  obtain ⟨ps, ⟨g0, t0, cs0, f0, p0, q0, hg0, ht0, hv0, hd0, _⟩, _, _⟩ := h
  obtain rfl := Option.some.inj (gTab.symm.trans hg0)
  obtain rfl := Option.some.inj (tTab.symm.trans ht0)
  have hd : DataW.trod _ Tryd.prog W 0 _ false f0 48 cs0.toList = some (strData nmL, p0) := hd0
  have hcs := cells_of_strs uTab uStr cStr cTab hd
  have hc : ∀ k, k < 32 → W.cell? ⟨0, k, none⟩ = some (.string (nmT k)) := fun k hk => by
    have := World.var?_cell hg0 hv0 k
    have hk' : nmL[k]? = some (nmL.getD k []) := by
      rw [List.getD, List.getElem?_eq_getElem (show k < nmL.length from hk)]
      rfl
    rw [show cs0[k]? = some (Value.string (nmT k)) by rw [← Array.getElem?_toList, hcs k _ hk']; rfl] at this
    exact this
  refine ⟨World.block_lt_of_cell? W ⟨0, 0, none⟩ (hc 0 (by decide)), hc⟩
end Go.Proofs.YtklhnaineeleoaaDoor
