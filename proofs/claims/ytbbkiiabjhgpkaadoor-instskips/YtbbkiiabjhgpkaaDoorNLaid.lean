/- What the laid table gives a walk: the cells of sourdine/inst.names; and that the heap which the program's own initialisers leave meets the condition. -/
import Derived.Test.YtbbkiiabjhgpkaaDoorRows
import Derived.WalkKit
import Derived.ProofKit
import Derived.OpenShut
import Derived.LaidMore
import Derived.Lib.LaidTab
import Derived.Stop.Joined
namespace Go.Proofs.YtbbkiiabjhgpkaaDoor
open Go.ChangeShapes Go.WideShapes Go.ChangeAt Go.RowKit
set_option maxRecDepth 100000

theorem own : ownKnob Tryd.prog.godebug = none := by kernel_rfl
def laidL : List (String × DataW Unit) := [("sourdine/inst.names", Rows.laid_sourdine_inst_names)]
theorem gTab : Tryd.prog.globalNamed "sourdine/inst.names" = some 0 := by kernel_rfl
theorem tTab : (Tryd.prog.globals[0]?).map (·.type) = some 41 := by kernel_rfl
theorem uTab : Tryd.prog.underlying 41 = some (.array 66 9) := by kernel_rfl
theorem uStr : Tryd.prog.underlying 9 = some .string := by kernel_rfl
theorem cStr : Tryd.prog.cellsOf 9 = 1 := by kernel_rfl
theorem cTab : Tryd.prog.cellsOf 41 = 66 := by kernel_rfl

theorem door_met (os : Os) (args : Array Value) : laidMetH Tryd.prog laidL ((World.doorLaid Tryd.prog 400 os).forCall (fun _ _ => 0) ⟨#[], args, []⟩).memory :=
  laidMetH_of_parts3 (fuel := 8) (laidMet_of_run' 8 (by kernel_rfl) (by kernel_rfl)) (by kernel_rfl) (by kernel_rfl)

def nmL : List (List UInt8) := [[], [97, 110, 100], [101, 111, 114], [115, 117, 98], [114, 115, 98], [97, 100, 100], [97, 100, 99], [115, 98, 99], [116, 115, 116], [116, 101, 113], [99, 109, 112], [99, 109, 110], [111, 114, 114], [109, 111, 118], [98, 105, 99], [109, 118, 110], [111, 114, 110], [108, 115, 108], [108, 115, 114], [97, 115, 114], [114, 111, 114], [109, 117, 108], [109, 108, 97], [109, 108, 115], [117, 109, 117, 108, 108], [115, 109, 117, 108, 108], [117, 109, 108, 97, 108], [115, 109, 108, 97, 108], [117, 100, 105, 118], [115, 100, 105, 118], [109, 111, 118, 116], [117, 98, 102, 120], [115, 98, 102, 120], [98, 102, 105], [99, 108, 122], [114, 98, 105, 116], [114, 101, 118], [114, 101, 118, 49, 54], [114, 101, 118, 115, 104], [115, 120, 116, 98], [115, 120, 116, 104], [117, 120, 116, 98], [117, 120, 116, 104], [97, 100, 114], [108, 100, 114], [108, 100, 114, 98], [108, 100, 114, 104], [108, 100, 114, 115, 98], [108, 100, 114, 115, 104], [115, 116, 114], [115, 116, 114, 98], [115, 116, 114, 104], [108, 100, 109], [115, 116, 109], [98], [98, 108], [98, 120], [98, 108, 120], [99, 98, 122], [99, 98, 110, 122], [105, 116], [110, 111, 112], [115, 118, 99], [98, 107, 112, 116], [117, 110, 100, 101, 102, 105, 110, 101, 100], [117, 110, 112, 114, 101, 100, 105, 99, 116, 97, 98, 108, 101]]
def nmT (k : Nat) : ByteArray := ⟨(nmL.getD k []).toArray⟩
def strData {H : Type} (zs : List (List UInt8)) : DataW H := .agg (zs.map fun z => .lit (.string z))

/-- An array of strings that reads as the table holds the table's strings, cell for cell. -/
theorem cells_of_strs {H : Type} {enc : TypeId × Value → H} {P : Program} {w : World} {base : Nat} {sp : Nat → Bool} {held : Bool} {fuel : Nat} {t e : TypeId} {n : Nat} {cs : List Value} {zs : List (List UInt8)} {p : List MemPlace}
    (ht : P.underlying t = some (.array n e)) (he : P.underlying e = some .string) (hce : P.cellsOf e = 1) (hct : P.cellsOf t = n)
    (h : DataW.trod enc P w base sp held fuel t cs = some (strData zs, p)) : ∀ (i : Nat) (z : List UInt8), zs[i]? = some z → cs[i]? = some (Value.string ⟨z.toArray⟩) := by
  cases fuel with
  | zero => simp [DataW.trod] at h
  | succ fuel =>
    simp only [DataW.trod, ht, hce, hct, Nat.mul_one] at h
    split at h
    · rename_i hl
      obtain ⟨xs, hm, hx⟩ := Option.map_eq_some_iff.1 h
      have hxs : xs.map (·.1) = zs.map fun z => (DataW.lit (.string z) : DataW H) := by
        have := congrArg Prod.fst hx
        simpa [strData] using this
      have hxl : xs.length = n := by simpa using Lib.mapM_length hm
      have hzl : zs.length = n := by
        have := congrArg List.length hxs
        simp at this
        omega
      intro i z hz
      have hi : i < n := by
        have := (List.getElem?_eq_some_iff.1 hz).1
        omega
      obtain ⟨b, hb, hf⟩ := Lib.mapM_at hm i i (by simp [hi])
      obtain ⟨s, hc, rfl, _⟩ := DataW.trod_string he hf
      have h1 : cs[i]? = some (.string s) := by
        have := congrArg (·[0]?) hc
        simpa [List.getElem?_take, List.getElem?_drop] using this
      have h2 : (xs.map (·.1))[i]? = some (DataW.lit (.string s.data.toList) : DataW H) := by simp [hb]
      rw [hxs] at h2
      simp only [List.getElem?_map, hz, Option.map_some, Option.some.injEq, DataW.lit.injEq, Lit.string.injEq] at h2
      rw [h1, h2]
    · cases h

/-- The table lies. -/
def NT (W : World) : Prop := 0 < W.heap.size ∧ ∀ k, k < 66 → W.cell? ⟨0, k, none⟩ = some (.string (nmT k))
theorem NT.below {B : Nat} {w w' : World} (h : NT w) (hb : Below B w w') (hB : 0 < B) : NT w' := ⟨Nat.lt_of_lt_of_le h.1 hb.size, fun k hk => (hb.cell hB).trans (h.2 k hk)⟩
theorem NT.next {w w' : World} (h : NT w) (hb : Below w.heap.size w w') : NT w' := h.below hb h.1

theorem of_laid {W : World} (h : laidMetH Tryd.prog laidL W) : NT W := by
  rw [MakeChecks.laidMetH_plain _ _ _ (by kernel_rfl)] at h
  obtain ⟨ps, ⟨g0, t0, cs0, f0, p0, q0, hg0, ht0, hv0, hd0, _⟩, _, _⟩ := h
  obtain rfl := Option.some.inj (gTab.symm.trans hg0)
  obtain rfl := Option.some.inj (tTab.symm.trans ht0)
  have hd : DataW.trod _ Tryd.prog W 0 _ false f0 41 cs0.toList = some (strData nmL, p0) := hd0
  have hcs := cells_of_strs uTab uStr cStr cTab hd
  have hc : ∀ k, k < 66 → W.cell? ⟨0, k, none⟩ = some (.string (nmT k)) := fun k hk => by
    have := World.var?_cell hg0 hv0 k
    have hk' : nmL[k]? = some (nmL.getD k []) := by
      rw [List.getD, List.getElem?_eq_getElem (show k < nmL.length from hk)]
      rfl
    rw [show cs0[k]? = some (Value.string (nmT k)) by rw [← Array.getElem?_toList, hcs k _ hk']; rfl] at this
    exact this
  refine ⟨World.block_lt_of_cell? W ⟨0, 0, none⟩ (hc 0 (by decide)), hc⟩
end Go.Proofs.YtbbkiiabjhgpkaaDoor
