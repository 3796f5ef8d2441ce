/-
  NARROWER THAN 'FOR EVERY INPUT', by the rows' own cells (each row's printed sentence says how): ThumbTells: laid · ThumbWrites: laid · ThumbLeast: laid · ThumbFlags: laid · ThumbPlaces: laid.
  DERIVED. THE GIVEN ROWS OF THIS SEAT. 5 by the template 'for every input the law returns true; each argument reads behind the call as it read before'; 0 by the template 'total and deterministic' (their statements: YtblcklknlfofgaaDoorTotals.lean).
  GIVEN WITH THE SEED: the statements are not yours to turn. If you find one false, say at which input.
  Laid BY PROGRAM, IN A SANDBOX (cutbox-rows.mjs): the forced cells as the released guide's own fill.sh prints them over the translation f21eb8b71b2ff796… (all of the seat's roots in one cut). By AI agents, Wed Nov 11 2026. No macro, syntax, notation, axiom, sorry.
-/
import Derived.Test.YtblcklknlfofgaaDoorChecked
import GoSem.Claim
import GoSem.ClaimJoined
import GoSem.ClaimMapViews
import Derived.JoinedTies
import Derived.KernelRfl
namespace Go.Proofs.YtblcklknlfofgaaDoor
/- THE CELL 'sum', in the pinned program and in every row, IS THE sha256 OF THE DUMP (.gsa) THAT YtblcklknlfofgaaDoorProg.lean LOADS. Nothing in Lean hashes anything: it is a label: what it is worth is what the hold of that sum in a sandbox is worth. -/
noncomputable def Tryd.pinned : Pinned := { name := "ytblcklknlfofgaadoor", sum := "f21eb8b71b2ff79633fe5852e9ae5d1f5c6e956909eb3d2eb80d823334f19355", checked := Tryd.checked }
namespace Rows
def none {H : Type} : Left H := { results := [], args := [] }

/- WHAT THE LISTED PACKAGE-LEVEL VARIABLES READ AS WHEN THE CALL BEGINS. Each datum BY PROGRAM (the guide's laid-datum.mjs) off the statement by which the dump's own 'gosem.cut.vars' lays the variable. In a bare row this is a premise. The card (YtblcklknlfofgaaDoorCards.lean) ties it to the program's text. -/
def laid_math_bits_deBruijn32tab {H : Type} : DataW H := .agg [.lit (.int .u8 0), .lit (.int .u8 1), .lit (.int .u8 28), .lit (.int .u8 2), .lit (.int .u8 29), .lit (.int .u8 14), .lit (.int .u8 24), .lit (.int .u8 3), .lit (.int .u8 30), .lit (.int .u8 22), .lit (.int .u8 20), .lit (.int .u8 15), .lit (.int .u8 25), .lit (.int .u8 17), .lit (.int .u8 4), .lit (.int .u8 8), .lit (.int .u8 31), .lit (.int .u8 27), .lit (.int .u8 13), .lit (.int .u8 23), .lit (.int .u8 21), .lit (.int .u8 19), .lit (.int .u8 16), .lit (.int .u8 7), .lit (.int .u8 26), .lit (.int .u8 12), .lit (.int .u8 18), .lit (.int .u8 6), .lit (.int .u8 11), .lit (.int .u8 5), .lit (.int .u8 10), .lit (.int .u8 9)]
def laid_math_bits_deBruijn64tab {H : Type} : DataW H := .agg [.lit (.int .u8 0), .lit (.int .u8 1), .lit (.int .u8 56), .lit (.int .u8 2), .lit (.int .u8 57), .lit (.int .u8 49), .lit (.int .u8 28), .lit (.int .u8 3), .lit (.int .u8 61), .lit (.int .u8 58), .lit (.int .u8 42), .lit (.int .u8 50), .lit (.int .u8 38), .lit (.int .u8 29), .lit (.int .u8 17), .lit (.int .u8 4), .lit (.int .u8 62), .lit (.int .u8 47), .lit (.int .u8 59), .lit (.int .u8 36), .lit (.int .u8 45), .lit (.int .u8 43), .lit (.int .u8 51), .lit (.int .u8 22), .lit (.int .u8 53), .lit (.int .u8 39), .lit (.int .u8 33), .lit (.int .u8 30), .lit (.int .u8 24), .lit (.int .u8 18), .lit (.int .u8 12), .lit (.int .u8 5), .lit (.int .u8 63), .lit (.int .u8 55), .lit (.int .u8 48), .lit (.int .u8 27), .lit (.int .u8 60), .lit (.int .u8 41), .lit (.int .u8 37), .lit (.int .u8 16), .lit (.int .u8 46), .lit (.int .u8 35), .lit (.int .u8 44), .lit (.int .u8 21), .lit (.int .u8 52), .lit (.int .u8 32), .lit (.int .u8 23), .lit (.int .u8 11), .lit (.int .u8 54), .lit (.int .u8 26), .lit (.int .u8 40), .lit (.int .u8 15), .lit (.int .u8 34), .lit (.int .u8 20), .lit (.int .u8 31), .lit (.int .u8 10), .lit (.int .u8 25), .lit (.int .u8 14), .lit (.int .u8 19), .lit (.int .u8 9), .lit (.int .u8 13), .lit (.int .u8 8), .lit (.int .u8 7), .lit (.int .u8 6)]
def laid_sourdine_thumb_lowOps {H : Type} : DataW H := .agg [.lit (.int .i64 1), .lit (.int .i64 2), .lit (.int .i64 17), .lit (.int .i64 18), .lit (.int .i64 19), .lit (.int .i64 6), .lit (.int .i64 7), .lit (.int .i64 20), .lit (.int .i64 8), .lit (.int .i64 4), .lit (.int .i64 10), .lit (.int .i64 11), .lit (.int .i64 12), .lit (.int .i64 21), .lit (.int .i64 14), .lit (.int .i64 15)]
def laid_sourdine_thumb_memoryOps {H : Type} : DataW H := .agg [.lit (.int .i64 49), .lit (.int .i64 51), .lit (.int .i64 50), .lit (.int .i64 47), .lit (.int .i64 44), .lit (.int .i64 46), .lit (.int .i64 45), .lit (.int .i64 48)]
def laid_sourdine_thumb_extOps {H : Type} : DataW H := .agg [.lit (.int .i64 40), .lit (.int .i64 39), .lit (.int .i64 42), .lit (.int .i64 41)]
def laid_sourdine_thumb_revOps {H : Type} : DataW H := .agg [.lit (.int .i64 36), .lit (.int .i64 37), .lit (.int .i64 0), .lit (.int .i64 38)]

/-- 'sourdinelaw8.ThumbTells': WHATEVER THE INPUT: true; the input reads as it did. -/
def thumbTellsSpec : ChangeSpec := { name := "thumbTells", fn := fun _ => fun
  | [d1, d2, d3] => { results := [.lit (.bool true)], args := [d1, d2, d3] }
  | _ => none }
def thumbTellsRow : OpenClaim := { program := "ytblcklknlfofgaadoor", sum := "f21eb8b71b2ff79633fe5852e9ae5d1f5c6e956909eb3d2eb80d823334f19355", func := "sourdine/sourdinelaw8.ThumbTells", spec := "thumbTells", named := ["sourdine/thumb.memoryOps", "sourdine/thumb.lowOps", "sourdine/thumb.extOps", "sourdine/thumb.revOps", "math/bits.deBruijn32tab", "math/bits.deBruijn64tab"], apart := false, laid := [("math/bits.deBruijn32tab", laid_math_bits_deBruijn32tab), ("math/bits.deBruijn64tab", laid_math_bits_deBruijn64tab), ("sourdine/thumb.lowOps", laid_sourdine_thumb_lowOps), ("sourdine/thumb.memoryOps", laid_sourdine_thumb_memoryOps), ("sourdine/thumb.extOps", laid_sourdine_thumb_extOps), ("sourdine/thumb.revOps", laid_sourdine_thumb_revOps)] }
def ThumbTellsSaid : Prop := thumbTellsRow.holds Tryd.pinned (OpenSpec.ofChange thumbTellsSpec)

/-- ITS FALSE NEIGHBOUR: 'it returns false'. Refute it at one input. -/
def thumbTellsWrong : ChangeSpec := { name := "thumbTells", fn := fun _ => fun
  | [d1, d2, d3] => { results := [.lit (.bool false)], args := [d1, d2, d3] }
  | _ => none }
def ThumbTellsWrongFalsely : Prop := thumbTellsRow.holds Tryd.pinned (OpenSpec.ofChange thumbTellsWrong)

/-- 'sourdinelaw8.ThumbWrites': WHATEVER THE INPUT: true; the input reads as it did. -/
def thumbWritesSpec : ChangeSpec := { name := "thumbWrites", fn := fun _ => fun
  | [d1, d2, d3, d4] => { results := [.lit (.bool true)], args := [d1, d2, d3, d4] }
  | _ => none }
def thumbWritesRow : OpenClaim := { program := "ytblcklknlfofgaadoor", sum := "f21eb8b71b2ff79633fe5852e9ae5d1f5c6e956909eb3d2eb80d823334f19355", func := "sourdine/sourdinelaw8.ThumbWrites", spec := "thumbWrites", named := ["sourdine/thumb.memoryOps", "sourdine/thumb.lowOps", "sourdine/thumb.extOps", "sourdine/thumb.revOps", "math/bits.deBruijn32tab", "math/bits.deBruijn64tab"], apart := false, laid := [("math/bits.deBruijn32tab", laid_math_bits_deBruijn32tab), ("math/bits.deBruijn64tab", laid_math_bits_deBruijn64tab), ("sourdine/thumb.lowOps", laid_sourdine_thumb_lowOps), ("sourdine/thumb.memoryOps", laid_sourdine_thumb_memoryOps), ("sourdine/thumb.extOps", laid_sourdine_thumb_extOps), ("sourdine/thumb.revOps", laid_sourdine_thumb_revOps)] }
def ThumbWritesSaid : Prop := thumbWritesRow.holds Tryd.pinned (OpenSpec.ofChange thumbWritesSpec)

/-- ITS FALSE NEIGHBOUR: 'it returns false'. Refute it at one input. -/
def thumbWritesWrong : ChangeSpec := { name := "thumbWrites", fn := fun _ => fun
  | [d1, d2, d3, d4] => { results := [.lit (.bool false)], args := [d1, d2, d3, d4] }
  | _ => none }
def ThumbWritesWrongFalsely : Prop := thumbWritesRow.holds Tryd.pinned (OpenSpec.ofChange thumbWritesWrong)

/-- 'sourdinelaw8.ThumbLeast': WHATEVER THE INPUT: true; the input reads as it did. -/
def thumbLeastSpec : ChangeSpec := { name := "thumbLeast", fn := fun _ => fun
  | [d1, d2, d3, d4] => { results := [.lit (.bool true)], args := [d1, d2, d3, d4] }
  | _ => none }
def thumbLeastRow : OpenClaim := { program := "ytblcklknlfofgaadoor", sum := "f21eb8b71b2ff79633fe5852e9ae5d1f5c6e956909eb3d2eb80d823334f19355", func := "sourdine/sourdinelaw8.ThumbLeast", spec := "thumbLeast", named := ["sourdine/thumb.memoryOps", "sourdine/thumb.lowOps", "sourdine/thumb.extOps", "sourdine/thumb.revOps", "math/bits.deBruijn32tab", "math/bits.deBruijn64tab"], apart := false, laid := [("math/bits.deBruijn32tab", laid_math_bits_deBruijn32tab), ("math/bits.deBruijn64tab", laid_math_bits_deBruijn64tab), ("sourdine/thumb.lowOps", laid_sourdine_thumb_lowOps), ("sourdine/thumb.memoryOps", laid_sourdine_thumb_memoryOps), ("sourdine/thumb.extOps", laid_sourdine_thumb_extOps), ("sourdine/thumb.revOps", laid_sourdine_thumb_revOps)] }
def ThumbLeastSaid : Prop := thumbLeastRow.holds Tryd.pinned (OpenSpec.ofChange thumbLeastSpec)

/-- ITS FALSE NEIGHBOUR: 'it returns false'. Refute it at one input. -/
def thumbLeastWrong : ChangeSpec := { name := "thumbLeast", fn := fun _ => fun
  | [d1, d2, d3, d4] => { results := [.lit (.bool false)], args := [d1, d2, d3, d4] }
  | _ => none }
def ThumbLeastWrongFalsely : Prop := thumbLeastRow.holds Tryd.pinned (OpenSpec.ofChange thumbLeastWrong)

/-- 'sourdinelaw8.ThumbFlags': WHATEVER THE INPUT: true; the input reads as it did. -/
def thumbFlagsSpec : ChangeSpec := { name := "thumbFlags", fn := fun _ => fun
  | [d] => { results := [.lit (.bool true)], args := [d] }
  | _ => none }
def thumbFlagsRow : OpenClaim := { program := "ytblcklknlfofgaadoor", sum := "f21eb8b71b2ff79633fe5852e9ae5d1f5c6e956909eb3d2eb80d823334f19355", func := "sourdine/sourdinelaw8.ThumbFlags", spec := "thumbFlags", named := ["sourdine/thumb.memoryOps", "sourdine/thumb.lowOps", "sourdine/thumb.extOps", "sourdine/thumb.revOps", "math/bits.deBruijn32tab", "math/bits.deBruijn64tab"], apart := false, laid := [("math/bits.deBruijn32tab", laid_math_bits_deBruijn32tab), ("math/bits.deBruijn64tab", laid_math_bits_deBruijn64tab), ("sourdine/thumb.lowOps", laid_sourdine_thumb_lowOps), ("sourdine/thumb.memoryOps", laid_sourdine_thumb_memoryOps), ("sourdine/thumb.extOps", laid_sourdine_thumb_extOps), ("sourdine/thumb.revOps", laid_sourdine_thumb_revOps)] }
def ThumbFlagsSaid : Prop := thumbFlagsRow.holds Tryd.pinned (OpenSpec.ofChange thumbFlagsSpec)

/-- ITS FALSE NEIGHBOUR: 'it returns false'. Refute it at one input. -/
def thumbFlagsWrong : ChangeSpec := { name := "thumbFlags", fn := fun _ => fun
  | [d] => { results := [.lit (.bool false)], args := [d] }
  | _ => none }
def ThumbFlagsWrongFalsely : Prop := thumbFlagsRow.holds Tryd.pinned (OpenSpec.ofChange thumbFlagsWrong)

/-- 'sourdinelaw8.ThumbPlaces': WHATEVER THE INPUT: true; the input reads as it did. -/
def thumbPlacesSpec : ChangeSpec := { name := "thumbPlaces", fn := fun _ => fun
  | [d1, d2] => { results := [.lit (.bool true)], args := [d1, d2] }
  | _ => none }
def thumbPlacesRow : OpenClaim := { program := "ytblcklknlfofgaadoor", sum := "f21eb8b71b2ff79633fe5852e9ae5d1f5c6e956909eb3d2eb80d823334f19355", func := "sourdine/sourdinelaw8.ThumbPlaces", spec := "thumbPlaces", named := ["sourdine/thumb.memoryOps", "sourdine/thumb.lowOps", "sourdine/thumb.extOps", "sourdine/thumb.revOps", "math/bits.deBruijn32tab", "math/bits.deBruijn64tab"], apart := false, laid := [("math/bits.deBruijn32tab", laid_math_bits_deBruijn32tab), ("math/bits.deBruijn64tab", laid_math_bits_deBruijn64tab), ("sourdine/thumb.lowOps", laid_sourdine_thumb_lowOps), ("sourdine/thumb.memoryOps", laid_sourdine_thumb_memoryOps), ("sourdine/thumb.extOps", laid_sourdine_thumb_extOps), ("sourdine/thumb.revOps", laid_sourdine_thumb_revOps)] }
def ThumbPlacesSaid : Prop := thumbPlacesRow.holds Tryd.pinned (OpenSpec.ofChange thumbPlacesSpec)

/-- ITS FALSE NEIGHBOUR: 'it returns false'. Refute it at one input. -/
def thumbPlacesWrong : ChangeSpec := { name := "thumbPlaces", fn := fun _ => fun
  | [d1, d2] => { results := [.lit (.bool false)], args := [d1, d2] }
  | _ => none }
def ThumbPlacesWrongFalsely : Prop := thumbPlacesRow.holds Tryd.pinned (OpenSpec.ofChange thumbPlacesWrong)

/- THE SECOND FORM. 'bulk': how many values and letters a reading holds, each counted each time it is reached (what is shared counts as often as it is met; a slice's spare places count too). A statement '..UptoSaid' is the law's where the arguments, and the package variables that the reading takes, are together of bulk at most 1048576: NARROWER than '..Said'. Prove '..Said' where nothing that the law and all that it calls make is longer than what came in: it says more and counts as full. Else prove '..UptoSaid'. A law counts once. -/
mutual
def uptoBulk {H : Type} : DataW H → Nat
  | .lit (.string bytes) => bytes.length + 1
  | .lit _ => 1
  | .nil => 1
  | .ptr d => uptoBulk d + 1
  | .slice elems spare => uptoBulkAll elems + uptoBulkAll spare + 1
  | .agg parts => uptoBulkAll parts + 1
  | .iface _ d => uptoBulk d + 1
  | .map entries => uptoBulkEntries entries + 1
  | .held _ => 1
def uptoBulkAll {H : Type} : List (DataW H) → Nat
  | [] => 0
  | d :: r => uptoBulk d + uptoBulkAll r
def uptoBulkEntries {H : Type} : List (Lit × DataW H) → Nat
  | [] => 0
  | x :: r => uptoBulkEntry x + uptoBulkEntries r
def uptoBulkEntry {H : Type} : Lit × DataW H → Nat
  | (.string bytes, d) => bytes.length + uptoBulk d + 1
  | (_, d) => uptoBulk d + 1
 end
def uptoSmall : (H : Type) → List (DataW H) → Bool := fun _ ds => decide (uptoBulkAll ds ≤ 1048576)
def OpenSpec.upto (s : _root_.Go.ChangeSpec) : _root_.Go.OpenSpec := { _root_.Go.OpenSpec.ofChange s with cond := some uptoSmall }

/-- 'sourdinelaw8.ThumbTells', WHERE WHAT IT READS IS OF BULK AT MOST 1048576: true; the input reads as it did. -/
def thumbTellsUptoRow : OpenClaim := { program := "ytblcklknlfofgaadoor", sum := "f21eb8b71b2ff79633fe5852e9ae5d1f5c6e956909eb3d2eb80d823334f19355", func := "sourdine/sourdinelaw8.ThumbTells", spec := "thumbTells", named := ["sourdine/thumb.memoryOps", "sourdine/thumb.lowOps", "sourdine/thumb.extOps", "sourdine/thumb.revOps", "math/bits.deBruijn32tab", "math/bits.deBruijn64tab"], apart := false, laid := [("math/bits.deBruijn32tab", laid_math_bits_deBruijn32tab), ("math/bits.deBruijn64tab", laid_math_bits_deBruijn64tab), ("sourdine/thumb.lowOps", laid_sourdine_thumb_lowOps), ("sourdine/thumb.memoryOps", laid_sourdine_thumb_memoryOps), ("sourdine/thumb.extOps", laid_sourdine_thumb_extOps), ("sourdine/thumb.revOps", laid_sourdine_thumb_revOps)], narrowed := true }
def ThumbTellsUptoSaid : Prop := thumbTellsUptoRow.holds Tryd.pinned (OpenSpec.upto thumbTellsSpec)

/-- 'sourdinelaw8.ThumbWrites', WHERE WHAT IT READS IS OF BULK AT MOST 1048576: true; the input reads as it did. -/
def thumbWritesUptoRow : OpenClaim := { program := "ytblcklknlfofgaadoor", sum := "f21eb8b71b2ff79633fe5852e9ae5d1f5c6e956909eb3d2eb80d823334f19355", func := "sourdine/sourdinelaw8.ThumbWrites", spec := "thumbWrites", named := ["sourdine/thumb.memoryOps", "sourdine/thumb.lowOps", "sourdine/thumb.extOps", "sourdine/thumb.revOps", "math/bits.deBruijn32tab", "math/bits.deBruijn64tab"], apart := false, laid := [("math/bits.deBruijn32tab", laid_math_bits_deBruijn32tab), ("math/bits.deBruijn64tab", laid_math_bits_deBruijn64tab), ("sourdine/thumb.lowOps", laid_sourdine_thumb_lowOps), ("sourdine/thumb.memoryOps", laid_sourdine_thumb_memoryOps), ("sourdine/thumb.extOps", laid_sourdine_thumb_extOps), ("sourdine/thumb.revOps", laid_sourdine_thumb_revOps)], narrowed := true }
def ThumbWritesUptoSaid : Prop := thumbWritesUptoRow.holds Tryd.pinned (OpenSpec.upto thumbWritesSpec)

/-- 'sourdinelaw8.ThumbLeast', WHERE WHAT IT READS IS OF BULK AT MOST 1048576: true; the input reads as it did. -/
def thumbLeastUptoRow : OpenClaim := { program := "ytblcklknlfofgaadoor", sum := "f21eb8b71b2ff79633fe5852e9ae5d1f5c6e956909eb3d2eb80d823334f19355", func := "sourdine/sourdinelaw8.ThumbLeast", spec := "thumbLeast", named := ["sourdine/thumb.memoryOps", "sourdine/thumb.lowOps", "sourdine/thumb.extOps", "sourdine/thumb.revOps", "math/bits.deBruijn32tab", "math/bits.deBruijn64tab"], apart := false, laid := [("math/bits.deBruijn32tab", laid_math_bits_deBruijn32tab), ("math/bits.deBruijn64tab", laid_math_bits_deBruijn64tab), ("sourdine/thumb.lowOps", laid_sourdine_thumb_lowOps), ("sourdine/thumb.memoryOps", laid_sourdine_thumb_memoryOps), ("sourdine/thumb.extOps", laid_sourdine_thumb_extOps), ("sourdine/thumb.revOps", laid_sourdine_thumb_revOps)], narrowed := true }
def ThumbLeastUptoSaid : Prop := thumbLeastUptoRow.holds Tryd.pinned (OpenSpec.upto thumbLeastSpec)

/-- 'sourdinelaw8.ThumbFlags', WHERE WHAT IT READS IS OF BULK AT MOST 1048576: true; the input reads as it did. -/
def thumbFlagsUptoRow : OpenClaim := { program := "ytblcklknlfofgaadoor", sum := "f21eb8b71b2ff79633fe5852e9ae5d1f5c6e956909eb3d2eb80d823334f19355", func := "sourdine/sourdinelaw8.ThumbFlags", spec := "thumbFlags", named := ["sourdine/thumb.memoryOps", "sourdine/thumb.lowOps", "sourdine/thumb.extOps", "sourdine/thumb.revOps", "math/bits.deBruijn32tab", "math/bits.deBruijn64tab"], apart := false, laid := [("math/bits.deBruijn32tab", laid_math_bits_deBruijn32tab), ("math/bits.deBruijn64tab", laid_math_bits_deBruijn64tab), ("sourdine/thumb.lowOps", laid_sourdine_thumb_lowOps), ("sourdine/thumb.memoryOps", laid_sourdine_thumb_memoryOps), ("sourdine/thumb.extOps", laid_sourdine_thumb_extOps), ("sourdine/thumb.revOps", laid_sourdine_thumb_revOps)], narrowed := true }
def ThumbFlagsUptoSaid : Prop := thumbFlagsUptoRow.holds Tryd.pinned (OpenSpec.upto thumbFlagsSpec)

/-- 'sourdinelaw8.ThumbPlaces', WHERE WHAT IT READS IS OF BULK AT MOST 1048576: true; the input reads as it did. -/
def thumbPlacesUptoRow : OpenClaim := { program := "ytblcklknlfofgaadoor", sum := "f21eb8b71b2ff79633fe5852e9ae5d1f5c6e956909eb3d2eb80d823334f19355", func := "sourdine/sourdinelaw8.ThumbPlaces", spec := "thumbPlaces", named := ["sourdine/thumb.memoryOps", "sourdine/thumb.lowOps", "sourdine/thumb.extOps", "sourdine/thumb.revOps", "math/bits.deBruijn32tab", "math/bits.deBruijn64tab"], apart := false, laid := [("math/bits.deBruijn32tab", laid_math_bits_deBruijn32tab), ("math/bits.deBruijn64tab", laid_math_bits_deBruijn64tab), ("sourdine/thumb.lowOps", laid_sourdine_thumb_lowOps), ("sourdine/thumb.memoryOps", laid_sourdine_thumb_memoryOps), ("sourdine/thumb.extOps", laid_sourdine_thumb_extOps), ("sourdine/thumb.revOps", laid_sourdine_thumb_revOps)], narrowed := true }
def ThumbPlacesUptoSaid : Prop := thumbPlacesUptoRow.holds Tryd.pinned (OpenSpec.upto thumbPlacesSpec)

end Rows
end Go.Proofs.YtblcklknlfofgaaDoor
