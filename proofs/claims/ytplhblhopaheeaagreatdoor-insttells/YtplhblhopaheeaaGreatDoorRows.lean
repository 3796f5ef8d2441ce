/-
  NARROWER THAN 'FOR EVERY INPUT', by the rows' own cells (each row's printed sentence says how): InstTells: laid · InstDone: laid.
  DERIVED. THE GIVEN ROWS OF THIS SEAT. 2 by the template 'for every input the law returns true; each argument reads behind the call as it read before'; 0 by the template 'total and deterministic' (their statements: YtplhblhopaheeaaGreatDoorTotals.lean).
  GIVEN WITH THE SEED: the statements are not yours to turn. If you find one false, say at which input.
  Laid BY PROGRAM, IN A SANDBOX (cutbox-rows.mjs): the forced cells as the released guide's own fill.sh prints them over the translation 038457b6fe6d8c9f… (all of the seat's roots in one cut). By AI agents, Wed Nov 11 2026. No macro, syntax, notation, axiom, sorry.
-/
import Derived.Test.YtplhblhopaheeaaGreatDoorChecked
import GoSem.Claim
import GoSem.ClaimJoined
import GoSem.ClaimMapViews
import Derived.JoinedTies
import Derived.KernelRfl
namespace Go.Proofs.YtplhblhopaheeaaGreatDoor
/- THE CELL 'sum', in the pinned program and in every row, IS THE sha256 OF THE DUMP (.gsa) THAT YtplhblhopaheeaaGreatDoorProg.lean LOADS. Nothing in Lean hashes anything: it is a label: what it is worth is what the hold of that sum in a sandbox is worth. -/
noncomputable def Tryz.pinned : Pinned := { name := "ytplhblhopaheeaagreatdoor", sum := "038457b6fe6d8c9fbf4e19927461c8d4e3b79254caec8fe57039e481e742759e", checked := Tryz.checked }
namespace Rows
def none {H : Type} : Left H := { results := [], args := [] }

/- WHAT THE LISTED PACKAGE-LEVEL VARIABLES READ AS WHEN THE CALL BEGINS. Each datum BY PROGRAM (the guide's laid-datum.mjs) off the statement by which the dump's own 'gosem.cut.vars' lays the variable. In a bare row this is a premise. The card (YtplhblhopaheeaaGreatDoorCards.lean) ties it to the program's text. -/
def laid_sourdine_inst_names {H : Type} : DataW H := .agg [.lit (.string []), .lit (.string [97, 110, 100]), .lit (.string [101, 111, 114]), .lit (.string [115, 117, 98]), .lit (.string [114, 115, 98]), .lit (.string [97, 100, 100]), .lit (.string [97, 100, 99]), .lit (.string [115, 98, 99]), .lit (.string [116, 115, 116]), .lit (.string [116, 101, 113]), .lit (.string [99, 109, 112]), .lit (.string [99, 109, 110]), .lit (.string [111, 114, 114]), .lit (.string [109, 111, 118]), .lit (.string [98, 105, 99]), .lit (.string [109, 118, 110]), .lit (.string [111, 114, 110]), .lit (.string [108, 115, 108]), .lit (.string [108, 115, 114]), .lit (.string [97, 115, 114]), .lit (.string [114, 111, 114]), .lit (.string [109, 117, 108]), .lit (.string [109, 108, 97]), .lit (.string [109, 108, 115]), .lit (.string [117, 109, 117, 108, 108]), .lit (.string [115, 109, 117, 108, 108]), .lit (.string [117, 109, 108, 97, 108]), .lit (.string [115, 109, 108, 97, 108]), .lit (.string [117, 100, 105, 118]), .lit (.string [115, 100, 105, 118]), .lit (.string [109, 111, 118, 116]), .lit (.string [117, 98, 102, 120]), .lit (.string [115, 98, 102, 120]), .lit (.string [98, 102, 105]), .lit (.string [99, 108, 122]), .lit (.string [114, 98, 105, 116]), .lit (.string [114, 101, 118]), .lit (.string [114, 101, 118, 49, 54]), .lit (.string [114, 101, 118, 115, 104]), .lit (.string [115, 120, 116, 98]), .lit (.string [115, 120, 116, 104]), .lit (.string [117, 120, 116, 98]), .lit (.string [117, 120, 116, 104]), .lit (.string [97, 100, 114]), .lit (.string [108, 100, 114]), .lit (.string [108, 100, 114, 98]), .lit (.string [108, 100, 114, 104]), .lit (.string [108, 100, 114, 115, 98]), .lit (.string [108, 100, 114, 115, 104]), .lit (.string [115, 116, 114]), .lit (.string [115, 116, 114, 98]), .lit (.string [115, 116, 114, 104]), .lit (.string [108, 100, 109]), .lit (.string [115, 116, 109]), .lit (.string [98]), .lit (.string [98, 108]), .lit (.string [98, 120]), .lit (.string [98, 108, 120]), .lit (.string [99, 98, 122]), .lit (.string [99, 98, 110, 122]), .lit (.string [105, 116]), .lit (.string [110, 111, 112]), .lit (.string [115, 118, 99]), .lit (.string [98, 107, 112, 116]), .lit (.string [117, 110, 100, 101, 102, 105, 110, 101, 100]), .lit (.string [117, 110, 112, 114, 101, 100, 105, 99, 116, 97, 98, 108, 101])]

/-- 'sourdinelaw7.InstTells': WHATEVER THE INPUT: true; the input reads as it did. -/
def instTellsSpec : ChangeSpec := { name := "instTells", fn := fun _ => fun
  | [d1, d2, d3, d4, d5, d6, d7] => { results := [.lit (.bool true)], args := [d1, d2, d3, d4, d5, d6, d7] }
  | _ => none }
def instTellsRow : OpenClaim := { program := "ytplhblhopaheeaagreatdoor", sum := "038457b6fe6d8c9fbf4e19927461c8d4e3b79254caec8fe57039e481e742759e", func := "sourdine/sourdinelaw7.InstTells", spec := "instTells", unfollowed := true, recurses := true, named := ["sourdine/inst.names"], apart := false, laid := [("sourdine/inst.names", laid_sourdine_inst_names)] }
def InstTellsSaid : Prop := instTellsRow.holds Tryz.pinned (OpenSpec.ofChange instTellsSpec)

/-- ITS FALSE NEIGHBOUR: 'it returns false'. Refute it at one input. -/
def instTellsWrong : ChangeSpec := { name := "instTells", fn := fun _ => fun
  | [d1, d2, d3, d4, d5, d6, d7] => { results := [.lit (.bool false)], args := [d1, d2, d3, d4, d5, d6, d7] }
  | _ => none }
def InstTellsWrongFalsely : Prop := instTellsRow.holds Tryz.pinned (OpenSpec.ofChange instTellsWrong)

/-- 'sourdinelaw7.InstDone': WHATEVER THE INPUT: true; the input reads as it did. -/
def instDoneSpec : ChangeSpec := { name := "instDone", fn := fun _ => fun
  | [d1, d2, d3, d4, d5, d6] => { results := [.lit (.bool true)], args := [d1, d2, d3, d4, d5, d6] }
  | _ => none }
def instDoneRow : OpenClaim := { program := "ytplhblhopaheeaagreatdoor", sum := "038457b6fe6d8c9fbf4e19927461c8d4e3b79254caec8fe57039e481e742759e", func := "sourdine/sourdinelaw7.InstDone", spec := "instDone", unfollowed := true, recurses := true, named := ["sourdine/inst.names"], apart := false, laid := [("sourdine/inst.names", laid_sourdine_inst_names)] }
def InstDoneSaid : Prop := instDoneRow.holds Tryz.pinned (OpenSpec.ofChange instDoneSpec)

/-- ITS FALSE NEIGHBOUR: 'it returns false'. Refute it at one input. -/
def instDoneWrong : ChangeSpec := { name := "instDone", fn := fun _ => fun
  | [d1, d2, d3, d4, d5, d6] => { results := [.lit (.bool false)], args := [d1, d2, d3, d4, d5, d6] }
  | _ => none }
def InstDoneWrongFalsely : Prop := instDoneRow.holds Tryz.pinned (OpenSpec.ofChange instDoneWrong)

/- THE SECOND FORM. 'bulk': how many values and letters a reading holds, each counted each time it is reached (what is shared counts as often as it is met; a slice's spare places count too). A statement '..UptoSaid' is the law's where the arguments, and the package variables that the reading takes, are together of bulk at most 1048576: NARROWER than '..Said'. Prove '..Said' where nothing that the law and all that it calls make is longer than what came in: it says more and counts as full. Else prove '..UptoSaid'. A law counts once. -/
mutual
def uptoBulk {H : Type} : DataW H → Nat
  | .lit (.string bytes) => bytes.length + 1
  | .lit _ => 1
  | .nil => 1
  | .ptr d => uptoBulk d + 1
  | .slice elems spare => uptoBulkAll elems + uptoBulkAll spare + 1
  | .agg parts => uptoBulkAll parts + 1
  | .iface _ d => uptoBulk d + 1
  | .map entries => uptoBulkEntries entries + 1
  | .held _ => 1
def uptoBulkAll {H : Type} : List (DataW H) → Nat
  | [] => 0
  | d :: r => uptoBulk d + uptoBulkAll r
def uptoBulkEntries {H : Type} : List (Lit × DataW H) → Nat
  | [] => 0
  | x :: r => uptoBulkEntry x + uptoBulkEntries r
def uptoBulkEntry {H : Type} : Lit × DataW H → Nat
  | (.string bytes, d) => bytes.length + uptoBulk d + 1
  | (_, d) => uptoBulk d + 1
 end
def uptoSmall : (H : Type) → List (DataW H) → Bool := fun _ ds => decide (uptoBulkAll ds ≤ 1048576)
def OpenSpec.upto (s : _root_.Go.ChangeSpec) : _root_.Go.OpenSpec := { _root_.Go.OpenSpec.ofChange s with cond := some uptoSmall }

/-- 'sourdinelaw7.InstTells', WHERE WHAT IT READS IS OF BULK AT MOST 1048576: true; the input reads as it did. -/
def instTellsUptoRow : OpenClaim := { program := "ytplhblhopaheeaagreatdoor", sum := "038457b6fe6d8c9fbf4e19927461c8d4e3b79254caec8fe57039e481e742759e", func := "sourdine/sourdinelaw7.InstTells", spec := "instTells", unfollowed := true, recurses := true, named := ["sourdine/inst.names"], apart := false, laid := [("sourdine/inst.names", laid_sourdine_inst_names)], narrowed := true }
def InstTellsUptoSaid : Prop := instTellsUptoRow.holds Tryz.pinned (OpenSpec.upto instTellsSpec)

/-- 'sourdinelaw7.InstDone', WHERE WHAT IT READS IS OF BULK AT MOST 1048576: true; the input reads as it did. -/
def instDoneUptoRow : OpenClaim := { program := "ytplhblhopaheeaagreatdoor", sum := "038457b6fe6d8c9fbf4e19927461c8d4e3b79254caec8fe57039e481e742759e", func := "sourdine/sourdinelaw7.InstDone", spec := "instDone", unfollowed := true, recurses := true, named := ["sourdine/inst.names"], apart := false, laid := [("sourdine/inst.names", laid_sourdine_inst_names)], narrowed := true }
def InstDoneUptoSaid : Prop := instDoneUptoRow.holds Tryz.pinned (OpenSpec.upto instDoneSpec)

end Rows
end Go.Proofs.YtplhblhopaheeaaGreatDoor
