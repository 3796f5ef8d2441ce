/-
  NARROWER THAN 'FOR EVERY INPUT', by the rows' own cells (each row's printed sentence says how): HostTells: laid · HostWrites: laid · HostReads: laid · HostBytes: laid.
  DERIVED. THE GIVEN ROWS OF THIS SEAT. 4 by the template 'for every input the law returns true; each argument reads behind the call as it read before'; 0 by the template 'total and deterministic' (their statements: YtklhnaineeleoaaDoorTotals.lean).
  GIVEN WITH THE SEED: the statements are not yours to turn. If you find one false, say at which input.
  Laid BY PROGRAM, IN A SANDBOX (cutbox-rows.mjs): the forced cells as the released guide's own fill.sh prints them over the translation 93bc7facf8d02173… (all of the seat's roots in one cut). By AI agents, Wed Nov 11 2026. No macro, syntax, notation, axiom, sorry.
-/
import Derived.Test.YtklhnaineeleoaaDoorChecked
import GoSem.Claim
import GoSem.ClaimJoined
import GoSem.ClaimMapViews
import Derived.JoinedTies
import Derived.KernelRfl
namespace Go.Proofs.YtklhnaineeleoaaDoor
/- THE CELL 'sum', in the pinned program and in every row, IS THE sha256 OF THE DUMP (.gsa) THAT YtklhnaineeleoaaDoorProg.lean LOADS. Nothing in Lean hashes anything: it is a label: what it is worth is what the hold of that sum in a sandbox is worth. -/
noncomputable def Tryd.pinned : Pinned := { name := "ytklhnaineeleoaadoor", sum := "93bc7facf8d021734fb47366ff41a89a8fab0ab78dd07fba4b7d0c3bc7815eed", checked := Tryd.checked }
namespace Rows
def none {H : Type} : Left H := { results := [], args := [] }

/- WHAT THE LISTED PACKAGE-LEVEL VARIABLES READ AS WHEN THE CALL BEGINS. Each datum BY PROGRAM (the guide's laid-datum.mjs) off the statement by which the dump's own 'gosem.cut.vars' lays the variable. In a bare row this is a premise. The card (YtklhnaineeleoaaDoorCards.lean) ties it to the program's text. -/
def laid_sourdine_host_names {H : Type} : DataW H := .agg [.lit (.string []), .lit (.string [77, 111, 118, 73]), .lit (.string [77, 111, 118]), .lit (.string [65, 100, 100]), .lit (.string [83, 117, 98]), .lit (.string [65, 110, 100]), .lit (.string [79, 114]), .lit (.string [88, 111, 114]), .lit (.string [83, 104, 108]), .lit (.string [83, 104, 114]), .lit (.string [83, 97, 114]), .lit (.string [82, 111, 114]), .lit (.string [77, 117, 108]), .lit (.string [77, 117, 108, 85]), .lit (.string [77, 117, 108, 83]), .lit (.string [68, 105, 118, 85]), .lit (.string [68, 105, 118, 83]), .lit (.string [67, 108, 122]), .lit (.string [76, 116, 85]), .lit (.string [76, 116, 83]), .lit (.string [69, 113]), .lit (.string [83, 101, 108]), .lit (.string [76, 100, 49]), .lit (.string [76, 100, 50]), .lit (.string [76, 100, 52]), .lit (.string [83, 116, 49]), .lit (.string [83, 116, 50]), .lit (.string [83, 116, 52]), .lit (.string [74, 109, 112]), .lit (.string [74, 122]), .lit (.string [69, 120, 105, 116]), .lit (.string [84, 114, 97, 112])]

/-- 'sourdinelaw5.HostTells': WHATEVER THE INPUT: true; the input reads as it did. -/
def hostTellsSpec : ChangeSpec := { name := "hostTells", fn := fun _ => fun
  | [d] => { results := [.lit (.bool true)], args := [d] }
  | _ => none }
def hostTellsRow : OpenClaim := { program := "ytklhnaineeleoaadoor", sum := "93bc7facf8d021734fb47366ff41a89a8fab0ab78dd07fba4b7d0c3bc7815eed", func := "sourdine/sourdinelaw5.HostTells", spec := "hostTells", named := ["sourdine/host.names"], apart := false, laid := [("sourdine/host.names", laid_sourdine_host_names)] }
def HostTellsSaid : Prop := hostTellsRow.holds Tryd.pinned (OpenSpec.ofChange hostTellsSpec)

/-- ITS FALSE NEIGHBOUR: 'it returns false'. Refute it at one input. -/
def hostTellsWrong : ChangeSpec := { name := "hostTells", fn := fun _ => fun
  | [d] => { results := [.lit (.bool false)], args := [d] }
  | _ => none }
def HostTellsWrongFalsely : Prop := hostTellsRow.holds Tryd.pinned (OpenSpec.ofChange hostTellsWrong)

/-- 'sourdinelaw5.HostWrites': WHATEVER THE INPUT: true; the input reads as it did. -/
def hostWritesSpec : ChangeSpec := { name := "hostWrites", fn := fun _ => fun
  | [d1, d2, d3, d4, d5, d6, d7] => { results := [.lit (.bool true)], args := [d1, d2, d3, d4, d5, d6, d7] }
  | _ => none }
def hostWritesRow : OpenClaim := { program := "ytklhnaineeleoaadoor", sum := "93bc7facf8d021734fb47366ff41a89a8fab0ab78dd07fba4b7d0c3bc7815eed", func := "sourdine/sourdinelaw5.HostWrites", spec := "hostWrites", named := ["sourdine/host.names"], apart := false, laid := [("sourdine/host.names", laid_sourdine_host_names)] }
def HostWritesSaid : Prop := hostWritesRow.holds Tryd.pinned (OpenSpec.ofChange hostWritesSpec)

/-- ITS FALSE NEIGHBOUR: 'it returns false'. Refute it at one input. -/
def hostWritesWrong : ChangeSpec := { name := "hostWrites", fn := fun _ => fun
  | [d1, d2, d3, d4, d5, d6, d7] => { results := [.lit (.bool false)], args := [d1, d2, d3, d4, d5, d6, d7] }
  | _ => none }
def HostWritesWrongFalsely : Prop := hostWritesRow.holds Tryd.pinned (OpenSpec.ofChange hostWritesWrong)

/-- 'sourdinelaw5.HostReads': WHATEVER THE INPUT: true; the input reads as it did. -/
def hostReadsSpec : ChangeSpec := { name := "hostReads", fn := fun _ => fun
  | [d1, d2, d3, d4, d5, d6, d7, d8, d9] => { results := [.lit (.bool true)], args := [d1, d2, d3, d4, d5, d6, d7, d8, d9] }
  | _ => none }
def hostReadsRow : OpenClaim := { program := "ytklhnaineeleoaadoor", sum := "93bc7facf8d021734fb47366ff41a89a8fab0ab78dd07fba4b7d0c3bc7815eed", func := "sourdine/sourdinelaw5.HostReads", spec := "hostReads", named := ["sourdine/host.names"], apart := false, laid := [("sourdine/host.names", laid_sourdine_host_names)] }
def HostReadsSaid : Prop := hostReadsRow.holds Tryd.pinned (OpenSpec.ofChange hostReadsSpec)

/-- ITS FALSE NEIGHBOUR: 'it returns false'. Refute it at one input. -/
def hostReadsWrong : ChangeSpec := { name := "hostReads", fn := fun _ => fun
  | [d1, d2, d3, d4, d5, d6, d7, d8, d9] => { results := [.lit (.bool false)], args := [d1, d2, d3, d4, d5, d6, d7, d8, d9] }
  | _ => none }
def HostReadsWrongFalsely : Prop := hostReadsRow.holds Tryd.pinned (OpenSpec.ofChange hostReadsWrong)

/-- 'sourdinelaw5.HostBytes': WHATEVER THE INPUT: true; the input reads as it did. -/
def hostBytesSpec : ChangeSpec := { name := "hostBytes", fn := fun _ => fun
  | [d1, d2, d3, d4, d5, d6, d7] => { results := [.lit (.bool true)], args := [d1, d2, d3, d4, d5, d6, d7] }
  | _ => none }
def hostBytesRow : OpenClaim := { program := "ytklhnaineeleoaadoor", sum := "93bc7facf8d021734fb47366ff41a89a8fab0ab78dd07fba4b7d0c3bc7815eed", func := "sourdine/sourdinelaw5.HostBytes", spec := "hostBytes", named := ["sourdine/host.names"], apart := false, laid := [("sourdine/host.names", laid_sourdine_host_names)] }
def HostBytesSaid : Prop := hostBytesRow.holds Tryd.pinned (OpenSpec.ofChange hostBytesSpec)

/-- ITS FALSE NEIGHBOUR: 'it returns false'. Refute it at one input. -/
def hostBytesWrong : ChangeSpec := { name := "hostBytes", fn := fun _ => fun
  | [d1, d2, d3, d4, d5, d6, d7] => { results := [.lit (.bool false)], args := [d1, d2, d3, d4, d5, d6, d7] }
  | _ => none }
def HostBytesWrongFalsely : Prop := hostBytesRow.holds Tryd.pinned (OpenSpec.ofChange hostBytesWrong)

/- THE SECOND FORM. 'bulk': how many values and letters a reading holds, each counted each time it is reached (what is shared counts as often as it is met; a slice's spare places count too). A statement '..UptoSaid' is the law's where the arguments, and the package variables that the reading takes, are together of bulk at most 1048576: NARROWER than '..Said'. Prove '..Said' where nothing that the law and all that it calls make is longer than what came in: it says more and counts as full. Else prove '..UptoSaid'. A law counts once. -/
mutual
def uptoBulk {H : Type} : DataW H → Nat
  | .lit (.string bytes) => bytes.length + 1
  | .lit _ => 1
  | .nil => 1
  | .ptr d => uptoBulk d + 1
  | .slice elems spare => uptoBulkAll elems + uptoBulkAll spare + 1
  | .agg parts => uptoBulkAll parts + 1
  | .iface _ d => uptoBulk d + 1
  | .map entries => uptoBulkEntries entries + 1
  | .held _ => 1
def uptoBulkAll {H : Type} : List (DataW H) → Nat
  | [] => 0
  | d :: r => uptoBulk d + uptoBulkAll r
def uptoBulkEntries {H : Type} : List (Lit × DataW H) → Nat
  | [] => 0
  | x :: r => uptoBulkEntry x + uptoBulkEntries r
def uptoBulkEntry {H : Type} : Lit × DataW H → Nat
  | (.string bytes, d) => bytes.length + uptoBulk d + 1
  | (_, d) => uptoBulk d + 1
 end
def uptoSmall : (H : Type) → List (DataW H) → Bool := fun _ ds => decide (uptoBulkAll ds ≤ 1048576)
def OpenSpec.upto (s : _root_.Go.ChangeSpec) : _root_.Go.OpenSpec := { _root_.Go.OpenSpec.ofChange s with cond := some uptoSmall }

/-- 'sourdinelaw5.HostTells', WHERE WHAT IT READS IS OF BULK AT MOST 1048576: true; the input reads as it did. -/
def hostTellsUptoRow : OpenClaim := { program := "ytklhnaineeleoaadoor", sum := "93bc7facf8d021734fb47366ff41a89a8fab0ab78dd07fba4b7d0c3bc7815eed", func := "sourdine/sourdinelaw5.HostTells", spec := "hostTells", named := ["sourdine/host.names"], apart := false, laid := [("sourdine/host.names", laid_sourdine_host_names)], narrowed := true }
def HostTellsUptoSaid : Prop := hostTellsUptoRow.holds Tryd.pinned (OpenSpec.upto hostTellsSpec)

/-- 'sourdinelaw5.HostWrites', WHERE WHAT IT READS IS OF BULK AT MOST 1048576: true; the input reads as it did. -/
def hostWritesUptoRow : OpenClaim := { program := "ytklhnaineeleoaadoor", sum := "93bc7facf8d021734fb47366ff41a89a8fab0ab78dd07fba4b7d0c3bc7815eed", func := "sourdine/sourdinelaw5.HostWrites", spec := "hostWrites", named := ["sourdine/host.names"], apart := false, laid := [("sourdine/host.names", laid_sourdine_host_names)], narrowed := true }
def HostWritesUptoSaid : Prop := hostWritesUptoRow.holds Tryd.pinned (OpenSpec.upto hostWritesSpec)

/-- 'sourdinelaw5.HostReads', WHERE WHAT IT READS IS OF BULK AT MOST 1048576: true; the input reads as it did. -/
def hostReadsUptoRow : OpenClaim := { program := "ytklhnaineeleoaadoor", sum := "93bc7facf8d021734fb47366ff41a89a8fab0ab78dd07fba4b7d0c3bc7815eed", func := "sourdine/sourdinelaw5.HostReads", spec := "hostReads", named := ["sourdine/host.names"], apart := false, laid := [("sourdine/host.names", laid_sourdine_host_names)], narrowed := true }
def HostReadsUptoSaid : Prop := hostReadsUptoRow.holds Tryd.pinned (OpenSpec.upto hostReadsSpec)

/-- 'sourdinelaw5.HostBytes', WHERE WHAT IT READS IS OF BULK AT MOST 1048576: true; the input reads as it did. -/
def hostBytesUptoRow : OpenClaim := { program := "ytklhnaineeleoaadoor", sum := "93bc7facf8d021734fb47366ff41a89a8fab0ab78dd07fba4b7d0c3bc7815eed", func := "sourdine/sourdinelaw5.HostBytes", spec := "hostBytes", named := ["sourdine/host.names"], apart := false, laid := [("sourdine/host.names", laid_sourdine_host_names)], narrowed := true }
def HostBytesUptoSaid : Prop := hostBytesUptoRow.holds Tryd.pinned (OpenSpec.upto hostBytesSpec)

end Rows
end Go.Proofs.YtklhnaineeleoaaDoor
