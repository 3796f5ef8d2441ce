/-
  No cell of these rows narrows 'for every input' (looked for: loops, veiled, ifaces, maps, wideKeys, modest, calm, conditions, laid).
  DERIVED. THE GIVEN ROWS OF THIS SEAT. 5 by the template 'for every input the law returns true; each argument reads behind the call as it read before'; 0 by the template 'total and deterministic' (their statements: YteflboidbogegaaTotals.lean).
  GIVEN WITH THE SEED: the statements are not yours to turn. If you find one false, say at which input.
  Laid BY PROGRAM, IN A SANDBOX (cutbox-rows.mjs): the forced cells as the released guide's own fill.sh prints them over the translation 613014722dc3a5ab… (all of the seat's roots in one cut). By AI agents, Wed Nov 11 2026. No macro, syntax, notation, axiom, sorry.
-/
import Derived.Test.YteflboidbogegaaChecked
import GoSem.Claim
import GoSem.ClaimJoined
import GoSem.ClaimMapViews
import Derived.JoinedTies
import Derived.KernelRfl
namespace Go.Proofs.Yteflboidbogegaa
/- THE CELL 'sum', in the pinned program and in every row, IS THE sha256 OF THE DUMP (.gsa) THAT YteflboidbogegaaProg.lean LOADS. Nothing in Lean hashes anything: it is a label: what it is worth is what the hold of that sum in a sandbox is worth. -/
noncomputable def Try.pinned : Pinned := { name := "yteflboidbogegaa", sum := "613014722dc3a5abaa27efa05e42f693c29e95935a1cc67be182e3fd8fafb15f", checked := Try.checked }
namespace Rows
def none {H : Type} : Left H := { results := [], args := [] }

/-- 'sourdinelaw6.HvmReckons': WHATEVER THE INPUT: true; the input reads as it did. -/
def hvmReckonsSpec : ChangeSpec := { name := "hvmReckons", fn := fun _ => fun
  | [d1, d2, d3, d4] => { results := [.lit (.bool true)], args := [d1, d2, d3, d4] }
  | _ => none }
def hvmReckonsRow : OpenClaim := { program := "yteflboidbogegaa", sum := "613014722dc3a5abaa27efa05e42f693c29e95935a1cc67be182e3fd8fafb15f", func := "sourdine/sourdinelaw6.HvmReckons", spec := "hvmReckons", unfollowed := true, recurses := true, apart := false }
def HvmReckonsSaid : Prop := hvmReckonsRow.holds Try.pinned (OpenSpec.ofChange hvmReckonsSpec)

/-- ITS FALSE NEIGHBOUR: 'it returns false'. Refute it at one input. -/
def hvmReckonsWrong : ChangeSpec := { name := "hvmReckons", fn := fun _ => fun
  | [d1, d2, d3, d4] => { results := [.lit (.bool false)], args := [d1, d2, d3, d4] }
  | _ => none }
def HvmReckonsWrongFalsely : Prop := hvmReckonsRow.holds Try.pinned (OpenSpec.ofChange hvmReckonsWrong)

/-- 'sourdinelaw6.HvmBlind': WHATEVER THE INPUT: true; the input reads as it did. -/
def hvmBlindSpec : ChangeSpec := { name := "hvmBlind", fn := fun _ => fun
  | [d1, d2, d3, d4] => { results := [.lit (.bool true)], args := [d1, d2, d3, d4] }
  | _ => none }
def hvmBlindRow : OpenClaim := { program := "yteflboidbogegaa", sum := "613014722dc3a5abaa27efa05e42f693c29e95935a1cc67be182e3fd8fafb15f", func := "sourdine/sourdinelaw6.HvmBlind", spec := "hvmBlind", unfollowed := true, recurses := true, apart := false }
def HvmBlindSaid : Prop := hvmBlindRow.holds Try.pinned (OpenSpec.ofChange hvmBlindSpec)

/-- ITS FALSE NEIGHBOUR: 'it returns false'. Refute it at one input. -/
def hvmBlindWrong : ChangeSpec := { name := "hvmBlind", fn := fun _ => fun
  | [d1, d2, d3, d4] => { results := [.lit (.bool false)], args := [d1, d2, d3, d4] }
  | _ => none }
def HvmBlindWrongFalsely : Prop := hvmBlindRow.holds Try.pinned (OpenSpec.ofChange hvmBlindWrong)

/-- 'sourdinelaw6.HvmLoops': WHATEVER THE INPUT: true; the input reads as it did. -/
def hvmLoopsSpec : ChangeSpec := { name := "hvmLoops", fn := fun _ => fun
  | [d1, d2] => { results := [.lit (.bool true)], args := [d1, d2] }
  | _ => none }
def hvmLoopsRow : OpenClaim := { program := "yteflboidbogegaa", sum := "613014722dc3a5abaa27efa05e42f693c29e95935a1cc67be182e3fd8fafb15f", func := "sourdine/sourdinelaw6.HvmLoops", spec := "hvmLoops", unfollowed := true, recurses := true, apart := false }
def HvmLoopsSaid : Prop := hvmLoopsRow.holds Try.pinned (OpenSpec.ofChange hvmLoopsSpec)

/-- ITS FALSE NEIGHBOUR: 'it returns false'. Refute it at one input. -/
def hvmLoopsWrong : ChangeSpec := { name := "hvmLoops", fn := fun _ => fun
  | [d1, d2] => { results := [.lit (.bool false)], args := [d1, d2] }
  | _ => none }
def HvmLoopsWrongFalsely : Prop := hvmLoopsRow.holds Try.pinned (OpenSpec.ofChange hvmLoopsWrong)

/-- 'sourdinelaw6.HvmMemory': WHATEVER THE INPUT: true; the input reads as it did. -/
def hvmMemorySpec : ChangeSpec := { name := "hvmMemory", fn := fun _ => fun
  | [d1, d2, d3] => { results := [.lit (.bool true)], args := [d1, d2, d3] }
  | _ => none }
def hvmMemoryRow : OpenClaim := { program := "yteflboidbogegaa", sum := "613014722dc3a5abaa27efa05e42f693c29e95935a1cc67be182e3fd8fafb15f", func := "sourdine/sourdinelaw6.HvmMemory", spec := "hvmMemory", unfollowed := true, recurses := true, apart := false }
def HvmMemorySaid : Prop := hvmMemoryRow.holds Try.pinned (OpenSpec.ofChange hvmMemorySpec)

/-- ITS FALSE NEIGHBOUR: 'it returns false'. Refute it at one input. -/
def hvmMemoryWrong : ChangeSpec := { name := "hvmMemory", fn := fun _ => fun
  | [d1, d2, d3] => { results := [.lit (.bool false)], args := [d1, d2, d3] }
  | _ => none }
def HvmMemoryWrongFalsely : Prop := hvmMemoryRow.holds Try.pinned (OpenSpec.ofChange hvmMemoryWrong)

/-- 'sourdinelaw6.HvmTraps': WHATEVER THE INPUT: true; the input reads as it did. -/
def hvmTrapsSpec : ChangeSpec := { name := "hvmTraps", fn := fun _ => fun
  | [d1, d2, d3] => { results := [.lit (.bool true)], args := [d1, d2, d3] }
  | _ => none }
def hvmTrapsRow : OpenClaim := { program := "yteflboidbogegaa", sum := "613014722dc3a5abaa27efa05e42f693c29e95935a1cc67be182e3fd8fafb15f", func := "sourdine/sourdinelaw6.HvmTraps", spec := "hvmTraps", unfollowed := true, recurses := true, apart := false }
def HvmTrapsSaid : Prop := hvmTrapsRow.holds Try.pinned (OpenSpec.ofChange hvmTrapsSpec)

/-- ITS FALSE NEIGHBOUR: 'it returns false'. Refute it at one input. -/
def hvmTrapsWrong : ChangeSpec := { name := "hvmTraps", fn := fun _ => fun
  | [d1, d2, d3] => { results := [.lit (.bool false)], args := [d1, d2, d3] }
  | _ => none }
def HvmTrapsWrongFalsely : Prop := hvmTrapsRow.holds Try.pinned (OpenSpec.ofChange hvmTrapsWrong)

/- THE SECOND FORM. 'bulk': how many values and letters a reading holds, each counted each time it is reached (what is shared counts as often as it is met; a slice's spare places count too). A statement '..UptoSaid' is the law's where the arguments, and the package variables that the reading takes, are together of bulk at most 1048576: NARROWER than '..Said'. Prove '..Said' where nothing that the law and all that it calls make is longer than what came in: it says more and counts as full. Else prove '..UptoSaid'. A law counts once. -/
mutual
def uptoBulk {H : Type} : DataW H → Nat
  | .lit (.string bytes) => bytes.length + 1
  | .lit _ => 1
  | .nil => 1
  | .ptr d => uptoBulk d + 1
  | .slice elems spare => uptoBulkAll elems + uptoBulkAll spare + 1
  | .agg parts => uptoBulkAll parts + 1
  | .iface _ d => uptoBulk d + 1
  | .map entries => uptoBulkEntries entries + 1
  | .held _ => 1
def uptoBulkAll {H : Type} : List (DataW H) → Nat
  | [] => 0
  | d :: r => uptoBulk d + uptoBulkAll r
def uptoBulkEntries {H : Type} : List (Lit × DataW H) → Nat
  | [] => 0
  | x :: r => uptoBulkEntry x + uptoBulkEntries r
def uptoBulkEntry {H : Type} : Lit × DataW H → Nat
  | (.string bytes, d) => bytes.length + uptoBulk d + 1
  | (_, d) => uptoBulk d + 1
 end
def uptoSmall : (H : Type) → List (DataW H) → Bool := fun _ ds => decide (uptoBulkAll ds ≤ 1048576)
def OpenSpec.upto (s : _root_.Go.ChangeSpec) : _root_.Go.OpenSpec := { _root_.Go.OpenSpec.ofChange s with cond := some uptoSmall }

/-- 'sourdinelaw6.HvmReckons', WHERE WHAT IT READS IS OF BULK AT MOST 1048576: true; the input reads as it did. -/
def hvmReckonsUptoRow : OpenClaim := { program := "yteflboidbogegaa", sum := "613014722dc3a5abaa27efa05e42f693c29e95935a1cc67be182e3fd8fafb15f", func := "sourdine/sourdinelaw6.HvmReckons", spec := "hvmReckons", unfollowed := true, recurses := true, apart := false, narrowed := true }
def HvmReckonsUptoSaid : Prop := hvmReckonsUptoRow.holds Try.pinned (OpenSpec.upto hvmReckonsSpec)

/-- 'sourdinelaw6.HvmBlind', WHERE WHAT IT READS IS OF BULK AT MOST 1048576: true; the input reads as it did. -/
def hvmBlindUptoRow : OpenClaim := { program := "yteflboidbogegaa", sum := "613014722dc3a5abaa27efa05e42f693c29e95935a1cc67be182e3fd8fafb15f", func := "sourdine/sourdinelaw6.HvmBlind", spec := "hvmBlind", unfollowed := true, recurses := true, apart := false, narrowed := true }
def HvmBlindUptoSaid : Prop := hvmBlindUptoRow.holds Try.pinned (OpenSpec.upto hvmBlindSpec)

/-- 'sourdinelaw6.HvmLoops', WHERE WHAT IT READS IS OF BULK AT MOST 1048576: true; the input reads as it did. -/
def hvmLoopsUptoRow : OpenClaim := { program := "yteflboidbogegaa", sum := "613014722dc3a5abaa27efa05e42f693c29e95935a1cc67be182e3fd8fafb15f", func := "sourdine/sourdinelaw6.HvmLoops", spec := "hvmLoops", unfollowed := true, recurses := true, apart := false, narrowed := true }
def HvmLoopsUptoSaid : Prop := hvmLoopsUptoRow.holds Try.pinned (OpenSpec.upto hvmLoopsSpec)

/-- 'sourdinelaw6.HvmMemory', WHERE WHAT IT READS IS OF BULK AT MOST 1048576: true; the input reads as it did. -/
def hvmMemoryUptoRow : OpenClaim := { program := "yteflboidbogegaa", sum := "613014722dc3a5abaa27efa05e42f693c29e95935a1cc67be182e3fd8fafb15f", func := "sourdine/sourdinelaw6.HvmMemory", spec := "hvmMemory", unfollowed := true, recurses := true, apart := false, narrowed := true }
def HvmMemoryUptoSaid : Prop := hvmMemoryUptoRow.holds Try.pinned (OpenSpec.upto hvmMemorySpec)

/-- 'sourdinelaw6.HvmTraps', WHERE WHAT IT READS IS OF BULK AT MOST 1048576: true; the input reads as it did. -/
def hvmTrapsUptoRow : OpenClaim := { program := "yteflboidbogegaa", sum := "613014722dc3a5abaa27efa05e42f693c29e95935a1cc67be182e3fd8fafb15f", func := "sourdine/sourdinelaw6.HvmTraps", spec := "hvmTraps", unfollowed := true, recurses := true, apart := false, narrowed := true }
def HvmTrapsUptoSaid : Prop := hvmTrapsUptoRow.holds Try.pinned (OpenSpec.upto hvmTrapsSpec)

end Rows
end Go.Proofs.Yteflboidbogegaa
