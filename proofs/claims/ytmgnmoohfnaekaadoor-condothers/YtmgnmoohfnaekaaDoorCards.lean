/-
  DERIVED. GIVEN WITH THE SEED: THE CARDS: each row of YtmgnmoohfnaekaaDoorRows.lean that lists a variable, with what it lists TIED to the program's text (the seventh form; the later family's looks); each row that meets fmt, with fmt's text TOLD by the authors' own Lean function (tested against real Go, not proved from fmt's source: count such statements apart). THE CARD IS WHAT COUNTS. Prove the row's statement (the work); the ties are given (YtmgnmoohfnaekaaDoorTie.lean); close each card by the builder's one call (the guide's Derived/Test/ToyasCard.lean, 'card_holds'). Laid BY PROGRAM, IN A SANDBOX (cutbox-door.mjs). By AI agents, Wed Nov 11 2026. No macro, syntax, notation, axiom, sorry.
-/
import Derived.Test.YtmgnmoohfnaekaaDoorRows
import GoSem.ClaimSeven
namespace Go.Proofs.YtmgnmoohfnaekaaDoor
namespace Rows

/-- THE TIED CARD OF 'sourdinelaw2.CondTells'. -/
def condTellsCard : Claim7 := { stood := { row := condTellsRow, standIns := [], harness := (true, "5a3a372cef49c1f64f728c01e4c19c06662977dd4a0a3b879d18e600ed0e588f"), looks := false }, kinds := [], alts := [], laidByText := true, laidKinds := [.data, .data], laidTests := true, laidLooks := .later }
def CondTellsCardSaid : Prop := Claim7.holds Tryd.pinned (.plain (OpenSpec.ofChange condTellsSpec)) condTellsCard

/-- THE TIED CARD OF 'sourdinelaw2.CondOthers'. -/
def condOthersCard : Claim7 := { stood := { row := condOthersRow, standIns := [], harness := (true, "5a3a372cef49c1f64f728c01e4c19c06662977dd4a0a3b879d18e600ed0e588f"), looks := false }, kinds := [], alts := [], laidByText := true, laidKinds := [.data, .data], laidTests := true, laidLooks := .later }
def CondOthersCardSaid : Prop := Claim7.holds Tryd.pinned (.plain (OpenSpec.ofChange condOthersSpec)) condOthersCard

/-- THE TIED CARD OF 'sourdinelaw2.CondNumbers'. -/
def condNumbersCard : Claim7 := { stood := { row := condNumbersRow, standIns := [], harness := (true, "5a3a372cef49c1f64f728c01e4c19c06662977dd4a0a3b879d18e600ed0e588f"), looks := false }, kinds := [], alts := [], laidByText := true, laidKinds := [.data, .data], laidTests := true, laidLooks := .later }
def CondNumbersCardSaid : Prop := Claim7.holds Tryd.pinned (.plain (OpenSpec.ofChange condNumbersSpec)) condNumbersCard

/-- THE SECOND FORM's CARD OF 'sourdinelaw2.CondTells'. -/
def condTellsUptoCard : Claim7 := { stood := { row := condTellsUptoRow, standIns := [], harness := (true, "5a3a372cef49c1f64f728c01e4c19c06662977dd4a0a3b879d18e600ed0e588f"), looks := false }, kinds := [], alts := [], laidByText := true, laidKinds := [.data, .data], laidTests := true, laidLooks := .later }
def CondTellsUptoCardSaid : Prop := Claim7.holds Tryd.pinned (.plain (OpenSpec.upto condTellsSpec)) condTellsUptoCard

/-- THE SECOND FORM's CARD OF 'sourdinelaw2.CondOthers'. -/
def condOthersUptoCard : Claim7 := { stood := { row := condOthersUptoRow, standIns := [], harness := (true, "5a3a372cef49c1f64f728c01e4c19c06662977dd4a0a3b879d18e600ed0e588f"), looks := false }, kinds := [], alts := [], laidByText := true, laidKinds := [.data, .data], laidTests := true, laidLooks := .later }
def CondOthersUptoCardSaid : Prop := Claim7.holds Tryd.pinned (.plain (OpenSpec.upto condOthersSpec)) condOthersUptoCard

/-- THE SECOND FORM's CARD OF 'sourdinelaw2.CondNumbers'. -/
def condNumbersUptoCard : Claim7 := { stood := { row := condNumbersUptoRow, standIns := [], harness := (true, "5a3a372cef49c1f64f728c01e4c19c06662977dd4a0a3b879d18e600ed0e588f"), looks := false }, kinds := [], alts := [], laidByText := true, laidKinds := [.data, .data], laidTests := true, laidLooks := .later }
def CondNumbersUptoCardSaid : Prop := Claim7.holds Tryd.pinned (.plain (OpenSpec.upto condNumbersSpec)) condNumbersUptoCard
end Rows
end Go.Proofs.YtmgnmoohfnaekaaDoor
