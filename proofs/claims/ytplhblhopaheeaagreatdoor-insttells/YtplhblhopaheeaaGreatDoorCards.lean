/-
  DERIVED. GIVEN WITH THE SEED: THE CARDS: each row of YtplhblhopaheeaaGreatDoorRows.lean that lists a variable, with what it lists TIED to the program's text (the seventh form; the later family's looks); each row that meets fmt, with fmt's text TOLD by the authors' own Lean function (tested against real Go, not proved from fmt's source: count such statements apart). THE CARD IS WHAT COUNTS. Prove the row's statement (the work); the ties are given (YtplhblhopaheeaaGreatDoorTie.lean); close each card by the builder's one call (the guide's Derived/Test/ToyasCard.lean, 'card_holds'). Laid BY PROGRAM, IN A SANDBOX (cutbox-door.mjs). By AI agents, Wed Nov 11 2026. No macro, syntax, notation, axiom, sorry.
-/
import Derived.Test.YtplhblhopaheeaaGreatDoorRows
import GoSem.ClaimSeven
namespace Go.Proofs.YtplhblhopaheeaaGreatDoor
namespace Rows

/-- THE TIED CARD OF 'sourdinelaw7.InstTells'. -/
def instTellsCard : Claim7 := { stood := { row := instTellsRow, standIns := [], harness := (true, "f3892bc1df5003a64dbb7c5786ff8c138704d6219ec73160cb41d6d6148cb394"), looks := false }, kinds := [], alts := [], laidByText := true, laidKinds := [.data], laidTests := true, laidLooks := .later }
def InstTellsCardSaid : Prop := Claim7.holds Tryz.pinned (.plain (OpenSpec.ofChange instTellsSpec)) instTellsCard

/-- THE TIED CARD OF 'sourdinelaw7.InstDone'. -/
def instDoneCard : Claim7 := { stood := { row := instDoneRow, standIns := [], harness := (true, "f3892bc1df5003a64dbb7c5786ff8c138704d6219ec73160cb41d6d6148cb394"), looks := false }, kinds := [], alts := [], laidByText := true, laidKinds := [.data], laidTests := true, laidLooks := .later }
def InstDoneCardSaid : Prop := Claim7.holds Tryz.pinned (.plain (OpenSpec.ofChange instDoneSpec)) instDoneCard

/-- THE SECOND FORM's CARD OF 'sourdinelaw7.InstTells'. -/
def instTellsUptoCard : Claim7 := { stood := { row := instTellsUptoRow, standIns := [], harness := (true, "f3892bc1df5003a64dbb7c5786ff8c138704d6219ec73160cb41d6d6148cb394"), looks := false }, kinds := [], alts := [], laidByText := true, laidKinds := [.data], laidTests := true, laidLooks := .later }
def InstTellsUptoCardSaid : Prop := Claim7.holds Tryz.pinned (.plain (OpenSpec.upto instTellsSpec)) instTellsUptoCard

/-- THE SECOND FORM's CARD OF 'sourdinelaw7.InstDone'. -/
def instDoneUptoCard : Claim7 := { stood := { row := instDoneUptoRow, standIns := [], harness := (true, "f3892bc1df5003a64dbb7c5786ff8c138704d6219ec73160cb41d6d6148cb394"), looks := false }, kinds := [], alts := [], laidByText := true, laidKinds := [.data], laidTests := true, laidLooks := .later }
def InstDoneUptoCardSaid : Prop := Claim7.holds Tryz.pinned (.plain (OpenSpec.upto instDoneSpec)) instDoneUptoCard
end Rows
end Go.Proofs.YtplhblhopaheeaaGreatDoor
