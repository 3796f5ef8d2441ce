/-
  DERIVED. GIVEN WITH THE SEED: THE CARDS: each row of YtbbkiiabjhgpkaaDoorRows.lean that lists a variable, with what it lists TIED to the program's text (the seventh form; the later family's looks); each row that meets fmt, with fmt's text TOLD by the authors' own Lean function (tested against real Go, not proved from fmt's source: count such statements apart). THE CARD IS WHAT COUNTS. Prove the row's statement (the work); the ties are given (YtbbkiiabjhgpkaaDoorTie.lean); close each card by the builder's one call (the guide's Derived/Test/ToyasCard.lean, 'card_holds'). Laid BY PROGRAM, IN A SANDBOX (cutbox-door.mjs). By AI agents, Wed Nov 11 2026. No macro, syntax, notation, axiom, sorry.
-/
import Derived.Test.YtbbkiiabjhgpkaaDoorRows
import GoSem.ClaimSeven
namespace Go.Proofs.YtbbkiiabjhgpkaaDoor
namespace Rows

/-- THE TIED CARD OF 'sourdinelaw7.InstNames'. -/
def instNamesCard : Claim7 := { stood := { row := instNamesRow, standIns := [], harness := (true, "8fa2d2a3e90871d6b811588a33fcba87d8a00cd21addf2ff322ff0ad2f7dc612"), looks := false }, kinds := [], alts := [], laidByText := true, laidKinds := [.data], laidTests := true, laidLooks := .later }
def InstNamesCardSaid : Prop := Claim7.holds Tryd.pinned (.plain (OpenSpec.ofChange instNamesSpec)) instNamesCard

/-- THE TIED CARD OF 'sourdinelaw7.InstSkips'. -/
def instSkipsCard : Claim7 := { stood := { row := instSkipsRow, standIns := [], harness := (true, "8fa2d2a3e90871d6b811588a33fcba87d8a00cd21addf2ff322ff0ad2f7dc612"), looks := false }, kinds := [], alts := [], laidByText := true, laidKinds := [.data], laidTests := true, laidLooks := .later }
def InstSkipsCardSaid : Prop := Claim7.holds Tryd.pinned (.plain (OpenSpec.ofChange instSkipsSpec)) instSkipsCard

/-- THE SECOND FORM's CARD OF 'sourdinelaw7.InstNames'. -/
def instNamesUptoCard : Claim7 := { stood := { row := instNamesUptoRow, standIns := [], harness := (true, "8fa2d2a3e90871d6b811588a33fcba87d8a00cd21addf2ff322ff0ad2f7dc612"), looks := false }, kinds := [], alts := [], laidByText := true, laidKinds := [.data], laidTests := true, laidLooks := .later }
def InstNamesUptoCardSaid : Prop := Claim7.holds Tryd.pinned (.plain (OpenSpec.upto instNamesSpec)) instNamesUptoCard

/-- THE SECOND FORM's CARD OF 'sourdinelaw7.InstSkips'. -/
def instSkipsUptoCard : Claim7 := { stood := { row := instSkipsUptoRow, standIns := [], harness := (true, "8fa2d2a3e90871d6b811588a33fcba87d8a00cd21addf2ff322ff0ad2f7dc612"), looks := false }, kinds := [], alts := [], laidByText := true, laidKinds := [.data], laidTests := true, laidLooks := .later }
def InstSkipsUptoCardSaid : Prop := Claim7.holds Tryd.pinned (.plain (OpenSpec.upto instSkipsSpec)) instSkipsUptoCard
end Rows
end Go.Proofs.YtbbkiiabjhgpkaaDoor
