/-
  DERIVED. GIVEN WITH THE SEED: THE CARDS: each row of YtklhnaineeleoaaDoorRows.lean that lists a variable, with what it lists TIED to the program's text (the seventh form; the later family's looks); each row that meets fmt, with fmt's text TOLD by the authors' own Lean function (tested against real Go, not proved from fmt's source: count such statements apart). THE CARD IS WHAT COUNTS. Prove the row's statement (the work); the ties are given (YtklhnaineeleoaaDoorTie.lean); close each card by the builder's one call (the guide's Derived/Test/ToyasCard.lean, 'card_holds'). Laid BY PROGRAM, IN A SANDBOX (cutbox-door.mjs). By AI agents, Wed Nov 11 2026. No macro, syntax, notation, axiom, sorry.
-/
import Derived.Test.YtklhnaineeleoaaDoorRows
import GoSem.ClaimSeven
namespace Go.Proofs.YtklhnaineeleoaaDoor
namespace Rows

/-- THE TIED CARD OF 'sourdinelaw5.HostTells'. -/
def hostTellsCard : Claim7 := { stood := { row := hostTellsRow, standIns := [], harness := (true, "fe060dfc3d377b9427baa7a83c3d7cbf56b4810326907a3803ee9ef49c7550bc"), looks := false }, kinds := [], alts := [], laidByText := true, laidKinds := [.data], laidTests := true, laidLooks := .later }
def HostTellsCardSaid : Prop := Claim7.holds Tryd.pinned (.plain (OpenSpec.ofChange hostTellsSpec)) hostTellsCard

/-- THE TIED CARD OF 'sourdinelaw5.HostWrites'. -/
def hostWritesCard : Claim7 := { stood := { row := hostWritesRow, standIns := [], harness := (true, "fe060dfc3d377b9427baa7a83c3d7cbf56b4810326907a3803ee9ef49c7550bc"), looks := false }, kinds := [], alts := [], laidByText := true, laidKinds := [.data], laidTests := true, laidLooks := .later }
def HostWritesCardSaid : Prop := Claim7.holds Tryd.pinned (.plain (OpenSpec.ofChange hostWritesSpec)) hostWritesCard

/-- THE TIED CARD OF 'sourdinelaw5.HostReads'. -/
def hostReadsCard : Claim7 := { stood := { row := hostReadsRow, standIns := [], harness := (true, "fe060dfc3d377b9427baa7a83c3d7cbf56b4810326907a3803ee9ef49c7550bc"), looks := false }, kinds := [], alts := [], laidByText := true, laidKinds := [.data], laidTests := true, laidLooks := .later }
def HostReadsCardSaid : Prop := Claim7.holds Tryd.pinned (.plain (OpenSpec.ofChange hostReadsSpec)) hostReadsCard

/-- THE TIED CARD OF 'sourdinelaw5.HostBytes'. -/
def hostBytesCard : Claim7 := { stood := { row := hostBytesRow, standIns := [], harness := (true, "fe060dfc3d377b9427baa7a83c3d7cbf56b4810326907a3803ee9ef49c7550bc"), looks := false }, kinds := [], alts := [], laidByText := true, laidKinds := [.data], laidTests := true, laidLooks := .later }
def HostBytesCardSaid : Prop := Claim7.holds Tryd.pinned (.plain (OpenSpec.ofChange hostBytesSpec)) hostBytesCard

/-- THE SECOND FORM's CARD OF 'sourdinelaw5.HostTells'. -/
def hostTellsUptoCard : Claim7 := { stood := { row := hostTellsUptoRow, standIns := [], harness := (true, "fe060dfc3d377b9427baa7a83c3d7cbf56b4810326907a3803ee9ef49c7550bc"), looks := false }, kinds := [], alts := [], laidByText := true, laidKinds := [.data], laidTests := true, laidLooks := .later }
def HostTellsUptoCardSaid : Prop := Claim7.holds Tryd.pinned (.plain (OpenSpec.upto hostTellsSpec)) hostTellsUptoCard

/-- THE SECOND FORM's CARD OF 'sourdinelaw5.HostWrites'. -/
def hostWritesUptoCard : Claim7 := { stood := { row := hostWritesUptoRow, standIns := [], harness := (true, "fe060dfc3d377b9427baa7a83c3d7cbf56b4810326907a3803ee9ef49c7550bc"), looks := false }, kinds := [], alts := [], laidByText := true, laidKinds := [.data], laidTests := true, laidLooks := .later }
def HostWritesUptoCardSaid : Prop := Claim7.holds Tryd.pinned (.plain (OpenSpec.upto hostWritesSpec)) hostWritesUptoCard

/-- THE SECOND FORM's CARD OF 'sourdinelaw5.HostReads'. -/
def hostReadsUptoCard : Claim7 := { stood := { row := hostReadsUptoRow, standIns := [], harness := (true, "fe060dfc3d377b9427baa7a83c3d7cbf56b4810326907a3803ee9ef49c7550bc"), looks := false }, kinds := [], alts := [], laidByText := true, laidKinds := [.data], laidTests := true, laidLooks := .later }
def HostReadsUptoCardSaid : Prop := Claim7.holds Tryd.pinned (.plain (OpenSpec.upto hostReadsSpec)) hostReadsUptoCard

/-- THE SECOND FORM's CARD OF 'sourdinelaw5.HostBytes'. -/
def hostBytesUptoCard : Claim7 := { stood := { row := hostBytesUptoRow, standIns := [], harness := (true, "fe060dfc3d377b9427baa7a83c3d7cbf56b4810326907a3803ee9ef49c7550bc"), looks := false }, kinds := [], alts := [], laidByText := true, laidKinds := [.data], laidTests := true, laidLooks := .later }
def HostBytesUptoCardSaid : Prop := Claim7.holds Tryd.pinned (.plain (OpenSpec.upto hostBytesSpec)) hostBytesUptoCard
end Rows
end Go.Proofs.YtklhnaineeleoaaDoor
