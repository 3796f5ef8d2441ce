/-
  DERIVED. GIVEN WITH THE SEED: THE CARDS: each row of YtblcklknlfofgaaDoorRows.lean that lists a variable, with what it lists TIED to the program's text (the seventh form; the later family's looks); each row that meets fmt, with fmt's text TOLD by the authors' own Lean function (tested against real Go, not proved from fmt's source: count such statements apart). THE CARD IS WHAT COUNTS. Prove the row's statement (the work); the ties are given (YtblcklknlfofgaaDoorTie.lean); close each card by the builder's one call (the guide's Derived/Test/ToyasCard.lean, 'card_holds'). Laid BY PROGRAM, IN A SANDBOX (cutbox-door.mjs). By AI agents, Wed Nov 11 2026. No macro, syntax, notation, axiom, sorry.
-/
import Derived.Test.YtblcklknlfofgaaDoorRows
import GoSem.ClaimSeven
namespace Go.Proofs.YtblcklknlfofgaaDoor
namespace Rows

/-- THE TIED CARD OF 'sourdinelaw8.ThumbTells'. -/
def thumbTellsCard : Claim7 := { stood := { row := thumbTellsRow, standIns := [], harness := (true, "39d2ec52332913c9b18c76cd58e8af7444cf5fd3ffb3acb8202a50cddef67f1f"), looks := false }, kinds := [], alts := [], laidByText := true, laidKinds := [.data, .data, .data, .data, .data, .data], laidTests := true, laidLooks := .later }
def ThumbTellsCardSaid : Prop := Claim7.holds Tryd.pinned (.plain (OpenSpec.ofChange thumbTellsSpec)) thumbTellsCard

/-- THE TIED CARD OF 'sourdinelaw8.ThumbWrites'. -/
def thumbWritesCard : Claim7 := { stood := { row := thumbWritesRow, standIns := [], harness := (true, "39d2ec52332913c9b18c76cd58e8af7444cf5fd3ffb3acb8202a50cddef67f1f"), looks := false }, kinds := [], alts := [], laidByText := true, laidKinds := [.data, .data, .data, .data, .data, .data], laidTests := true, laidLooks := .later }
def ThumbWritesCardSaid : Prop := Claim7.holds Tryd.pinned (.plain (OpenSpec.ofChange thumbWritesSpec)) thumbWritesCard

/-- THE TIED CARD OF 'sourdinelaw8.ThumbLeast'. -/
def thumbLeastCard : Claim7 := { stood := { row := thumbLeastRow, standIns := [], harness := (true, "39d2ec52332913c9b18c76cd58e8af7444cf5fd3ffb3acb8202a50cddef67f1f"), looks := false }, kinds := [], alts := [], laidByText := true, laidKinds := [.data, .data, .data, .data, .data, .data], laidTests := true, laidLooks := .later }
def ThumbLeastCardSaid : Prop := Claim7.holds Tryd.pinned (.plain (OpenSpec.ofChange thumbLeastSpec)) thumbLeastCard

/-- THE TIED CARD OF 'sourdinelaw8.ThumbFlags'. -/
def thumbFlagsCard : Claim7 := { stood := { row := thumbFlagsRow, standIns := [], harness := (true, "39d2ec52332913c9b18c76cd58e8af7444cf5fd3ffb3acb8202a50cddef67f1f"), looks := false }, kinds := [], alts := [], laidByText := true, laidKinds := [.data, .data, .data, .data, .data, .data], laidTests := true, laidLooks := .later }
def ThumbFlagsCardSaid : Prop := Claim7.holds Tryd.pinned (.plain (OpenSpec.ofChange thumbFlagsSpec)) thumbFlagsCard

/-- THE TIED CARD OF 'sourdinelaw8.ThumbPlaces'. -/
def thumbPlacesCard : Claim7 := { stood := { row := thumbPlacesRow, standIns := [], harness := (true, "39d2ec52332913c9b18c76cd58e8af7444cf5fd3ffb3acb8202a50cddef67f1f"), looks := false }, kinds := [], alts := [], laidByText := true, laidKinds := [.data, .data, .data, .data, .data, .data], laidTests := true, laidLooks := .later }
def ThumbPlacesCardSaid : Prop := Claim7.holds Tryd.pinned (.plain (OpenSpec.ofChange thumbPlacesSpec)) thumbPlacesCard

/-- THE SECOND FORM's CARD OF 'sourdinelaw8.ThumbTells'. -/
def thumbTellsUptoCard : Claim7 := { stood := { row := thumbTellsUptoRow, standIns := [], harness := (true, "39d2ec52332913c9b18c76cd58e8af7444cf5fd3ffb3acb8202a50cddef67f1f"), looks := false }, kinds := [], alts := [], laidByText := true, laidKinds := [.data, .data, .data, .data, .data, .data], laidTests := true, laidLooks := .later }
def ThumbTellsUptoCardSaid : Prop := Claim7.holds Tryd.pinned (.plain (OpenSpec.upto thumbTellsSpec)) thumbTellsUptoCard

/-- THE SECOND FORM's CARD OF 'sourdinelaw8.ThumbWrites'. -/
def thumbWritesUptoCard : Claim7 := { stood := { row := thumbWritesUptoRow, standIns := [], harness := (true, "39d2ec52332913c9b18c76cd58e8af7444cf5fd3ffb3acb8202a50cddef67f1f"), looks := false }, kinds := [], alts := [], laidByText := true, laidKinds := [.data, .data, .data, .data, .data, .data], laidTests := true, laidLooks := .later }
def ThumbWritesUptoCardSaid : Prop := Claim7.holds Tryd.pinned (.plain (OpenSpec.upto thumbWritesSpec)) thumbWritesUptoCard

/-- THE SECOND FORM's CARD OF 'sourdinelaw8.ThumbLeast'. -/
def thumbLeastUptoCard : Claim7 := { stood := { row := thumbLeastUptoRow, standIns := [], harness := (true, "39d2ec52332913c9b18c76cd58e8af7444cf5fd3ffb3acb8202a50cddef67f1f"), looks := false }, kinds := [], alts := [], laidByText := true, laidKinds := [.data, .data, .data, .data, .data, .data], laidTests := true, laidLooks := .later }
def ThumbLeastUptoCardSaid : Prop := Claim7.holds Tryd.pinned (.plain (OpenSpec.upto thumbLeastSpec)) thumbLeastUptoCard

/-- THE SECOND FORM's CARD OF 'sourdinelaw8.ThumbFlags'. -/
def thumbFlagsUptoCard : Claim7 := { stood := { row := thumbFlagsUptoRow, standIns := [], harness := (true, "39d2ec52332913c9b18c76cd58e8af7444cf5fd3ffb3acb8202a50cddef67f1f"), looks := false }, kinds := [], alts := [], laidByText := true, laidKinds := [.data, .data, .data, .data, .data, .data], laidTests := true, laidLooks := .later }
def ThumbFlagsUptoCardSaid : Prop := Claim7.holds Tryd.pinned (.plain (OpenSpec.upto thumbFlagsSpec)) thumbFlagsUptoCard

/-- THE SECOND FORM's CARD OF 'sourdinelaw8.ThumbPlaces'. -/
def thumbPlacesUptoCard : Claim7 := { stood := { row := thumbPlacesUptoRow, standIns := [], harness := (true, "39d2ec52332913c9b18c76cd58e8af7444cf5fd3ffb3acb8202a50cddef67f1f"), looks := false }, kinds := [], alts := [], laidByText := true, laidKinds := [.data, .data, .data, .data, .data, .data], laidTests := true, laidLooks := .later }
def ThumbPlacesUptoCardSaid : Prop := Claim7.holds Tryd.pinned (.plain (OpenSpec.upto thumbPlacesSpec)) thumbPlacesUptoCard
end Rows
end Go.Proofs.YtblcklknlfofgaaDoor
