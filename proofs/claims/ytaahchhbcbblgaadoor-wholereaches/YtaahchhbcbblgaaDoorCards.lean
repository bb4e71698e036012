/-
  DERIVED. GIVEN WITH THE SEED: THE CARDS: each row of YtaahchhbcbblgaaDoorRows.lean that lists a variable, with what it lists TIED to the program's text (the seventh form; the later family's looks); each row that meets fmt, with fmt's text TOLD by the authors' own Lean function (tested against real Go, not proved from fmt's source: count such statements apart). THE CARD IS WHAT COUNTS. Prove the row's statement (the work); the ties are given (YtaahchhbcbblgaaDoorTie.lean); close each card by the builder's one call (the guide's Derived/Test/ToyasCard.lean, 'card_holds'). Laid BY PROGRAM, IN A SANDBOX (cutbox-door.mjs). By AI agents, Wed Nov 11 2026. No macro, syntax, notation, axiom, sorry.
-/
import Derived.Test.YtaahchhbcbblgaaDoorRows
import GoSem.ClaimSeven
namespace Go.Proofs.YtaahchhbcbblgaaDoor
namespace Rows

/-- THE TIED CARD OF 'culletlaw14.AfftRows'. -/
def afftRowsCard : Claim7 := { stood := { row := afftRowsRow, standIns := [], harness := (true, "922bb71e9c63398370e5495399c7d8d353ba28374069487bfbed607e0669d3ad"), looks := false }, kinds := [], alts := [], laidByText := true, laidKinds := [.data, .data, .data], laidTests := true, laidLooks := .later }
def AfftRowsCardSaid : Prop := Claim7.holds Tryd.pinned (.plain (OpenSpec.ofChange afftRowsSpec)) afftRowsCard

/-- THE TIED CARD OF 'culletlaw14.AfftAlls'. -/
def afftAllsCard : Claim7 := { stood := { row := afftAllsRow, standIns := [], harness := (true, "922bb71e9c63398370e5495399c7d8d353ba28374069487bfbed607e0669d3ad"), looks := false }, kinds := [], alts := [], laidByText := true, laidKinds := [.data, .data, .data], laidTests := true, laidLooks := .later }
def AfftAllsCardSaid : Prop := Claim7.holds Tryd.pinned (.plain (OpenSpec.ofChange afftAllsSpec)) afftAllsCard

/-- THE TIED CARD OF 'cullettop.WholeReaches'. -/
def wholeReachesCard : Claim7 := { stood := { row := wholeReachesRow, standIns := [], harness := (true, "922bb71e9c63398370e5495399c7d8d353ba28374069487bfbed607e0669d3ad"), looks := false }, kinds := [], alts := [], laidByText := true, laidKinds := [.data, .data, .data], laidTests := true, laidLooks := .later }
def WholeReachesCardSaid : Prop := Claim7.holds Tryd.pinned (.plain (OpenSpec.ofChange wholeReachesSpec)) wholeReachesCard

/-- THE SECOND FORM's CARD OF 'culletlaw14.AfftRows'. -/
def afftRowsUptoCard : Claim7 := { stood := { row := afftRowsUptoRow, standIns := [], harness := (true, "922bb71e9c63398370e5495399c7d8d353ba28374069487bfbed607e0669d3ad"), looks := false }, kinds := [], alts := [], laidByText := true, laidKinds := [.data, .data, .data], laidTests := true, laidLooks := .later }
def AfftRowsUptoCardSaid : Prop := Claim7.holds Tryd.pinned (.plain (OpenSpec.upto afftRowsSpec)) afftRowsUptoCard

/-- THE SECOND FORM's CARD OF 'culletlaw14.AfftAlls'. -/
def afftAllsUptoCard : Claim7 := { stood := { row := afftAllsUptoRow, standIns := [], harness := (true, "922bb71e9c63398370e5495399c7d8d353ba28374069487bfbed607e0669d3ad"), looks := false }, kinds := [], alts := [], laidByText := true, laidKinds := [.data, .data, .data], laidTests := true, laidLooks := .later }
def AfftAllsUptoCardSaid : Prop := Claim7.holds Tryd.pinned (.plain (OpenSpec.upto afftAllsSpec)) afftAllsUptoCard

/-- THE SECOND FORM's CARD OF 'cullettop.WholeReaches'. -/
def wholeReachesUptoCard : Claim7 := { stood := { row := wholeReachesUptoRow, standIns := [], harness := (true, "922bb71e9c63398370e5495399c7d8d353ba28374069487bfbed607e0669d3ad"), looks := false }, kinds := [], alts := [], laidByText := true, laidKinds := [.data, .data, .data], laidTests := true, laidLooks := .later }
def WholeReachesUptoCardSaid : Prop := Claim7.holds Tryd.pinned (.plain (OpenSpec.upto wholeReachesSpec)) wholeReachesUptoCard
end Rows
end Go.Proofs.YtaahchhbcbblgaaDoor
