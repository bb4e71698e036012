/-
  DERIVED. GIVEN WITH THE SEED: THE CARDS: each row of YtgdnjbaohfiijaaDoorRows.lean that lists a variable, with what it lists TIED to the program's text (the seventh form; the later family's looks); each row that meets fmt, with fmt's text TOLD by the authors' own Lean function (tested against real Go, not proved from fmt's source: count such statements apart). THE CARD IS WHAT COUNTS. Prove the row's statement (the work); the ties are given (YtgdnjbaohfiijaaDoorTie.lean); close each card by the builder's one call (the guide's Derived/Test/ToyasCard.lean, 'card_holds'). Laid BY PROGRAM, IN A SANDBOX (cutbox-door.mjs). By AI agents, Wed Nov 11 2026. No macro, syntax, notation, axiom, sorry.
-/
import Derived.Test.YtgdnjbaohfiijaaDoorRows
import GoSem.ClaimSeven
namespace Go.Proofs.YtgdnjbaohfiijaaDoor
namespace Rows

/-- THE TIED CARD OF 'culletlaw14.AfftRows'. -/
def afftRowsCard : Claim7 := { stood := { row := afftRowsRow, standIns := [], harness := (true, "4f94c8e2fa4ade5f78609866bed29986629d6172a339b9b092e007f2d3294c24"), looks := false }, kinds := [], alts := [], laidByText := true, laidKinds := [.data, .data, .data], laidTests := true, laidLooks := .later }
def AfftRowsCardSaid : Prop := Claim7.holds Tryd.pinned (.plain (OpenSpec.ofChange afftRowsSpec)) afftRowsCard

/-- THE TIED CARD OF 'culletlaw14.AfftAlls'. -/
def afftAllsCard : Claim7 := { stood := { row := afftAllsRow, standIns := [], harness := (true, "4f94c8e2fa4ade5f78609866bed29986629d6172a339b9b092e007f2d3294c24"), looks := false }, kinds := [], alts := [], laidByText := true, laidKinds := [.data, .data, .data], laidTests := true, laidLooks := .later }
def AfftAllsCardSaid : Prop := Claim7.holds Tryd.pinned (.plain (OpenSpec.ofChange afftAllsSpec)) afftAllsCard

/-- THE SECOND FORM's CARD OF 'culletlaw14.AfftRows'. -/
def afftRowsUptoCard : Claim7 := { stood := { row := afftRowsUptoRow, standIns := [], harness := (true, "4f94c8e2fa4ade5f78609866bed29986629d6172a339b9b092e007f2d3294c24"), looks := false }, kinds := [], alts := [], laidByText := true, laidKinds := [.data, .data, .data], laidTests := true, laidLooks := .later }
def AfftRowsUptoCardSaid : Prop := Claim7.holds Tryd.pinned (.plain (OpenSpec.upto afftRowsSpec)) afftRowsUptoCard

/-- THE SECOND FORM's CARD OF 'culletlaw14.AfftAlls'. -/
def afftAllsUptoCard : Claim7 := { stood := { row := afftAllsUptoRow, standIns := [], harness := (true, "4f94c8e2fa4ade5f78609866bed29986629d6172a339b9b092e007f2d3294c24"), looks := false }, kinds := [], alts := [], laidByText := true, laidKinds := [.data, .data, .data], laidTests := true, laidLooks := .later }
def AfftAllsUptoCardSaid : Prop := Claim7.holds Tryd.pinned (.plain (OpenSpec.upto afftAllsSpec)) afftAllsUptoCard
end Rows
end Go.Proofs.YtgdnjbaohfiijaaDoor
