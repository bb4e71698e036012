/-
  DERIVED. GIVEN WITH THE SEED: THE CARDS: each row of YtemjodlhpelbaaaDoorRows.lean that lists a variable, with what it lists TIED to the program's text (the seventh form; the later family's looks); each row that meets fmt, with fmt's text TOLD by the authors' own Lean function (tested against real Go, not proved from fmt's source: count such statements apart). THE CARD IS WHAT COUNTS. Prove the row's statement (the work); the ties are given (YtemjodlhpelbaaaDoorTie.lean); close each card by the builder's one call (the guide's Derived/Test/ToyasCard.lean, 'card_holds'). Laid BY PROGRAM, IN A SANDBOX (cutbox-door.mjs). By AI agents, Wed Nov 11 2026. No macro, syntax, notation, axiom, sorry.
-/
import Derived.Test.YtemjodlhpelbaaaDoorRows
import GoSem.ClaimSeven
namespace Go.Proofs.YtemjodlhpelbaaaDoor
namespace Rows

/-- THE TIED CARD OF 'culletlaw14.AfftBack'. -/
def afftBackCard : Claim7 := { stood := { row := afftBackRow, standIns := [], harness := (true, "76675fb174d7f30f6dcf3af4217fcd52a34a74872c79d3da722f60ef775a98b3"), looks := false }, kinds := [], alts := [], laidByText := true, laidKinds := [.data, .data, .data], laidTests := true, laidLooks := .later }
def AfftBackCardSaid : Prop := Claim7.holds Tryd.pinned (.plain (OpenSpec.ofChange afftBackSpec)) afftBackCard

/-- THE TIED CARD OF 'culletlaw14.AfftSums'. -/
def afftSumsCard : Claim7 := { stood := { row := afftSumsRow, standIns := [], harness := (true, "76675fb174d7f30f6dcf3af4217fcd52a34a74872c79d3da722f60ef775a98b3"), looks := false }, kinds := [], alts := [], laidByText := true, laidKinds := [.data, .data, .data], laidTests := true, laidLooks := .later }
def AfftSumsCardSaid : Prop := Claim7.holds Tryd.pinned (.plain (OpenSpec.ofChange afftSumsSpec)) afftSumsCard

/-- THE TIED CARD OF 'culletlaw14.AfftValues'. -/
def afftValuesCard : Claim7 := { stood := { row := afftValuesRow, standIns := [], harness := (true, "76675fb174d7f30f6dcf3af4217fcd52a34a74872c79d3da722f60ef775a98b3"), looks := false }, kinds := [], alts := [], laidByText := true, laidKinds := [.data, .data, .data, .data], laidTests := true, laidLooks := .later }
def AfftValuesCardSaid : Prop := Claim7.holds Tryd.pinned (.plain (OpenSpec.ofChange afftValuesSpec)) afftValuesCard

/-- THE TIED CARD OF 'culletlaw14.AfftOver'. -/
def afftOverCard : Claim7 := { stood := { row := afftOverRow, standIns := [], harness := (true, "76675fb174d7f30f6dcf3af4217fcd52a34a74872c79d3da722f60ef775a98b3"), looks := false }, kinds := [], alts := [], laidByText := true, laidKinds := [.data, .data, .data], laidTests := true, laidLooks := .later }
def AfftOverCardSaid : Prop := Claim7.holds Tryd.pinned (.plain (OpenSpec.ofChange afftOverSpec)) afftOverCard

/-- THE TIED CARD OF 'culletlaw14.AfftColumns'. -/
def afftColumnsCard : Claim7 := { stood := { row := afftColumnsRow, standIns := [], harness := (true, "76675fb174d7f30f6dcf3af4217fcd52a34a74872c79d3da722f60ef775a98b3"), looks := false }, kinds := [], alts := [], laidByText := true, laidKinds := [.data, .data, .data], laidTests := true, laidLooks := .later }
def AfftColumnsCardSaid : Prop := Claim7.holds Tryd.pinned (.plain (OpenSpec.ofChange afftColumnsSpec)) afftColumnsCard

/-- THE TIED CARD OF 'culletlaw14.AfftLists'. -/
def afftListsCard : Claim7 := { stood := { row := afftListsRow, standIns := [], harness := (true, "76675fb174d7f30f6dcf3af4217fcd52a34a74872c79d3da722f60ef775a98b3"), looks := false }, kinds := [], alts := [], laidByText := true, laidKinds := [.data, .data, .data], laidTests := true, laidLooks := .later }
def AfftListsCardSaid : Prop := Claim7.holds Tryd.pinned (.plain (OpenSpec.ofChange afftListsSpec)) afftListsCard

/-- THE SECOND FORM's CARD OF 'culletlaw14.AfftBack'. -/
def afftBackUptoCard : Claim7 := { stood := { row := afftBackUptoRow, standIns := [], harness := (true, "76675fb174d7f30f6dcf3af4217fcd52a34a74872c79d3da722f60ef775a98b3"), looks := false }, kinds := [], alts := [], laidByText := true, laidKinds := [.data, .data, .data], laidTests := true, laidLooks := .later }
def AfftBackUptoCardSaid : Prop := Claim7.holds Tryd.pinned (.plain (OpenSpec.upto afftBackSpec)) afftBackUptoCard

/-- THE SECOND FORM's CARD OF 'culletlaw14.AfftSums'. -/
def afftSumsUptoCard : Claim7 := { stood := { row := afftSumsUptoRow, standIns := [], harness := (true, "76675fb174d7f30f6dcf3af4217fcd52a34a74872c79d3da722f60ef775a98b3"), looks := false }, kinds := [], alts := [], laidByText := true, laidKinds := [.data, .data, .data], laidTests := true, laidLooks := .later }
def AfftSumsUptoCardSaid : Prop := Claim7.holds Tryd.pinned (.plain (OpenSpec.upto afftSumsSpec)) afftSumsUptoCard

/-- THE SECOND FORM's CARD OF 'culletlaw14.AfftValues'. -/
def afftValuesUptoCard : Claim7 := { stood := { row := afftValuesUptoRow, standIns := [], harness := (true, "76675fb174d7f30f6dcf3af4217fcd52a34a74872c79d3da722f60ef775a98b3"), looks := false }, kinds := [], alts := [], laidByText := true, laidKinds := [.data, .data, .data, .data], laidTests := true, laidLooks := .later }
def AfftValuesUptoCardSaid : Prop := Claim7.holds Tryd.pinned (.plain (OpenSpec.upto afftValuesSpec)) afftValuesUptoCard

/-- THE SECOND FORM's CARD OF 'culletlaw14.AfftOver'. -/
def afftOverUptoCard : Claim7 := { stood := { row := afftOverUptoRow, standIns := [], harness := (true, "76675fb174d7f30f6dcf3af4217fcd52a34a74872c79d3da722f60ef775a98b3"), looks := false }, kinds := [], alts := [], laidByText := true, laidKinds := [.data, .data, .data], laidTests := true, laidLooks := .later }
def AfftOverUptoCardSaid : Prop := Claim7.holds Tryd.pinned (.plain (OpenSpec.upto afftOverSpec)) afftOverUptoCard

/-- THE SECOND FORM's CARD OF 'culletlaw14.AfftColumns'. -/
def afftColumnsUptoCard : Claim7 := { stood := { row := afftColumnsUptoRow, standIns := [], harness := (true, "76675fb174d7f30f6dcf3af4217fcd52a34a74872c79d3da722f60ef775a98b3"), looks := false }, kinds := [], alts := [], laidByText := true, laidKinds := [.data, .data, .data], laidTests := true, laidLooks := .later }
def AfftColumnsUptoCardSaid : Prop := Claim7.holds Tryd.pinned (.plain (OpenSpec.upto afftColumnsSpec)) afftColumnsUptoCard

/-- THE SECOND FORM's CARD OF 'culletlaw14.AfftLists'. -/
def afftListsUptoCard : Claim7 := { stood := { row := afftListsUptoRow, standIns := [], harness := (true, "76675fb174d7f30f6dcf3af4217fcd52a34a74872c79d3da722f60ef775a98b3"), looks := false }, kinds := [], alts := [], laidByText := true, laidKinds := [.data, .data, .data], laidTests := true, laidLooks := .later }
def AfftListsUptoCardSaid : Prop := Claim7.holds Tryd.pinned (.plain (OpenSpec.upto afftListsSpec)) afftListsUptoCard
end Rows
end Go.Proofs.YtemjodlhpelbaaaDoor
