/-
  DERIVED. GIVEN WITH THE SEED: THE CARDS: each row of YtfbgcednodnioaaDoorRows.lean that lists a variable, with what it lists TIED to the program's text (the seventh form; the later family's looks); each row that meets fmt, with fmt's text TOLD by the authors' own Lean function (tested against real Go, not proved from fmt's source: count such statements apart). THE CARD IS WHAT COUNTS. Prove the row's statement (the work); the ties are given (YtfbgcednodnioaaDoorTie.lean); close each card by the builder's one call (the guide's Derived/Test/ToyasCard.lean, 'card_holds'). Laid BY PROGRAM, IN A SANDBOX (cutbox-door.mjs). By AI agents, Wed Nov 11 2026. No macro, syntax, notation, axiom, sorry.
-/
import Derived.Test.YtfbgcednodnioaaDoorRows
import GoSem.ClaimSeven
namespace Go.Proofs.YtfbgcednodnioaaDoor
namespace Rows

/-- THE TIED CARD OF 'culletlaw22.PipesNames'. -/
def pipesNamesCard : Claim7 := { stood := { row := pipesNamesRow, standIns := [], harness := (true, "ea650e6e7e106b555e465075757c913da6d32b89edad55c57fea9d24a7c5bdca"), looks := true }, kinds := [], alts := [], laidByText := true, laidKinds := [.data, .data, .data, .sentinel], laidTests := true, laidLooks := .later }
def PipesNamesCardSaid : Prop := Claim7.holds Tryd.pinned (.plain (OpenSpec.ofChange pipesNamesSpec)) pipesNamesCard

/-- THE TIED CARD OF 'culletlaw22.PipesSources'. -/
def pipesSourcesCard : Claim7 := { stood := { row := pipesSourcesRow, standIns := [], harness := (true, "ea650e6e7e106b555e465075757c913da6d32b89edad55c57fea9d24a7c5bdca"), looks := true }, kinds := [], alts := [], laidByText := true, laidKinds := [.data, .data, .data, .sentinel], laidTests := true, laidLooks := .later }
def PipesSourcesCardSaid : Prop := Claim7.holds Tryd.pinned (.plain (OpenSpec.ofChange pipesSourcesSpec)) pipesSourcesCard

/-- THE TIED CARD OF 'culletlaw22.PipesSinks'. -/
def pipesSinksCard : Claim7 := { stood := { row := pipesSinksRow, standIns := [], harness := (true, "ea650e6e7e106b555e465075757c913da6d32b89edad55c57fea9d24a7c5bdca"), looks := true }, kinds := [], alts := [], laidByText := true, laidKinds := [.data, .data, .data, .sentinel], laidTests := true, laidLooks := .later }
def PipesSinksCardSaid : Prop := Claim7.holds Tryd.pinned (.plain (OpenSpec.ofChange pipesSinksSpec)) pipesSinksCard

/-- THE TIED CARD OF 'culletlaw22.PipesNil'. -/
def pipesNilCard : Claim7 := { stood := { row := pipesNilRow, standIns := [], harness := (true, "ea650e6e7e106b555e465075757c913da6d32b89edad55c57fea9d24a7c5bdca"), looks := true }, kinds := [], alts := [], laidByText := true, laidKinds := [.sentinel], laidTests := true, laidLooks := .later }
def PipesNilCardSaid : Prop := Claim7.holds Tryd.pinned (.plain (OpenSpec.ofChange pipesNilSpec)) pipesNilCard

/-- THE TIED CARD OF 'culletlaw22.PipesNilInside'. -/
def pipesNilInsideCard : Claim7 := { stood := { row := pipesNilInsideRow, standIns := [], harness := (true, "ea650e6e7e106b555e465075757c913da6d32b89edad55c57fea9d24a7c5bdca"), looks := true }, kinds := [], alts := [], laidByText := true, laidKinds := [.sentinel], laidTests := true, laidLooks := .later }
def PipesNilInsideCardSaid : Prop := Claim7.holds Tryd.pinned (.plain (OpenSpec.ofChange pipesNilInsideSpec)) pipesNilInsideCard

/-- THE TIED CARD OF 'culletlaw22.PipesPieces'. -/
def pipesPiecesCard : Claim7 := { stood := { row := pipesPiecesRow, standIns := [], harness := (true, "ea650e6e7e106b555e465075757c913da6d32b89edad55c57fea9d24a7c5bdca"), looks := true }, kinds := [], alts := [], laidByText := true, laidKinds := [.sentinel], laidTests := true, laidLooks := .later }
def PipesPiecesCardSaid : Prop := Claim7.holds Tryd.pinned (.plain (OpenSpec.ofChange pipesPiecesSpec)) pipesPiecesCard

/-- THE SECOND FORM's CARD OF 'culletlaw22.PipesNames'. -/
def pipesNamesUptoCard : Claim7 := { stood := { row := pipesNamesUptoRow, standIns := [], harness := (true, "ea650e6e7e106b555e465075757c913da6d32b89edad55c57fea9d24a7c5bdca"), looks := true }, kinds := [], alts := [], laidByText := true, laidKinds := [.data, .data, .data, .sentinel], laidTests := true, laidLooks := .later }
def PipesNamesUptoCardSaid : Prop := Claim7.holds Tryd.pinned (.plain (OpenSpec.upto pipesNamesSpec)) pipesNamesUptoCard

/-- THE SECOND FORM's CARD OF 'culletlaw22.PipesSources'. -/
def pipesSourcesUptoCard : Claim7 := { stood := { row := pipesSourcesUptoRow, standIns := [], harness := (true, "ea650e6e7e106b555e465075757c913da6d32b89edad55c57fea9d24a7c5bdca"), looks := true }, kinds := [], alts := [], laidByText := true, laidKinds := [.data, .data, .data, .sentinel], laidTests := true, laidLooks := .later }
def PipesSourcesUptoCardSaid : Prop := Claim7.holds Tryd.pinned (.plain (OpenSpec.upto pipesSourcesSpec)) pipesSourcesUptoCard

/-- THE SECOND FORM's CARD OF 'culletlaw22.PipesSinks'. -/
def pipesSinksUptoCard : Claim7 := { stood := { row := pipesSinksUptoRow, standIns := [], harness := (true, "ea650e6e7e106b555e465075757c913da6d32b89edad55c57fea9d24a7c5bdca"), looks := true }, kinds := [], alts := [], laidByText := true, laidKinds := [.data, .data, .data, .sentinel], laidTests := true, laidLooks := .later }
def PipesSinksUptoCardSaid : Prop := Claim7.holds Tryd.pinned (.plain (OpenSpec.upto pipesSinksSpec)) pipesSinksUptoCard

/-- THE SECOND FORM's CARD OF 'culletlaw22.PipesNil'. -/
def pipesNilUptoCard : Claim7 := { stood := { row := pipesNilUptoRow, standIns := [], harness := (true, "ea650e6e7e106b555e465075757c913da6d32b89edad55c57fea9d24a7c5bdca"), looks := true }, kinds := [], alts := [], laidByText := true, laidKinds := [.sentinel], laidTests := true, laidLooks := .later }
def PipesNilUptoCardSaid : Prop := Claim7.holds Tryd.pinned (.plain (OpenSpec.upto pipesNilSpec)) pipesNilUptoCard

/-- THE SECOND FORM's CARD OF 'culletlaw22.PipesNilInside'. -/
def pipesNilInsideUptoCard : Claim7 := { stood := { row := pipesNilInsideUptoRow, standIns := [], harness := (true, "ea650e6e7e106b555e465075757c913da6d32b89edad55c57fea9d24a7c5bdca"), looks := true }, kinds := [], alts := [], laidByText := true, laidKinds := [.sentinel], laidTests := true, laidLooks := .later }
def PipesNilInsideUptoCardSaid : Prop := Claim7.holds Tryd.pinned (.plain (OpenSpec.upto pipesNilInsideSpec)) pipesNilInsideUptoCard

/-- THE SECOND FORM's CARD OF 'culletlaw22.PipesPieces'. -/
def pipesPiecesUptoCard : Claim7 := { stood := { row := pipesPiecesUptoRow, standIns := [], harness := (true, "ea650e6e7e106b555e465075757c913da6d32b89edad55c57fea9d24a7c5bdca"), looks := true }, kinds := [], alts := [], laidByText := true, laidKinds := [.sentinel], laidTests := true, laidLooks := .later }
def PipesPiecesUptoCardSaid : Prop := Claim7.holds Tryd.pinned (.plain (OpenSpec.upto pipesPiecesSpec)) pipesPiecesUptoCard
end Rows
end Go.Proofs.YtfbgcednodnioaaDoor
