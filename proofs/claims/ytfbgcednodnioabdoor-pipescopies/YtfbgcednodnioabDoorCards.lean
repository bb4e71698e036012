/-
  DERIVED. GIVEN WITH THE SEED: THE CARDS: each row of YtfbgcednodnioabDoorRows.lean that lists a variable, with what it lists TIED to the program's text (the seventh form; the later family's looks); each row that meets fmt, with fmt's text TOLD by the authors' own Lean function (tested against real Go, not proved from fmt's source: count such statements apart). THE CARD IS WHAT COUNTS. Prove the row's statement (the work); the ties are given (YtfbgcednodnioabDoorTie.lean); close each card by the builder's one call (the guide's Derived/Test/ToyasCard.lean, 'card_holds'). Laid BY PROGRAM, IN A SANDBOX (cutbox-door.mjs). By AI agents, Wed Nov 11 2026. No macro, syntax, notation, axiom, sorry.
-/
import Derived.Test.YtfbgcednodnioabDoorRows
import GoSem.ClaimSeven
namespace Go.Proofs.YtfbgcednodnioabDoor
namespace Rows

/-- THE TIED CARD OF 'culletlaw22.PipesTaken'. -/
def pipesTakenCard : Claim7 := { stood := { row := pipesTakenRow, standIns := [], harness := (true, "c8a174ab0f944998a55c42bdae2c74477a34be3c35448d4c1cfd2d7268634d97"), looks := true }, kinds := [], alts := [], laidByText := true, laidKinds := [.sentinel], laidTests := true, laidLooks := .later }
def PipesTakenCardSaid : Prop := Claim7.holds Tryd.pinned (.plain (OpenSpec.ofChange pipesTakenSpec)) pipesTakenCard

/-- THE TIED CARD OF 'culletlaw22.PipesCopies'. -/
def pipesCopiesCard : Claim7 := { stood := { row := pipesCopiesRow, standIns := [], harness := (true, "c8a174ab0f944998a55c42bdae2c74477a34be3c35448d4c1cfd2d7268634d97"), looks := true }, kinds := [], alts := [], laidByText := true, laidKinds := [.sentinel], laidTests := true, laidLooks := .later }
def PipesCopiesCardSaid : Prop := Claim7.holds Tryd.pinned (.plain (OpenSpec.ofChange pipesCopiesSpec)) pipesCopiesCard

/-- THE SECOND FORM's CARD OF 'culletlaw22.PipesTaken'. -/
def pipesTakenUptoCard : Claim7 := { stood := { row := pipesTakenUptoRow, standIns := [], harness := (true, "c8a174ab0f944998a55c42bdae2c74477a34be3c35448d4c1cfd2d7268634d97"), looks := true }, kinds := [], alts := [], laidByText := true, laidKinds := [.sentinel], laidTests := true, laidLooks := .later }
def PipesTakenUptoCardSaid : Prop := Claim7.holds Tryd.pinned (.plain (OpenSpec.upto pipesTakenSpec)) pipesTakenUptoCard

/-- THE SECOND FORM's CARD OF 'culletlaw22.PipesCopies'. -/
def pipesCopiesUptoCard : Claim7 := { stood := { row := pipesCopiesUptoRow, standIns := [], harness := (true, "c8a174ab0f944998a55c42bdae2c74477a34be3c35448d4c1cfd2d7268634d97"), looks := true }, kinds := [], alts := [], laidByText := true, laidKinds := [.sentinel], laidTests := true, laidLooks := .later }
def PipesCopiesUptoCardSaid : Prop := Claim7.holds Tryd.pinned (.plain (OpenSpec.upto pipesCopiesSpec)) pipesCopiesUptoCard
end Rows
end Go.Proofs.YtfbgcednodnioabDoor
