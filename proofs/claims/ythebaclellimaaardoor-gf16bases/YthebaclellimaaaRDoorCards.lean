/-
  DERIVED. GIVEN WITH THE SEED: THE CARDS: each row of YthebaclellimaaaRDoorRows.lean that lists a variable, with what it lists TIED to the program's text (the seventh form; the later family's looks); each row that meets fmt, with fmt's text TOLD by the authors' own Lean function (tested against real Go, not proved from fmt's source: count such statements apart). THE CARD IS WHAT COUNTS. Prove the row's statement (the work); the ties are given (YthebaclellimaaaRDoorTie.lean); close each card by the builder's one call (the guide's Derived/Test/ToyasCard.lean, 'card_holds'). Laid BY PROGRAM, IN A SANDBOX (cutbox-door.mjs). By AI agents, Wed Nov 11 2026. No macro, syntax, notation, axiom, sorry.
-/
import Derived.Test.YthebaclellimaaaRDoorRows
import GoSem.ClaimSeven
namespace Go.Proofs.YthebaclellimaaaRDoor
namespace Rows

/-- THE TIED CARD OF 'culletlaw03.Gf16Bases'. -/
def gf16BasesCard : Claim7 := { stood := { row := gf16BasesRow, standIns := [], harness := (true, "de86f674caf7283325b5dc73d0dbdf16fb8a34e405e4b058d58da2067be372dc"), looks := false }, kinds := [], alts := [], laidByText := true, laidKinds := [.data, .data], laidTests := true, laidLooks := .later }
def Gf16BasesCardSaid : Prop := Claim7.holds Tryd.pinned (.plain (OpenSpec.ofChange gf16BasesSpec)) gf16BasesCard

/-- THE TIED CARD OF 'culletlaw03.Gf16Traces'. -/
def gf16TracesCard : Claim7 := { stood := { row := gf16TracesRow, standIns := [], harness := (true, "de86f674caf7283325b5dc73d0dbdf16fb8a34e405e4b058d58da2067be372dc"), looks := false }, kinds := [], alts := [], laidByText := true, laidKinds := [.data, .data], laidTests := true, laidLooks := .later }
def Gf16TracesCardSaid : Prop := Claim7.holds Tryd.pinned (.plain (OpenSpec.ofChange gf16TracesSpec)) gf16TracesCard

/-- THE TIED CARD OF 'culletlaw03.Gf16Cantor'. -/
def gf16CantorCard : Claim7 := { stood := { row := gf16CantorRow, standIns := [], harness := (true, "de86f674caf7283325b5dc73d0dbdf16fb8a34e405e4b058d58da2067be372dc"), looks := false }, kinds := [], alts := [], laidByText := true, laidKinds := [.data, .data], laidTests := true, laidLooks := .later }
def Gf16CantorCardSaid : Prop := Claim7.holds Tryd.pinned (.plain (OpenSpec.ofChange gf16CantorSpec)) gf16CantorCard

/-- THE SECOND FORM's CARD OF 'culletlaw03.Gf16Bases'. -/
def gf16BasesUptoCard : Claim7 := { stood := { row := gf16BasesUptoRow, standIns := [], harness := (true, "de86f674caf7283325b5dc73d0dbdf16fb8a34e405e4b058d58da2067be372dc"), looks := false }, kinds := [], alts := [], laidByText := true, laidKinds := [.data, .data], laidTests := true, laidLooks := .later }
def Gf16BasesUptoCardSaid : Prop := Claim7.holds Tryd.pinned (.plain (OpenSpec.upto gf16BasesSpec)) gf16BasesUptoCard

/-- THE SECOND FORM's CARD OF 'culletlaw03.Gf16Traces'. -/
def gf16TracesUptoCard : Claim7 := { stood := { row := gf16TracesUptoRow, standIns := [], harness := (true, "de86f674caf7283325b5dc73d0dbdf16fb8a34e405e4b058d58da2067be372dc"), looks := false }, kinds := [], alts := [], laidByText := true, laidKinds := [.data, .data], laidTests := true, laidLooks := .later }
def Gf16TracesUptoCardSaid : Prop := Claim7.holds Tryd.pinned (.plain (OpenSpec.upto gf16TracesSpec)) gf16TracesUptoCard

/-- THE SECOND FORM's CARD OF 'culletlaw03.Gf16Cantor'. -/
def gf16CantorUptoCard : Claim7 := { stood := { row := gf16CantorUptoRow, standIns := [], harness := (true, "de86f674caf7283325b5dc73d0dbdf16fb8a34e405e4b058d58da2067be372dc"), looks := false }, kinds := [], alts := [], laidByText := true, laidKinds := [.data, .data], laidTests := true, laidLooks := .later }
def Gf16CantorUptoCardSaid : Prop := Claim7.holds Tryd.pinned (.plain (OpenSpec.upto gf16CantorSpec)) gf16CantorUptoCard
end Rows
end Go.Proofs.YthebaclellimaaaRDoor
