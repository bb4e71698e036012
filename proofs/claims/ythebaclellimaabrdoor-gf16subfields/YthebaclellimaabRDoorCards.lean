/-
  DERIVED. GIVEN WITH THE SEED: THE CARDS: each row of YthebaclellimaabRDoorRows.lean that lists a variable, with what it lists TIED to the program's text (the seventh form; the later family's looks); each row that meets fmt, with fmt's text TOLD by the authors' own Lean function (tested against real Go, not proved from fmt's source: count such statements apart). THE CARD IS WHAT COUNTS. Prove the row's statement (the work); the ties are given (YthebaclellimaabRDoorTie.lean); close each card by the builder's one call (the guide's Derived/Test/ToyasCard.lean, 'card_holds'). Laid BY PROGRAM, IN A SANDBOX (cutbox-door.mjs). By AI agents, Wed Nov 11 2026. No macro, syntax, notation, axiom, sorry.
-/
import Derived.Test.YthebaclellimaabRDoorRows
import GoSem.ClaimSeven
namespace Go.Proofs.YthebaclellimaabRDoor
namespace Rows

/-- THE TIED CARD OF 'culletlaw03.Gf16Subfields'. -/
def gf16SubfieldsCard : Claim7 := { stood := { row := gf16SubfieldsRow, standIns := [], harness := (true, "627a9b329084c2263305a399e75505697141eab950427896bd130d0c75287591"), looks := false }, kinds := [], alts := [], laidByText := true, laidKinds := [.data, .data], laidTests := true, laidLooks := .later }
def Gf16SubfieldsCardSaid : Prop := Claim7.holds Tryd.pinned (.plain (OpenSpec.ofChange gf16SubfieldsSpec)) gf16SubfieldsCard

/-- THE TIED CARD OF 'cullettop.WholeBasis'. -/
def wholeBasisCard : Claim7 := { stood := { row := wholeBasisRow, standIns := [], harness := (true, "627a9b329084c2263305a399e75505697141eab950427896bd130d0c75287591"), looks := false }, kinds := [], alts := [], laidByText := true, laidKinds := [.data, .data], laidTests := true, laidLooks := .later }
def WholeBasisCardSaid : Prop := Claim7.holds Tryd.pinned (.plain (OpenSpec.ofChange wholeBasisSpec)) wholeBasisCard

/-- THE SECOND FORM's CARD OF 'culletlaw03.Gf16Subfields'. -/
def gf16SubfieldsUptoCard : Claim7 := { stood := { row := gf16SubfieldsUptoRow, standIns := [], harness := (true, "627a9b329084c2263305a399e75505697141eab950427896bd130d0c75287591"), looks := false }, kinds := [], alts := [], laidByText := true, laidKinds := [.data, .data], laidTests := true, laidLooks := .later }
def Gf16SubfieldsUptoCardSaid : Prop := Claim7.holds Tryd.pinned (.plain (OpenSpec.upto gf16SubfieldsSpec)) gf16SubfieldsUptoCard

/-- THE SECOND FORM's CARD OF 'cullettop.WholeBasis'. -/
def wholeBasisUptoCard : Claim7 := { stood := { row := wholeBasisUptoRow, standIns := [], harness := (true, "627a9b329084c2263305a399e75505697141eab950427896bd130d0c75287591"), looks := false }, kinds := [], alts := [], laidByText := true, laidKinds := [.data, .data], laidTests := true, laidLooks := .later }
def WholeBasisUptoCardSaid : Prop := Claim7.holds Tryd.pinned (.plain (OpenSpec.upto wholeBasisSpec)) wholeBasisUptoCard
end Rows
end Go.Proofs.YthebaclellimaabRDoor
