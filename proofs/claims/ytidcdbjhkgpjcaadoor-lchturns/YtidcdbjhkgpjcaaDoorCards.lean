/-
  DERIVED. GIVEN WITH THE SEED: THE CARDS: each row of YtidcdbjhkgpjcaaDoorRows.lean that lists a variable, with what it lists TIED to the program's text (the seventh form; the later family's looks); each row that meets fmt, with fmt's text TOLD by the authors' own Lean function (tested against real Go, not proved from fmt's source: count such statements apart). THE CARD IS WHAT COUNTS. Prove the row's statement (the work); the ties are given (YtidcdbjhkgpjcaaDoorTie.lean); close each card by the builder's one call (the guide's Derived/Test/ToyasCard.lean, 'card_holds'). Laid BY PROGRAM, IN A SANDBOX (cutbox-door.mjs). By AI agents, Wed Nov 11 2026. No macro, syntax, notation, axiom, sorry.
-/
import Derived.Test.YtidcdbjhkgpjcaaDoorRows
import GoSem.ClaimSeven
namespace Go.Proofs.YtidcdbjhkgpjcaaDoor
namespace Rows

/-- THE TIED CARD OF 'culletlaw13.LchTurns'. -/
def lchTurnsCard : Claim7 := { stood := { row := lchTurnsRow, standIns := [], harness := (true, "10978d00c40ae14615528829841225100363ed25a616bd457e1f56e758261812"), looks := false }, kinds := [], alts := [], laidByText := true, laidKinds := [.data, .data, .data, .data], laidTests := true, laidLooks := .later }
def LchTurnsCardSaid : Prop := Claim7.holds Tryd.pinned (.plain (OpenSpec.ofChange lchTurnsSpec)) lchTurnsCard

/-- THE SECOND FORM's CARD OF 'culletlaw13.LchTurns'. -/
def lchTurnsUptoCard : Claim7 := { stood := { row := lchTurnsUptoRow, standIns := [], harness := (true, "10978d00c40ae14615528829841225100363ed25a616bd457e1f56e758261812"), looks := false }, kinds := [], alts := [], laidByText := true, laidKinds := [.data, .data, .data, .data], laidTests := true, laidLooks := .later }
def LchTurnsUptoCardSaid : Prop := Claim7.holds Tryd.pinned (.plain (OpenSpec.upto lchTurnsSpec)) lchTurnsUptoCard
end Rows
end Go.Proofs.YtidcdbjhkgpjcaaDoor
