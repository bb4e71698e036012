/-
  DERIVED. GIVEN WITH THE SEED: THE CARDS: each row of YtbcjpcdipcomiaaDoorRows.lean that lists a variable, with what it lists TIED to the program's text (the seventh form; the later family's looks); each row that meets fmt, with fmt's text TOLD by the authors' own Lean function (tested against real Go, not proved from fmt's source: count such statements apart). THE CARD IS WHAT COUNTS. Prove the row's statement (the work); the ties are given (YtbcjpcdipcomiaaDoorTie.lean); close each card by the builder's one call (the guide's Derived/Test/ToyasCard.lean, 'card_holds'). Laid BY PROGRAM, IN A SANDBOX (cutbox-door.mjs). By AI agents, Wed Nov 11 2026. No macro, syntax, notation, axiom, sorry.
-/
import Derived.Test.YtbcjpcdipcomiaaDoorRows
import GoSem.ClaimSeven
namespace Go.Proofs.YtbcjpcdipcomiaaDoor
namespace Rows

/-- THE TIED CARD OF 'cullettop.WholeReaches'. -/
def wholeReachesCard : Claim7 := { stood := { row := wholeReachesRow, standIns := [], harness := (true, "c18475ed9be51b3defcc05cc4515573d11fb665a1f82005ed5a94c230dc4ce6f"), looks := false }, kinds := [], alts := [], laidByText := true, laidKinds := [.data, .data, .data], laidTests := true, laidLooks := .later }
def WholeReachesCardSaid : Prop := Claim7.holds Tryd.pinned (.plain (OpenSpec.ofChange wholeReachesSpec)) wholeReachesCard

/-- THE SECOND FORM's CARD OF 'cullettop.WholeReaches'. -/
def wholeReachesUptoCard : Claim7 := { stood := { row := wholeReachesUptoRow, standIns := [], harness := (true, "c18475ed9be51b3defcc05cc4515573d11fb665a1f82005ed5a94c230dc4ce6f"), looks := false }, kinds := [], alts := [], laidByText := true, laidKinds := [.data, .data, .data], laidTests := true, laidLooks := .later }
def WholeReachesUptoCardSaid : Prop := Claim7.holds Tryd.pinned (.plain (OpenSpec.upto wholeReachesSpec)) wholeReachesUptoCard
end Rows
end Go.Proofs.YtbcjpcdipcomiaaDoor
