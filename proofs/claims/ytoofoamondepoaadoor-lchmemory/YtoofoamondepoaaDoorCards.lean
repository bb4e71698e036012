/-
  DERIVED. GIVEN WITH THE SEED: THE CARDS: each row of YtoofoamondepoaaDoorRows.lean that lists a variable, with what it lists TIED to the program's text (the seventh form; the later family's looks); each row that meets fmt, with fmt's text TOLD by the authors' own Lean function (tested against real Go, not proved from fmt's source: count such statements apart). THE CARD IS WHAT COUNTS. Prove the row's statement (the work); the ties are given (YtoofoamondepoaaDoorTie.lean); close each card by the builder's one call (the guide's Derived/Test/ToyasCard.lean, 'card_holds'). Laid BY PROGRAM, IN A SANDBOX (cutbox-door.mjs). By AI agents, Wed Nov 11 2026. No macro, syntax, notation, axiom, sorry.
-/
import Derived.Test.YtoofoamondepoaaDoorRows
import GoSem.ClaimSeven
namespace Go.Proofs.YtoofoamondepoaaDoor
namespace Rows

/-- THE TIED CARD OF 'culletlaw13.LchNames'. -/
def lchNamesCard : Claim7 := { stood := { row := lchNamesRow, standIns := [], harness := (true, "b2009d61580691b6d1784234019aa1a181fdc608de5804f81db8b062f02d0825"), looks := false }, kinds := [], alts := [], laidByText := true, laidKinds := [.data, .data, .data, .data], laidTests := true, laidLooks := .later }
def LchNamesCardSaid : Prop := Claim7.holds Tryd.pinned (.plain (OpenSpec.ofChange lchNamesSpec)) lchNamesCard

/-- THE TIED CARD OF 'culletlaw13.LchValues'. -/
def lchValuesCard : Claim7 := { stood := { row := lchValuesRow, standIns := [], harness := (true, "b2009d61580691b6d1784234019aa1a181fdc608de5804f81db8b062f02d0825"), looks := false }, kinds := [], alts := [], laidByText := true, laidKinds := [.data, .data, .data, .data], laidTests := true, laidLooks := .later }
def LchValuesCardSaid : Prop := Claim7.holds Tryd.pinned (.plain (OpenSpec.ofChange lchValuesSpec)) lchValuesCard

/-- THE TIED CARD OF 'culletlaw13.LchLists'. -/
def lchListsCard : Claim7 := { stood := { row := lchListsRow, standIns := [], harness := (true, "b2009d61580691b6d1784234019aa1a181fdc608de5804f81db8b062f02d0825"), looks := false }, kinds := [], alts := [], laidByText := true, laidKinds := [.data, .data, .data, .data], laidTests := true, laidLooks := .later }
def LchListsCardSaid : Prop := Claim7.holds Tryd.pinned (.plain (OpenSpec.ofChange lchListsSpec)) lchListsCard

/-- THE TIED CARD OF 'culletlaw13.LchAdditive'. -/
def lchAdditiveCard : Claim7 := { stood := { row := lchAdditiveRow, standIns := [], harness := (true, "b2009d61580691b6d1784234019aa1a181fdc608de5804f81db8b062f02d0825"), looks := false }, kinds := [], alts := [], laidByText := true, laidKinds := [.data, .data, .data, .data], laidTests := true, laidLooks := .later }
def LchAdditiveCardSaid : Prop := Claim7.holds Tryd.pinned (.plain (OpenSpec.ofChange lchAdditiveSpec)) lchAdditiveCard

/-- THE TIED CARD OF 'culletlaw13.LchCantor'. -/
def lchCantorCard : Claim7 := { stood := { row := lchCantorRow, standIns := [], harness := (true, "b2009d61580691b6d1784234019aa1a181fdc608de5804f81db8b062f02d0825"), looks := false }, kinds := [], alts := [], laidByText := true, laidKinds := [.data, .data, .data, .data], laidTests := true, laidLooks := .later }
def LchCantorCardSaid : Prop := Claim7.holds Tryd.pinned (.plain (OpenSpec.ofChange lchCantorSpec)) lchCantorCard

/-- THE TIED CARD OF 'culletlaw13.LchMemory'. -/
def lchMemoryCard : Claim7 := { stood := { row := lchMemoryRow, standIns := [], harness := (true, "b2009d61580691b6d1784234019aa1a181fdc608de5804f81db8b062f02d0825"), looks := false }, kinds := [], alts := [], laidByText := true, laidKinds := [.data, .data, .data, .data], laidTests := true, laidLooks := .later }
def LchMemoryCardSaid : Prop := Claim7.holds Tryd.pinned (.plain (OpenSpec.ofChange lchMemorySpec)) lchMemoryCard

/-- THE SECOND FORM's CARD OF 'culletlaw13.LchNames'. -/
def lchNamesUptoCard : Claim7 := { stood := { row := lchNamesUptoRow, standIns := [], harness := (true, "b2009d61580691b6d1784234019aa1a181fdc608de5804f81db8b062f02d0825"), looks := false }, kinds := [], alts := [], laidByText := true, laidKinds := [.data, .data, .data, .data], laidTests := true, laidLooks := .later }
def LchNamesUptoCardSaid : Prop := Claim7.holds Tryd.pinned (.plain (OpenSpec.upto lchNamesSpec)) lchNamesUptoCard

/-- THE SECOND FORM's CARD OF 'culletlaw13.LchValues'. -/
def lchValuesUptoCard : Claim7 := { stood := { row := lchValuesUptoRow, standIns := [], harness := (true, "b2009d61580691b6d1784234019aa1a181fdc608de5804f81db8b062f02d0825"), looks := false }, kinds := [], alts := [], laidByText := true, laidKinds := [.data, .data, .data, .data], laidTests := true, laidLooks := .later }
def LchValuesUptoCardSaid : Prop := Claim7.holds Tryd.pinned (.plain (OpenSpec.upto lchValuesSpec)) lchValuesUptoCard

/-- THE SECOND FORM's CARD OF 'culletlaw13.LchLists'. -/
def lchListsUptoCard : Claim7 := { stood := { row := lchListsUptoRow, standIns := [], harness := (true, "b2009d61580691b6d1784234019aa1a181fdc608de5804f81db8b062f02d0825"), looks := false }, kinds := [], alts := [], laidByText := true, laidKinds := [.data, .data, .data, .data], laidTests := true, laidLooks := .later }
def LchListsUptoCardSaid : Prop := Claim7.holds Tryd.pinned (.plain (OpenSpec.upto lchListsSpec)) lchListsUptoCard

/-- THE SECOND FORM's CARD OF 'culletlaw13.LchAdditive'. -/
def lchAdditiveUptoCard : Claim7 := { stood := { row := lchAdditiveUptoRow, standIns := [], harness := (true, "b2009d61580691b6d1784234019aa1a181fdc608de5804f81db8b062f02d0825"), looks := false }, kinds := [], alts := [], laidByText := true, laidKinds := [.data, .data, .data, .data], laidTests := true, laidLooks := .later }
def LchAdditiveUptoCardSaid : Prop := Claim7.holds Tryd.pinned (.plain (OpenSpec.upto lchAdditiveSpec)) lchAdditiveUptoCard

/-- THE SECOND FORM's CARD OF 'culletlaw13.LchCantor'. -/
def lchCantorUptoCard : Claim7 := { stood := { row := lchCantorUptoRow, standIns := [], harness := (true, "b2009d61580691b6d1784234019aa1a181fdc608de5804f81db8b062f02d0825"), looks := false }, kinds := [], alts := [], laidByText := true, laidKinds := [.data, .data, .data, .data], laidTests := true, laidLooks := .later }
def LchCantorUptoCardSaid : Prop := Claim7.holds Tryd.pinned (.plain (OpenSpec.upto lchCantorSpec)) lchCantorUptoCard

/-- THE SECOND FORM's CARD OF 'culletlaw13.LchMemory'. -/
def lchMemoryUptoCard : Claim7 := { stood := { row := lchMemoryUptoRow, standIns := [], harness := (true, "b2009d61580691b6d1784234019aa1a181fdc608de5804f81db8b062f02d0825"), looks := false }, kinds := [], alts := [], laidByText := true, laidKinds := [.data, .data, .data, .data], laidTests := true, laidLooks := .later }
def LchMemoryUptoCardSaid : Prop := Claim7.holds Tryd.pinned (.plain (OpenSpec.upto lchMemorySpec)) lchMemoryUptoCard
end Rows
end Go.Proofs.YtoofoamondepoaaDoor
