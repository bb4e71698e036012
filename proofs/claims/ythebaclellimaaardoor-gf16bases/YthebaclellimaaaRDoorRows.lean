/-
  NARROWER THAN 'FOR EVERY INPUT', by the rows' own cells (each row's printed sentence says how): Gf16Bases: laid · Gf16Traces: laid · Gf16Cantor: laid.
  DERIVED. THE GIVEN ROWS OF THIS SEAT. 3 by the template 'for every input the law returns true; each argument reads behind the call as it read before'; 0 by the template 'total and deterministic' (their statements: YthebaclellimaaaRDoorTotals.lean).
  GIVEN WITH THE SEED: the statements are not yours to turn. If you find one false, say at which input.
  Laid BY PROGRAM, IN A SANDBOX (cutbox-rows.mjs): the forced cells as the released guide's own fill.sh prints them over the translation a048c9d1346303ff… (all of the seat's roots in one cut). By AI agents, Wed Nov 11 2026. No macro, syntax, notation, axiom, sorry.
-/
import Derived.Test.YthebaclellimaaaRDoorChecked
import GoSem.Claim
import GoSem.ClaimJoined
import GoSem.ClaimMapViews
import Derived.JoinedTies
import Derived.KernelRfl
namespace Go.Proofs.YthebaclellimaaaRDoor
/- THE CELL 'sum', in the pinned program and in every row, IS THE sha256 OF THE DUMP (.gsa) THAT YthebaclellimaaaRDoorProg.lean LOADS. Nothing in Lean hashes anything: it is a label: what it is worth is what the hold of that sum in a sandbox is worth. -/
noncomputable def Tryd.pinned : Pinned := { name := "ythebaclellimaaardoor", sum := "a048c9d1346303ffce2c72b6cc47edc120147b93a0301be80b890dd33f709175", checked := Tryd.checked }
namespace Rows
def none {H : Type} : Left H := { results := [], args := [] }

/- WHAT THE LISTED PACKAGE-LEVEL VARIABLES READ AS WHEN THE CALL BEGINS. Each datum BY PROGRAM (the guide's laid-datum.mjs) off the statement by which the dump's own 'gosem.cut.vars' lays the variable. In a bare row this is a premise. The card (YthebaclellimaaaRDoorCards.lean) ties it to the program's text. -/
def laid_cullet_gf16_basis {H : Type} : DataW H := .agg [.lit (.int .u16 1), .lit (.int .u16 44234), .lit (.int .u16 15374), .lit (.int .u16 5694), .lit (.int .u16 50562), .lit (.int .u16 60718), .lit (.int .u16 37196), .lit (.int .u16 16402), .lit (.int .u16 27800), .lit (.int .u16 4312), .lit (.int .u16 27250), .lit (.int .u16 47360), .lit (.int .u16 64952), .lit (.int .u16 64308), .lit (.int .u16 65336), .lit (.int .u16 39198)]
def laid_cullet_gf16_indices {H : Type} : DataW H := .agg [.lit (.int .u16 1), .lit (.int .u16 18064), .lit (.int .u16 26072), .lit (.int .u16 25296), .lit (.int .u16 22324), .lit (.int .u16 17904), .lit (.int .u16 21432), .lit (.int .u16 7736), .lit (.int .u16 31918), .lit (.int .u16 20024), .lit (.int .u16 26376), .lit (.int .u16 49756), .lit (.int .u16 31332), .lit (.int .u16 40620), .lit (.int .u16 4388), .lit (.int .u16 21050)]

/-- 'culletlaw03.Gf16Bases': WHATEVER THE INPUT: true; the input reads as it did. -/
def gf16BasesSpec : ChangeSpec := { name := "gf16Bases", fn := fun _ => fun
  | [d] => { results := [.lit (.bool true)], args := [d] }
  | _ => none }
def gf16BasesRow : OpenClaim := { program := "ythebaclellimaaardoor", sum := "a048c9d1346303ffce2c72b6cc47edc120147b93a0301be80b890dd33f709175", func := "cullet/culletlaw03.Gf16Bases", spec := "gf16Bases", named := ["cullet/gf16.indices", "cullet/gf16.basis"], apart := false, laid := [("cullet/gf16.basis", laid_cullet_gf16_basis), ("cullet/gf16.indices", laid_cullet_gf16_indices)] }
def Gf16BasesSaid : Prop := gf16BasesRow.holds Tryd.pinned (OpenSpec.ofChange gf16BasesSpec)

/-- ITS FALSE NEIGHBOUR: 'it returns false'. Refute it at one input. -/
def gf16BasesWrong : ChangeSpec := { name := "gf16Bases", fn := fun _ => fun
  | [d] => { results := [.lit (.bool false)], args := [d] }
  | _ => none }
def Gf16BasesWrongFalsely : Prop := gf16BasesRow.holds Tryd.pinned (OpenSpec.ofChange gf16BasesWrong)

/-- 'culletlaw03.Gf16Traces': WHATEVER THE INPUT: true; the input reads as it did. -/
def gf16TracesSpec : ChangeSpec := { name := "gf16Traces", fn := fun _ => fun
  | [d1, d2] => { results := [.lit (.bool true)], args := [d1, d2] }
  | _ => none }
def gf16TracesRow : OpenClaim := { program := "ythebaclellimaaardoor", sum := "a048c9d1346303ffce2c72b6cc47edc120147b93a0301be80b890dd33f709175", func := "cullet/culletlaw03.Gf16Traces", spec := "gf16Traces", named := ["cullet/gf16.indices", "cullet/gf16.basis"], apart := false, laid := [("cullet/gf16.basis", laid_cullet_gf16_basis), ("cullet/gf16.indices", laid_cullet_gf16_indices)] }
def Gf16TracesSaid : Prop := gf16TracesRow.holds Tryd.pinned (OpenSpec.ofChange gf16TracesSpec)

/-- ITS FALSE NEIGHBOUR: 'it returns false'. Refute it at one input. -/
def gf16TracesWrong : ChangeSpec := { name := "gf16Traces", fn := fun _ => fun
  | [d1, d2] => { results := [.lit (.bool false)], args := [d1, d2] }
  | _ => none }
def Gf16TracesWrongFalsely : Prop := gf16TracesRow.holds Tryd.pinned (OpenSpec.ofChange gf16TracesWrong)

/-- 'culletlaw03.Gf16Cantor': WHATEVER THE INPUT: true; the input reads as it did. -/
def gf16CantorSpec : ChangeSpec := { name := "gf16Cantor", fn := fun _ => fun
  | [d1, d2] => { results := [.lit (.bool true)], args := [d1, d2] }
  | _ => none }
def gf16CantorRow : OpenClaim := { program := "ythebaclellimaaardoor", sum := "a048c9d1346303ffce2c72b6cc47edc120147b93a0301be80b890dd33f709175", func := "cullet/culletlaw03.Gf16Cantor", spec := "gf16Cantor", named := ["cullet/gf16.basis", "cullet/gf16.indices"], apart := false, laid := [("cullet/gf16.basis", laid_cullet_gf16_basis), ("cullet/gf16.indices", laid_cullet_gf16_indices)] }
def Gf16CantorSaid : Prop := gf16CantorRow.holds Tryd.pinned (OpenSpec.ofChange gf16CantorSpec)

/-- ITS FALSE NEIGHBOUR: 'it returns false'. Refute it at one input. -/
def gf16CantorWrong : ChangeSpec := { name := "gf16Cantor", fn := fun _ => fun
  | [d1, d2] => { results := [.lit (.bool false)], args := [d1, d2] }
  | _ => none }
def Gf16CantorWrongFalsely : Prop := gf16CantorRow.holds Tryd.pinned (OpenSpec.ofChange gf16CantorWrong)

/- THE SECOND FORM. 'bulk': how many values and letters a reading holds, each counted each time it is reached (what is shared counts as often as it is met; a slice's spare places count too). A statement '..UptoSaid' is the law's where the arguments, and the package variables that the reading takes, are together of bulk at most 1048576: NARROWER than '..Said'. Prove '..Said' where nothing that the law and all that it calls make is longer than what came in: it says more and counts as full. Else prove '..UptoSaid'. A law counts once. -/
mutual
def uptoBulk {H : Type} : DataW H → Nat
  | .lit (.string bytes) => bytes.length + 1
  | .lit _ => 1
  | .nil => 1
  | .ptr d => uptoBulk d + 1
  | .slice elems spare => uptoBulkAll elems + uptoBulkAll spare + 1
  | .agg parts => uptoBulkAll parts + 1
  | .iface _ d => uptoBulk d + 1
  | .map entries => uptoBulkEntries entries + 1
  | .held _ => 1
def uptoBulkAll {H : Type} : List (DataW H) → Nat
  | [] => 0
  | d :: r => uptoBulk d + uptoBulkAll r
def uptoBulkEntries {H : Type} : List (Lit × DataW H) → Nat
  | [] => 0
  | x :: r => uptoBulkEntry x + uptoBulkEntries r
def uptoBulkEntry {H : Type} : Lit × DataW H → Nat
  | (.string bytes, d) => bytes.length + uptoBulk d + 1
  | (_, d) => uptoBulk d + 1
 end
def uptoSmall : (H : Type) → List (DataW H) → Bool := fun _ ds => decide (uptoBulkAll ds ≤ 1048576)
def OpenSpec.upto (s : _root_.Go.ChangeSpec) : _root_.Go.OpenSpec := { _root_.Go.OpenSpec.ofChange s with cond := some uptoSmall }

/-- 'culletlaw03.Gf16Bases', WHERE WHAT IT READS IS OF BULK AT MOST 1048576: true; the input reads as it did. -/
def gf16BasesUptoRow : OpenClaim := { program := "ythebaclellimaaardoor", sum := "a048c9d1346303ffce2c72b6cc47edc120147b93a0301be80b890dd33f709175", func := "cullet/culletlaw03.Gf16Bases", spec := "gf16Bases", named := ["cullet/gf16.indices", "cullet/gf16.basis"], apart := false, laid := [("cullet/gf16.basis", laid_cullet_gf16_basis), ("cullet/gf16.indices", laid_cullet_gf16_indices)], narrowed := true }
def Gf16BasesUptoSaid : Prop := gf16BasesUptoRow.holds Tryd.pinned (OpenSpec.upto gf16BasesSpec)

/-- 'culletlaw03.Gf16Traces', WHERE WHAT IT READS IS OF BULK AT MOST 1048576: true; the input reads as it did. -/
def gf16TracesUptoRow : OpenClaim := { program := "ythebaclellimaaardoor", sum := "a048c9d1346303ffce2c72b6cc47edc120147b93a0301be80b890dd33f709175", func := "cullet/culletlaw03.Gf16Traces", spec := "gf16Traces", named := ["cullet/gf16.indices", "cullet/gf16.basis"], apart := false, laid := [("cullet/gf16.basis", laid_cullet_gf16_basis), ("cullet/gf16.indices", laid_cullet_gf16_indices)], narrowed := true }
def Gf16TracesUptoSaid : Prop := gf16TracesUptoRow.holds Tryd.pinned (OpenSpec.upto gf16TracesSpec)

/-- 'culletlaw03.Gf16Cantor', WHERE WHAT IT READS IS OF BULK AT MOST 1048576: true; the input reads as it did. -/
def gf16CantorUptoRow : OpenClaim := { program := "ythebaclellimaaardoor", sum := "a048c9d1346303ffce2c72b6cc47edc120147b93a0301be80b890dd33f709175", func := "cullet/culletlaw03.Gf16Cantor", spec := "gf16Cantor", named := ["cullet/gf16.basis", "cullet/gf16.indices"], apart := false, laid := [("cullet/gf16.basis", laid_cullet_gf16_basis), ("cullet/gf16.indices", laid_cullet_gf16_indices)], narrowed := true }
def Gf16CantorUptoSaid : Prop := gf16CantorUptoRow.holds Tryd.pinned (OpenSpec.upto gf16CantorSpec)

end Rows
end Go.Proofs.YthebaclellimaaaRDoor
