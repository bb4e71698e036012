/-
  NARROWER THAN 'FOR EVERY INPUT', by the rows' own cells (each row's printed sentence says how): PipesTaken: laid · PipesCopies: laid.
  DERIVED. THE GIVEN ROWS OF THIS SEAT. 2 by the template 'for every input the law returns true; each argument reads behind the call as it read before'; 0 by the template 'total and deterministic' (their statements: YtfbgcednodnioabDoorTotals.lean).
  GIVEN WITH THE SEED: the statements are not yours to turn. If you find one false, say at which input.
  Laid BY PROGRAM, IN A SANDBOX (cutbox-rows.mjs): the forced cells as the released guide's own fill.sh prints them over the translation b237f458fb132968… (all of the seat's roots in one cut). By AI agents, Wed Nov 11 2026. No macro, syntax, notation, axiom, sorry.
-/
import Derived.Test.YtfbgcednodnioabDoorChecked
import GoSem.Claim
import GoSem.ClaimJoined
import GoSem.ClaimMapViews
import Derived.JoinedTies
import Derived.KernelRfl
namespace Go.Proofs.YtfbgcednodnioabDoor
/- THE CELL 'sum', in the pinned program and in every row, IS THE sha256 OF THE DUMP (.gsa) THAT YtfbgcednodnioabDoorProg.lean LOADS. Nothing in Lean hashes anything: it is a label: what it is worth is what the hold of that sum in a sandbox is worth. -/
noncomputable def Tryd.pinned : Pinned := { name := "ytfbgcednodnioabdoor", sum := "b237f458fb1329686ff692d4cf2bc9c8a0efe9052fb61c69dfb830271650a543", checked := Tryd.checked }
namespace Rows
def none {H : Type} : Left H := { results := [], args := [] }

/- WHAT THE LISTED PACKAGE-LEVEL VARIABLES READ AS WHEN THE CALL BEGINS. Each datum BY PROGRAM (the guide's laid-datum.mjs) off the statement by which the dump's own 'gosem.cut.vars' lays the variable. In a bare row this is a premise. The card (YtfbgcednodnioabDoorCards.lean) ties it to the program's text. -/
def laid_cullet_pipes_End {H : Type} : DataW H := .iface "*errors.errorString" (.ptr (.agg [.lit (.string [101, 110, 100])]))

/-- 'culletlaw22.PipesTaken': WHATEVER THE INPUT: true; the input reads as it did. -/
def pipesTakenSpec : ChangeSpec := { name := "pipesTaken", fn := fun _ => fun
  | [d1, d2, d3] => { results := [.lit (.bool true)], args := [d1, d2, d3] }
  | _ => none }
def pipesTakenRow : OpenClaim := { program := "ytfbgcednodnioabdoor", sum := "b237f458fb1329686ff692d4cf2bc9c8a0efe9052fb61c69dfb830271650a543", func := "cullet/culletlaw22.PipesTaken", spec := "pipesTaken", unfollowed := true, recurses := true, named := ["cullet/pipes.End"], apart := false, laid := [("cullet/pipes.End", laid_cullet_pipes_End)] }
def PipesTakenSaid : Prop := pipesTakenRow.holds Tryd.pinned (OpenSpec.ofChange pipesTakenSpec)

/-- ITS FALSE NEIGHBOUR: 'it returns false'. Refute it at one input. -/
def pipesTakenWrong : ChangeSpec := { name := "pipesTaken", fn := fun _ => fun
  | [d1, d2, d3] => { results := [.lit (.bool false)], args := [d1, d2, d3] }
  | _ => none }
def PipesTakenWrongFalsely : Prop := pipesTakenRow.holds Tryd.pinned (OpenSpec.ofChange pipesTakenWrong)

/-- 'culletlaw22.PipesCopies': WHATEVER THE INPUT: true; the input reads as it did. -/
def pipesCopiesSpec : ChangeSpec := { name := "pipesCopies", fn := fun _ => fun
  | [d1, d2] => { results := [.lit (.bool true)], args := [d1, d2] }
  | _ => none }
def pipesCopiesRow : OpenClaim := { program := "ytfbgcednodnioabdoor", sum := "b237f458fb1329686ff692d4cf2bc9c8a0efe9052fb61c69dfb830271650a543", func := "cullet/culletlaw22.PipesCopies", spec := "pipesCopies", named := ["cullet/pipes.End"], apart := false, laid := [("cullet/pipes.End", laid_cullet_pipes_End)] }
def PipesCopiesSaid : Prop := pipesCopiesRow.holds Tryd.pinned (OpenSpec.ofChange pipesCopiesSpec)

/-- ITS FALSE NEIGHBOUR: 'it returns false'. Refute it at one input. -/
def pipesCopiesWrong : ChangeSpec := { name := "pipesCopies", fn := fun _ => fun
  | [d1, d2] => { results := [.lit (.bool false)], args := [d1, d2] }
  | _ => none }
def PipesCopiesWrongFalsely : Prop := pipesCopiesRow.holds Tryd.pinned (OpenSpec.ofChange pipesCopiesWrong)

/- THE SECOND FORM. 'bulk': how many values and letters a reading holds, each counted each time it is reached (what is shared counts as often as it is met; a slice's spare places count too). A statement '..UptoSaid' is the law's where the arguments, and the package variables that the reading takes, are together of bulk at most 1048576: NARROWER than '..Said'. Prove '..Said' where nothing that the law and all that it calls make is longer than what came in: it says more and counts as full. Else prove '..UptoSaid'. A law counts once. -/
mutual
def uptoBulk {H : Type} : DataW H → Nat
  | .lit (.string bytes) => bytes.length + 1
  | .lit _ => 1
  | .nil => 1
  | .ptr d => uptoBulk d + 1
  | .slice elems spare => uptoBulkAll elems + uptoBulkAll spare + 1
  | .agg parts => uptoBulkAll parts + 1
  | .iface _ d => uptoBulk d + 1
  | .map entries => uptoBulkEntries entries + 1
  | .held _ => 1
def uptoBulkAll {H : Type} : List (DataW H) → Nat
  | [] => 0
  | d :: r => uptoBulk d + uptoBulkAll r
def uptoBulkEntries {H : Type} : List (Lit × DataW H) → Nat
  | [] => 0
  | x :: r => uptoBulkEntry x + uptoBulkEntries r
def uptoBulkEntry {H : Type} : Lit × DataW H → Nat
  | (.string bytes, d) => bytes.length + uptoBulk d + 1
  | (_, d) => uptoBulk d + 1
 end
def uptoSmall : (H : Type) → List (DataW H) → Bool := fun _ ds => decide (uptoBulkAll ds ≤ 1048576)
def OpenSpec.upto (s : _root_.Go.ChangeSpec) : _root_.Go.OpenSpec := { _root_.Go.OpenSpec.ofChange s with cond := some uptoSmall }

/-- 'culletlaw22.PipesTaken', WHERE WHAT IT READS IS OF BULK AT MOST 1048576: true; the input reads as it did. -/
def pipesTakenUptoRow : OpenClaim := { program := "ytfbgcednodnioabdoor", sum := "b237f458fb1329686ff692d4cf2bc9c8a0efe9052fb61c69dfb830271650a543", func := "cullet/culletlaw22.PipesTaken", spec := "pipesTaken", unfollowed := true, recurses := true, named := ["cullet/pipes.End"], apart := false, laid := [("cullet/pipes.End", laid_cullet_pipes_End)], narrowed := true }
def PipesTakenUptoSaid : Prop := pipesTakenUptoRow.holds Tryd.pinned (OpenSpec.upto pipesTakenSpec)

/-- 'culletlaw22.PipesCopies', WHERE WHAT IT READS IS OF BULK AT MOST 1048576: true; the input reads as it did. -/
def pipesCopiesUptoRow : OpenClaim := { program := "ytfbgcednodnioabdoor", sum := "b237f458fb1329686ff692d4cf2bc9c8a0efe9052fb61c69dfb830271650a543", func := "cullet/culletlaw22.PipesCopies", spec := "pipesCopies", named := ["cullet/pipes.End"], apart := false, laid := [("cullet/pipes.End", laid_cullet_pipes_End)], narrowed := true }
def PipesCopiesUptoSaid : Prop := pipesCopiesUptoRow.holds Tryd.pinned (OpenSpec.upto pipesCopiesSpec)

end Rows
end Go.Proofs.YtfbgcednodnioabDoor
