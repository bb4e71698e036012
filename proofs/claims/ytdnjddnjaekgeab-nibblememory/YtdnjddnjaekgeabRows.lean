/-
  No cell of these rows narrows 'for every input' (looked for: loops, veiled, ifaces, maps, wideKeys, modest, calm, conditions, laid).
  DERIVED. THE GIVEN ROWS OF THIS SEAT. 2 by the template 'for every input the law returns true; each argument reads behind the call as it read before'; 0 by the template 'total and deterministic' (their statements: YtdnjddnjaekgeabTotals.lean).
  GIVEN WITH THE SEED: the statements are not yours to turn. If you find one false, say at which input.
  Laid BY PROGRAM, IN A SANDBOX (cutbox-rows.mjs): the forced cells as the released guide's own fill.sh prints them over the translation 51867e81cabd9be7… (all of the seat's roots in one cut). By AI agents, Wed Nov 11 2026. No macro, syntax, notation, axiom, sorry.
-/
import Derived.Test.YtdnjddnjaekgeabChecked
import GoSem.Claim
import GoSem.ClaimJoined
import GoSem.ClaimMapViews
import Derived.JoinedTies
import Derived.KernelRfl
namespace Go.Proofs.Ytdnjddnjaekgeab
/- THE CELL 'sum', in the pinned program and in every row, IS THE sha256 OF THE DUMP (.gsa) THAT YtdnjddnjaekgeabProg.lean LOADS. Nothing in Lean hashes anything: it is a label: what it is worth is what the hold of that sum in a sandbox is worth. -/
noncomputable def Try.pinned : Pinned := { name := "ytdnjddnjaekgeab", sum := "51867e81cabd9be7b648d876c7ca3c6872cfcd958459350df1ab8455e6605876", checked := Try.checked }
namespace Rows
def none {H : Type} : Left H := { results := [], args := [] }

/-- 'culletlaw06.NibbleTable': WHATEVER THE INPUT: true; the input reads as it did. -/
def nibbleTableSpec : ChangeSpec := { name := "nibbleTable", fn := fun _ => fun
  | [d1, d2, d3] => { results := [.lit (.bool true)], args := [d1, d2, d3] }
  | _ => none }
def nibbleTableRow : OpenClaim := { program := "ytdnjddnjaekgeab", sum := "51867e81cabd9be7b648d876c7ca3c6872cfcd958459350df1ab8455e6605876", func := "cullet/culletlaw06.NibbleTable", spec := "nibbleTable", apart := false }
def NibbleTableSaid : Prop := nibbleTableRow.holds Try.pinned (OpenSpec.ofChange nibbleTableSpec)

/-- ITS FALSE NEIGHBOUR: 'it returns false'. Refute it at one input. -/
def nibbleTableWrong : ChangeSpec := { name := "nibbleTable", fn := fun _ => fun
  | [d1, d2, d3] => { results := [.lit (.bool false)], args := [d1, d2, d3] }
  | _ => none }
def NibbleTableWrongFalsely : Prop := nibbleTableRow.holds Try.pinned (OpenSpec.ofChange nibbleTableWrong)

/-- 'culletlaw06.NibbleMemory': WHATEVER THE INPUT: true; the input reads as it did. -/
def nibbleMemorySpec : ChangeSpec := { name := "nibbleMemory", fn := fun _ => fun
  | [d1, d2, d3] => { results := [.lit (.bool true)], args := [d1, d2, d3] }
  | _ => none }
def nibbleMemoryRow : OpenClaim := { program := "ytdnjddnjaekgeab", sum := "51867e81cabd9be7b648d876c7ca3c6872cfcd958459350df1ab8455e6605876", func := "cullet/culletlaw06.NibbleMemory", spec := "nibbleMemory", apart := false }
def NibbleMemorySaid : Prop := nibbleMemoryRow.holds Try.pinned (OpenSpec.ofChange nibbleMemorySpec)

/-- ITS FALSE NEIGHBOUR: 'it returns false'. Refute it at one input. -/
def nibbleMemoryWrong : ChangeSpec := { name := "nibbleMemory", fn := fun _ => fun
  | [d1, d2, d3] => { results := [.lit (.bool false)], args := [d1, d2, d3] }
  | _ => none }
def NibbleMemoryWrongFalsely : Prop := nibbleMemoryRow.holds Try.pinned (OpenSpec.ofChange nibbleMemoryWrong)

/- THE SECOND FORM. 'bulk': how many values and letters a reading holds, each counted each time it is reached (what is shared counts as often as it is met; a slice's spare places count too). A statement '..UptoSaid' is the law's where the arguments, and the package variables that the reading takes, are together of bulk at most 1048576: NARROWER than '..Said'. Prove '..Said' where nothing that the law and all that it calls make is longer than what came in: it says more and counts as full. Else prove '..UptoSaid'. A law counts once. -/
mutual
def uptoBulk {H : Type} : DataW H → Nat
  | .lit (.string bytes) => bytes.length + 1
  | .lit _ => 1
  | .nil => 1
  | .ptr d => uptoBulk d + 1
  | .slice elems spare => uptoBulkAll elems + uptoBulkAll spare + 1
  | .agg parts => uptoBulkAll parts + 1
  | .iface _ d => uptoBulk d + 1
  | .map entries => uptoBulkEntries entries + 1
  | .held _ => 1
def uptoBulkAll {H : Type} : List (DataW H) → Nat
  | [] => 0
  | d :: r => uptoBulk d + uptoBulkAll r
def uptoBulkEntries {H : Type} : List (Lit × DataW H) → Nat
  | [] => 0
  | x :: r => uptoBulkEntry x + uptoBulkEntries r
def uptoBulkEntry {H : Type} : Lit × DataW H → Nat
  | (.string bytes, d) => bytes.length + uptoBulk d + 1
  | (_, d) => uptoBulk d + 1
 end
def uptoSmall : (H : Type) → List (DataW H) → Bool := fun _ ds => decide (uptoBulkAll ds ≤ 1048576)
def OpenSpec.upto (s : _root_.Go.ChangeSpec) : _root_.Go.OpenSpec := { _root_.Go.OpenSpec.ofChange s with cond := some uptoSmall }

/-- 'culletlaw06.NibbleTable', WHERE WHAT IT READS IS OF BULK AT MOST 1048576: true; the input reads as it did. -/
def nibbleTableUptoRow : OpenClaim := { program := "ytdnjddnjaekgeab", sum := "51867e81cabd9be7b648d876c7ca3c6872cfcd958459350df1ab8455e6605876", func := "cullet/culletlaw06.NibbleTable", spec := "nibbleTable", apart := false, narrowed := true }
def NibbleTableUptoSaid : Prop := nibbleTableUptoRow.holds Try.pinned (OpenSpec.upto nibbleTableSpec)

/-- 'culletlaw06.NibbleMemory', WHERE WHAT IT READS IS OF BULK AT MOST 1048576: true; the input reads as it did. -/
def nibbleMemoryUptoRow : OpenClaim := { program := "ytdnjddnjaekgeab", sum := "51867e81cabd9be7b648d876c7ca3c6872cfcd958459350df1ab8455e6605876", func := "cullet/culletlaw06.NibbleMemory", spec := "nibbleMemory", apart := false, narrowed := true }
def NibbleMemoryUptoSaid : Prop := nibbleMemoryUptoRow.holds Try.pinned (OpenSpec.upto nibbleMemorySpec)

end Rows
end Go.Proofs.Ytdnjddnjaekgeab
