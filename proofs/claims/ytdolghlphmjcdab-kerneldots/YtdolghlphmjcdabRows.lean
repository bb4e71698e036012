/-
  No cell of these rows narrows 'for every input' (looked for: loops, veiled, ifaces, maps, wideKeys, modest, calm, conditions, laid).
  DERIVED. THE GIVEN ROWS OF THIS SEAT. 4 by the template 'for every input the law returns true; each argument reads behind the call as it read before'; 0 by the template 'total and deterministic' (their statements: YtdolghlphmjcdabTotals.lean).
  GIVEN WITH THE SEED: the statements are not yours to turn. If you find one false, say at which input.
  Laid BY PROGRAM, IN A SANDBOX (cutbox-rows.mjs): the forced cells as the released guide's own fill.sh prints them over the translation 546f2dcaea58b868… (all of the seat's roots in one cut). By AI agents, Wed Nov 11 2026. No macro, syntax, notation, axiom, sorry.
-/
import Derived.Test.YtdolghlphmjcdabChecked
import GoSem.Claim
import GoSem.ClaimJoined
import GoSem.ClaimMapViews
import Derived.JoinedTies
import Derived.KernelRfl
namespace Go.Proofs.Ytdolghlphmjcdab
/- THE CELL 'sum', in the pinned program and in every row, IS THE sha256 OF THE DUMP (.gsa) THAT YtdolghlphmjcdabProg.lean LOADS. Nothing in Lean hashes anything: it is a label: what it is worth is what the hold of that sum in a sandbox is worth. -/
noncomputable def Try.pinned : Pinned := { name := "ytdolghlphmjcdab", sum := "546f2dcaea58b8683562cf2e8c2b59ddeee87c2abcfc970c2fdc7ca3651f40f8", checked := Try.checked }
namespace Rows
def none {H : Type} : Left H := { results := [], args := [] }

/-- 'culletlaw09.KernelTurned': WHATEVER THE INPUT: true; the input reads as it did. -/
def kernelTurnedSpec : ChangeSpec := { name := "kernelTurned", fn := fun _ => fun
  | [d1, d2, d3] => { results := [.lit (.bool true)], args := [d1, d2, d3] }
  | _ => none }
def kernelTurnedRow : OpenClaim := { program := "ytdolghlphmjcdab", sum := "546f2dcaea58b8683562cf2e8c2b59ddeee87c2abcfc970c2fdc7ca3651f40f8", func := "cullet/culletlaw09.KernelTurned", spec := "kernelTurned", unfollowed := true, recurses := true, apart := false }
def KernelTurnedSaid : Prop := kernelTurnedRow.holds Try.pinned (OpenSpec.ofChange kernelTurnedSpec)

/-- ITS FALSE NEIGHBOUR: 'it returns false'. Refute it at one input. -/
def kernelTurnedWrong : ChangeSpec := { name := "kernelTurned", fn := fun _ => fun
  | [d1, d2, d3] => { results := [.lit (.bool false)], args := [d1, d2, d3] }
  | _ => none }
def KernelTurnedWrongFalsely : Prop := kernelTurnedRow.holds Try.pinned (OpenSpec.ofChange kernelTurnedWrong)

/-- 'culletlaw09.KernelDots': WHATEVER THE INPUT: true; the input reads as it did. -/
def kernelDotsSpec : ChangeSpec := { name := "kernelDots", fn := fun _ => fun
  | [d] => { results := [.lit (.bool true)], args := [d] }
  | _ => none }
def kernelDotsRow : OpenClaim := { program := "ytdolghlphmjcdab", sum := "546f2dcaea58b8683562cf2e8c2b59ddeee87c2abcfc970c2fdc7ca3651f40f8", func := "cullet/culletlaw09.KernelDots", spec := "kernelDots", unfollowed := true, recurses := true, apart := false }
def KernelDotsSaid : Prop := kernelDotsRow.holds Try.pinned (OpenSpec.ofChange kernelDotsSpec)

/-- ITS FALSE NEIGHBOUR: 'it returns false'. Refute it at one input. -/
def kernelDotsWrong : ChangeSpec := { name := "kernelDots", fn := fun _ => fun
  | [d] => { results := [.lit (.bool false)], args := [d] }
  | _ => none }
def KernelDotsWrongFalsely : Prop := kernelDotsRow.holds Try.pinned (OpenSpec.ofChange kernelDotsWrong)

/-- 'cullettop.WholeKernels': WHATEVER THE INPUT: true; the input reads as it did. -/
def wholeKernelsSpec : ChangeSpec := { name := "wholeKernels", fn := fun _ => fun
  | [d1, d2, d3] => { results := [.lit (.bool true)], args := [d1, d2, d3] }
  | _ => none }
def wholeKernelsRow : OpenClaim := { program := "ytdolghlphmjcdab", sum := "546f2dcaea58b8683562cf2e8c2b59ddeee87c2abcfc970c2fdc7ca3651f40f8", func := "cullet/cullettop.WholeKernels", spec := "wholeKernels", unfollowed := true, recurses := true, apart := false }
def WholeKernelsSaid : Prop := wholeKernelsRow.holds Try.pinned (OpenSpec.ofChange wholeKernelsSpec)

/-- ITS FALSE NEIGHBOUR: 'it returns false'. Refute it at one input. -/
def wholeKernelsWrong : ChangeSpec := { name := "wholeKernels", fn := fun _ => fun
  | [d1, d2, d3] => { results := [.lit (.bool false)], args := [d1, d2, d3] }
  | _ => none }
def WholeKernelsWrongFalsely : Prop := wholeKernelsRow.holds Try.pinned (OpenSpec.ofChange wholeKernelsWrong)

/-- 'cullettop.WholeSystematic': WHATEVER THE INPUT: true; the input reads as it did. -/
def wholeSystematicSpec : ChangeSpec := { name := "wholeSystematic", fn := fun _ => fun
  | [d1, d2, d3] => { results := [.lit (.bool true)], args := [d1, d2, d3] }
  | _ => none }
def wholeSystematicRow : OpenClaim := { program := "ytdolghlphmjcdab", sum := "546f2dcaea58b8683562cf2e8c2b59ddeee87c2abcfc970c2fdc7ca3651f40f8", func := "cullet/cullettop.WholeSystematic", spec := "wholeSystematic", unfollowed := true, recurses := true, apart := false }
def WholeSystematicSaid : Prop := wholeSystematicRow.holds Try.pinned (OpenSpec.ofChange wholeSystematicSpec)

/-- ITS FALSE NEIGHBOUR: 'it returns false'. Refute it at one input. -/
def wholeSystematicWrong : ChangeSpec := { name := "wholeSystematic", fn := fun _ => fun
  | [d1, d2, d3] => { results := [.lit (.bool false)], args := [d1, d2, d3] }
  | _ => none }
def WholeSystematicWrongFalsely : Prop := wholeSystematicRow.holds Try.pinned (OpenSpec.ofChange wholeSystematicWrong)

/- THE SECOND FORM. 'bulk': how many values and letters a reading holds, each counted each time it is reached (what is shared counts as often as it is met; a slice's spare places count too). A statement '..UptoSaid' is the law's where the arguments, and the package variables that the reading takes, are together of bulk at most 1048576: NARROWER than '..Said'. Prove '..Said' where nothing that the law and all that it calls make is longer than what came in: it says more and counts as full. Else prove '..UptoSaid'. A law counts once. -/
mutual
def uptoBulk {H : Type} : DataW H → Nat
  | .lit (.string bytes) => bytes.length + 1
  | .lit _ => 1
  | .nil => 1
  | .ptr d => uptoBulk d + 1
  | .slice elems spare => uptoBulkAll elems + uptoBulkAll spare + 1
  | .agg parts => uptoBulkAll parts + 1
  | .iface _ d => uptoBulk d + 1
  | .map entries => uptoBulkEntries entries + 1
  | .held _ => 1
def uptoBulkAll {H : Type} : List (DataW H) → Nat
  | [] => 0
  | d :: r => uptoBulk d + uptoBulkAll r
def uptoBulkEntries {H : Type} : List (Lit × DataW H) → Nat
  | [] => 0
  | x :: r => uptoBulkEntry x + uptoBulkEntries r
def uptoBulkEntry {H : Type} : Lit × DataW H → Nat
  | (.string bytes, d) => bytes.length + uptoBulk d + 1
  | (_, d) => uptoBulk d + 1
 end
def uptoSmall : (H : Type) → List (DataW H) → Bool := fun _ ds => decide (uptoBulkAll ds ≤ 1048576)
def OpenSpec.upto (s : _root_.Go.ChangeSpec) : _root_.Go.OpenSpec := { _root_.Go.OpenSpec.ofChange s with cond := some uptoSmall }

/-- 'culletlaw09.KernelTurned', WHERE WHAT IT READS IS OF BULK AT MOST 1048576: true; the input reads as it did. -/
def kernelTurnedUptoRow : OpenClaim := { program := "ytdolghlphmjcdab", sum := "546f2dcaea58b8683562cf2e8c2b59ddeee87c2abcfc970c2fdc7ca3651f40f8", func := "cullet/culletlaw09.KernelTurned", spec := "kernelTurned", unfollowed := true, recurses := true, apart := false, narrowed := true }
def KernelTurnedUptoSaid : Prop := kernelTurnedUptoRow.holds Try.pinned (OpenSpec.upto kernelTurnedSpec)

/-- 'culletlaw09.KernelDots', WHERE WHAT IT READS IS OF BULK AT MOST 1048576: true; the input reads as it did. -/
def kernelDotsUptoRow : OpenClaim := { program := "ytdolghlphmjcdab", sum := "546f2dcaea58b8683562cf2e8c2b59ddeee87c2abcfc970c2fdc7ca3651f40f8", func := "cullet/culletlaw09.KernelDots", spec := "kernelDots", unfollowed := true, recurses := true, apart := false, narrowed := true }
def KernelDotsUptoSaid : Prop := kernelDotsUptoRow.holds Try.pinned (OpenSpec.upto kernelDotsSpec)

/-- 'cullettop.WholeKernels', WHERE WHAT IT READS IS OF BULK AT MOST 1048576: true; the input reads as it did. -/
def wholeKernelsUptoRow : OpenClaim := { program := "ytdolghlphmjcdab", sum := "546f2dcaea58b8683562cf2e8c2b59ddeee87c2abcfc970c2fdc7ca3651f40f8", func := "cullet/cullettop.WholeKernels", spec := "wholeKernels", unfollowed := true, recurses := true, apart := false, narrowed := true }
def WholeKernelsUptoSaid : Prop := wholeKernelsUptoRow.holds Try.pinned (OpenSpec.upto wholeKernelsSpec)

/-- 'cullettop.WholeSystematic', WHERE WHAT IT READS IS OF BULK AT MOST 1048576: true; the input reads as it did. -/
def wholeSystematicUptoRow : OpenClaim := { program := "ytdolghlphmjcdab", sum := "546f2dcaea58b8683562cf2e8c2b59ddeee87c2abcfc970c2fdc7ca3651f40f8", func := "cullet/cullettop.WholeSystematic", spec := "wholeSystematic", unfollowed := true, recurses := true, apart := false, narrowed := true }
def WholeSystematicUptoSaid : Prop := wholeSystematicUptoRow.holds Try.pinned (OpenSpec.upto wholeSystematicSpec)

end Rows
end Go.Proofs.Ytdolghlphmjcdab
