/-
  No cell of these rows narrows 'for every input' (looked for: loops, veiled, ifaces, maps, wideKeys, modest, calm, conditions, laid).
  DERIVED. THE GIVEN ROWS OF THIS SEAT. 3 by the template 'for every input the law returns true; each argument reads behind the call as it read before'; 0 by the template 'total and deterministic' (their statements: YtefolifecbhgoaaGreatTotals.lean).
  GIVEN WITH THE SEED: the statements are not yours to turn. If you find one false, say at which input.
  Laid BY PROGRAM, IN A SANDBOX (cutbox-rows.mjs): the forced cells as the released guide's own fill.sh prints them over the translation 831277bc973ce6a0… (all of the seat's roots in one cut). By AI agents, Wed Nov 11 2026. No macro, syntax, notation, axiom, sorry.
-/
import Derived.Test.YtefolifecbhgoaaGreatChecked
import GoSem.Claim
import GoSem.ClaimJoined
import GoSem.ClaimMapViews
import Derived.JoinedTies
import Derived.KernelRfl
namespace Go.Proofs.YtefolifecbhgoaaGreat
/- THE CELL 'sum', in the pinned program and in every row, IS THE sha256 OF THE DUMP (.gsa) THAT YtefolifecbhgoaaGreatProg.lean LOADS. Nothing in Lean hashes anything: it is a label: what it is worth is what the hold of that sum in a sandbox is worth. -/
noncomputable def Tryz.pinned : Pinned := { name := "ytefolifecbhgoaagreat", sum := "831277bc973ce6a0fc4c3d93a90e8e38051ff0013b552582640137d95a3ac956", checked := Tryz.checked }
namespace Rows
def none {H : Type} : Left H := { results := [], args := [] }

/-- 'culletlaw17.McodeGives': WHATEVER THE INPUT: true; the input reads as it did. -/
def mcodeGivesSpec : ChangeSpec := { name := "mcodeGives", fn := fun _ => fun
  | [d1, d2] => { results := [.lit (.bool true)], args := [d1, d2] }
  | _ => none }
def mcodeGivesRow : OpenClaim := { program := "ytefolifecbhgoaagreat", sum := "831277bc973ce6a0fc4c3d93a90e8e38051ff0013b552582640137d95a3ac956", func := "cullet/culletlaw17.McodeGives", spec := "mcodeGives", unfollowed := true, recurses := true, apart := false }
def McodeGivesSaid : Prop := mcodeGivesRow.holds Tryz.pinned (OpenSpec.ofChange mcodeGivesSpec)

/-- ITS FALSE NEIGHBOUR: 'it returns false'. Refute it at one input. -/
def mcodeGivesWrong : ChangeSpec := { name := "mcodeGives", fn := fun _ => fun
  | [d1, d2] => { results := [.lit (.bool false)], args := [d1, d2] }
  | _ => none }
def McodeGivesWrongFalsely : Prop := mcodeGivesRow.holds Tryz.pinned (OpenSpec.ofChange mcodeGivesWrong)

/-- 'culletlaw17.McodeAlls': WHATEVER THE INPUT: true; the input reads as it did. -/
def mcodeAllsSpec : ChangeSpec := { name := "mcodeAlls", fn := fun _ => fun
  | [d1, d2] => { results := [.lit (.bool true)], args := [d1, d2] }
  | _ => none }
def mcodeAllsRow : OpenClaim := { program := "ytefolifecbhgoaagreat", sum := "831277bc973ce6a0fc4c3d93a90e8e38051ff0013b552582640137d95a3ac956", func := "cullet/culletlaw17.McodeAlls", spec := "mcodeAlls", unfollowed := true, recurses := true, apart := false }
def McodeAllsSaid : Prop := mcodeAllsRow.holds Tryz.pinned (OpenSpec.ofChange mcodeAllsSpec)

/-- ITS FALSE NEIGHBOUR: 'it returns false'. Refute it at one input. -/
def mcodeAllsWrong : ChangeSpec := { name := "mcodeAlls", fn := fun _ => fun
  | [d1, d2] => { results := [.lit (.bool false)], args := [d1, d2] }
  | _ => none }
def McodeAllsWrongFalsely : Prop := mcodeAllsRow.holds Tryz.pinned (OpenSpec.ofChange mcodeAllsWrong)

/-- 'culletlaw17.McodeBack': WHATEVER THE INPUT: true; the input reads as it did. -/
def mcodeBackSpec : ChangeSpec := { name := "mcodeBack", fn := fun _ => fun
  | [d1, d2, d3] => { results := [.lit (.bool true)], args := [d1, d2, d3] }
  | _ => none }
def mcodeBackRow : OpenClaim := { program := "ytefolifecbhgoaagreat", sum := "831277bc973ce6a0fc4c3d93a90e8e38051ff0013b552582640137d95a3ac956", func := "cullet/culletlaw17.McodeBack", spec := "mcodeBack", unfollowed := true, recurses := true, apart := false }
def McodeBackSaid : Prop := mcodeBackRow.holds Tryz.pinned (OpenSpec.ofChange mcodeBackSpec)

/-- ITS FALSE NEIGHBOUR: 'it returns false'. Refute it at one input. -/
def mcodeBackWrong : ChangeSpec := { name := "mcodeBack", fn := fun _ => fun
  | [d1, d2, d3] => { results := [.lit (.bool false)], args := [d1, d2, d3] }
  | _ => none }
def McodeBackWrongFalsely : Prop := mcodeBackRow.holds Tryz.pinned (OpenSpec.ofChange mcodeBackWrong)

/- THE SECOND FORM. 'bulk': how many values and letters a reading holds, each counted each time it is reached (what is shared counts as often as it is met; a slice's spare places count too). A statement '..UptoSaid' is the law's where the arguments, and the package variables that the reading takes, are together of bulk at most 1048576: NARROWER than '..Said'. Prove '..Said' where nothing that the law and all that it calls make is longer than what came in: it says more and counts as full. Else prove '..UptoSaid'. A law counts once. -/
mutual
def uptoBulk {H : Type} : DataW H → Nat
  | .lit (.string bytes) => bytes.length + 1
  | .lit _ => 1
  | .nil => 1
  | .ptr d => uptoBulk d + 1
  | .slice elems spare => uptoBulkAll elems + uptoBulkAll spare + 1
  | .agg parts => uptoBulkAll parts + 1
  | .iface _ d => uptoBulk d + 1
  | .map entries => uptoBulkEntries entries + 1
  | .held _ => 1
def uptoBulkAll {H : Type} : List (DataW H) → Nat
  | [] => 0
  | d :: r => uptoBulk d + uptoBulkAll r
def uptoBulkEntries {H : Type} : List (Lit × DataW H) → Nat
  | [] => 0
  | x :: r => uptoBulkEntry x + uptoBulkEntries r
def uptoBulkEntry {H : Type} : Lit × DataW H → Nat
  | (.string bytes, d) => bytes.length + uptoBulk d + 1
  | (_, d) => uptoBulk d + 1
 end
def uptoSmall : (H : Type) → List (DataW H) → Bool := fun _ ds => decide (uptoBulkAll ds ≤ 1048576)
def OpenSpec.upto (s : _root_.Go.ChangeSpec) : _root_.Go.OpenSpec := { _root_.Go.OpenSpec.ofChange s with cond := some uptoSmall }

/-- 'culletlaw17.McodeGives', WHERE WHAT IT READS IS OF BULK AT MOST 1048576: true; the input reads as it did. -/
def mcodeGivesUptoRow : OpenClaim := { program := "ytefolifecbhgoaagreat", sum := "831277bc973ce6a0fc4c3d93a90e8e38051ff0013b552582640137d95a3ac956", func := "cullet/culletlaw17.McodeGives", spec := "mcodeGives", unfollowed := true, recurses := true, apart := false, narrowed := true }
def McodeGivesUptoSaid : Prop := mcodeGivesUptoRow.holds Tryz.pinned (OpenSpec.upto mcodeGivesSpec)

/-- 'culletlaw17.McodeAlls', WHERE WHAT IT READS IS OF BULK AT MOST 1048576: true; the input reads as it did. -/
def mcodeAllsUptoRow : OpenClaim := { program := "ytefolifecbhgoaagreat", sum := "831277bc973ce6a0fc4c3d93a90e8e38051ff0013b552582640137d95a3ac956", func := "cullet/culletlaw17.McodeAlls", spec := "mcodeAlls", unfollowed := true, recurses := true, apart := false, narrowed := true }
def McodeAllsUptoSaid : Prop := mcodeAllsUptoRow.holds Tryz.pinned (OpenSpec.upto mcodeAllsSpec)

/-- 'culletlaw17.McodeBack', WHERE WHAT IT READS IS OF BULK AT MOST 1048576: true; the input reads as it did. -/
def mcodeBackUptoRow : OpenClaim := { program := "ytefolifecbhgoaagreat", sum := "831277bc973ce6a0fc4c3d93a90e8e38051ff0013b552582640137d95a3ac956", func := "cullet/culletlaw17.McodeBack", spec := "mcodeBack", unfollowed := true, recurses := true, apart := false, narrowed := true }
def McodeBackUptoSaid : Prop := mcodeBackUptoRow.holds Tryz.pinned (OpenSpec.upto mcodeBackSpec)

end Rows
end Go.Proofs.YtefolifecbhgoaaGreat
