/-
  No cell of these rows narrows 'for every input' (looked for: loops, veiled, ifaces, maps, wideKeys, modest, calm, conditions, laid).
  DERIVED. THE GIVEN ROWS OF THIS SEAT. 2 by the template 'for every input the law returns true; each argument reads behind the call as it read before'; 0 by the template 'total and deterministic' (their statements: YtnbpbdhncnagdabTotals.lean).
  GIVEN WITH THE SEED: the statements are not yours to turn. If you find one false, say at which input.
  Laid BY PROGRAM, IN A SANDBOX (cutbox-rows.mjs): the forced cells as the released guide's own fill.sh prints them over the translation 732ec96148bf7609… (all of the seat's roots in one cut). By AI agents, Wed Nov 11 2026. No macro, syntax, notation, axiom, sorry.
-/
import Derived.Test.YtnbpbdhncnagdabChecked
import GoSem.Claim
import GoSem.ClaimJoined
import GoSem.ClaimMapViews
import Derived.JoinedTies
import Derived.KernelRfl
namespace Go.Proofs.Ytnbpbdhncnagdab
/- THE CELL 'sum', in the pinned program and in every row, IS THE sha256 OF THE DUMP (.gsa) THAT YtnbpbdhncnagdabProg.lean LOADS. Nothing in Lean hashes anything: it is a label: what it is worth is what the hold of that sum in a sandbox is worth. -/
noncomputable def Try.pinned : Pinned := { name := "ytnbpbdhncnagdab", sum := "732ec96148bf7609e9476c160f18c902672f608ce620c673cb948e0d999962a5", checked := Try.checked }
namespace Rows
def none {H : Type} : Left H := { results := [], args := [] }

/-- 'culletlaw02.Gf8Agree': WHATEVER THE INPUT: true; the input reads as it did. -/
def gf8AgreeSpec : ChangeSpec := { name := "gf8Agree", fn := fun _ => fun
  | [d1, d2, d3] => { results := [.lit (.bool true)], args := [d1, d2, d3] }
  | _ => none }
def gf8AgreeRow : OpenClaim := { program := "ytnbpbdhncnagdab", sum := "732ec96148bf7609e9476c160f18c902672f608ce620c673cb948e0d999962a5", func := "cullet/culletlaw02.Gf8Agree", spec := "gf8Agree", apart := false }
def Gf8AgreeSaid : Prop := gf8AgreeRow.holds Try.pinned (OpenSpec.ofChange gf8AgreeSpec)

/-- ITS FALSE NEIGHBOUR: 'it returns false'. Refute it at one input. -/
def gf8AgreeWrong : ChangeSpec := { name := "gf8Agree", fn := fun _ => fun
  | [d1, d2, d3] => { results := [.lit (.bool false)], args := [d1, d2, d3] }
  | _ => none }
def Gf8AgreeWrongFalsely : Prop := gf8AgreeRow.holds Try.pinned (OpenSpec.ofChange gf8AgreeWrong)

/-- 'culletlaw02.Gf8Rows': WHATEVER THE INPUT: true; the input reads as it did. -/
def gf8RowsSpec : ChangeSpec := { name := "gf8Rows", fn := fun _ => fun
  | [d] => { results := [.lit (.bool true)], args := [d] }
  | _ => none }
def gf8RowsRow : OpenClaim := { program := "ytnbpbdhncnagdab", sum := "732ec96148bf7609e9476c160f18c902672f608ce620c673cb948e0d999962a5", func := "cullet/culletlaw02.Gf8Rows", spec := "gf8Rows", apart := false }
def Gf8RowsSaid : Prop := gf8RowsRow.holds Try.pinned (OpenSpec.ofChange gf8RowsSpec)

/-- ITS FALSE NEIGHBOUR: 'it returns false'. Refute it at one input. -/
def gf8RowsWrong : ChangeSpec := { name := "gf8Rows", fn := fun _ => fun
  | [d] => { results := [.lit (.bool false)], args := [d] }
  | _ => none }
def Gf8RowsWrongFalsely : Prop := gf8RowsRow.holds Try.pinned (OpenSpec.ofChange gf8RowsWrong)

/- THE SECOND FORM. 'bulk': how many values and letters a reading holds, each counted each time it is reached (what is shared counts as often as it is met; a slice's spare places count too). A statement '..UptoSaid' is the law's where the arguments, and the package variables that the reading takes, are together of bulk at most 1048576: NARROWER than '..Said'. Prove '..Said' where nothing that the law and all that it calls make is longer than what came in: it says more and counts as full. Else prove '..UptoSaid'. A law counts once. -/
mutual
def uptoBulk {H : Type} : DataW H → Nat
  | .lit (.string bytes) => bytes.length + 1
  | .lit _ => 1
  | .nil => 1
  | .ptr d => uptoBulk d + 1
  | .slice elems spare => uptoBulkAll elems + uptoBulkAll spare + 1
  | .agg parts => uptoBulkAll parts + 1
  | .iface _ d => uptoBulk d + 1
  | .map entries => uptoBulkEntries entries + 1
  | .held _ => 1
def uptoBulkAll {H : Type} : List (DataW H) → Nat
  | [] => 0
  | d :: r => uptoBulk d + uptoBulkAll r
def uptoBulkEntries {H : Type} : List (Lit × DataW H) → Nat
  | [] => 0
  | x :: r => uptoBulkEntry x + uptoBulkEntries r
def uptoBulkEntry {H : Type} : Lit × DataW H → Nat
  | (.string bytes, d) => bytes.length + uptoBulk d + 1
  | (_, d) => uptoBulk d + 1
 end
def uptoSmall : (H : Type) → List (DataW H) → Bool := fun _ ds => decide (uptoBulkAll ds ≤ 1048576)
def OpenSpec.upto (s : _root_.Go.ChangeSpec) : _root_.Go.OpenSpec := { _root_.Go.OpenSpec.ofChange s with cond := some uptoSmall }

/-- 'culletlaw02.Gf8Agree', WHERE WHAT IT READS IS OF BULK AT MOST 1048576: true; the input reads as it did. -/
def gf8AgreeUptoRow : OpenClaim := { program := "ytnbpbdhncnagdab", sum := "732ec96148bf7609e9476c160f18c902672f608ce620c673cb948e0d999962a5", func := "cullet/culletlaw02.Gf8Agree", spec := "gf8Agree", apart := false, narrowed := true }
def Gf8AgreeUptoSaid : Prop := gf8AgreeUptoRow.holds Try.pinned (OpenSpec.upto gf8AgreeSpec)

/-- 'culletlaw02.Gf8Rows', WHERE WHAT IT READS IS OF BULK AT MOST 1048576: true; the input reads as it did. -/
def gf8RowsUptoRow : OpenClaim := { program := "ytnbpbdhncnagdab", sum := "732ec96148bf7609e9476c160f18c902672f608ce620c673cb948e0d999962a5", func := "cullet/culletlaw02.Gf8Rows", spec := "gf8Rows", apart := false, narrowed := true }
def Gf8RowsUptoSaid : Prop := gf8RowsUptoRow.holds Try.pinned (OpenSpec.upto gf8RowsSpec)

end Rows
end Go.Proofs.Ytnbpbdhncnagdab
