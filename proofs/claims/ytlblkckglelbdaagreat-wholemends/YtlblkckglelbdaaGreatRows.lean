/-
  No cell of these rows narrows 'for every input' (looked for: loops, veiled, ifaces, maps, wideKeys, modest, calm, conditions, laid).
  DERIVED. THE GIVEN ROWS OF THIS SEAT. 2 by the template 'for every input the law returns true; each argument reads behind the call as it read before'; 0 by the template 'total and deterministic' (their statements: YtlblkckglelbdaaGreatTotals.lean).
  GIVEN WITH THE SEED: the statements are not yours to turn. If you find one false, say at which input.
  Laid BY PROGRAM, IN A SANDBOX (cutbox-rows.mjs): the forced cells as the released guide's own fill.sh prints them over the translation 119ed06da605c751… (all of the seat's roots in one cut). By AI agents, Wed Nov 11 2026. No macro, syntax, notation, axiom, sorry.
-/
import Derived.Test.YtlblkckglelbdaaGreatChecked
import GoSem.Claim
import GoSem.ClaimJoined
import GoSem.ClaimMapViews
import Derived.JoinedTies
import Derived.KernelRfl
namespace Go.Proofs.YtlblkckglelbdaaGreat
/- THE CELL 'sum', in the pinned program and in every row, IS THE sha256 OF THE DUMP (.gsa) THAT YtlblkckglelbdaaGreatProg.lean LOADS. Nothing in Lean hashes anything: it is a label: what it is worth is what the hold of that sum in a sandbox is worth. -/
noncomputable def Tryz.pinned : Pinned := { name := "ytlblkckglelbdaagreat", sum := "119ed06da605c7516dee8d92e41f537118c8a2fba0f02323ff1f02b41be057ff", checked := Tryz.checked }
namespace Rows
def none {H : Type} : Left H := { results := [], args := [] }

/-- 'cullettop.WholeMends': WHATEVER THE INPUT: true; the input reads as it did. -/
def wholeMendsSpec : ChangeSpec := { name := "wholeMends", fn := fun _ => fun
  | [d] => { results := [.lit (.bool true)], args := [d] }
  | _ => none }
def wholeMendsRow : OpenClaim := { program := "ytlblkckglelbdaagreat", sum := "119ed06da605c7516dee8d92e41f537118c8a2fba0f02323ff1f02b41be057ff", func := "cullet/cullettop.WholeMends", spec := "wholeMends", unfollowed := true, recurses := true, apart := false }
def WholeMendsSaid : Prop := wholeMendsRow.holds Tryz.pinned (OpenSpec.ofChange wholeMendsSpec)

/-- ITS FALSE NEIGHBOUR: 'it returns false'. Refute it at one input. -/
def wholeMendsWrong : ChangeSpec := { name := "wholeMends", fn := fun _ => fun
  | [d] => { results := [.lit (.bool false)], args := [d] }
  | _ => none }
def WholeMendsWrongFalsely : Prop := wholeMendsRow.holds Tryz.pinned (OpenSpec.ofChange wholeMendsWrong)

/-- 'culletlaw19.MendShards': WHATEVER THE INPUT: true; the input reads as it did. -/
def mendShardsSpec : ChangeSpec := { name := "mendShards", fn := fun _ => fun
  | [d] => { results := [.lit (.bool true)], args := [d] }
  | _ => none }
def mendShardsRow : OpenClaim := { program := "ytlblkckglelbdaagreat", sum := "119ed06da605c7516dee8d92e41f537118c8a2fba0f02323ff1f02b41be057ff", func := "cullet/culletlaw19.MendShards", spec := "mendShards", unfollowed := true, recurses := true, apart := false }
def MendShardsSaid : Prop := mendShardsRow.holds Tryz.pinned (OpenSpec.ofChange mendShardsSpec)

/-- ITS FALSE NEIGHBOUR: 'it returns false'. Refute it at one input. -/
def mendShardsWrong : ChangeSpec := { name := "mendShards", fn := fun _ => fun
  | [d] => { results := [.lit (.bool false)], args := [d] }
  | _ => none }
def MendShardsWrongFalsely : Prop := mendShardsRow.holds Tryz.pinned (OpenSpec.ofChange mendShardsWrong)

/- THE SECOND FORM. 'bulk': how many values and letters a reading holds, each counted each time it is reached (what is shared counts as often as it is met; a slice's spare places count too). A statement '..UptoSaid' is the law's where the arguments, and the package variables that the reading takes, are together of bulk at most 1048576: NARROWER than '..Said'. Prove '..Said' where nothing that the law and all that it calls make is longer than what came in: it says more and counts as full. Else prove '..UptoSaid'. A law counts once. -/
mutual
def uptoBulk {H : Type} : DataW H → Nat
  | .lit (.string bytes) => bytes.length + 1
  | .lit _ => 1
  | .nil => 1
  | .ptr d => uptoBulk d + 1
  | .slice elems spare => uptoBulkAll elems + uptoBulkAll spare + 1
  | .agg parts => uptoBulkAll parts + 1
  | .iface _ d => uptoBulk d + 1
  | .map entries => uptoBulkEntries entries + 1
  | .held _ => 1
def uptoBulkAll {H : Type} : List (DataW H) → Nat
  | [] => 0
  | d :: r => uptoBulk d + uptoBulkAll r
def uptoBulkEntries {H : Type} : List (Lit × DataW H) → Nat
  | [] => 0
  | x :: r => uptoBulkEntry x + uptoBulkEntries r
def uptoBulkEntry {H : Type} : Lit × DataW H → Nat
  | (.string bytes, d) => bytes.length + uptoBulk d + 1
  | (_, d) => uptoBulk d + 1
 end
def uptoSmall : (H : Type) → List (DataW H) → Bool := fun _ ds => decide (uptoBulkAll ds ≤ 1048576)
def OpenSpec.upto (s : _root_.Go.ChangeSpec) : _root_.Go.OpenSpec := { _root_.Go.OpenSpec.ofChange s with cond := some uptoSmall }

/-- 'cullettop.WholeMends', WHERE WHAT IT READS IS OF BULK AT MOST 1048576: true; the input reads as it did. -/
def wholeMendsUptoRow : OpenClaim := { program := "ytlblkckglelbdaagreat", sum := "119ed06da605c7516dee8d92e41f537118c8a2fba0f02323ff1f02b41be057ff", func := "cullet/cullettop.WholeMends", spec := "wholeMends", unfollowed := true, recurses := true, apart := false, narrowed := true }
def WholeMendsUptoSaid : Prop := wholeMendsUptoRow.holds Tryz.pinned (OpenSpec.upto wholeMendsSpec)

/-- 'culletlaw19.MendShards', WHERE WHAT IT READS IS OF BULK AT MOST 1048576: true; the input reads as it did. -/
def mendShardsUptoRow : OpenClaim := { program := "ytlblkckglelbdaagreat", sum := "119ed06da605c7516dee8d92e41f537118c8a2fba0f02323ff1f02b41be057ff", func := "cullet/culletlaw19.MendShards", spec := "mendShards", unfollowed := true, recurses := true, apart := false, narrowed := true }
def MendShardsUptoSaid : Prop := mendShardsUptoRow.holds Tryz.pinned (OpenSpec.upto mendShardsSpec)

end Rows
end Go.Proofs.YtlblkckglelbdaaGreat
