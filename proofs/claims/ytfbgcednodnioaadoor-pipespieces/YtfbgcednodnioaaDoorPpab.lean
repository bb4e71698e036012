import Derived.WalkKit
import Derived.WalkSpells
import Derived.WalkLawsBesides
import Derived.Test.YtfbgcednodnioaaDoorRows
import Derived.Lib.Strings
import Derived.Lib.Slices
import Derived.Lib.Small
import Derived.Lib.Walk
import Derived.Lib.BitFns
import Derived.Test.YtfbgcednodnioaaDoorPpaa
import Derived.OpenShut
namespace Go.Proofs.YtfbgcednodnioaaDoor
open Go.RowKit Gf2

/-- the exponent: n less a multiple of 255. -/
def er (n : Int) : Nat := (n % 255).toNat
/-- what Pow answers. -/
def gp (a : Nat) (n : Int) : Nat := if a = 0 then (if n = 0 then 1 else 0) else fp 285 a (er n)
end Go.Proofs.YtfbgcednodnioaaDoor
