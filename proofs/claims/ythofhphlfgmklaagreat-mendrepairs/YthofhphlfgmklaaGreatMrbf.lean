import Derived.Test.YthofhphlfgmklaaGreatMral
import Derived.Test.YthofhphlfgmklaaGreatMrae
import Derived.Test.YthofhphlfgmklaaGreatMrap
namespace Go.Proofs.YthofhphlfgmklaaGreat
open Go.RowKit Gf2
set_option linter.unusedVariables false

/-- the cells of a Cauchy matrix of k columns. -/
def cau (k : Nat) : Nat → Nat → Nat := fun r c => ti ((k + r) ^^^ c)
end Go.Proofs.YthofhphlfgmklaaGreat
