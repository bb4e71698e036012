import Derived.Test.YthofhphlfgmklaaGreatMzal
import Derived.Test.YthofhphlfgmklaaGreatMzae
import Derived.Test.YthofhphlfgmklaaGreatMzap
namespace Go.Proofs.YthofhphlfgmklaaGreat
open Go.RowKit Gf2
set_option linter.unusedVariables false

/-- the cells of a Cauchy matrix of k columns. -/
def cau (k : Nat) : Nat → Nat → Nat := fun r c => ti ((k + r) ^^^ c)
end Go.Proofs.YthofhphlfgmklaaGreat
