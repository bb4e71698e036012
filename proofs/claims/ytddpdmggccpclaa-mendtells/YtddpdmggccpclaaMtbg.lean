import Derived.Test.YtddpdmggccpclaaMtal
import Derived.Test.YtddpdmggccpclaaMtae
import Derived.Test.YtddpdmggccpclaaMtap
namespace Go.Proofs.Ytddpdmggccpclaa
open Go.RowKit Gf2
set_option linter.unusedVariables false

/-- the cells of a Cauchy matrix of k columns. -/
def cau (k : Nat) : Nat → Nat → Nat := fun r c => ti ((k + r) ^^^ c)
end Go.Proofs.Ytddpdmggccpclaa
