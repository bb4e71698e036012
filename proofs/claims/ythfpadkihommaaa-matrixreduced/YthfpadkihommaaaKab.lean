import Derived.Test.YthfpadkihommaaaMj3
namespace Go.Proofs.Ythfpadkihommaaa
open Go.RowKit Gf2
set_option linter.unusedVariables false

end Go.Proofs.Ythfpadkihommaaa
