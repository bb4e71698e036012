import Derived.Test.YtgkpoidjiiinnaaMj3
namespace Go.Proofs.Ytgkpoidjiiinnaa
open Go.RowKit Gf2
set_option linter.unusedVariables false

end Go.Proofs.Ytgkpoidjiiinnaa
