import Derived.Test.YtldacjpkblffbabYhy
namespace Go.Proofs.Ytldacjpkblffbab
open Go.RowKit Gf2
set_option linter.unusedVariables false

-- layer 16: Fresh of the document, all cases (laid by wip/genyhz.py)
end Go.Proofs.Ytldacjpkblffbab
