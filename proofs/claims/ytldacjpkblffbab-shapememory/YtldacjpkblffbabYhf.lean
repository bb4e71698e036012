import Derived.Test.YtldacjpkblffbabYhd
namespace Go.Proofs.Ytldacjpkblffbab
open Go.RowKit Gf2
set_option linter.unusedVariables false

-- layer 16: Uses
end Go.Proofs.Ytldacjpkblffbab
