import Derived.Test.YtehbiccpbopkfaaDoorFfab
import Derived.OpenShut
import Derived.Test.YtehbiccpbopkfaaDoorFfaa
namespace Go.Proofs.YtehbiccpbopkfaaDoor
open Go.RowKit Gf2

/-- the exponent: n less a multiple of 255. -/
def er (n : Int) : Nat := (n % 255).toNat
end Go.Proofs.YtehbiccpbopkfaaDoor
