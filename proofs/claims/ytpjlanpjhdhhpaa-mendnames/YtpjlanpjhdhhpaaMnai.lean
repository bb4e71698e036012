import Derived.Test.YtpjlanpjhdhhpaaRows
import Derived.Test.YtpjlanpjhdhhpaaMnah
import Derived.WalkKit
import Derived.ProofKit
import Derived.OpenShut
import Derived.ShutString
import Derived.ChangeOld
import Derived.Below
import Derived.Deep.Slices
import Derived.ChangeSame
import Derived.LaidMore
import Derived.SizedLaws
namespace Go.Proofs.Ytpjlanpjhdhhpaa
open Go.ChangeShapes Go.WideShapes Go.ChangeAt Go.RowKit Go.Deep
set_option linter.unusedVariables false

theorem own5 : ownKnob Try.prog.godebug = none := by kernel_rfl
end Go.Proofs.Ytpjlanpjhdhhpaa
