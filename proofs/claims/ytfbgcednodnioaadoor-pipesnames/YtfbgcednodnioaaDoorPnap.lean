import Derived.Test.YtfbgcednodnioaaDoorPnaf
import Derived.Test.YtfbgcednodnioaaDoorRows
import Derived.Test.YtfbgcednodnioaaDoorPnac
import Derived.WalkKit
import Derived.ProofKit
import Derived.OpenShut
import Derived.ShutString
import Derived.ChangeOld
import Derived.Below
import Derived.Deep.Slices
import Derived.ChangeSame
import Derived.LaidMore
import Derived.SizedLaws
import Derived.Test.YtfbgcednodnioaaDoorPnao
import Derived.Stop.LaidErr
import Derived.LaidLaws
namespace Go.Proofs.YtfbgcednodnioaaDoor
open Go.ChangeShapes Go.WideShapes Go.ChangeAt Go.RowKit Go.Deep
set_option linter.unusedVariables false

-- layer 22: what came in, opened
theorem star22 : "*" ++ "errors.errorString" = "*errors.errorString" := by decide
theorem row_es22 (u : TypeId) (h : Tryd.prog.typeName? 3 u = some "*errors.errorString") : u = 114 :=
  typeName_ptr_named (nm := "errors.errorString") (by rw [star22]; kernel_rfl) (by kernel_rfl) (by decide) u (by rw [star22]; exact h)
end Go.Proofs.YtfbgcednodnioaaDoor
