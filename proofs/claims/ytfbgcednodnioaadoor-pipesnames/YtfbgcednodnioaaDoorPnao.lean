import Derived.Test.YtfbgcednodnioaaDoorPnam
import Derived.Deep.Cut
import Derived.Deep.DeepCutAuto
import Derived.Test.YtfbgcednodnioaaDoorPnan
import Derived.Laws.BitsLemmas
namespace Go.Proofs.YtfbgcednodnioaaDoor
open Go.RowKit Gf2
set_option linter.unusedVariables false

-- layer 22: a source beside the document's
/-- End lies where it lies. -/
def En22 (w : World) (x : Addr) : Prop := w.cell? ⟨0, 0, none⟩ = some (.iface 114 (.pointer (some x)))
section
variable {w wr w' : World} {x : Addr} {lo hi b n k f mb p t : Nat} {D : Nat → Nat} {C : Nat → Int} {fa code : Int}
end
end Go.Proofs.YtfbgcednodnioaaDoor
