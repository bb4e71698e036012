import Derived.Test.YtfbgcednodnioaaDoorPnap
import Derived.Test.YtfbgcednodnioaaDoorPnam
import Derived.Shelf.Strconv.Itoa3
import Derived.Shelf.Lay
import Derived.Ground.NamesProg
namespace Go.Proofs.YtfbgcednodnioaaDoor
open Go.RowKit Gf2 Go.Shelf
set_option linter.unusedVariables false

-- layer 22: strconv.Itoa
shelf_lay LaysM.n171 Nm 171 at Tryd as laysItoa22
theorem itoa22 (n : Int) (h0 : -9223372036854775808 ≤ n) (h1 : n ≤ 9223372036854775807) (w : World) (htab : Lib.TabIs Tryd.prog w "internal/strconv.uint64pow10" .u64 Lib.pow10Tab) :
    Calls Tryd.prog 32 #[.int .i64 n] w fun e w' => e = .returned (.string ⟨(Lib.itoa n).toArray⟩) ∧ ∃ k os, w' = Sort.grow (w.drewN k) os := Any.strconv_Itoa laysItoa22 n h0 h1 w htab
end Go.Proofs.YtfbgcednodnioaaDoor
