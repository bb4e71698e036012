import Derived.Test.YtgdnjbaohfiijaaDoorRhf
namespace Go.Proofs.YtgdnjbaohfiijaaDoor
open Go.RowKit Gf2
set_option linter.unusedVariables false

set_option maxHeartbeats 2000000 in
set_option maxRecDepth 100000 in
theorem afftRows_any (a : Option Addr) (len cap : Nat) (w : World) (h : IsOps14 w a len cap) (hC : Cab w) (hT : Tzt w) :
    Calls Tryd.prog 3 #[.slice a len cap] w fun e w' => e = .returned (.bool true) ∧ Below w.heap.size w w' := by
  have c1 := plays14 3 4 plays14_rows a len cap w h hC hT
  clear h hC hT
  go_enter Tryd.func3, Tryd.ntmps3
  go_wp2_with (go_at_call 5; ((with_reducible refine (c1).mono ?_); (rintro e w1 ⟨rfl, hb1⟩)))
  go_ret
  exact ⟨rfl, hb1⟩
end Go.Proofs.YtgdnjbaohfiijaaDoor
