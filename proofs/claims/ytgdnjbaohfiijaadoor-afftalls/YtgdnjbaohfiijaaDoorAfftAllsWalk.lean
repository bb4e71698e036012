import Derived.Test.YtgdnjbaohfiijaaDoorRhf
import Derived.Test.YtgdnjbaohfiijaaDoorRj9
namespace Go.Proofs.YtgdnjbaohfiijaaDoor
open Go.RowKit Gf2
set_option linter.unusedVariables false

theorem plays14_alls : Plays14 1 6 := fun k d nd cd A nr cr s N W h1 h2 hC hT hv hR hN => by
  have : k = 1 ∨ k = 2 ∨ k = 3 ∨ k = 4 ∨ k = 5 ∨ k = 6 := by omega
  rcases this with rfl | rfl | rfl | rfl | rfl | rfl
  · exact one14_fwd d nd cd A nr cr s N W hC hT hv hR hN
  · exact one14_inv d nd cd A nr cr s N W hC hT hv hR hN
  · exact one14_rows_fwd d nd cd A nr cr s N W hC hT hv hR hN
  · exact one14_rows_inv d nd cd A nr cr s N W hC hT hv hR hN
  · exact one14_ext d nd cd A nr cr s N W hC hT hv hR hN
  · exact one14_fold d nd cd A nr cr s N W hC hT hv hR hN
set_option maxHeartbeats 2000000 in
set_option maxRecDepth 100000 in
theorem afftAlls_any (a : Option Addr) (len cap : Nat) (w : World) (h : IsOps14 w a len cap) (hC : Cab w) (hT : Tzt w) :
    Calls Tryd.prog 4 #[.slice a len cap] w fun e w' => e = .returned (.bool true) ∧ Below w.heap.size w w' := by
  have c1 := plays14 1 6 plays14_alls a len cap w h hC hT
  clear h hC hT
  go_enter Tryd.func4, Tryd.ntmps4
  go_wp2_with (go_at_call 5; ((with_reducible refine (c1).mono ?_); (rintro e w1 ⟨rfl, hb1⟩)))
  go_ret
  exact ⟨rfl, hb1⟩
end Go.Proofs.YtgdnjbaohfiijaaDoor
