import Derived.Test.YtoofoamondepoaaDoorLva
import Derived.Test.YtoofoamondepoaaDoorLal
namespace Go.Proofs.YtoofoamondepoaaDoor
open Go.RowKit Gf2
set_option linter.unusedVariables false

theorem plays_values : Plays13 1 4 := fun k i j x d n c W h1 h2 hx hv hC hT => ⟨fun _ => values13 k i j x d n c W hx hC, fun h => absurd h (Int.not_lt.2 h2)⟩
set_option maxHeartbeats 2000000 in
set_option maxRecDepth 100000 in
theorem lchValues_any (a : Option Addr) (len cap : Nat) (w : World) (h : IsOps13 w a len cap) (hC : Cant w) (hT : Tzt w) :
    Calls Tryd.prog 4 #[.slice a len cap] w fun e w' => e = .returned (.bool true) ∧ Below w.heap.size w w' := by
  have c1 := all13 1 4 plays_values a len cap w h hC hT
  clear h hC hT
  go_enter Tryd.func4, Tryd.ntmps4
  go_wp2_with (go_at_call 14; ((with_reducible refine (c1).mono ?_); (rintro e w1 ⟨rfl, hb1⟩)))
  go_ret
  exact ⟨rfl, hb1⟩
end Go.Proofs.YtoofoamondepoaaDoor
