import Derived.Test.YtidcdbjhkgpjcaaDoorLtu
namespace Go.Proofs.YtidcdbjhkgpjcaaDoor
open Go.RowKit Gf2
set_option linter.unusedVariables false

theorem plays_turns : Plays13 7 8 := fun k i j x d n c W h1 h2 hx hv hC hT => ⟨fun h => absurd h1 (by omega), fun _ => by
  by_cases e : k = 7
  · subst e; exact lists13_7 i j x d n c W hv hT
  · obtain rfl : k = 8 := by omega
    exact lists13_8 i j x d n c W hv hT⟩
set_option maxHeartbeats 2000000 in
set_option maxRecDepth 100000 in
theorem lchTurns_any (a : Option Addr) (len cap : Nat) (w : World) (h : IsOps13 w a len cap) (hC : Cant w) (hT : Tzt w) :
    Calls Tryd.prog 3 #[.slice a len cap] w fun e w' => e = .returned (.bool true) ∧ Below w.heap.size w w' := by
  have c1 := all13 7 8 plays_turns a len cap w h hC hT
  clear h hC hT
  go_enter Tryd.func3, Tryd.ntmps3
  go_wp2_with (go_at_call 4; ((with_reducible refine (c1).mono ?_); (rintro e w1 ⟨rfl, hb1⟩)))
  go_ret
  exact ⟨rfl, hb1⟩
end Go.Proofs.YtidcdbjhkgpjcaaDoor
