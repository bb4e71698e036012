import Derived.Test.YtaepcecjblojjabDoorDwpr
import Derived.Test.YtaepcecjblojjabDoorDwco
import Derived.Test.YtaepcecjblojjabDoorDinv
import Derived.Test.YtaepcecjblojjabDoorDwki
import Derived.Test.YtaepcecjblojjabDoorDtet
namespace Go.Proofs.YtaepcecjblojjabDoor
open Go.RowKit Gf2

theorem plays_all : PlaysT 1 13 := by
  intro k x y z s w h1 h2 hx hy hz hs ht
  by_cases a : k ≤ 3
  · exact plays_products k x y z s w h1 a hx hy hz hs
  by_cases b : k ≤ 5
  · exact plays_common k x y z s w (by omega) b hx hy hz hs
  by_cases c : k ≤ 8
  · exact plays_residues k x y z s w (by omega) c hx hy hz hs
  by_cases d : k ≤ 11
  · exact plays_kinds k x y z s w (by omega) d hx hy hz hs
  · exact plays_texts k x y z s w (by omega) h2 hx hy hz hs ht

set_option maxHeartbeats 1000000 in
theorem ringAll_any (a : Option Addr) (len cap : Nat) (w : World) (h : IsOps w a len cap) (ht : Tab w) :
    Calls Tryd.prog 3 #[.slice a len cap] w fun e w' => e = .returned (.bool true) ∧ Below w.heap.size w w' := by
  go_enter Tryd.func3, Tryd.ntmps3
  go_wp2_with (first | (go_at_call 4; with_reducible refine (awake_any _).mono ?_; rintro e w2 ⟨rfl, rfl⟩) | (go_at_call 5; with_reducible refine (all_tab 1 13 plays_all a len cap _ h ht).mono ?_; rintro e w3 ⟨rfl, hb3⟩))
  go_ret
  exact ⟨rfl, hb3⟩
end Go.Proofs.YtaepcecjblojjabDoor
