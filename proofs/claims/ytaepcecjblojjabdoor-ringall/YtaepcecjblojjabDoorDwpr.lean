import Derived.Test.YtaepcecjblojjabDoorDpro
import Derived.Test.YtaepcecjblojjabDoorDall
namespace Go.Proofs.YtaepcecjblojjabDoor
open Go.RowKit Gf2

set_option maxHeartbeats 1000000 in
theorem plays_products : PlaysOk 1 3 := by
  intro k x y z s w h1 h2 hx hy hz hs
  have c1 := fun w => products_any k x y z s w hx hy
  have hk : k = 1 ∨ k = 2 ∨ k = 3 := by omega
  rcases hk with rfl | rfl | rfl
  all_goals
    go_enter Tryd.func10, Tryd.ntmps10
    go_wp2_with (go_at_call 17; with_reducible refine (c1 _).mono ?_; rintro e w1 ⟨rfl, hb1⟩)
    go_ret
    exact ⟨rfl, ((Below.refl _ _).alloc (Nat.le_refl _) _).trans (hb1.mono (by simp))⟩

end Go.Proofs.YtaepcecjblojjabDoor
