import Derived.Test.YtaepcecjblojjaaDoorDpro
import Derived.Test.YtaepcecjblojjaaDoorDall
namespace Go.Proofs.YtaepcecjblojjaaDoor
open Go.RowKit Gf2

set_option maxHeartbeats 1000000 in
theorem plays_products : PlaysOk 1 3 := by
  intro k x y z s w h1 h2 hx hy hz hs
  have c1 := fun w => products_any k x y z s w hx hy
  have hk : k = 1 ∨ k = 2 ∨ k = 3 := by omega
  rcases hk with rfl | rfl | rfl
  all_goals
    go_enter Tryd.func23, Tryd.ntmps23
    go_wp2_with (go_at_call 8; with_reducible refine (c1 _).mono ?_; rintro e w1 ⟨rfl, hb1⟩)
    go_ret
    exact ⟨rfl, ((Below.refl _ _).alloc (Nat.le_refl _) _).trans (hb1.mono (by simp))⟩

set_option maxHeartbeats 1000000 in
theorem ringProducts_any (a : Option Addr) (len cap : Nat) (w : World) (h : IsOps w a len cap) :
    Calls Tryd.prog 3 #[.slice a len cap] w fun e w' => e = .returned (.bool true) ∧ Below w.heap.size w w' := by
  have c1 : Calls Tryd.prog 8 #[.agg #[.int .i64 2, .int .u64 3, .int .u64 3, .int .u64 0, .string { data := #[] }]] w fun e w' => e = .returned (.bool true) ∧ Below w.heap.size w w' := products_mul 3 3 0 _ w
  go_enter Tryd.func3, Tryd.ntmps3
  go_wp2_with (first | (go_at_call 8; with_reducible refine c1.mono ?_; rintro e w1 ⟨rfl, hb1⟩) | (go_at_call 9; with_reducible refine (awake_any _).mono ?_; rintro e w2 ⟨rfl, rfl⟩) | (go_at_call 10; with_reducible refine (all_any 1 3 plays_products a len cap _ (h.below hb1)).mono ?_; rintro e w3 ⟨rfl, hb3⟩))
  go_ret
  exact ⟨rfl, hb1.trans (hb3.mono hb1.size)⟩
end Go.Proofs.YtaepcecjblojjaaDoor
