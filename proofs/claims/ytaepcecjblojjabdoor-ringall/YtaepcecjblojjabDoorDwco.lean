import Derived.Test.YtaepcecjblojjabDoorDbez
import Derived.Test.YtaepcecjblojjabDoorDall
namespace Go.Proofs.YtaepcecjblojjabDoor
open Go.RowKit Gf2

theorem common_any (k : Int) (x y z : Nat) (s : ByteArray) (w : World) (hx : x < 18446744073709551616) (hy : y < 18446744073709551616) :
    Calls Tryd.prog 18 #[.agg #[.int .i64 k, .int .u64 (x : Int), .int .u64 (y : Int), .int .u64 (z : Int), .string s]] w fun e w' => e = .returned (.bool true) ∧ Below w.heap.size w w' := by
  by_cases h4 : k = 4
  · subst h4; exact common_gcd x y z s w hx hy
  · exact common_bezout k x y z s w (by simpa using h4)

set_option maxHeartbeats 1000000 in
theorem plays_common : PlaysOk 4 5 := by
  intro k x y z s w h1 h2 hx hy hz hs
  have c1 := fun w => common_any k x y z s w hx hy
  have hk : k = 4 ∨ k = 5 := by omega
  rcases hk with rfl | rfl
  all_goals
    go_enter Tryd.func10, Tryd.ntmps10
    go_wp2_with (go_at_call 18; with_reducible refine (c1 _).mono ?_; rintro e w1 ⟨rfl, hb1⟩)
    go_ret
    exact ⟨rfl, ((Below.refl _ _).alloc (Nat.le_refl _) _).trans (hb1.mono (by simp))⟩

end Go.Proofs.YtaepcecjblojjabDoor
