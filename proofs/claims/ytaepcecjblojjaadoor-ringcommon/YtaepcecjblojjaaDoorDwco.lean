import Derived.Test.YtaepcecjblojjaaDoorDbez
import Derived.Test.YtaepcecjblojjaaDoorDall
namespace Go.Proofs.YtaepcecjblojjaaDoor
open Go.RowKit Gf2

theorem common_any (k : Int) (x y z : Nat) (s : ByteArray) (w : World) (hx : x < 18446744073709551616) (hy : y < 18446744073709551616) :
    Calls Tryd.prog 11 #[.agg #[.int .i64 k, .int .u64 (x : Int), .int .u64 (y : Int), .int .u64 (z : Int), .string s]] w fun e w' => e = .returned (.bool true) ∧ Below w.heap.size w w' := by
  by_cases h4 : k = 4
  · subst h4; exact common_gcd x y z s w hx hy
  · exact common_bezout k x y z s w (by simpa using h4)

set_option maxHeartbeats 1000000 in
theorem plays_common : PlaysOk 4 5 := by
  intro k x y z s w h1 h2 hx hy hz hs
  have c1 := fun w => common_any k x y z s w hx hy
  have hk : k = 4 ∨ k = 5 := by omega
  rcases hk with rfl | rfl
  all_goals
    go_enter Tryd.func23, Tryd.ntmps23
    go_wp2_with (go_at_call 11; with_reducible refine (c1 _).mono ?_; rintro e w1 ⟨rfl, hb1⟩)
    go_ret
    exact ⟨rfl, ((Below.refl _ _).alloc (Nat.le_refl _) _).trans (hb1.mono (by simp))⟩

set_option maxHeartbeats 1000000 in
theorem ringCommon_any (a : Option Addr) (len cap : Nat) (w : World) (h : IsOps w a len cap) :
    Calls Tryd.prog 4 #[.slice a len cap] w fun e w' => e = .returned (.bool true) ∧ Below w.heap.size w w' := by
  have c1 : Calls Tryd.prog 11 #[.agg #[.int .i64 5, .int .u64 6, .int .u64 5, .int .u64 0, .string { data := #[] }]] w fun e w' => e = .returned (.bool true) ∧ Below w.heap.size w w' := common_bezout 5 6 5 0 _ w (by decide)
  have c2 : ∀ w, Calls Tryd.prog 12 #[.int .u64 6, .int .u64 5] w fun e w' => e = .returned (.int .u64 3) ∧ w' = w := fun w => by
    have h := gcd_nat 6 5 w (by decide) (by decide)
    rw [show pgcd 6 5 = 3 by decide] at h
    exact h
  go_enter Tryd.func4, Tryd.ntmps4
  go_wp2_with (first | (go_at_call 11; with_reducible refine c1.mono ?_; rintro e w1 ⟨rfl, hb1⟩) | (go_at_call 12; with_reducible refine (c2 _).mono ?_; rintro e w2 ⟨rfl, rfl⟩) | (go_at_call 10; with_reducible refine (all_any 4 5 plays_common a len cap _ (h.below hb1)).mono ?_; rintro e w3 ⟨rfl, hb3⟩))
  go_ret
  exact ⟨rfl, hb1.trans (hb3.mono hb1.size)⟩
end Go.Proofs.YtaepcecjblojjaaDoor
