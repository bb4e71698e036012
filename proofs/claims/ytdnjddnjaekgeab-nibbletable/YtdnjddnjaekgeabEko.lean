import Derived.Test.YtdnjddnjaekgeabEkd
namespace Go.Proofs.Ytdnjddnjaekgeab
open Go.RowKit Gf2
set_option linter.unusedVariables false

theorem pl_full5 {F S : Nat → Nat} {n i : Nat} (hi : i < n) : pl F 0 n S i = S i := by have := pl_in (F := F) (o := 0) (S := S) hi; rwa [Nat.zero_add] at this
set_option maxHeartbeats 1000000 in
set_option maxRecDepth 100000 in
theorem kmul_lens (p : Addr) (lo hi c n m : Nat) (a x : Option Addr) (ca cx : Nat) (w : World) (hk : Ker w p lo hi) (hnm : n ≠ m) :
    Calls Try.prog 10 #[.pointer (some p), .int .u8 (c : Int), .slice a n ca, .slice x m cx] w fun e w' => e = .returned (.int .i64 6) ∧ w' = w := by
  go_enter Try.func10, Try.ntmps10
  go_wp2
  go_ret
  exact ⟨rfl, rfl⟩
set_option maxHeartbeats 1000000 in
set_option maxRecDepth 100000 in
theorem kmul_nil (c : Int) (u v : Value) (w : World) :
    Calls Try.prog 10 #[.pointer none, .int .u8 c, u, v] w fun e w' => e = .returned (.int .i64 1) ∧ w' = w := by
  go_enter Try.func10, Try.ntmps10
  go_wp2
  go_ret
  exact ⟨rfl, rfl⟩
set_option maxHeartbeats 1000000 in
set_option maxRecDepth 100000 in
theorem kadd_lens (p : Addr) (lo hi c n m : Nat) (a x : Option Addr) (ca cx : Nat) (w : World) (hk : Ker w p lo hi) (hnm : n ≠ m) :
    Calls Try.prog 13 #[.pointer (some p), .int .u8 (c : Int), .slice a n ca, .slice x m cx] w fun e w' => e = .returned (.int .i64 6) ∧ w' = w := by
  go_enter Try.func13, Try.ntmps13
  go_wp2
  go_ret
  exact ⟨rfl, rfl⟩
set_option maxHeartbeats 1000000 in
set_option maxRecDepth 100000 in
theorem kadd_nil (c : Int) (u v : Value) (w : World) :
    Calls Try.prog 13 #[.pointer none, .int .u8 c, u, v] w fun e w' => e = .returned (.int .i64 1) ∧ w' = w := by
  go_enter Try.func13, Try.ntmps13
  go_wp2
  go_ret
  exact ⟨rfl, rfl⟩
end Go.Proofs.Ytdnjddnjaekgeab
