import Derived.Test.YtdnhidachdjgaaaMkl
import Derived.Test.YtdnhidachdjgaaaMki
namespace Go.Proofs.Ytdnhidachdjgaaa
open Go.RowKit Gf2
set_option linter.unusedVariables false

theorem plays10_parts : Plays10 22 5 9 := fun k vA vB i j l m vR W h1 h2 hI => by
  have : k = 5 ∨ k = 6 ∨ k = 7 ∨ k = 8 ∨ k = 9 := by omega
  rcases this with rfl | rfl | rfl | rfl | rfl
  · exact parts10_mul 5 vA vB i j l m vR W hI
  · exact parts10_trans 6 vA vB i j l m vR W hI
  · exact parts10_sub 7 vA vB i j l m vR W hI
  · exact parts10_pick 8 vA vB i j l m vR W hI
  · exact parts10_aug 9 vA vB i j l m vR W hI rfl rfl rfl rfl
set_option maxHeartbeats 2000000 in
set_option maxRecDepth 100000 in
theorem matrixParts.walk (a : Option Addr) (len cap : Nat) (w : World) (h : IsOps10 w a len cap) :
    Calls Try.prog 4 #[.slice a len cap] w fun e w' => e = .returned (.bool true) ∧ Below w.heap.size w w' := by
  have c0 : Calls Try.prog 7 #[] w fun e w1 => e = .returned (.bool true) ∧ Calls Try.prog 8 #[.slice a len cap, .int .i64 5, .int .i64 9] w1 fun e w2 => e = .returned (.bool true) ∧ Hid (Below w.heap.size w w2) := by
    refine (awake10 w).mono fun e w1 ⟨he, b1⟩ => ⟨he, ?_⟩
    exact (all10_parts 5 9 (by decide) plays10_parts a len cap w1 (h.below b1)).mono fun e w2 ⟨he, b2⟩ => ⟨he, bthen10 b1 b2⟩
  clear h
  go_enter Try.func4, Try.ntmps4
  go_wp2_with (first | (go_at_call 7; ((with_reducible refine (c0).mono ?_); (rintro e w1 ⟨rfl, c1⟩))) | (go_at_call 8; ((with_reducible refine (c1).mono ?_); (rintro e w2 ⟨rfl, HB⟩))))
  go_ret
  exact ⟨rfl, HB.out⟩
end Go.Proofs.Ytdnhidachdjgaaa
