import Derived.Test.YtldacjpkblffbaaYif
namespace Go.Proofs.Ytldacjpkblffbaa
open Go.RowKit Gf2
set_option linter.unusedVariables false

theorem plays16_moves : Plays16 17 8 9 := fun k f K m n vS vF vD W h1 h2 hI => by
  have : k = 8 ∨ k = 9 := by omega
  rcases this with rfl | rfl
  · exact moves16_split f K m n vS vF vD W hI
  · exact moves16_join f K m n vS vF vD W hI
set_option maxHeartbeats 2000000 in
set_option maxRecDepth 100000 in
theorem movesLaw16 (a : Option Addr) (len cap : Nat) (w : World) (h : IsOps16 w a len cap) :
    Calls Try.prog 6 #[.slice a len cap] w fun e w' => e = .returned (.bool true) ∧ Below w.heap.size w w' := by
  have c1 := all16_moves 8 9 (by decide) plays16_moves a len cap w h
  clear h
  go_enter Try.func6, Try.ntmps6
  go_wp2_with (go_at_call 11; ((with_reducible refine (c1).mono ?_); (rintro e w2 ⟨rfl, hb⟩; have HB : Hid (Below w.heap.size w w2) := hb; clear hb)))
  go_ret
  exact ⟨rfl, HB.out⟩
end Go.Proofs.Ytldacjpkblffbaa
