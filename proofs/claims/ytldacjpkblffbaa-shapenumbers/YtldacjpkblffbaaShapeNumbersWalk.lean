import Derived.Test.YtldacjpkblffbaaYhq
namespace Go.Proofs.Ytldacjpkblffbaa
open Go.RowKit Gf2
set_option linter.unusedVariables false

theorem plays16_numbers : Plays16 15 1 4 := fun k f K m n vS vF vD W h1 h2 hI => by
  have : k = 1 ∨ k = 2 ∨ k = 3 ∨ k = 4 := by omega
  rcases this with rfl | rfl | rfl | rfl
  · exact numbers16_pow f K m n vS vF vD W
  · exact numbers16_params f K m n vS vF vD W hI.hK
  · exact numbers16_uses f K m n vS vF vD W
  · exact numbers16_len f K m n vS vF vD W hI.hK
set_option maxHeartbeats 2000000 in
set_option maxRecDepth 100000 in
theorem numbersLaw16 (a : Option Addr) (len cap : Nat) (w : World) (h : IsOps16 w a len cap) :
    Calls Try.prog 4 #[.slice a len cap] w fun e w' => e = .returned (.bool true) ∧ Below w.heap.size w w' := by
  have c1 := all16_numbers 1 4 (by decide) plays16_numbers a len cap w h
  clear h
  go_enter Try.func4, Try.ntmps4
  go_wp2_with (go_at_call 11; ((with_reducible refine (c1).mono ?_); (rintro e w2 ⟨rfl, hb⟩; have HB : Hid (Below w.heap.size w w2) := hb; clear hb)))
  go_ret
  exact ⟨rfl, HB.out⟩
end Go.Proofs.Ytldacjpkblffbaa
