import Derived.Test.YtldacjpkblffbaaYib
namespace Go.Proofs.Ytldacjpkblffbaa
open Go.RowKit Gf2
set_option linter.unusedVariables false

theorem plays16_tables : Plays16 16 5 7 := fun k f K m n vS vF vD W h1 h2 hI => by
  have : k = 5 ∨ k = 6 ∨ k = 7 := by omega
  rcases this with rfl | rfl | rfl
  · exact tables16_whole f K m n vS vF vD W hI
  · exact tables16_part f K m n vS vF vD W hI
  · exact tables16_fresh f K m n vS vF vD W hI
set_option maxHeartbeats 2000000 in
set_option maxRecDepth 100000 in
theorem tablesLaw16 (a : Option Addr) (len cap : Nat) (w : World) (h : IsOps16 w a len cap) :
    Calls Try.prog 5 #[.slice a len cap] w fun e w' => e = .returned (.bool true) ∧ Below w.heap.size w w' := by
  have c1 := all16_tables 5 7 (by decide) plays16_tables a len cap w h
  clear h
  go_enter Try.func5, Try.ntmps5
  go_wp2_with (go_at_call 11; ((with_reducible refine (c1).mono ?_); (rintro e w2 ⟨rfl, hb⟩; have HB : Hid (Below w.heap.size w w2) := hb; clear hb)))
  go_ret
  exact ⟨rfl, HB.out⟩
end Go.Proofs.Ytldacjpkblffbaa
