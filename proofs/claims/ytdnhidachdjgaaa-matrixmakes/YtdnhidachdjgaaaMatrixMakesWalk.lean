import Derived.Test.YtdnhidachdjgaaaMkd
namespace Go.Proofs.Ytdnhidachdjgaaa
open Go.RowKit Gf2
set_option linter.unusedVariables false

theorem plays10_makes : Plays10 21 1 4 := fun k vA vB i j l m vR W h1 h2 hI => by
  have : k = 1 ∨ k = 2 ∨ k = 3 ∨ k = 4 := by omega
  rcases this with rfl | rfl | rfl | rfl
  · exact makes10_check vA vB i j l m vR W hI
  · exact makes10_ident 2 vA vB i j l m vR W hI
  · exact makes10_vander 3 vA vB i j l m vR W hI
  · exact makes10_cauchy 4 vA vB i j l m vR W hI rfl rfl rfl
set_option maxHeartbeats 2000000 in
set_option maxRecDepth 100000 in
theorem matrixMakes.walk (a : Option Addr) (len cap : Nat) (w : World) (h : IsOps10 w a len cap) :
    Calls Try.prog 3 #[.slice a len cap] w fun e w' => e = .returned (.bool true) ∧ Below w.heap.size w w' := by
  have c0 : Calls Try.prog 7 #[] w fun e w1 => e = .returned (.bool true) ∧ Calls Try.prog 8 #[.slice a len cap, .int .i64 1, .int .i64 4] w1 fun e w2 => e = .returned (.bool true) ∧ Hid (Below w.heap.size w w2) := by
    refine (awake10 w).mono fun e w1 ⟨he, b1⟩ => ⟨he, ?_⟩
    exact (all10_makes 1 4 (by decide) plays10_makes a len cap w1 (h.below b1)).mono fun e w2 ⟨he, b2⟩ => ⟨he, bthen10 b1 b2⟩
  clear h
  go_enter Try.func3, Try.ntmps3
  go_wp2_with (first | (go_at_call 7; ((with_reducible refine (c0).mono ?_); (rintro e w1 ⟨rfl, c1⟩))) | (go_at_call 8; ((with_reducible refine (c1).mono ?_); (rintro e w2 ⟨rfl, HB⟩))))
  go_ret
  exact ⟨rfl, HB.out⟩
end Go.Proofs.Ytdnhidachdjgaaa
