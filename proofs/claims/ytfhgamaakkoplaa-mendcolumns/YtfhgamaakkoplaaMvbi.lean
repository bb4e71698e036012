import Derived.Test.YtfhgamaakkoplaaMvbh
import Derived.Test.YtfhgamaakkoplaaMvau
import Derived.Test.YtfhgamaakkoplaaMvbb
import Derived.BigQuiet
import Derived.Test.YtfhgamaakkoplaaMvbe
namespace Go.Proofs.Ytfhgamaakkoplaa
open Go.RowKit Gf2
set_option linter.unusedVariables false

theorem Qi.take {w : World} {a : Option Addr} {n cap k : Nat} {F : Nat → Int} (h : Qi w (.slice a n cap) n F) (hk : k ≤ n) : Qi w (.slice a k cap) k F := by
  obtain ⟨h1, -, a', cap', e, h5, h6, h4⟩ := h
  cases e
  refine ⟨by omega, trivial, _, _, rfl, by omega, h6, fun h0 => ?_⟩
  obtain ⟨b, o, e, hl, hc⟩ := h4 (by omega)
  exact ⟨b, o, e, hl, fun i hi => hc i (by omega)⟩
end Go.Proofs.Ytfhgamaakkoplaa
