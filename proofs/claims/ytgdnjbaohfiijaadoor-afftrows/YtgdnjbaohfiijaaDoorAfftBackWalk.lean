import Derived.Test.YtgdnjbaohfiijaaDoorAj6
import Derived.Test.YtgdnjbaohfiijaaDoorAof
namespace Go.Proofs.YtgdnjbaohfiijaaDoor
open Go.RowKit Gf2
set_option linter.unusedVariables false

/-- cut of no words. -/
theorem cut14_none_nums (most : Nat) : ¬ (2 : Int) ≤ 0 := by decide
/-- a list's beginning. -/
theorem Q6.head {w : World} {b o n cap c : Nat} {F : Nat → Nat} (h : Q6 w (.slice (some ⟨b, o, none⟩) n cap) n F) (h0 : 0 < n) (hc : c ≤ n) : Q6 w (.slice (some ⟨b, o, none⟩) c cap) c F := by
  obtain ⟨h1, h2, a, cap', e, h5, h6, h4⟩ := h
  cases e
  obtain ⟨b', o', e, hl, hcell⟩ := h4 h0
  cases e
  exact ⟨by omega, fun i hi => h2 i (by omega), _, _, rfl, by omega, h6, fun _ => ⟨b, o, rfl, hl, fun i hi => hcell i (by omega)⟩⟩
theorem Q6.drewN {w : World} {v : Value} {n : Nat} {F : Nat → Nat} (h : Q6 w v n F) (m : Nat) : Q6 (w.drewN m) v n F := by
  obtain ⟨h1, h2, a, cap, h3, h5, h6, h4⟩ := h
  exact ⟨h1, h2, a, cap, h3, h5, h6, h4⟩
theorem pow16 {c k : Nat} (h : c = 2 ^ k) (hc : c ≤ 65536) : k ≤ 16 := by
  rcases Nat.lt_or_ge 16 k with h9 | h9
  · have := Nat.pow_le_pow_right (n := 2) (by decide) (show 17 ≤ k from h9)
    omega
  · exact h9
end Go.Proofs.YtgdnjbaohfiijaaDoor
