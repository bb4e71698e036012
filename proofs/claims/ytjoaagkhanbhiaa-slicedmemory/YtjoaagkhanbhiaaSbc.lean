import Derived.Test.YtjoaagkhanbhiaaSbb
namespace Go.Proofs.Ytjoaagkhanbhiaa
open Go.RowKit Gf2
set_option linter.unusedVariables false

theorem Rmy.low {w w' W : World} {g C n : Nat} {S : Nat → Nat} (h : Rmy w w' g C n S) (hb : Below w'.heap.size w' W) : ∃ F, Rw W g C F ∧ ∀ i, i < n + 15 → F i = rmy n S i := by
  obtain ⟨F, h1, h2⟩ := h.row
  exact ⟨F, rw_below h1 hb, h2⟩
/-- the piece reads as the list. -/
theorem Rmy.rb {w w' W : World} {g C n : Nat} {S : Nat → Nat} (h : Rmy w w' g C n S) (hb : Below w'.heap.size w' W) : Rb W (.slice (some ⟨g, 3, none⟩) n (C - 3)) n S := by
  obtain ⟨F, h1, h2⟩ := h.low hb
  have hC := h.1
  have hbig := h1.1
  exact (h1.rb (o := 3) (n := n) (cap := C - 3) (by omega) (by omega) (by omega)).congr (fun i hi => by rw [h2 _ (by omega), rmy_mid hi])
theorem below_self (w : World) (m : Nat) : Below w.heap.size w (w.drewN m) := below_drewN (Below.refl _ _) m
end Go.Proofs.Ytjoaagkhanbhiaa
