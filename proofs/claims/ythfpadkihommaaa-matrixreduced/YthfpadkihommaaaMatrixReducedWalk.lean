import Derived.Test.YthfpadkihommaaaMrw
import Derived.Test.YthfpadkihommaaaMrx
namespace Go.Proofs.Ythfpadkihommaaa
open Go.RowKit Gf2
set_option linter.unusedVariables false

theorem red10_any (u : Value) {w : World} (hu : Lm9 w u) :
    Calls Try.prog 4 #[u] w fun e w' => e = .returned (.bool true) ∧ Below w.heap.size w w' := by
  obtain ⟨m, n, S, h, -, -⟩ := hu
  by_cases hf : Fm m n
  case neg => exact red10_a u m n S w h hf
  have h2 := h.square hf
  have hf2 : Fm m (fun _ => n 0) := ⟨hf.1, hf.2.1, hf.2.2.1, hf.2.2.2.1, fun _ _ => rfl⟩
  by_cases hc : m ≤ 64 ∧ n 0 ≤ 64
  case neg => exact red10_b u m (n 0) S w h2 hf2 (by omega)
  obtain ⟨h3, hS⟩ := h2.bdd
  exact red10_d u m (n 0) (bdd m (n 0) S) w h3 hf.1 hc.1 hf.2.2.1 hc.2 hS
end Go.Proofs.Ythfpadkihommaaa
