import Derived.Test.YthfpadkihommaaaMdwa
import Derived.Test.YthfpadkihommaaaMdwd
namespace Go.Proofs.Ythfpadkihommaaa
open Go.RowKit Gf2
set_option linter.unusedVariables false

theorem det10_any (u : Value) {w : World} (hu : Lm9 w u) (v : Value) (hv : Lm9 w v) :
    Calls Try.prog 5 #[u, v] w fun e w' => e = .returned (.bool true) ∧ Below w.heap.size w w' := by
  obtain ⟨m, n, S, h, -, -⟩ := hu
  obtain ⟨m', n', S', k, -, -⟩ := hv
  by_cases hf : Fm m n
  case neg => exact det10_a u v m m' n n' S S' w h k hf
  have h2 := h.square hf
  have hf2 : Fm m (fun _ => n 0) := ⟨hf.1, hf.2.1, hf.2.2.1, hf.2.2.2.1, fun _ _ => rfl⟩
  by_cases hc : n 0 = m ∧ m ≤ 32
  case neg => exact det10_b u v m (n 0) m' n' S S' w h2 k hf2 (by omega)
  rw [hc.1] at h2
  obtain ⟨h3, hS⟩ := h2.bdd
  by_cases h1 : m = 1
  · exact det10_c u v m m' n' (bdd m m S) S' w h3 k hf.1 hc.2 hS h1
  · exact det10_d u v m m' n' (bdd m m S) S' w h3 k hf.1 hc.2 hS (by have := hf.1; omega)
end Go.Proofs.Ythfpadkihommaaa
