import Derived.Test.YthfpadkihommaaaMj7
import Derived.Test.YthfpadkihommaaaKofa
namespace Go.Proofs.Ythfpadkihommaaa
open Go.RowKit Gf2
set_option linter.unusedVariables false

theorem inverse10_any (u : Value) {w : World} (hu : Lm9 w u) (v : Value) (hv : Lm9 w v) :
    Calls Try.prog 3 #[u, v] w fun e w' => e = .returned (.bool true) ∧ Below w.heap.size w w' := by
  obtain ⟨m, n, S, h, -, -⟩ := hu
  obtain ⟨m', n', S', k, -, -⟩ := hv
  by_cases hf : Fm m n
  case neg => exact inverse10_a u v m m' n n' S S' w h k hf
  have h2 := h.square hf
  have hf2 : Fm m (fun _ => n 0) := ⟨hf.1, hf.2.1, hf.2.2.1, hf.2.2.2.1, fun _ _ => rfl⟩
  by_cases hc : n 0 = m ∧ m ≤ 64
  case neg => exact inverse10_b u v m (n 0) m' n' S S' w h2 k hf2 (by omega)
  rw [hc.1] at h2
  obtain ⟨h3, hS⟩ := h2.bdd
  have ht := (red_elm (m := m) hS m).tm
  by_cases htm : (elm m (bdd m m S) m).t = m
  case neg => exact inverse10_c u v m m' n' (bdd m m S) S' w h3 k hf.1 hc.2 hS (by omega)
  by_cases hx : Fm m' n'
  case neg => exact inverse10_d u v m m' n' (bdd m m S) S' w h3 k hf.1 hc.2 hS htm hx
  by_cases hne : m' = m
  case neg => exact inverse10_e u v m m' n' (bdd m m S) S' w h3 k hf.1 hc.2 hS htm hx hne
  subst hne
  obtain ⟨k3, hS'⟩ := (k.square hx).bdd
  exact inverse10_f u v m' (n' 0) (bdd m' m' S) (bdd m' (n' 0) S') w h3 k3 hf.1 hc.2 hS htm hS' ⟨hx.1, hx.2.1, hx.2.2.1, hx.2.2.2.1, fun _ _ => rfl⟩
end Go.Proofs.Ythfpadkihommaaa
