import Derived.Test.YtdnjddnjaekgeabEbz
namespace Go.Proofs.Ytdnjddnjaekgeab
open Go.RowKit Gf2
set_option linter.unusedVariables false

/-- a kernel at p, in the blocks from lo to hi. -/
def Ker (w : World) (p : Addr) (lo hi : Nat) : Prop := p = ⟨lo, 0, none⟩ ∧ lo < hi ∧ hi ≤ w.heap.size ∧ ∃ A, w.heap[lo]? = some (.cells A 43 (0, 0)) ∧ A.size = 65536 ∧ ∀ a b, a < 256 → b < 256 → A[a * 256 + b]? = some (.int .u8 (fm 285 a b : Nat))
theorem Ker.hi {w : World} {p : Addr} {lo hi : Nat} (h : Ker w p lo hi) : hi ≤ w.heap.size := h.2.2.1
theorem Ker.lo {w : World} {p : Addr} {lo hi : Nat} (h : Ker w p lo hi) : lo < hi := h.2.1
theorem Ker.keep {w w' : World} {p : Addr} {lo hi : Nat} (h : Ker w p lo hi) (hs : hi ≤ w'.heap.size) (hb : ∀ b, lo ≤ b → b < hi → w'.heap[b]? = w.heap[b]?) : Ker w' p lo hi := by
  obtain ⟨h1, h2, h3, A, h4, h5⟩ := h
  exact ⟨h1, h2, hs, A, (hb lo (Nat.le_refl _) h2).trans h4, h5⟩
theorem Ker.drewN {w : World} {p : Addr} {lo hi : Nat} (h : Ker w p lo hi) (m : Nat) : Ker (w.drewN m) p lo hi := h

end Go.Proofs.Ytdnjddnjaekgeab
