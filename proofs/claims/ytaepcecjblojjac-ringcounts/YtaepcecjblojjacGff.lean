import Derived.Test.YtaepcecjblojjacGfc
namespace Go.Proofs.Ytaepcecjblojjac
namespace Gf2

/-- what one polynomial adds to Gauss's count. -/
def term (d p : Nat) : Nat := if d % (len p - 1) = 0 then (if irr p = true then len p - 1 else 0) else 0
def sumF (d : Nat) : Nat → Nat
  | 0 => 0
  | k + 1 => sumF d k + term d (k + 2)

theorem sum_gauss : ∀ d : Fin 11, 1 ≤ d.val → sumF d.val (2 ^ (d.val + 1) - 2) = 2 ^ d.val := by decide +kernel

theorem sumF_le {d : Nat} : ∀ k, k + 2 ≤ 2 ^ 64 → sumF d k ≤ 64 * k := by
  intro k
  induction k with
  | zero => intro _; simp [sumF]
  | succ k ih =>
    intro h
    have := ih (by omega)
    have hl : len (k + 2) ≤ 64 := len_le.2 (by omega)
    have : term d (k + 2) ≤ 64 := by
      unfold term
      split
      · split <;> omega
      · omega
    simp only [sumF]; omega
end Gf2
end Go.Proofs.Ytaepcecjblojjac
