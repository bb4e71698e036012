import Derived.Test.YthofhphlfgmklaaGreatMzbd
import Derived.Test.YthofhphlfgmklaaGreatMzbe
import Derived.Test.YthofhphlfgmklaaGreatMzae
import Derived.BigQuiet
namespace Go.Proofs.YthofhphlfgmklaaGreat
open Go.RowKit Gf2
set_option linter.unusedVariables false

/-- the product of s + t over all t below n but s. -/
def wg (n s : Nat) : Nat := pr n (fun t => if t = s then 1 else s ^^^ t)
theorem wg_lt (n s : Nat) : wg n s < 256 := pr_lt _ _
theorem wg_skip (n : Nat) : wg (n + 1) n = wg n n := by
  unfold wg
  show fm 285 (pr n _) (if n = n then 1 else n ^^^ n) = _
  rw [if_pos rfl, fld8.fm_one (pr_lt _ _)]
theorem wg_step {n s : Nat} (h : n ≠ s) : wg (n + 1) s = fm 285 (wg n s) (s ^^^ n) := by
  unfold wg
  show fm 285 (pr n _) (if n = s then 1 else s ^^^ n) = _
  rw [if_neg h]
end Go.Proofs.YthofhphlfgmklaaGreat
namespace Go.Proofs.YthofhphlfgmklaaGreat
open Go.RowKit Gf2
set_option linter.unusedVariables false

/-- Lagrange's factors. -/
def lgr (k : Nat) : Nat → Nat → Nat := fun j i => td (wg k (k + j)) (fm 285 (wg k i) ((k + j) ^^^ i))
end Go.Proofs.YthofhphlfgmklaaGreat
