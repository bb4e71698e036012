import Derived.Test.YtlblkckglelbdaaGreatMwan
import Derived.Test.YtlblkckglelbdaaGreatMwae
import Derived.Test.YtlblkckglelbdaaGreatMwaq
namespace Go.Proofs.YtlblkckglelbdaaGreat
open Go.RowKit Gf2
set_option linter.unusedVariables false

section
variable {lo hi m k : Nat} {w w' : World} {v : Value} {B : Nat → Nat} {S T : Nat → Nat → Nat}
end
/-- a matrix has form. -/
def Fm (m : Nat) (n : Nat → Nat) : Prop := 1 ≤ m ∧ m ≤ 256 ∧ 1 ≤ n 0 ∧ n 0 ≤ 512 ∧ ∀ i, i < m → n i = n 0

end Go.Proofs.YtlblkckglelbdaaGreat
namespace Go.Proofs.YtlblkckglelbdaaGreat
open Go.RowKit Gf2
set_option linter.unusedVariables false

/-- the cells of a Cauchy matrix of k columns. -/
def cau (k : Nat) : Nat → Nat → Nat := fun r c => ti ((k + r) ^^^ c)
end Go.Proofs.YtlblkckglelbdaaGreat
