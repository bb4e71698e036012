import Derived.Test.YtbcjpcdipcomiaaDoorLra
namespace Go.Proofs.YtbcjpcdipcomiaaDoor
open Go.RowKit Gf2
set_option linter.unusedVariables false

/-- the product over the bits below T. -/
def bsv (j x : Nat) : Nat → Nat
  | 0 => 1
  | T + 1 => if j / 2 ^ T % 2 = 1 then fm 65581 (bsv j x T) (sv T x) else bsv j x T
theorem bsv_lt (j x T : Nat) : bsv j x T < 65536 := by
  induction T with
  | zero => exact (by decide : 1 < 65536)
  | succ T ih =>
    unfold bsv
    split
    · exact fm16_lt _ _
    · exact ih
/-- what Basis answers. -/
def bsn (j : Int) (x : Nat) : Nat := if 0 ≤ j ∧ j < 65536 then bsv j.toNat x 16 else 0
def bse (j : Int) : Nat := if 0 ≤ j ∧ j < 65536 then 0 else 31
end Go.Proofs.YtbcjpcdipcomiaaDoor
