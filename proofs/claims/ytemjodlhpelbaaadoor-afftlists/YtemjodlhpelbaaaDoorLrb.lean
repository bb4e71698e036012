import Derived.Test.YtemjodlhpelbaaaDoorLra
namespace Go.Proofs.YtemjodlhpelbaaaDoor
open Go.RowKit Gf2
set_option linter.unusedVariables false

/-- the product over the bits below T. -/
def bsv (j x : Nat) : Nat → Nat
  | 0 => 1
  | T + 1 => if j / 2 ^ T % 2 = 1 then fm 65581 (bsv j x T) (sv T x) else bsv j x T
theorem bsv_lt (j x T : Nat) : bsv j x T < 65536 := by
  induction T with
  | zero => exact (by decide : 1 < 65536)
  | succ T ih =>
    unfold bsv
    split
    · exact fm16_lt _ _
    · exact ih
/-- what Basis answers. -/
def bsn (j : Int) (x : Nat) : Nat := if 0 ≤ j ∧ j < 65536 then bsv j.toNat x 16 else 0
def bse (j : Int) : Nat := if 0 ≤ j ∧ j < 65536 then 0 else 31
theorem vanish13b (i x : Nat) (hi : i ≤ 16) (hx : x < 65536) (w : World) (hC : Cant w) :
    Calls Tryd.prog 31 #[.int .i64 (i : Int), .int .u16 (x : Int)] w fun e w' => e = .returned (.int .u16 (sv i x : Nat)) ∧ Below w.heap.size w w' := (vanish13 i x hi hx w hC).mono fun e w' ⟨h1, h2⟩ => ⟨h1, by rw [h2]; exact Below.refl _ _⟩
end Go.Proofs.YtemjodlhpelbaaaDoor
