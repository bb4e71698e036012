import Derived.Test.YtoofoamondepoaaDoorLcd
namespace Go.Proofs.YtoofoamondepoaaDoor
open Go.RowKit Gf2
set_option linter.unusedVariables false

/-- the first i rounds of Derivative. -/
def dvs : Nat → (Nat → Nat) → Nat → Nat
  | 0, _, _ => 0
  | i + 1, F, j => dvs i F j ^^^ (if j / 2 ^ i % 2 = 0 then F (j + 2 ^ i) else 0)
theorem up_lt {j i k : Nat} (hi : i < k) (hj : j < 2 ^ k) (hb : j / 2 ^ i % 2 = 0) : j + 2 ^ i < 2 ^ k := by
  have e : j + 2 ^ i = j ^^^ 2 ^ i ∨ True := .inr trivial
  obtain ⟨d, hd⟩ : ∃ d, k = i + 1 + d := ⟨k - (i + 1), by omega⟩
  subst hd
  have h1 := Nat.div_add_mod j (2 ^ i)
  have h2 := Nat.mod_lt j (Nat.two_pow_pos i)
  rw [Nat.pow_add, Nat.pow_succ] at hj ⊢
  obtain ⟨q, hq⟩ : ∃ q, j / 2 ^ i = 2 * q := ⟨j / 2 ^ i / 2, by omega⟩
  rw [hq] at h1
  generalize 2 ^ i = A at *
  generalize 2 ^ d = D at *
  have h3 : q < D := by
    apply Decidable.byContradiction
    intro h
    have : A * 2 * D ≤ A * 2 * q := Nat.mul_le_mul_left _ (by omega)
    have e2 : A * (2 * q) = A * 2 * q := by rw [Nat.mul_assoc]
    omega
  have h4 : A * 2 * (q + 1) ≤ A * 2 * D := Nat.mul_le_mul_left _ h3
  have e2 : A * (2 * q) = A * 2 * q := by rw [Nat.mul_assoc]
  have e3 : A * 2 * (q + 1) = A * 2 * q + A * 2 := by rw [Nat.mul_add, Nat.mul_one]
  omega
theorem dvs_lt {k : Nat} {F : Nat → Nat} (hF : ∀ j, j < 2 ^ k → F j < 65536) : ∀ i, i ≤ k → ∀ j, j < 2 ^ k → dvs i F j < 65536 := by
  intro i
  induction i with
  | zero => intro _ j _; exact Nat.zero_lt_succ _
  | succ i ih =>
    intro hi j hj
    refine Nat.xor_lt_two_pow (n := 16) (ih (by omega) j hj) ?_
    split
    · next h => exact hF _ (up_lt (by omega) hj h)
    · decide
end Go.Proofs.YtoofoamondepoaaDoor
