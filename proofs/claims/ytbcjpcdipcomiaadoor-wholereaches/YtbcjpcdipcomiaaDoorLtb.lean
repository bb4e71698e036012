import Derived.Test.YtbcjpcdipcomiaaDoorLta
namespace Go.Proofs.YtbcjpcdipcomiaaDoor
open Go.RowKit Gf2
set_option linter.unusedVariables false

/-- c blocks of one level, there. -/
def tob (i : Nat) : Nat → (Nat → Nat) → Nat → Nat
  | 0, F => F
  | c + 1, F => mlp (c * (2 * 2 ^ i)) i (2 ^ i) (tob i c F)
/-- the first i levels, there. -/
def tol (n : Nat) : Nat → (Nat → Nat) → Nat → Nat
  | 0, F => F
  | i + 1, F => tob i (n / (2 * 2 ^ i)) (tol n i F)
/-- c blocks of one level, back. -/
def fob (i : Nat) : Nat → (Nat → Nat) → Nat → Nat
  | 0, F => F
  | c + 1, F => dvp (c * (2 * 2 ^ i)) i (2 ^ i) (2 ^ i) (fob i c F)
/-- c levels from the top, back. -/
def fol (n k : Nat) : Nat → (Nat → Nat) → Nat → Nat
  | 0, F => F
  | c + 1, F => fob (k - 1 - c) (n / (2 * 2 ^ (k - 1 - c))) (fol n k c F)
theorem blocks {n k i : Nat} (hn : n = 2 ^ k) (hi : i < k) : n / (2 * 2 ^ i) * (2 * 2 ^ i) = n ∧ 0 < n / (2 * 2 ^ i) := by
  obtain ⟨d, rfl⟩ : ∃ d, k = i + 1 + d := ⟨k - (i + 1), by omega⟩
  have e : n = 2 ^ d * (2 * 2 ^ i) := by rw [hn, Nat.pow_add, Nat.pow_succ, Nat.mul_comm, Nat.mul_comm (2 ^ i) 2]
  have hp : 0 < 2 * 2 ^ i := by have := Nat.two_pow_pos i; omega
  rw [e, Nat.mul_div_cancel _ hp]
  exact ⟨rfl, Nat.two_pow_pos d⟩
theorem two_cast {i D : Nat} (h : D = 2 * 2 ^ i) (hD : D ≤ 65536) : wrap64 (2 * 2 ^ i) = (D : Int) := by
  have e : (2 * (2 : Int) ^ i) = ((2 * 2 ^ i : Nat) : Int) := by simp
  rw [e, ← h]; unfold wrap64; omega
theorem blk_nums {c C D n X Y : Nat} (hC : C * D = n) (hc : c < C) (hX : X = c * D) (hY : Y = X + D) (hD : 0 < D) (hn : n ≤ 65536) : X < Y ∧ Y ≤ n ∧ Y ≤ 131072 ∧ X < n ∧ Y = (c + 1) * D ∧ Y - X = D := by
  have h1 : (c + 1) * D ≤ C * D := Nat.mul_le_mul_right _ hc
  have h2 : (c + 1) * D = c * D + D := by rw [Nat.add_mul, Nat.one_mul]
  omega
theorem meas_up13 {n a b : Nat} (h : a < b) (hb : b ≤ n) : n - (intOf (Value.int .i64 (b : Int))).toNat < n - (intOf (Value.int .i64 (a : Int))).toNat := by simp [intOf]; omega
theorem meas_dn13 (i : Nat) : (intOf (Value.int .i64 ((i : Int) - 1)) + 1).toNat < (intOf (Value.int .i64 (i : Int)) + 1).toNat := by simp [intOf]
theorem wrap_dn13 {i : Nat} (h : i ≤ 8) : wrap64 ((i : Int) - 1) = (i : Int) - 1 := by unfold wrap64; omega
theorem step_sum13 {c i k : Nat} (h : c + (i + 1) = k) : c + 1 + i = k := by omega
theorem dn_eq13 {v : Int} {i : Nat} (h : v + 1 = ((i + 1 : Nat) : Int)) : v = (i : Int) := by omega
theorem dn_zero13 {v : Int} (h : v + 1 = ((0 : Nat) : Int)) : v = -1 := by omega
theorem lvl13 {c i k : Nat} (h : c + (i + 1) = k) : k - 1 - c = i ∧ i < k := by omega
theorem pow_le256 {k : Nat} (h : 2 ^ k ≤ 256) : k ≤ 8 := by
  apply Decidable.byContradiction
  intro hk
  have : 2 ^ 9 ≤ 2 ^ k := Nat.pow_le_pow_right (by decide) (by omega)
  omega
end Go.Proofs.YtbcjpcdipcomiaaDoor
