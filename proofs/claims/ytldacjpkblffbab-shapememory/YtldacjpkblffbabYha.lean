import Derived.Test.YtldacjpkblffbabKofa
namespace Go.Proofs.Ytldacjpkblffbab
open Go.RowKit Gf2
set_option linter.unusedVariables false

-- layer 16: the numbers
/-- the least power of two that is n or more (n 1 or more). -/
def p2 (n : Nat) : Nat := 2 ^ Nat.log2 (2 * n - 1)
theorem p2_lo {n : Nat} (h : 1 ≤ n) : n ≤ p2 n := by
  have := Nat.lt_log2_self (n := 2 * n - 1)
  unfold p2
  rw [Nat.pow_succ] at this
  omega
theorem p2_hi {n : Nat} (h : 1 ≤ n) : p2 n < 2 * n := by
  have := Nat.log2_self_le (n := 2 * n - 1) (by omega)
  unfold p2
  omega
theorem p2_only {n j : Nat} (h : 1 ≤ n) (h1 : n ≤ 2 ^ j) (h2 : 2 ^ j < 2 * n) : 2 ^ j = p2 n := by
  unfold p2
  congr 1
  exact ((Nat.log2_eq_iff (by omega)).2 ⟨by omega, by rw [Nat.pow_succ]; omega⟩).symm
theorem p2_mono {a b : Nat} (h : 1 ≤ a) (hab : a ≤ b) : p2 a ≤ p2 b := by
  have h1 := p2_hi h
  have h2 := p2_lo (n := b) (by omega)
  unfold p2 at *
  rcases Nat.lt_or_ge (Nat.log2 (2 * b - 1)) (Nat.log2 (2 * a - 1)) with hl | hl
  · exfalso
    have := Nat.pow_le_pow_right (n := 2) (by decide) hl
    rw [Nat.pow_succ] at this
    omega
  · exact Nat.pow_le_pow_right (by decide) hl
theorem p2_top {n : Nat} (h : 1 ≤ n) (h2 : n ≤ 65536) : p2 n ≤ 65536 := by
  have h1 := p2_hi h
  unfold p2 at *
  rcases Nat.lt_or_ge 16 (Nat.log2 (2 * n - 1)) with hl | hl
  · exfalso
    have := Nat.pow_le_pow_right (n := 2) (by decide) hl
    omega
  · exact Nat.pow_le_pow_right (n := 2) (by decide) hl
/-- what Pow2 answers. -/
def p2z (m : Int) : Int := if m < 1 ∨ 65536 < m then 0 else (p2 m.toNat : Int)
def p2e (m : Int) : Int := if m < 1 ∨ 65536 < m then 7 else 0
/-- what room answers. -/
def rm16 (d p q : Int) : Int := if d < 1 ∨ p < 1 ∨ q - d < p then 4 else 0
/-- what Params answers. -/
def prm (f k m : Int) : Int := if f = 0 ∨ f = 1 then rm16 k m 256 else if f = 2 then rm16 k (p2z m) 65536 else 2
/-- valid parameters. -/
structure Pv (f k m : Int) : Prop where
  fam : f = 0 ∨ f = 1 ∨ f = 2
  hk : 1 ≤ k
  hm : 1 ≤ m
  sum : k + m ≤ 65536
  small : f ≠ 2 → k + m ≤ 256
  long : f = 2 → k + (p2 m.toNat : Int) ≤ 65536
theorem prm_ok {f k m : Int} : prm f k m = 0 ↔ Pv f k m := by
  unfold prm rm16 p2z
  constructor
  · intro h
    by_cases h1 : f = 0 ∨ f = 1
    · rw [if_pos h1] at h
      split at h
      · cases h
      · exact ⟨by omega, by omega, by omega, by omega, fun _ => by omega, fun _ => by omega⟩
    · rw [if_neg h1] at h
      by_cases h2 : f = 2
      · rw [if_pos h2] at h
        by_cases h3 : m < 1 ∨ 65536 < m
        · rw [if_pos h3, if_pos (by omega)] at h; cases h
        · rw [if_neg h3] at h
          split at h
          · cases h
          · have := p2_lo (n := m.toNat) (by omega)
            exact ⟨by omega, by omega, by omega, by omega, fun _ => by omega, fun _ => by omega⟩
      · rw [if_neg h2] at h; cases h
  · intro h
    obtain ⟨h1, h2, h3, h4, h5, h6⟩ := h
    by_cases e : f = 2
    · have := h6 e
      have hl := p2_lo (n := m.toNat) (by omega)
      have e9 : ¬ (m < 1 ∨ 65536 < m) := by omega
      rw [if_neg (by omega), if_pos e, if_neg e9, if_neg (by omega)]
    · have := h5 e
      rw [if_pos (by omega), if_neg (by omega)]
/-- what Uses answers. -/
def us16 (f b : Int) : Int := if f = 0 ∨ f = 1 then (if b = 0 ∨ b = 1 ∨ b = 2 then 0 else 3) else if f = 2 then (if b = 3 ∨ b = 4 then 0 else 3) else 2
/-- the length of the shards for n bytes. -/
def ln16 (f : Int) (k n : Nat) : Nat := if f = 2 then (n + k - 1) / k + (n + k - 1) / k % 2 else (n + k - 1) / k
end Go.Proofs.Ytldacjpkblffbab
