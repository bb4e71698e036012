import Derived.Test.YtbcjpcdipcomiaaDoorLrb
namespace Go.Proofs.YtbcjpcdipcomiaaDoor
open Go.RowKit Gf2
set_option linter.unusedVariables false

-- Eval
/-- the basis polynomial of number j at x. -/
def xx (x j : Nat) : Nat := bsv j x 16
theorem xx_lt (x j : Nat) : xx x j < 65536 := bsv_lt _ _ _
theorem bsv_0 (x T : Nat) : bsv 0 x T = 1 := by
  induction T with
  | zero => rfl
  | succ T ih => rw [bsv, if_neg (by simp), ih]
theorem bsv_more {j i : Nat} (hj : j < 2 ^ i) (x : Nat) : ∀ d, bsv j x (i + d) = bsv j x i := by
  intro d
  induction d with
  | zero => rfl
  | succ d ih =>
    rw [show i + (d + 1) = (i + d) + 1 from rfl, bsv, if_neg, ih]
    have : j / 2 ^ (i + d) = 0 := Nat.div_eq_of_lt (Nat.lt_of_lt_of_le hj (Nat.pow_le_pow_right (by decide) (Nat.le_add_right i d)))
    rw [this]
    decide
theorem bit_low {j i t : Nat} (ht : t < i) : (2 ^ i + j) / 2 ^ t % 2 = j / 2 ^ t % 2 := by
  obtain ⟨d, rfl⟩ : ∃ d, i = t + (d + 1) := ⟨i - t - 1, by omega⟩
  rw [Nat.pow_add, Nat.mul_add_div (Nat.two_pow_pos t), Nat.pow_succ]
  omega
theorem bsv_low {j i : Nat} (x : Nat) : ∀ t, t ≤ i → bsv (2 ^ i + j) x t = bsv j x t := by
  intro t
  induction t with
  | zero => intro _; rfl
  | succ t ih =>
    intro ht
    rw [bsv, bsv, ih (by omega), bit_low (by omega)]
theorem xx_add {j i : Nat} (hi : i < 16) (hj : j < 2 ^ i) (x : Nat) : xx x (2 ^ i + j) = fm 65581 (xx x j) (sv i x) := by
  unfold xx
  have h1 : 2 ^ i + j < 2 ^ (i + 1) := by rw [Nat.pow_succ]; omega
  have e1 := bsv_more h1 x (16 - (i + 1))
  rw [show i + 1 + (16 - (i + 1)) = 16 by omega] at e1
  have e2 := bsv_more hj x (16 - i)
  rw [show i + (16 - i) = 16 by omega] at e2
  have hb : (2 ^ i + j) / 2 ^ i % 2 = 1 := by
    rw [Nat.add_div_left _ (Nat.two_pow_pos i), Nat.div_eq_of_lt hj]
  rw [e1, e2, bsv, if_pos hb, bsv_low x i (Nat.le_refl _)]
theorem xx_0 (x : Nat) : xx x 0 = 1 := bsv_0 x 16
/-- the sum of the first n products. -/
def sxx (x : Nat) (F : Nat → Nat) : Nat → Nat
  | 0 => 0
  | n + 1 => sxx x F n ^^^ fm 65581 (F n) (xx x n)
theorem sxx_lt (x : Nat) (F : Nat → Nat) (n : Nat) : sxx x F n < 65536 := by
  induction n with
  | zero => exact Nat.zero_lt_succ _
  | succ n ih => exact Nat.xor_lt_two_pow (n := 16) ih (fm16_lt _ _)
theorem sxx_split {i : Nat} (hi : i < 16) (x : Nat) (F : Nat → Nat) : ∀ m, m ≤ 2 ^ i → sxx x F (2 ^ i + m) = sxx x F (2 ^ i) ^^^ fm 65581 (sv i x) (sxx x (fun j => F (2 ^ i + j)) m) := by
  intro m
  induction m with
  | zero => intro _; rw [show sxx x (fun j => F (2 ^ i + j)) 0 = 0 from rfl, fld16.fm_zero, Nat.xor_zero]; rfl
  | succ m ih =>
    intro hm
    rw [show 2 ^ i + (m + 1) = (2 ^ i + m) + 1 from rfl, sxx, ih (by omega), xx_add hi (by omega), sxx, fld16.fm_xor, Nat.xor_assoc]
    congr 2
    rw [← fld16.fm_assoc, fm_comm 65581 _ (sv i x)]
theorem sxx_one {x : Nat} {F : Nat → Nat} (h : F 0 < 65536) : sxx x F 1 = F 0 := by
  show 0 ^^^ fm 65581 (F 0) (xx x 0) = F 0
  rw [xx_0, fld16.fm_one h, Nat.zero_xor]
theorem sxx_congr {x n : Nat} {F G : Nat → Nat} (h : ∀ i, i < n → F i = G i) : sxx x F n = sxx x G n := by
  induction n with
  | zero => rfl
  | succ n ih => rw [sxx, sxx, ih (fun i hi => h i (by omega)), h n (Nat.lt_succ_self n)]
/-- how value cuts a list. -/
theorem cut_nums {n i : Nat} (hn : 1 < n) (hn2 : n ≤ 65536) (hi : i + 1 = len (n - 1)) : i < 16 ∧ 2 ^ i < n ∧ n ≤ 2 ^ i + 2 ^ i := by
  have h1 : n - 1 < 2 ^ (i + 1) := len_le.1 (by omega)
  have h2 : 2 ^ i ≤ n - 1 := by
    apply Decidable.byContradiction
    intro h
    have : len (n - 1) ≤ i := len_le.2 (by omega)
    omega
  rw [Nat.pow_succ] at h1
  refine ⟨?_, by omega, by omega⟩
  apply Decidable.byContradiction
  intro h
  have : 2 ^ 16 ≤ 2 ^ i := Nat.pow_le_pow_right (by decide) (by omega)
  omega
theorem len_up (m : Nat) (h : m ≠ 0) : ∃ i, i + 1 = len m := by
  have := len_pos.2 h
  exact ⟨len m - 1, by omega⟩
/-- the table of the s_i. -/
def At13 (w : World) (g x : Nat) : Prop := g < w.heap.size ∧ ∀ i, i < 16 → w.cell? ⟨g, i, none⟩ = some (.int .u16 (sv i x : Nat))
theorem wrap_sub1 {n : Nat} (h : 1 < n) (hn : n ≤ 65536) : ∃ m : Nat, m = n - 1 ∧ wrap64 ((n : Int) - 1) = (m : Int) ∧ (m : Int) ≤ 65536 := ⟨n - 1, rfl, by unfold wrap64; omega, by omega⟩
theorem wrap_len1 {i m : Nat} (h : i + 1 = len m) (hi : i < 16) : wrap64 (((len m : Nat) : Int) - 1) = (i : Int) := by rw [← h]; unfold wrap64; omega
end Go.Proofs.YtbcjpcdipcomiaaDoor
