import Derived.Test.YtfbgcednodnioabDoorWalkg
namespace Go.Proofs.YtfbgcednodnioabDoor
open Go.RowKit Gf2

theorem bit8_eq (a i : Nat) : a / 2 ^ i % 2 = (a.testBit i).toNat := by
  rw [Nat.testBit_eq_decide_div_mod_eq]
  have := Nat.mod_two_eq_zero_or_one (a / 2 ^ i)
  rcases this with h | h <;> simp [h]
theorem low_step (b k : Nat) : b % 2 ^ (k + 1) = b % 2 ^ k ^^^ (if b / 2 ^ k % 2 = 1 then 2 ^ k else 0) := by
  apply Nat.eq_of_testBit_eq
  intro i
  rw [Nat.testBit_xor, Nat.testBit_mod_two_pow, Nat.testBit_mod_two_pow, bit8_eq]
  by_cases h : i = k
  · subst h
    cases hb : b.testBit i <;> simp
  · have h3 : (if (b.testBit k).toNat = 1 then 2 ^ k else 0).testBit i = false := by
      split
      · rw [Nat.testBit_two_pow]; simp; omega
      · simp
    rw [h3]
    by_cases h1 : i < k
    · simp [h1, show i < k + 1 by omega]
    · simp [h1, show ¬ i < k + 1 by omega]
theorem mul_low (a b k : Nat) : mul (b % 2 ^ (k + 1)) a = mul (b % 2 ^ k) a ^^^ (if b / 2 ^ k % 2 = 1 then a * 2 ^ k else 0) := by
  rw [low_step, xor_mul]
  congr 1
  split
  · exact mul_shift k a
  · exact zero_mul a
theorem red_step {A b i c : Nat} (hb : b ≠ 0) (hl : len A ≤ i + 1) (hd : len b ≤ i + 1) (e : pmod A b = c) (hbit : A / 2 ^ i % 2 = 1) :
    pmod (A ^^^ b * 2 ^ (i + 1 - len b)) b = c ∧ len (A ^^^ b * 2 ^ (i + 1 - len b)) ≤ i := by
  have hbl := len_pos.2 hb
  have hA1 : i < len A := by
    apply lt_len_of_testBit
    rw [bit8_eq] at hbit
    cases hc : A.testBit i with
    | true => rfl
    | false => rw [hc] at hbit; cases hbit
  have el : len (b * 2 ^ (i + 1 - len b)) = i + 1 := by
    rw [← mul_shift, len_mul (by have := Nat.two_pow_pos (i + 1 - len b); omega) hb, len_two_pow]; omega
  have hne : b * 2 ^ (i + 1 - len b) ≠ 0 := by intro h0; rw [h0, len_zero] at el; omega
  refine ⟨?_, ?_⟩
  · rw [pmod_xor_dist _ _ hb, e]
    have : pmod (b * 2 ^ (i + 1 - len b)) b = 0 := (pmod_eq_zero hb).2 ⟨2 ^ (i + 1 - len b), (mul_shift _ _).symm⟩
    rw [this, Nat.xor_zero]
  · have := len_xor_eq (a := A) (b := b * 2 ^ (i + 1 - len b)) (by omega) hne
    omega
theorem red_not {A i : Nat} (hl : len A ≤ i + 1) (hbit : A / 2 ^ i % 2 ≠ 1) : len A ≤ i := by
  rcases Nat.lt_or_ge i (len A) with h2 | h2
  · exfalso; apply hbit
    rw [bit8_eq, testBit_top (by omega)]; rfl
  · exact h2

theorem and8 (b k : Nat) (hb : b < 256) : bits BinOp.and IntKind.u8 ((b : Int) / 2 ^ k) 1 = ((b / 2 ^ k % 2 : Nat) : Int) := by
  have e : ((b : Int) / 2 ^ k) = ((b / 2 ^ k : Nat) : Int) := by simp
  rw [e]
  have h := u8_and_nat (b / 2 ^ k) 1 (Nat.lt_of_le_of_lt (Nat.div_le_self _ _) hb) (by decide)
  rw [nat_mask1] at h
  exact h
theorem and64 (b k : Nat) (hb : b < 9223372036854775808) : bits BinOp.and IntKind.i64 ((b : Int) / 2 ^ k) 1 = ((b / 2 ^ k % 2 : Nat) : Int) := by
  have e : ((b : Int) / 2 ^ k) = ((b / 2 ^ k : Nat) : Int) := by simp
  rw [e]
  have h := i64_and_nat (b / 2 ^ k) 1 (Nat.lt_of_le_of_lt (Nat.div_le_self _ _) hb) (by decide)
  rw [nat_mask1] at h
  exact h

theorem shl_xor {P a k : Nat} (hP : P < 65536) (hk : a * 2 ^ k < 65536) :
    bits BinOp.xor IntKind.i64 (P : Int) (wrap64 ((a : Int) * 2 ^ k)) = ((P ^^^ a * 2 ^ k : Nat) : Int) ∧ P ^^^ a * 2 ^ k < 65536 := by
  have e : ((a : Int) * 2 ^ k) = ((a * 2 ^ k : Nat) : Int) := by simp
  have e2 : wrap64 ((a * 2 ^ k : Nat) : Int) = ((a * 2 ^ k : Nat) : Int) := by unfold wrap64; omega
  rw [e, e2, i64_xor_nat _ _ (by omega) (by omega)]
  exact ⟨rfl, Nat.xor_lt_two_pow (n := 16) hP hk⟩
theorem shl_lt {a k : Nat} (ha : a < 256) (hk : k ≤ 8) : a * 2 ^ k < 65536 := by
  have h : 2 ^ k ≤ 2 ^ 8 := Nat.pow_le_pow_right (by decide) hk
  have : a * 2 ^ k ≤ 255 * 2 ^ 8 := Nat.mul_le_mul (by omega) h
  omega
theorem shl_285 {k : Nat} (hk : k ≤ 7) : 285 * 2 ^ k < 65536 := by
  have h : 2 ^ k ≤ 2 ^ 7 := Nat.pow_le_pow_right (by decide) hk
  have : 285 * 2 ^ k ≤ 285 * 2 ^ 7 := Nat.mul_le_mul (Nat.le_refl _) h
  omega

end Go.Proofs.YtfbgcednodnioabDoor
