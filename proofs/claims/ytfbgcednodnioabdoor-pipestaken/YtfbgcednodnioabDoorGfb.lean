import Derived.Test.YtfbgcednodnioabDoorGfa
namespace Go.Proofs.YtfbgcednodnioabDoor
namespace Gf2

theorem mulF_mod_pow (n k : Nat) : ∀ y x, mulF k y (x % 2 ^ n) % 2 ^ n = mulF k y x % 2 ^ n := by
  induction k with
  | zero => intros; rfl
  | succ k ih =>
    intro y x
    simp only [mulF]
    rw [Nat.xor_mod_two_pow, Nat.xor_mod_two_pow, Nat.mul_mod 2, ih, ← Nat.mul_mod]
    split <;> simp

theorem mul_mod_pow (n y x : Nat) : mul y (x % 2 ^ n) % 2 ^ n = mul y x % 2 ^ n := mulF_mod_pow _ _ _ _

/-- what the program's product answers: it keeps 64 bits. -/
def prod (a b : Nat) : Nat := mul b a % 18446744073709551616

theorem prod_start (a b : Nat) : prod a b = (0 ^^^ mul b a) % 18446744073709551616 := by simp [prod]
theorem prod_odd {y x p : Nat} (h : y % 2 = 1) : (p ^^^ mul y x) % 18446744073709551616 = ((p ^^^ x) ^^^ mul (y / 2) (x * 2 % 18446744073709551616)) % 18446744073709551616 := by
  rw [mul_step y x, if_pos h, ← mul_two]
  have e := mul_mod_pow 64 (y / 2) (x * 2)
  have e2 : (2 : Nat) ^ 64 = 18446744073709551616 := rfl
  rw [e2] at e
  have d := fun a b => Nat.xor_mod_two_pow (a := a) (b := b) (n := 64)
  rw [e2] at d
  rw [d (p ^^^ x), e, ← d, Nat.mul_comm x 2, Nat.xor_assoc]
theorem prod_even {y x p : Nat} (h : ¬ y % 2 = 1) : (p ^^^ mul y x) % 18446744073709551616 = (p ^^^ mul (y / 2) (x * 2 % 18446744073709551616)) % 18446744073709551616 := by
  rw [mul_step y x, if_neg h, ← mul_two, Nat.zero_xor]
  have e := mul_mod_pow 64 (y / 2) (x * 2)
  have e2 : (2 : Nat) ^ 64 = 18446744073709551616 := rfl
  rw [e2] at e
  have d := fun a b => Nat.xor_mod_two_pow (a := a) (b := b) (n := 64)
  rw [e2] at d
  rw [d p (mul (y / 2) (x * 2 % 18446744073709551616)), e, ← d, Nat.mul_comm x 2]
theorem prod_end {p x : Nat} (h : p < 18446744073709551616) : (p ^^^ mul 0 x) % 18446744073709551616 = p := by
  rw [zero_mul, Nat.xor_zero]; omega
theorem xor_lt64 {a b : Nat} (ha : a < 18446744073709551616) (hb : b < 18446744073709551616) : a ^^^ b < 18446744073709551616 :=
  Nat.xor_lt_two_pow (n := 64) ha hb
theorem prod_lt (a b : Nat) : prod a b < 18446744073709551616 := Nat.mod_lt _ (by decide)
/-- where the degrees allow: the whole product. -/
theorem prod_eq {a b : Nat} (h : len a + len b ≤ 65) : prod a b = mul a b := by
  unfold prod
  rw [mul_comm b a]
  apply Nat.mod_eq_of_lt
  have := len_mul_le a b
  exact (len_le (n := 64)).1 (by omega)
theorem prod_eq' {a b n m : Nat} (ha : a < 2 ^ n) (hb : b < 2 ^ m) (h : n + m ≤ 65) : prod a b = mul a b :=
  prod_eq (by have := len_le.2 ha; have := len_le.2 hb; omega)

/-- division, as the program goes: a whole relation of one round. -/
def DivRel (a b q r : Nat) : Prop := a = mul q b ^^^ r ∧ (∀ i, i + len b ≤ len r → q.testBit i = false) ∧ q < 18446744073709551616 ∧ r < 18446744073709551616

theorem div_start {a b : Nat} (ha : a < 18446744073709551616) : DivRel a b 0 a :=
  ⟨by simp [zero_mul], fun i _ => by simp, by decide, ha⟩

theorem or_two_pow {q d : Nat} (h : q.testBit d = false) : q ||| 2 ^ d = q ^^^ 2 ^ d := by
  apply Nat.eq_of_testBit_eq
  intro i
  rw [Nat.testBit_or, Nat.testBit_xor, Nat.testBit_two_pow]
  by_cases e : d = i
  · subst e; simp [h]
  · simp [e]

theorem div_round {a b q r : Nat} (hb : b ≠ 0) (h : DivRel a b q r) (hl : len b ≤ len r) :
    DivRel a b (q ||| 2 ^ (len r - len b)) (r ^^^ b * 2 ^ (len r - len b)) ∧ len (r ^^^ b * 2 ^ (len r - len b)) < len r
    ∧ b * 2 ^ (len r - len b) < 18446744073709551616 ∧ 2 ^ (len r - len b) < 18446744073709551616 := by
  obtain ⟨h1, h2, h3, h4⟩ := h
  have hr : len r ≤ 64 := len_le.2 h4
  have hlb := len_pos.2 hb
  have hd := div_drop hb hl
  have e : len (b * 2 ^ (len r - len b)) = len r := by
    rw [← mul_shift, len_mul (by have := Nat.two_pow_pos (len r - len b); omega) hb, len_two_pow]; omega
  have l1 : b * 2 ^ (len r - len b) < 18446744073709551616 := (len_le (n := 64)).1 (by omega)
  have l2 : 2 ^ (len r - len b) < 18446744073709551616 := (len_le (n := 64)).1 (by rw [len_two_pow]; omega)
  refine ⟨⟨?_, ?_, ?_, ?_⟩, hd, l1, l2⟩
  · rw [or_two_pow (h2 _ (by omega)), xor_mul, mul_shift, h1]
    have : mul q b ^^^ b * 2 ^ (len r - len b) ^^^ (r ^^^ b * 2 ^ (len r - len b)) = mul q b ^^^ r ^^^ (b * 2 ^ (len r - len b) ^^^ b * 2 ^ (len r - len b)) := by ac_rfl
    rw [this, Nat.xor_self, Nat.xor_zero]
  · intro i hi
    rw [Nat.testBit_or, Nat.testBit_two_pow, h2 i (by omega)]
    have : len r - len b ≠ i := by omega
    simp [this]
  · exact Nat.or_lt_two_pow (n := 64) h3 l2
  · exact xor_lt64 h4 l1

theorem div_end {a b q r : Nat} (h : DivRel a b q r) (hl : len r < len b) : q = pdiv a b ∧ r = pmod a b := div_unique h.1 hl

theorem pmod_lt (a : Nat) {b : Nat} (hb : b ≠ 0) (h : b < 18446744073709551616) : pmod a b < 18446744073709551616 := by
  have := len_pmod a hb
  have : len b ≤ 64 := len_le.2 h
  exact (len_le (n := 64)).1 (by omega)

theorem len_pdiv {a b : Nat} (hb : b ≠ 0) : len (pdiv a b) + len b ≤ max (len a) (len b) + 1 := by
  by_cases hq : pdiv a b = 0
  · rw [hq, len_zero]; omega
  · have h := div_spec a hb
    have hr := len_pmod a hb
    have l := len_mul hq hb
    have lq := len_pos.2 hq
    have e : len (mul (pdiv a b) b ^^^ pmod a b) = len (mul (pdiv a b) b) := by
      rw [Nat.xor_comm]; exact len_xor_of_lt (by omega)
    rw [← h] at e
    omega
theorem pdiv_lt (a b : Nat) (ha : a < 18446744073709551616) (hb0 : b ≠ 0) : pdiv a b < 18446744073709551616 := by
  have h := len_pdiv (a := a) hb0
  have h1 : len a ≤ 64 := len_le.2 ha
  have h2 := len_pos.2 hb0
  apply (len_le (n := 64)).1
  by_cases hq : pdiv a b = 0
  · rw [hq, len_zero]; omega
  · by_cases hc : len b ≤ len a
    · omega
    · have : len (pdiv a b) ≤ 1 := by omega
      omega

end Gf2
end Go.Proofs.YtfbgcednodnioabDoor
