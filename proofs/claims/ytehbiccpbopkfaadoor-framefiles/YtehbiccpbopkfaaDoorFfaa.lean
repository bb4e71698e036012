
namespace Go.Proofs.YtehbiccpbopkfaaDoor
namespace Gf2

/-- the number of bits: the degree and one more; 0 of 0. -/
def len (a : Nat) : Nat := if a = 0 then 0 else a.log2 + 1

theorem len_le {a n : Nat} : len a ≤ n ↔ a < 2 ^ n := by
  unfold len
  by_cases h : a = 0
  · simp [h, Nat.two_pow_pos]
  · rw [if_neg h, ← Nat.log2_lt h]; omega

theorem lt_len {a n : Nat} : n < len a ↔ 2 ^ n ≤ a := by
  have := @len_le a n
  omega

theorem len_zero : len 0 = 0 := rfl
theorem len_eq_zero {a : Nat} : len a = 0 ↔ a = 0 := by
  unfold len; by_cases h : a = 0 <;> simp [h]
theorem len_pos {a : Nat} : 0 < len a ↔ a ≠ 0 := by
  have := @len_eq_zero a; omega
theorem lt_two_pow_len (a : Nat) : a < 2 ^ len a := len_le.1 (Nat.le_refl _)
theorem len_eq {a n : Nat} (h1 : 2 ^ n ≤ a) (h2 : a < 2 ^ (n + 1)) : len a = n + 1 := by
  have := lt_len.2 h1; have := len_le.2 h2; omega

theorem len_xor_le (a b : Nat) : len (a ^^^ b) ≤ max (len a) (len b) := by
  rw [len_le]
  apply Nat.xor_lt_two_pow
  · exact len_le.1 (by omega)
  · exact len_le.1 (by omega)

theorem len_two_mul {a : Nat} (h : a ≠ 0) : len (2 * a) = len a + 1 := by
  have hp := len_pos.2 h
  have h1 : 2 ^ (len a - 1) ≤ a := lt_len.1 (by omega)
  have h2 := lt_two_pow_len a
  have e : len a = (len a - 1) + 1 := by omega
  apply len_eq
  · rw [e, Nat.pow_succ]; omega
  · rw [Nat.pow_succ]; omega

theorem len_half {a : Nat} : len (a / 2) = len a - 1 := by
  by_cases h : a / 2 = 0
  · rw [h, len_zero]
    have : len a ≤ 1 := len_le.2 (by omega)
    omega
  · have h1 := len_two_mul h
    have h2 : len a = len (2 * (a / 2)) := by
      rw [h1]
      apply len_eq
      · have : 2 ^ len (a / 2) ≤ 2 * (a / 2) := lt_len.1 (by omega)
        omega
      · have := lt_two_pow_len (a / 2)
        rw [Nat.pow_succ]; omega
    omega

theorem two_mul_xor (a b : Nat) : 2 * (a ^^^ b) = 2 * a ^^^ 2 * b := by
  have := Nat.shiftLeft_xor_distrib (a := a) (b := b) (i := 1)
  simpa [Nat.shiftLeft_eq, Nat.mul_comm] using this

theorem bit_split (a : Nat) : a = a % 2 ^^^ 2 * (a / 2) := by
  apply Nat.eq_of_testBit_eq
  intro i
  rw [Nat.testBit_xor]
  cases i with
  | zero => simp [Nat.testBit_zero]
  | succ i =>
    have h1 : (a % 2).testBit (i + 1) = false := Nat.testBit_lt_two_pow (by
      have : 2 ^ 1 ≤ 2 ^ (i + 1) := Nat.pow_le_pow_right (by omega) (by omega)
      omega)
    rw [h1, Nat.testBit_succ, Nat.testBit_succ]
    simp

def mulF : Nat → Nat → Nat → Nat
  | 0, _, _ => 0
  | n + 1, a, b => (if a % 2 = 1 then b else 0) ^^^ 2 * mulF n (a / 2) b

/-- the product without carry. -/
def mul (a b : Nat) : Nat := mulF (len a) a b

theorem mulF_zero (n b : Nat) : mulF n 0 b = 0 := by
  induction n with
  | zero => rfl
  | succ n ih => simp [mulF, ih]

theorem mulF_stable (n : Nat) : ∀ (m a b : Nat), len a ≤ n → n ≤ m → mulF m a b = mulF n a b := by
  induction n with
  | zero =>
    intro m a b h _
    have : a = 0 := len_eq_zero.1 (by omega)
    subst this; rw [mulF_zero, mulF_zero]
  | succ n ih =>
    intro m a b h hm
    cases m with
    | zero => omega
    | succ m =>
      simp only [mulF]
      rw [ih m (a / 2) b (by rw [len_half]; omega) (by omega)]

theorem mul_eqF {a n : Nat} (b : Nat) (h : len a ≤ n) : mul a b = mulF n a b :=
  (mulF_stable (len a) n a b (Nat.le_refl _) h).symm

theorem mul_step (a b : Nat) : mul a b = (if a % 2 = 1 then b else 0) ^^^ 2 * mul (a / 2) b := by
  rw [mul_eqF (n := len a + 1) b (by omega), mul_eqF (a := a / 2) (n := len a) b (by rw [len_half]; omega)]
  rfl

theorem zero_mul (b : Nat) : mul 0 b = 0 := rfl
theorem one_mul (b : Nat) : mul 1 b = b := by
  rw [mul_step]; simp [zero_mul]

theorem mulF_xor_right (n : Nat) : ∀ a b c, mulF n a (b ^^^ c) = mulF n a b ^^^ mulF n a c := by
  induction n with
  | zero => intros; simp [mulF]
  | succ n ih =>
    intro a b c
    simp only [mulF]
    rw [ih, two_mul_xor]
    split
    · ac_rfl
    · simp

theorem mul_xor (a b c : Nat) : mul a (b ^^^ c) = mul a b ^^^ mul a c := mulF_xor_right _ _ _ _

theorem mulF_xor_left (n : Nat) : ∀ a b c, mulF n (a ^^^ b) c = mulF n a c ^^^ mulF n b c := by
  induction n with
  | zero => intros; simp [mulF]
  | succ n ih =>
    intro a b c
    simp only [mulF]
    rw [Nat.xor_div_two, ih, two_mul_xor]
    have hm := Nat.xor_mod_two_eq_one (a := a) (b := b)
    have e : (if (a ^^^ b) % 2 = 1 then c else 0) = (if a % 2 = 1 then c else 0) ^^^ (if b % 2 = 1 then c else 0) := by
      by_cases h1 : a % 2 = 1 <;> by_cases h2 : b % 2 = 1 <;> simp [h1, h2, hm]
    rw [e]; ac_rfl

theorem xor_mul (a b c : Nat) : mul (a ^^^ b) c = mul a c ^^^ mul b c := by
  have h := len_xor_le a b
  rw [mul_eqF (n := max (len a) (len b)) c h, mul_eqF (a := a) (n := max (len a) (len b)) c (by omega), mul_eqF (a := b) (n := max (len a) (len b)) c (by omega), mulF_xor_left]

theorem mulF_two (n : Nat) : ∀ a b, mulF n a (2 * b) = 2 * mulF n a b := by
  induction n with
  | zero => intros; rfl
  | succ n ih =>
    intro a b
    simp only [mulF]
    rw [ih, two_mul_xor]
    split <;> simp

theorem mul_two (a b : Nat) : mul a (2 * b) = 2 * mul a b := mulF_two _ _ _
theorem two_mul' (a b : Nat) : mul (2 * a) b = 2 * mul a b := by
  rw [mul_step]; simp [show 2 * a % 2 = 0 by omega, show 2 * a / 2 = a by omega]

theorem mul_zero (a : Nat) : mul a 0 = 0 := by
  have := mul_xor a 0 0
  simpa using this

theorem mulF_one (n : Nat) : ∀ a, len a ≤ n → mulF n a 1 = a := by
  induction n with
  | zero => intro a h; have : a = 0 := len_eq_zero.1 (by omega); subst this; rfl
  | succ n ih =>
    intro a h
    simp only [mulF]
    rw [ih (a / 2) (by rw [len_half]; omega)]
    have := bit_split a
    rcases Nat.mod_two_eq_zero_or_one a with h | h <;> simp [h] at this ⊢ <;> omega

theorem mul_one (a : Nat) : mul a 1 = a := mulF_one _ _ (Nat.le_refl _)

theorem mul_comm (a : Nat) : ∀ b, mul a b = mul b a := by
  induction a using Nat.strongRecOn with
  | _ a ih =>
    intro b
    by_cases h : a = 0
    · subst h; rw [zero_mul, mul_zero]
    · rw [mul_step a b, ih (a / 2) (by omega) b]
      conv => rhs; rw [bit_split a, mul_xor, mul_two]
      congr 1
      rcases Nat.mod_two_eq_zero_or_one a with h | h <;> simp [h, mul_zero, mul_one]

theorem mul_assoc (a : Nat) : ∀ b c, mul (mul a b) c = mul a (mul b c) := by
  induction a using Nat.strongRecOn with
  | _ a ih =>
    intro b c
    by_cases h : a = 0
    · subst h; simp [zero_mul]
    · rw [mul_step a b, mul_step a (mul b c), xor_mul, two_mul', ih (a / 2) (by omega)]
      congr 1
      split <;> simp [zero_mul]

/-- division: quotient and remainder. -/
def divF : Nat → Nat → Nat → Nat × Nat
  | 0, a, _ => (0, a)
  | n + 1, a, b => if len a < len b then (0, a) else
      let s := divF n (a ^^^ b * 2 ^ (len a - len b)) b
      (2 ^ (len a - len b) ^^^ s.1, s.2)
def pmod (a b : Nat) : Nat := (divF (len a) a b).2

end Gf2
end Go.Proofs.YtehbiccpbopkfaaDoor
namespace Go.Proofs.YtehbiccpbopkfaaDoor
namespace Gf2

/-- the product of two residues. -/
def fm (p a b : Nat) : Nat := pmod (mul a b) p
variable {p d : Nat}

-- powers
-- inverses
-- the shift
-- logarithms
end Gf2
end Go.Proofs.YtehbiccpbopkfaaDoor
