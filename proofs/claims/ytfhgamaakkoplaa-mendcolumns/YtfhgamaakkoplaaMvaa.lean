
namespace Go.Proofs.Ytfhgamaakkoplaa
namespace Gf2

theorem xor_eq_zero {a b : Nat} (h : a ^^^ b = 0) : a = b := by
  have := congrArg (a ^^^ ·) h
  simp only [← Nat.xor_assoc, Nat.xor_self, Nat.zero_xor, Nat.xor_zero] at this
  exact this.symm

/-- the number of bits: the degree and one more; 0 of 0. -/
def len (a : Nat) : Nat := if a = 0 then 0 else a.log2 + 1

theorem len_le {a n : Nat} : len a ≤ n ↔ a < 2 ^ n := by
  unfold len
  by_cases h : a = 0
  · simp [h, Nat.two_pow_pos]
  · rw [if_neg h, ← Nat.log2_lt h]; omega

theorem lt_len {a n : Nat} : n < len a ↔ 2 ^ n ≤ a := by
  have := @len_le a n
  omega

theorem len_zero : len 0 = 0 := rfl
theorem len_one : len 1 = 1 := by decide
theorem len_eq_zero {a : Nat} : len a = 0 ↔ a = 0 := by
  unfold len; by_cases h : a = 0 <;> simp [h]
theorem len_pos {a : Nat} : 0 < len a ↔ a ≠ 0 := by
  have := @len_eq_zero a; omega
theorem lt_two_pow_len (a : Nat) : a < 2 ^ len a := len_le.1 (Nat.le_refl _)
theorem len_eq {a n : Nat} (h1 : 2 ^ n ≤ a) (h2 : a < 2 ^ (n + 1)) : len a = n + 1 := by
  have := lt_len.2 h1; have := len_le.2 h2; omega

theorem testBit_top {a n : Nat} (h : len a = n + 1) : a.testBit n = true := by
  have h1 : 2 ^ n ≤ a := lt_len.1 (by omega)
  have h2 : a < 2 ^ (n + 1) := len_le.1 (by omega)
  rw [Nat.testBit_eq_decide_div_mod_eq]
  have : a / 2 ^ n = 1 := by
    have h3 : a / 2 ^ n < 2 := by
      rw [Nat.div_lt_iff_lt_mul (Nat.two_pow_pos _)]; rw [Nat.pow_succ] at h2; omega
    have h4 : 1 ≤ a / 2 ^ n := by
      rw [Nat.le_div_iff_mul_le (Nat.two_pow_pos _)]; omega
    omega
  simp [this]

theorem testBit_above {a n : Nat} (h : len a ≤ n) : a.testBit n = false :=
  Nat.testBit_lt_two_pow (len_le.1 h)

theorem lt_len_of_testBit {a n : Nat} (h : a.testBit n = true) : n < len a := by
  rcases Nat.lt_or_ge n (len a) with h1 | h1
  · exact h1
  · rw [testBit_above h1] at h; cases h

theorem len_xor_le (a b : Nat) : len (a ^^^ b) ≤ max (len a) (len b) := by
  rw [len_le]
  apply Nat.xor_lt_two_pow
  · exact len_le.1 (by omega)
  · exact len_le.1 (by omega)

theorem len_xor_lt {a b n : Nat} (ha : len a ≤ n) (hb : len b ≤ n) : len (a ^^^ b) ≤ n := by
  have := len_xor_le a b; omega

theorem len_xor_of_lt {a b : Nat} (h : len a < len b) : len (a ^^^ b) = len b := by
  have h1 := len_xor_le a b
  have h2 : (a ^^^ b).testBit (len b - 1) = true := by
    rw [Nat.testBit_xor, testBit_above (by omega), testBit_top (n := len b - 1) (by omega)]; rfl
  have := lt_len_of_testBit h2
  omega

/-- two of one length: the sum is shorter. -/
theorem len_xor_eq {a b : Nat} (h : len a = len b) (h0 : b ≠ 0) : len (a ^^^ b) < len b := by
  have hp := len_pos.2 h0
  rcases Nat.lt_or_ge (len (a ^^^ b)) (len b) with h1 | h1
  · exact h1
  · have h2 := len_xor_le a b
    have h3 : (a ^^^ b).testBit (len b - 1) = true := testBit_top (by omega)
    rw [Nat.testBit_xor, testBit_top (n := len b - 1) (by omega), testBit_top (n := len b - 1) (by omega)] at h3
    cases h3

theorem len_two_mul {a : Nat} (h : a ≠ 0) : len (2 * a) = len a + 1 := by
  have hp := len_pos.2 h
  have h1 : 2 ^ (len a - 1) ≤ a := lt_len.1 (by omega)
  have h2 := lt_two_pow_len a
  have e : len a = (len a - 1) + 1 := by omega
  apply len_eq
  · rw [e, Nat.pow_succ]; omega
  · rw [Nat.pow_succ]; omega

theorem len_half {a : Nat} : len (a / 2) = len a - 1 := by
  by_cases h : a / 2 = 0
  · rw [h, len_zero]
    have : len a ≤ 1 := len_le.2 (by omega)
    omega
  · have h1 := len_two_mul h
    have h2 : len a = len (2 * (a / 2)) := by
      rw [h1]
      apply len_eq
      · have : 2 ^ len (a / 2) ≤ 2 * (a / 2) := lt_len.1 (by omega)
        omega
      · have := lt_two_pow_len (a / 2)
        rw [Nat.pow_succ]; omega
    omega

theorem two_mul_xor (a b : Nat) : 2 * (a ^^^ b) = 2 * a ^^^ 2 * b := by
  have := Nat.shiftLeft_xor_distrib (a := a) (b := b) (i := 1)
  simpa [Nat.shiftLeft_eq, Nat.mul_comm] using this

theorem bit_split (a : Nat) : a = a % 2 ^^^ 2 * (a / 2) := by
  apply Nat.eq_of_testBit_eq
  intro i
  rw [Nat.testBit_xor]
  cases i with
  | zero => simp [Nat.testBit_zero]
  | succ i =>
    have h1 : (a % 2).testBit (i + 1) = false := Nat.testBit_lt_two_pow (by
      have : 2 ^ 1 ≤ 2 ^ (i + 1) := Nat.pow_le_pow_right (by omega) (by omega)
      omega)
    rw [h1, Nat.testBit_succ, Nat.testBit_succ]
    simp

def mulF : Nat → Nat → Nat → Nat
  | 0, _, _ => 0
  | n + 1, a, b => (if a % 2 = 1 then b else 0) ^^^ 2 * mulF n (a / 2) b

/-- the product without carry. -/
def mul (a b : Nat) : Nat := mulF (len a) a b

theorem mulF_zero (n b : Nat) : mulF n 0 b = 0 := by
  induction n with
  | zero => rfl
  | succ n ih => simp [mulF, ih]

theorem mulF_stable (n : Nat) : ∀ (m a b : Nat), len a ≤ n → n ≤ m → mulF m a b = mulF n a b := by
  induction n with
  | zero =>
    intro m a b h _
    have : a = 0 := len_eq_zero.1 (by omega)
    subst this; rw [mulF_zero, mulF_zero]
  | succ n ih =>
    intro m a b h hm
    cases m with
    | zero => omega
    | succ m =>
      simp only [mulF]
      rw [ih m (a / 2) b (by rw [len_half]; omega) (by omega)]

theorem mul_eqF {a n : Nat} (b : Nat) (h : len a ≤ n) : mul a b = mulF n a b :=
  (mulF_stable (len a) n a b (Nat.le_refl _) h).symm

theorem mul_step (a b : Nat) : mul a b = (if a % 2 = 1 then b else 0) ^^^ 2 * mul (a / 2) b := by
  rw [mul_eqF (n := len a + 1) b (by omega), mul_eqF (a := a / 2) (n := len a) b (by rw [len_half]; omega)]
  rfl

theorem zero_mul (b : Nat) : mul 0 b = 0 := rfl
theorem one_mul (b : Nat) : mul 1 b = b := by
  rw [mul_step]; simp [zero_mul]

theorem mulF_xor_right (n : Nat) : ∀ a b c, mulF n a (b ^^^ c) = mulF n a b ^^^ mulF n a c := by
  induction n with
  | zero => intros; simp [mulF]
  | succ n ih =>
    intro a b c
    simp only [mulF]
    rw [ih, two_mul_xor]
    split
    · ac_rfl
    · simp

theorem mul_xor (a b c : Nat) : mul a (b ^^^ c) = mul a b ^^^ mul a c := mulF_xor_right _ _ _ _

theorem mulF_xor_left (n : Nat) : ∀ a b c, mulF n (a ^^^ b) c = mulF n a c ^^^ mulF n b c := by
  induction n with
  | zero => intros; simp [mulF]
  | succ n ih =>
    intro a b c
    simp only [mulF]
    rw [Nat.xor_div_two, ih, two_mul_xor]
    have hm := Nat.xor_mod_two_eq_one (a := a) (b := b)
    have e : (if (a ^^^ b) % 2 = 1 then c else 0) = (if a % 2 = 1 then c else 0) ^^^ (if b % 2 = 1 then c else 0) := by
      by_cases h1 : a % 2 = 1 <;> by_cases h2 : b % 2 = 1 <;> simp [h1, h2, hm]
    rw [e]; ac_rfl

theorem xor_mul (a b c : Nat) : mul (a ^^^ b) c = mul a c ^^^ mul b c := by
  have h := len_xor_le a b
  rw [mul_eqF (n := max (len a) (len b)) c h, mul_eqF (a := a) (n := max (len a) (len b)) c (by omega), mul_eqF (a := b) (n := max (len a) (len b)) c (by omega), mulF_xor_left]

theorem mulF_two (n : Nat) : ∀ a b, mulF n a (2 * b) = 2 * mulF n a b := by
  induction n with
  | zero => intros; rfl
  | succ n ih =>
    intro a b
    simp only [mulF]
    rw [ih, two_mul_xor]
    split <;> simp

theorem mul_two (a b : Nat) : mul a (2 * b) = 2 * mul a b := mulF_two _ _ _
theorem two_mul' (a b : Nat) : mul (2 * a) b = 2 * mul a b := by
  rw [mul_step]; simp [show 2 * a % 2 = 0 by omega, show 2 * a / 2 = a by omega]

theorem mul_zero (a : Nat) : mul a 0 = 0 := by
  have := mul_xor a 0 0
  simpa using this

theorem mulF_one (n : Nat) : ∀ a, len a ≤ n → mulF n a 1 = a := by
  induction n with
  | zero => intro a h; have : a = 0 := len_eq_zero.1 (by omega); subst this; rfl
  | succ n ih =>
    intro a h
    simp only [mulF]
    rw [ih (a / 2) (by rw [len_half]; omega)]
    have := bit_split a
    rcases Nat.mod_two_eq_zero_or_one a with h | h <;> simp [h] at this ⊢ <;> omega

theorem mul_one (a : Nat) : mul a 1 = a := mulF_one _ _ (Nat.le_refl _)

theorem mul_comm (a : Nat) : ∀ b, mul a b = mul b a := by
  induction a using Nat.strongRecOn with
  | _ a ih =>
    intro b
    by_cases h : a = 0
    · subst h; rw [zero_mul, mul_zero]
    · rw [mul_step a b, ih (a / 2) (by omega) b]
      conv => rhs; rw [bit_split a, mul_xor, mul_two]
      congr 1
      rcases Nat.mod_two_eq_zero_or_one a with h | h <;> simp [h, mul_zero, mul_one]

theorem mul_assoc (a : Nat) : ∀ b c, mul (mul a b) c = mul a (mul b c) := by
  induction a using Nat.strongRecOn with
  | _ a ih =>
    intro b c
    by_cases h : a = 0
    · subst h; simp [zero_mul]
    · rw [mul_step a b, mul_step a (mul b c), xor_mul, two_mul', ih (a / 2) (by omega)]
      congr 1
      split <;> simp [zero_mul]

theorem len_mul {a b : Nat} (ha : a ≠ 0) (hb : b ≠ 0) : len (mul a b) = len a + len b - 1 := by
  induction a using Nat.strongRecOn with
  | _ a ih =>
    have hlb := len_pos.2 hb
    by_cases h1 : a = 1
    · subst h1; rw [one_mul, len_one]; omega
    · have h2 : a / 2 ≠ 0 := by omega
      have e := ih (a / 2) (by omega) h2
      have hl2 := len_pos.2 h2
      have hh := @len_half a
      have hm : mul (a / 2) b ≠ 0 := by
        intro h; rw [h, len_zero] at e; omega
      have e2 := len_two_mul hm
      rw [mul_step, len_xor_of_lt]
      · rw [e2, e]; omega
      · rw [e2, e]; split
        · omega
        · rw [len_zero]; omega

theorem len_mul_le (a b : Nat) : len (mul a b) ≤ len a + len b - 1 := by
  by_cases ha : a = 0
  · subst ha; rw [zero_mul, len_zero]; omega
  · by_cases hb : b = 0
    · subst hb; rw [mul_zero, len_zero]; omega
    · rw [len_mul ha hb]; omega

theorem mul_shift (d : Nat) : ∀ b, mul (2 ^ d) b = b * 2 ^ d := by
  induction d with
  | zero => intro b; simp [one_mul]
  | succ d ih =>
    intro b
    rw [Nat.pow_succ, Nat.mul_comm (2 ^ d) 2, two_mul', ih, Nat.mul_comm 2, Nat.mul_comm 2, Nat.mul_assoc]

theorem len_two_pow (d : Nat) : len (2 ^ d) = d + 1 :=
  len_eq (Nat.le_refl _) (by rw [Nat.pow_succ]; have := Nat.two_pow_pos d; omega)

/-- division: quotient and remainder. -/
def divF : Nat → Nat → Nat → Nat × Nat
  | 0, a, _ => (0, a)
  | n + 1, a, b => if len a < len b then (0, a) else
      let s := divF n (a ^^^ b * 2 ^ (len a - len b)) b
      (2 ^ (len a - len b) ^^^ s.1, s.2)
def pdiv (a b : Nat) : Nat := (divF (len a) a b).1
def pmod (a b : Nat) : Nat := (divF (len a) a b).2

theorem div_drop {a b : Nat} (hb : b ≠ 0) (h : len b ≤ len a) : len (a ^^^ b * 2 ^ (len a - len b)) < len a := by
  have hlb := len_pos.2 hb
  have e : len (b * 2 ^ (len a - len b)) = len a := by
    rw [← mul_shift, len_mul (by have := Nat.two_pow_pos (len a - len b); omega) hb, len_two_pow]; omega
  have hne : b * 2 ^ (len a - len b) ≠ 0 := by
    intro h0; rw [h0, len_zero] at e; omega
  have := len_xor_eq (a := a) e.symm hne
  omega

theorem divF_spec (n : Nat) : ∀ a b, b ≠ 0 → len a ≤ n → a = mul (divF n a b).1 b ^^^ (divF n a b).2 ∧ len (divF n a b).2 < len b := by
  induction n with
  | zero =>
    intro a b hb h
    have : a = 0 := len_eq_zero.1 (by omega)
    subst this
    simp [divF, zero_mul, len_zero, len_pos.2 hb]
  | succ n ih =>
    intro a b hb h
    simp only [divF]
    split
    · simp [zero_mul]; assumption
    · have hd := div_drop hb (a := a) (by omega)
      obtain ⟨h1, h2⟩ := ih (a ^^^ b * 2 ^ (len a - len b)) b hb (by omega)
      refine ⟨?_, h2⟩
      rw [xor_mul, Nat.xor_assoc, ← h1, mul_shift, Nat.xor_comm a, ← Nat.xor_assoc, Nat.xor_self, Nat.zero_xor]

theorem div_spec (a : Nat) {b : Nat} (hb : b ≠ 0) : a = mul (pdiv a b) b ^^^ pmod a b :=
  (divF_spec (len a) a b hb (Nat.le_refl _)).1
theorem len_pmod (a : Nat) {b : Nat} (hb : b ≠ 0) : len (pmod a b) < len b :=
  (divF_spec (len a) a b hb (Nat.le_refl _)).2

theorem div_unique {a b q r : Nat} (h : a = mul q b ^^^ r) (hr : len r < len b) : q = pdiv a b ∧ r = pmod a b := by
  have hb : b ≠ 0 := by rintro rfl; rw [len_zero] at hr; omega
  have h2 := div_spec a hb
  have h3 := len_pmod a hb
  have e : mul (q ^^^ pdiv a b) b = r ^^^ pmod a b := by
    rw [xor_mul]
    have : mul q b ^^^ r = mul (pdiv a b) b ^^^ pmod a b := by rw [← h, ← h2]
    have t : (mul q b ^^^ r) ^^^ r ^^^ mul (pdiv a b) b = (mul (pdiv a b) b ^^^ pmod a b) ^^^ r ^^^ mul (pdiv a b) b := by rw [this]
    have l : mul q b ^^^ r ^^^ r ^^^ mul (pdiv a b) b = mul q b ^^^ mul (pdiv a b) b := by
      rw [Nat.xor_assoc (mul q b), Nat.xor_self, Nat.xor_zero]
    have rr : mul (pdiv a b) b ^^^ pmod a b ^^^ r ^^^ mul (pdiv a b) b = r ^^^ pmod a b := by
      have : mul (pdiv a b) b ^^^ pmod a b ^^^ r ^^^ mul (pdiv a b) b = (mul (pdiv a b) b ^^^ mul (pdiv a b) b) ^^^ (r ^^^ pmod a b) := by ac_rfl
      rw [this, Nat.xor_self, Nat.zero_xor]
    rw [l, rr] at t
    exact t
  by_cases hq : q ^^^ pdiv a b = 0
  · have hq' := xor_eq_zero hq
    refine ⟨hq', ?_⟩
    rw [hq, zero_mul] at e
    exact xor_eq_zero e.symm
  · exfalso
    have l1 := len_mul hq hb
    have l2 := len_xor_lt (a := r) (b := pmod a b) (n := len b - 1) (by omega) (by omega)
    have := len_pos.2 hq
    rw [e] at l1
    omega

end Gf2
end Go.Proofs.Ytfhgamaakkoplaa
namespace Go.Proofs.Ytfhgamaakkoplaa
namespace Gf2

theorem mulF_mod_pow (n k : Nat) : ∀ y x, mulF k y (x % 2 ^ n) % 2 ^ n = mulF k y x % 2 ^ n := by
  induction k with
  | zero => intros; rfl
  | succ k ih =>
    intro y x
    simp only [mulF]
    rw [Nat.xor_mod_two_pow, Nat.xor_mod_two_pow, Nat.mul_mod 2, ih, ← Nat.mul_mod]
    split <;> simp

theorem mul_mod_pow (n y x : Nat) : mul y (x % 2 ^ n) % 2 ^ n = mul y x % 2 ^ n := mulF_mod_pow _ _ _ _

/-- what the program's product answers: it keeps 64 bits. -/
def prod (a b : Nat) : Nat := mul b a % 18446744073709551616

theorem prod_start (a b : Nat) : prod a b = (0 ^^^ mul b a) % 18446744073709551616 := by simp [prod]
theorem prod_odd {y x p : Nat} (h : y % 2 = 1) : (p ^^^ mul y x) % 18446744073709551616 = ((p ^^^ x) ^^^ mul (y / 2) (x * 2 % 18446744073709551616)) % 18446744073709551616 := by
  rw [mul_step y x, if_pos h, ← mul_two]
  have e := mul_mod_pow 64 (y / 2) (x * 2)
  have e2 : (2 : Nat) ^ 64 = 18446744073709551616 := rfl
  rw [e2] at e
  have d := fun a b => Nat.xor_mod_two_pow (a := a) (b := b) (n := 64)
  rw [e2] at d
  rw [d (p ^^^ x), e, ← d, Nat.mul_comm x 2, Nat.xor_assoc]
theorem prod_even {y x p : Nat} (h : ¬ y % 2 = 1) : (p ^^^ mul y x) % 18446744073709551616 = (p ^^^ mul (y / 2) (x * 2 % 18446744073709551616)) % 18446744073709551616 := by
  rw [mul_step y x, if_neg h, ← mul_two, Nat.zero_xor]
  have e := mul_mod_pow 64 (y / 2) (x * 2)
  have e2 : (2 : Nat) ^ 64 = 18446744073709551616 := rfl
  rw [e2] at e
  have d := fun a b => Nat.xor_mod_two_pow (a := a) (b := b) (n := 64)
  rw [e2] at d
  rw [d p (mul (y / 2) (x * 2 % 18446744073709551616)), e, ← d, Nat.mul_comm x 2]
theorem prod_end {p x : Nat} (h : p < 18446744073709551616) : (p ^^^ mul 0 x) % 18446744073709551616 = p := by
  rw [zero_mul, Nat.xor_zero]; omega
theorem xor_lt64 {a b : Nat} (ha : a < 18446744073709551616) (hb : b < 18446744073709551616) : a ^^^ b < 18446744073709551616 :=
  Nat.xor_lt_two_pow (n := 64) ha hb
theorem prod_lt (a b : Nat) : prod a b < 18446744073709551616 := Nat.mod_lt _ (by decide)
/-- where the degrees allow: the whole product. -/
theorem prod_eq {a b : Nat} (h : len a + len b ≤ 65) : prod a b = mul a b := by
  unfold prod
  rw [mul_comm b a]
  apply Nat.mod_eq_of_lt
  have := len_mul_le a b
  exact (len_le (n := 64)).1 (by omega)
theorem prod_eq' {a b n m : Nat} (ha : a < 2 ^ n) (hb : b < 2 ^ m) (h : n + m ≤ 65) : prod a b = mul a b :=
  prod_eq (by have := len_le.2 ha; have := len_le.2 hb; omega)

/-- division, as the program goes: a whole relation of one round. -/
def DivRel (a b q r : Nat) : Prop := a = mul q b ^^^ r ∧ (∀ i, i + len b ≤ len r → q.testBit i = false) ∧ q < 18446744073709551616 ∧ r < 18446744073709551616

theorem div_start {a b : Nat} (ha : a < 18446744073709551616) : DivRel a b 0 a :=
  ⟨by simp [zero_mul], fun i _ => by simp, by decide, ha⟩

theorem or_two_pow {q d : Nat} (h : q.testBit d = false) : q ||| 2 ^ d = q ^^^ 2 ^ d := by
  apply Nat.eq_of_testBit_eq
  intro i
  rw [Nat.testBit_or, Nat.testBit_xor, Nat.testBit_two_pow]
  by_cases e : d = i
  · subst e; simp [h]
  · simp [e]

theorem div_round {a b q r : Nat} (hb : b ≠ 0) (h : DivRel a b q r) (hl : len b ≤ len r) :
    DivRel a b (q ||| 2 ^ (len r - len b)) (r ^^^ b * 2 ^ (len r - len b)) ∧ len (r ^^^ b * 2 ^ (len r - len b)) < len r
    ∧ b * 2 ^ (len r - len b) < 18446744073709551616 ∧ 2 ^ (len r - len b) < 18446744073709551616 := by
  obtain ⟨h1, h2, h3, h4⟩ := h
  have hr : len r ≤ 64 := len_le.2 h4
  have hlb := len_pos.2 hb
  have hd := div_drop hb hl
  have e : len (b * 2 ^ (len r - len b)) = len r := by
    rw [← mul_shift, len_mul (by have := Nat.two_pow_pos (len r - len b); omega) hb, len_two_pow]; omega
  have l1 : b * 2 ^ (len r - len b) < 18446744073709551616 := (len_le (n := 64)).1 (by omega)
  have l2 : 2 ^ (len r - len b) < 18446744073709551616 := (len_le (n := 64)).1 (by rw [len_two_pow]; omega)
  refine ⟨⟨?_, ?_, ?_, ?_⟩, hd, l1, l2⟩
  · rw [or_two_pow (h2 _ (by omega)), xor_mul, mul_shift, h1]
    have : mul q b ^^^ b * 2 ^ (len r - len b) ^^^ (r ^^^ b * 2 ^ (len r - len b)) = mul q b ^^^ r ^^^ (b * 2 ^ (len r - len b) ^^^ b * 2 ^ (len r - len b)) := by ac_rfl
    rw [this, Nat.xor_self, Nat.xor_zero]
  · intro i hi
    rw [Nat.testBit_or, Nat.testBit_two_pow, h2 i (by omega)]
    have : len r - len b ≠ i := by omega
    simp [this]
  · exact Nat.or_lt_two_pow (n := 64) h3 l2
  · exact xor_lt64 h4 l1

theorem div_end {a b q r : Nat} (h : DivRel a b q r) (hl : len r < len b) : q = pdiv a b ∧ r = pmod a b := div_unique h.1 hl

theorem pmod_lt (a : Nat) {b : Nat} (hb : b ≠ 0) (h : b < 18446744073709551616) : pmod a b < 18446744073709551616 := by
  have := len_pmod a hb
  have : len b ≤ 64 := len_le.2 h
  exact (len_le (n := 64)).1 (by omega)

end Gf2
end Go.Proofs.Ytfhgamaakkoplaa
namespace Go.Proofs.Ytfhgamaakkoplaa
namespace Gf2

def gcdF : Nat → Nat → Nat → Nat
  | 0, a, _ => a
  | n + 1, a, b => if b = 0 then a else gcdF n b (pmod a b)
/-- the greatest common divisor, by Euclid. -/
def pgcd (a b : Nat) : Nat := gcdF (len b) a b

def cofF : Nat → Nat → Nat → Nat → Nat → Nat × Nat
  | 0, a, _, u, _ => (a, u)
  | n + 1, a, b, u, x => if b = 0 then (a, u) else cofF n b (pmod a b) x (u ^^^ prod (pdiv a b) x)
/-- the cofactor of a, as the program finds it. -/
def cof (a b : Nat) : Nat := (cofF (len b) a b 1 0).2

def tm (a b p : Nat) : Nat := pmod (prod a b) p

def powF : Nat → Nat → Nat → Nat → Nat → Nat
  | 0, z, _, _, _ => z
  | k + 1, z, s, n, p => if n = 0 then z else powF k (if n % 2 = 1 then tm z s p else z) (tm s s p) (n / 2) p
def powM (a n p : Nat) : Nat := powF (len n) 1 (pmod a p) n p

def irrF : Nat → Nat → Nat → Nat → Bool
  | 0, _, _, _ => true
  | k + 1, i, z, p => if 2 * i + 1 ≤ len p then (if pgcd (tm z z p ^^^ 2) p = 1 then irrF k (i + 1) (tm z z p) p else false) else true
def irr (p : Nat) : Bool := irrF (len p) 1 (pmod 2 p) p

theorem pmod_small {a b : Nat} (h : len a < len b) : pmod a b = a := by
  have := (div_unique (a := a) (b := b) (q := 0) (r := a) (by simp [zero_mul]) h).2
  exact this.symm
theorem gcdF_stable (n : Nat) : ∀ m a b, len b ≤ n → n ≤ m → gcdF m a b = gcdF n a b := by
  induction n with
  | zero =>
    intro m a b h _
    have : b = 0 := len_eq_zero.1 (by omega)
    subst this
    cases m <;> simp [gcdF]
  | succ n ih =>
    intro m a b h hm
    cases m with
    | zero => omega
    | succ m =>
      simp only [gcdF]
      split
      · rfl
      · rename_i hb
        have := len_pmod a hb
        exact ih m b _ (by omega) (by omega)

theorem pgcd_zero (a : Nat) : pgcd a 0 = a := rfl
theorem pgcd_step {a b : Nat} (hb : b ≠ 0) : pgcd a b = pgcd b (pmod a b) := by
  have h := len_pmod a hb
  have hp := len_pos.2 hb
  unfold pgcd
  obtain ⟨m, hm⟩ : ∃ m, len b = m + 1 := ⟨len b - 1, by omega⟩
  rw [hm]
  simp only [gcdF, if_neg hb]
  exact gcdF_stable _ _ _ _ (Nat.le_refl _) (by omega)

/-- a divides b. -/
def dv (a b : Nat) : Prop := ∃ c, b = mul c a

theorem dv_refl (a : Nat) : dv a a := ⟨1, (one_mul a).symm⟩
theorem dv_zero (a : Nat) : dv a 0 := ⟨0, rfl⟩
theorem one_dv (a : Nat) : dv 1 a := ⟨a, (mul_one a).symm⟩
theorem dv_trans {a b c : Nat} (h1 : dv a b) (h2 : dv b c) : dv a c := by
  obtain ⟨x, rfl⟩ := h1; obtain ⟨y, rfl⟩ := h2
  exact ⟨mul y x, (mul_assoc y x a).symm⟩
theorem dv_xor {a b c : Nat} (h1 : dv a b) (h2 : dv a c) : dv a (b ^^^ c) := by
  obtain ⟨x, rfl⟩ := h1; obtain ⟨y, rfl⟩ := h2
  exact ⟨x ^^^ y, (xor_mul x y a).symm⟩
theorem dv_mul_left {a b : Nat} (c : Nat) (h : dv a b) : dv a (mul c b) := by
  obtain ⟨x, rfl⟩ := h
  exact ⟨mul c x, (mul_assoc c x a).symm⟩
theorem dv_mul_right {a b : Nat} (c : Nat) (h : dv a b) : dv a (mul b c) := by
  rw [mul_comm]; exact dv_mul_left c h
theorem dv_len {a b : Nat} (h : dv a b) (hb : b ≠ 0) : a ≠ 0 ∧ len a ≤ len b := by
  obtain ⟨c, rfl⟩ := h
  have ha : a ≠ 0 := by rintro rfl; exact hb (mul_zero c)
  have hc : c ≠ 0 := by rintro rfl; exact hb (zero_mul a)
  have := len_mul hc ha
  have := len_pos.2 hc
  exact ⟨ha, by omega⟩
theorem len_eq_one {a : Nat} (h : len a = 1) : a = 1 := by
  have h1 : a < 2 ^ 1 := len_le.1 (by omega)
  have h2 : 2 ^ 0 ≤ a := lt_len.1 (by omega)
  omega
theorem dv_antisymm {a b : Nat} (h1 : dv a b) (h2 : dv b a) : a = b := by
  by_cases hb : b = 0
  · subst hb
    obtain ⟨c, e⟩ := h2
    rw [mul_zero] at e; exact e
  · obtain ⟨ha, l1⟩ := dv_len h1 hb
    obtain ⟨_, l2⟩ := dv_len h2 ha
    obtain ⟨c, rfl⟩ := h1
    have hc : c ≠ 0 := by rintro rfl; exact hb (zero_mul a)
    have := len_mul hc ha
    have := len_pos.2 ha
    have : len c = 1 := by omega
    rw [len_eq_one this, one_mul]
theorem dv_one {a : Nat} (h : dv a 1) : a = 1 := dv_antisymm h (one_dv a)
theorem pmod_eq_zero {a b : Nat} (hb : b ≠ 0) : pmod a b = 0 ↔ dv b a := by
  constructor
  · intro h
    have := div_spec a hb
    rw [h, Nat.xor_zero] at this
    exact ⟨_, this⟩
  · rintro ⟨c, rfl⟩
    exact ((div_unique (a := mul c b) (b := b) (q := c) (r := 0) (by simp) (by rw [len_zero]; exact len_pos.2 hb)).2).symm

theorem dv_pmod {d a b : Nat} (hb : b ≠ 0) (h1 : dv d a) (h2 : dv d b) : dv d (pmod a b) := by
  have e : pmod a b = a ^^^ mul (pdiv a b) b := by
    have := div_spec a hb
    have h3 : mul (pdiv a b) b ^^^ pmod a b ^^^ mul (pdiv a b) b = pmod a b := by
      rw [Nat.xor_comm (mul (pdiv a b) b), Nat.xor_assoc, Nat.xor_self, Nat.xor_zero]
    rw [← this] at h3
    exact h3.symm
  rw [e]
  exact dv_xor h1 (dv_mul_left _ h2)
theorem dv_of_pmod {d a b : Nat} (hb : b ≠ 0) (h1 : dv d b) (h2 : dv d (pmod a b)) : dv d a := by
  rw [div_spec a hb]
  exact dv_xor (dv_mul_left _ h1) h2

theorem pgcd_dv (a b : Nat) : dv (pgcd a b) a ∧ dv (pgcd a b) b := by
  suffices h : ∀ n a b, len b ≤ n → dv (pgcd a b) a ∧ dv (pgcd a b) b from h (len b) a b (Nat.le_refl _)
  intro n
  induction n with
  | zero =>
    intro a b h
    have : b = 0 := len_eq_zero.1 (by omega)
    subst this
    exact ⟨dv_refl a, dv_zero _⟩
  | succ n ih =>
    intro a b h
    by_cases hb : b = 0
    · subst hb; exact ⟨dv_refl a, dv_zero _⟩
    · rw [pgcd_step hb]
      have := len_pmod a hb
      obtain ⟨h1, h2⟩ := ih b (pmod a b) (by omega)
      exact ⟨dv_of_pmod hb h1 h2, h1⟩

theorem dv_pgcd {d a b : Nat} (h1 : dv d a) (h2 : dv d b) : dv d (pgcd a b) := by
  suffices h : ∀ n a b, len b ≤ n → dv d a → dv d b → dv d (pgcd a b) from h (len b) a b (Nat.le_refl _) h1 h2
  intro n
  induction n with
  | zero =>
    intro a b h h1 _
    have : b = 0 := len_eq_zero.1 (by omega)
    subst this; exact h1
  | succ n ih =>
    intro a b h h1 h2
    by_cases hb : b = 0
    · subst hb; exact h1
    · rw [pgcd_step hb]
      have := len_pmod a hb
      exact ih b _ (by omega) h2 (dv_pmod hb h1 h2)

theorem pgcd_unique {d a b : Nat} (h1 : dv d a) (h2 : dv d b) (h : ∀ e, dv e a → dv e b → dv e d) : d = pgcd a b :=
  dv_antisymm (dv_pgcd h1 h2) (h _ (pgcd_dv a b).1 (pgcd_dv a b).2)

/-- the relation of the cofactors' loop. -/
structure CofRel (a0 b0 A B u x : Nat) : Prop where
  lu : len u < len x
  lx : len x + len A = len b0 + 1
  lb : len B < len A
  g : pgcd A B = pgcd a0 b0
  bu : dv b0 (mul u a0 ^^^ A)
  bx : dv b0 (mul x a0 ^^^ B)

theorem pdiv_len {A B : Nat} (hB : B ≠ 0) (h : len B ≤ len A) : len (pdiv A B) + len B = len A + 1 := by
  have hA : 0 < len A := by have := len_pos.2 hB; omega
  have h1 := div_spec A hB
  have hr := len_pmod A hB
  have hq : pdiv A B ≠ 0 := by
    intro h0; rw [h0, zero_mul, Nat.zero_xor] at h1
    rw [← h1] at hr; omega
  have l := len_mul hq hB
  have lq := len_pos.2 hq
  have e : len (mul (pdiv A B) B ^^^ pmod A B) = len (mul (pdiv A B) B) := by
    rw [Nat.xor_comm]; exact len_xor_of_lt (by omega)
  rw [← h1] at e
  omega

theorem pmod_xor (A : Nat) {B : Nat} (hB : B ≠ 0) : pmod A B = A ^^^ mul (pdiv A B) B := by
  have := div_spec A hB
  have h3 : mul (pdiv A B) B ^^^ pmod A B ^^^ mul (pdiv A B) B = pmod A B := by
    rw [Nat.xor_comm (mul (pdiv A B) B), Nat.xor_assoc, Nat.xor_self, Nat.xor_zero]
  rw [← this] at h3
  exact h3.symm

theorem cof_round {a0 b0 A B u x : Nat} (hb64 : len b0 ≤ 64) (h : CofRel a0 b0 A B u x) (hB : B ≠ 0) :
    CofRel a0 b0 B (pmod A B) x (u ^^^ prod (pdiv A B) x) ∧ prod (pdiv A B) x = mul (pdiv A B) x := by
  have lq := pdiv_len hB (A := A) (by have := h.lb; omega)
  have lB := len_pos.2 hB
  have hx : x ≠ 0 := len_pos.1 (by have := h.lu; omega)
  have lxp := len_pos.2 hx
  have hq : pdiv A B ≠ 0 := by
    intro h0; rw [h0, len_zero] at lq; have := h.lb; omega
  have hlx := h.lx; have hlb := h.lb; have hlu := h.lu
  have e : prod (pdiv A B) x = mul (pdiv A B) x := prod_eq (by omega)
  have lm := len_mul hq hx
  rw [e]
  have ln : len (u ^^^ mul (pdiv A B) x) = len (mul (pdiv A B) x) := len_xor_of_lt (by omega)
  refine ⟨⟨?_, ?_, len_pmod A hB, ?_, h.bx, ?_⟩, rfl⟩
  · omega
  · omega
  · rw [← pgcd_step hB]; exact h.g
  · rw [pmod_xor A hB, xor_mul, mul_assoc]
    have : mul u a0 ^^^ mul (pdiv A B) (mul x a0) ^^^ (A ^^^ mul (pdiv A B) B) = (mul u a0 ^^^ A) ^^^ mul (pdiv A B) (mul x a0 ^^^ B) := by
      rw [mul_xor]; ac_rfl
    rw [this]
    exact dv_xor h.bu (dv_mul_left _ h.bx)

theorem cof_first {a0 b0 : Nat} (hb : b0 ≠ 0) : CofRel a0 b0 b0 (pmod a0 b0) 0 (1 ^^^ prod (pdiv a0 b0) 0) := by
  have e : 1 ^^^ prod (pdiv a0 b0) 0 = 1 := by simp [prod, zero_mul]
  rw [e]
  refine ⟨by rw [len_zero, len_one]; omega, by rw [len_one]; omega, len_pmod a0 hb, (pgcd_step hb).symm, ?_, ?_⟩
  · rw [zero_mul, Nat.zero_xor]; exact dv_refl b0
  · rw [one_mul, pmod_xor a0 hb, ← Nat.xor_assoc, Nat.xor_self, Nat.zero_xor]
    exact dv_mul_left _ (dv_refl b0)

theorem cofF_rel (n : Nat) : ∀ {a0 b0 A B u x : Nat}, len b0 ≤ 64 → CofRel a0 b0 A B u x → len B ≤ n →
    ∃ x', CofRel a0 b0 (cofF n A B u x).1 0 (cofF n A B u x).2 x' := by
  induction n with
  | zero =>
    intro a0 b0 A B u x _ h hn
    have : B = 0 := len_eq_zero.1 (by omega)
    subst this
    exact ⟨x, h⟩
  | succ n ih =>
    intro a0 b0 A B u x h64 h hn
    simp only [cofF]
    split
    · rename_i h0; subst h0; exact ⟨x, h⟩
    · rename_i h0
      have := len_pmod A h0
      exact ih h64 (cof_round h64 h h0).1 (by omega)

theorem cof_spec {a b : Nat} (hb : b ≠ 0) (h64 : len b ≤ 64) : (cofF (len b) a b 1 0).1 = pgcd a b ∧ len (cof a b) + len (pgcd a b) ≤ len b ∧ dv b (mul (cof a b) a ^^^ pgcd a b) := by
  have hp := len_pos.2 hb
  obtain ⟨m, hm⟩ : ∃ m, len b = m + 1 := ⟨len b - 1, by omega⟩
  have hl := len_pmod a hb
  obtain ⟨x', h⟩ := cofF_rel m h64 (cof_first (a0 := a) hb) (by omega)
  have e : cofF (len b) a b 1 0 = cofF m b (pmod a b) 0 (1 ^^^ prod (pdiv a b) 0) := by
    rw [hm]; simp only [cofF, if_neg hb]
  have hg : (cofF (len b) a b 1 0).1 = pgcd a b := by
    rw [e]; have := h.g; rwa [pgcd_zero] at this
  refine ⟨hg, ?_, ?_⟩
  · have h1 := h.lx; have h2 := h.lu
    rw [← e, hg] at h1
    unfold cof; rw [e]; omega
  · have h1 := h.bu
    rw [← e, hg] at h1
    exact h1

end Gf2
end Go.Proofs.Ytfhgamaakkoplaa
namespace Go.Proofs.Ytfhgamaakkoplaa
namespace Gf2

theorem pmod_unique {a b r : Nat} (h : dv b (a ^^^ r)) (hr : len r < len b) : pmod a b = r := by
  obtain ⟨c, e⟩ := h
  have : a = mul c b ^^^ r := by rw [← e, Nat.xor_assoc, Nat.xor_self, Nat.xor_zero]
  exact ((div_unique this hr).2).symm

theorem dv_pmod_self (a : Nat) {p : Nat} (hp : p ≠ 0) : dv p (a ^^^ pmod a p) := by
  rw [pmod_xor a hp, ← Nat.xor_assoc, Nat.xor_self, Nat.zero_xor]
  exact dv_mul_left _ (dv_refl p)

/-- congruence: one remainder. -/
theorem pmod_eq_iff {a b p : Nat} (hp : p ≠ 0) : pmod a p = pmod b p ↔ dv p (a ^^^ b) := by
  constructor
  · intro h
    have h1 := dv_pmod_self a hp
    have h2 := dv_pmod_self b hp
    rw [h] at h1
    have := dv_xor h1 h2
    have e : a ^^^ pmod b p ^^^ (b ^^^ pmod b p) = a ^^^ b ^^^ (pmod b p ^^^ pmod b p) := by ac_rfl
    rwa [e, Nat.xor_self, Nat.xor_zero] at this
  · intro h
    apply pmod_unique _ (len_pmod b hp)
    have h2 := dv_pmod_self b hp
    have := dv_xor h h2
    have e : a ^^^ b ^^^ (b ^^^ pmod b p) = a ^^^ pmod b p ^^^ (b ^^^ b) := by ac_rfl
    rwa [e, Nat.xor_self, Nat.xor_zero] at this

theorem pmod_xor_dist (a b : Nat) {p : Nat} (hp : p ≠ 0) : pmod (a ^^^ b) p = pmod a p ^^^ pmod b p := by
  apply pmod_unique
  · have := dv_xor (dv_pmod_self a hp) (dv_pmod_self b hp)
    have e : a ^^^ pmod a p ^^^ (b ^^^ pmod b p) = a ^^^ b ^^^ (pmod a p ^^^ pmod b p) := by ac_rfl
    rwa [e] at this
  · have h1 := len_pmod a hp
    have h2 := len_pmod b hp
    have := len_xor_lt (a := pmod a p) (b := pmod b p) (n := len p - 1) (by omega) (by omega)
    omega

theorem pmod_mul_left (a b : Nat) {p : Nat} (hp : p ≠ 0) : pmod (mul (pmod a p) b) p = pmod (mul a b) p := by
  rw [pmod_eq_iff hp, ← xor_mul, Nat.xor_comm]
  exact dv_mul_right _ (dv_pmod_self a hp)
theorem pmod_mul_right (a b : Nat) {p : Nat} (hp : p ≠ 0) : pmod (mul a (pmod b p)) p = pmod (mul a b) p := by
  rw [mul_comm, pmod_mul_left b a hp, mul_comm]
theorem pmod_mul_both (a b : Nat) {p : Nat} (hp : p ≠ 0) : pmod (mul (pmod a p) (pmod b p)) p = pmod (mul a b) p := by
  rw [pmod_mul_left _ _ hp, pmod_mul_right _ _ hp]

/-- powers, whole. -/
def pw (a : Nat) : Nat → Nat
  | 0 => 1
  | n + 1 => mul a (pw a n)

theorem pw_one (a : Nat) : pw a 1 = a := by simp [pw, mul_one]
theorem pw_add (a m n : Nat) : pw a (m + n) = mul (pw a m) (pw a n) := by
  induction m with
  | zero => rw [Nat.zero_add]; exact (one_mul _).symm
  | succ m ih => rw [Nat.succ_add]; simp only [pw]; rw [ih, mul_assoc]
theorem pw_mul (a m n : Nat) : pw a (m * n) = pw (pw a m) n := by
  induction n with
  | zero => rfl
  | succ n ih => rw [Nat.mul_succ, Nat.add_comm, pw_add, ih]; rfl
theorem one_pw (n : Nat) : pw 1 n = 1 := by
  induction n with
  | zero => rfl
  | succ n ih => simp only [pw]; rw [ih, one_mul]
theorem pw_two (a : Nat) : pw a 2 = mul a a := by simp [pw, mul_one]
theorem pmod_pw (a n : Nat) {p : Nat} (hp : p ≠ 0) : pmod (pw (pmod a p) n) p = pmod (pw a n) p := by
  induction n with
  | zero => rfl
  | succ n ih =>
    simp only [pw]
    rw [← pmod_mul_right, ih, pmod_mul_right _ _ hp, pmod_mul_left _ _ hp]
    exact hp

/-- residues of a modulus of at most 33 bits: the program's product is whole. -/
theorem tm_eq {a b p : Nat} (h33 : len p ≤ 33) (ha : len a < len p) (hb : len b < len p) : tm a b p = pmod (mul a b) p := by
  unfold tm; rw [prod_eq (by omega)]

theorem len_tm (a b : Nat) {p : Nat} (hp : p ≠ 0) : len (tm a b p) < len p := len_pmod _ hp

theorem powF_spec {p : Nat} (hp : p ≠ 0) (h33 : len p ≤ 33) (k : Nat) : ∀ z s n, len n ≤ k → len z < len p → len s < len p →
    powF k z s n p = pmod (mul z (pw s n)) p := by
  induction k with
  | zero =>
    intro z s n h hz _
    have : n = 0 := len_eq_zero.1 (by omega)
    subst this
    simp only [powF, pw, mul_one]
    exact (pmod_small hz).symm
  | succ k ih =>
    intro z s n h hz hs
    simp only [powF]
    split
    · rename_i h0; subst h0; simp only [pw, mul_one]; exact (pmod_small hz).symm
    · rename_i h0
      have hl := len_pos.2 h0
      have hh := @len_half n
      have key : ∀ m, pw (tm s s p) m = pw (pmod (pw s 2) p) m := by
        intro m; rw [tm_eq h33 hs hs, pw_two]
      have ev : n = 2 * (n / 2) + n % 2 := by omega
      by_cases hd : n % 2 = 1
      · rw [if_pos hd, ih _ _ _ (by omega) (len_tm z s hp) (len_tm s s hp), key, tm_eq h33 hz hs]
        rw [pmod_mul_left _ _ hp, ← pmod_mul_right _ _ hp, pmod_pw _ _ hp, pmod_mul_right _ _ hp, ← pw_mul, mul_assoc]
        have : mul s (pw s (2 * (n / 2))) = pw s n := by
          conv => rhs; rw [ev, hd]
          rfl
        rw [this]
      · rw [if_neg hd, ih _ _ _ (by omega) hz (len_tm s s hp), key]
        rw [← pmod_mul_right _ _ hp, pmod_pw _ _ hp, pmod_mul_right _ _ hp, ← pw_mul]
        have : 2 * (n / 2) = n := by omega
        rw [this]

theorem powM_spec {p : Nat} (h2 : 2 ≤ len p) (h33 : len p ≤ 33) (a n : Nat) : powM a n p = pmod (pw a n) p := by
  have hp : p ≠ 0 := len_pos.1 (by omega)
  unfold powM
  rw [powF_spec hp h33 _ _ _ _ (Nat.le_refl _) (by rw [len_one]; omega) (len_pmod a hp), one_mul, pmod_pw _ _ hp]

/-- irreducible: a degree from 1 on, and no divisor but 1 and itself. -/
def Irr (p : Nat) : Prop := 2 ≤ len p ∧ ∀ c, dv c p → c = 1 ∨ c = p

theorem Irr.ne {p : Nat} (h : Irr p) : p ≠ 0 := len_pos.1 (by have := h.1; omega)

theorem irr_gcd {p : Nat} (h : Irr p) (a : Nat) : pgcd a p = 1 ∨ dv p a := by
  rcases h.2 _ (pgcd_dv a p).2 with e | e
  · exact Or.inl e
  · right; have := (pgcd_dv a p).1; rwa [e] at this

/-- where the greatest common divisor is 1 there is an inverse. -/
theorem inv_exists {a p : Nat} (hp : p ≠ 0) (h64 : len p ≤ 64) (h : pgcd a p = 1) : dv p (mul (cof a p) a ^^^ 1) ∧ len (cof a p) < len p := by
  have := cof_spec (a := a) hp h64
  rw [h, len_one] at this
  exact ⟨this.2.2, by omega⟩

theorem cancel {a b c p : Nat} (hp : p ≠ 0) (h64 : len p ≤ 64) (h : pgcd a p = 1) (e : dv p (mul a b ^^^ mul a c)) : dv p (b ^^^ c) := by
  obtain ⟨h1, -⟩ := inv_exists hp h64 h
  have h2 := dv_mul_left (cof a p) e
  rw [← mul_xor, ← mul_assoc] at h2
  have h3 := dv_mul_right (b ^^^ c) h1
  rw [xor_mul, one_mul] at h3
  have := dv_xor h2 h3
  have e2 : mul (mul (cof a p) a) (b ^^^ c) ^^^ (mul (mul (cof a p) a) (b ^^^ c) ^^^ (b ^^^ c)) = b ^^^ c := by
    rw [← Nat.xor_assoc, Nat.xor_self, Nat.zero_xor]
  rwa [e2] at this

theorem irr_prime {a b p : Nat} (h : Irr p) (h64 : len p ≤ 64) (e : dv p (mul a b)) : dv p a ∨ dv p b := by
  rcases irr_gcd h a with g | g
  · right
    have := cancel (b := b) (c := 0) h.ne h64 g (by rw [mul_zero, Nat.xor_zero]; exact e)
    rwa [Nat.xor_zero] at this
  · exact Or.inl g

/-- a list's product. -/
def prodL : List Nat → Nat
  | [] => 1
  | x :: l => mul x (prodL l)

theorem prodL_perm {l l' : List Nat} (h : l.Perm l') : prodL l = prodL l' := by
  induction h with
  | nil => rfl
  | cons x _ ih => simp only [prodL]; rw [ih]
  | swap x y l => simp only [prodL]; rw [← mul_assoc, ← mul_assoc, mul_comm x y]
  | trans _ _ h1 h2 => rw [h1, h2]

theorem perm_of_nodup : ∀ {l l' : List Nat}, l.Nodup → (∀ x, x ∈ l → x ∈ l') → l'.length ≤ l.length → l.Perm l' := by
  intro l
  induction l with
  | nil =>
    intro l' _ _ h
    have : l' = [] := List.length_eq_zero_iff.1 (by simpa using h)
    subst this; exact List.Perm.nil
  | cons x l ih =>
    intro l' hn hs hl
    have hx : x ∈ l' := hs x (by simp)
    have hp := List.perm_cons_erase hx
    have hlen := hp.length_eq
    have h2 : l.Perm (l'.erase x) := by
      apply ih (List.nodup_cons.1 hn).2
      · intro y hy
        have hyx : y ≠ x := by
          rintro rfl; exact (List.nodup_cons.1 hn).1 hy
        have hy' : y ∈ l' := hs y (by simp [hy])
        exact (List.mem_erase_of_ne hyx).2 hy'
      · simp at hlen hl; omega
    exact (h2.cons x).trans hp.symm

theorem prodL_map_mul {a p : Nat} (hp : p ≠ 0) (l : List Nat) : pmod (prodL (l.map fun x => pmod (mul a x) p)) p = pmod (mul (pw a l.length) (prodL l)) p := by
  induction l with
  | nil => simp [prodL, pw, one_mul]
  | cons x l ih =>
    simp only [List.map_cons, prodL, List.length_cons, pw]
    rw [pmod_mul_left _ _ hp, ← pmod_mul_right _ _ hp, ih, pmod_mul_right _ _ hp]
    congr 1
    rw [mul_assoc, mul_assoc, ← mul_assoc x, mul_comm x, mul_assoc]

theorem prodL_coprime {p : Nat} (h : Irr p) (h64 : len p ≤ 64) (l : List Nat) (hl : ∀ x, x ∈ l → ¬ dv p x) : ¬ dv p (prodL l) := by
  induction l with
  | nil =>
    intro h1
    have := dv_one h1
    have := h.1
    subst p; rw [len_one] at this; omega
  | cons x l ih =>
    intro h1
    simp only [prodL] at h1
    rcases irr_prime h h64 h1 with g | g
    · exact hl x (by simp) g
    · exact ih (fun y hy => hl y (by simp [hy])) g

theorem nodup_map_inj {f : Nat → Nat} : ∀ {l : List Nat}, l.Nodup → (∀ x y, x ∈ l → y ∈ l → f x = f y → x = y) → (l.map f).Nodup := by
  intro l
  induction l with
  | nil => intros; exact List.nodup_nil
  | cons a l ih =>
    intro hn hf
    rw [List.map_cons, List.nodup_cons]
    obtain ⟨h1, h2⟩ := List.nodup_cons.1 hn
    refine ⟨?_, ih h2 (fun x y hx hy => hf x y (by simp [hx]) (by simp [hy]))⟩
    intro hm
    obtain ⟨b, hb, e⟩ := List.mem_map.1 hm
    have := hf b a (by simp [hb]) (by simp) e
    subst this
    exact h1 hb

theorem fermat {a p : Nat} (h : Irr p) (h64 : len p ≤ 64) (ha : ¬ dv p a) : pmod (pw a (2 ^ (len p - 1) - 1)) p = 1 := by
  have hp := h.ne
  have h1 := h.1
  have hq : 2 ≤ 2 ^ (len p - 1) := by
    have : 2 ^ 1 ≤ 2 ^ (len p - 1) := Nat.pow_le_pow_right (by omega) (by omega)
    omega
  let l := List.range' 1 (2 ^ (len p - 1) - 1)
  have hmem : ∀ x, x ∈ l ↔ x ≠ 0 ∧ len x < len p := by
    intro x
    have e : len x ≤ len p - 1 ↔ x < 2 ^ (len p - 1) := len_le
    simp only [l, List.mem_range'_1]
    omega
  have hndv : ∀ x, x ∈ l → ¬ dv p x := by
    intro x hx hd
    obtain ⟨x0, xl⟩ := (hmem x).1 hx
    have := (dv_len hd x0).2
    omega
  have hg : pgcd a p = 1 := by
    rcases irr_gcd h a with g | g
    · exact g
    · exact absurd g ha
  have hperm : (l.map fun x => pmod (mul a x) p).Perm l := by
    apply perm_of_nodup
    · apply nodup_map_inj (List.nodup_range')
      intro x y hx hy e
      have h2 := cancel hp h64 hg ((pmod_eq_iff hp).1 e)
      have h3 := (pmod_eq_iff hp).2 h2
      rw [pmod_small ((hmem x).1 hx).2, pmod_small ((hmem y).1 hy).2] at h3
      exact h3
    · intro z hz
      obtain ⟨x, hx, rfl⟩ := List.mem_map.1 hz
      refine (hmem _).2 ⟨?_, len_pmod _ hp⟩
      intro h0
      rcases irr_prime h h64 ((pmod_eq_zero hp).1 h0) with g | g
      · exact ha g
      · exact hndv x hx g
    · simp
  have e := prodL_map_mul (a := a) hp l
  rw [prodL_perm hperm] at e
  have hl : l.length = 2 ^ (len p - 1) - 1 := by simp [l]
  rw [hl] at e
  have hP : pgcd (prodL l) p = 1 := by
    rcases irr_gcd h (prodL l) with g | g
    · exact g
    · exact absurd g (prodL_coprime h h64 l hndv)
  have e2 : dv p (mul (prodL l) 1 ^^^ mul (prodL l) (pw a (2 ^ (len p - 1) - 1))) := by
    rw [mul_one, mul_comm (prodL l)]
    exact (pmod_eq_iff hp).1 e
  have e3 := (pmod_eq_iff hp).2 (cancel hp h64 hP e2)
  rw [← e3]
  exact pmod_small (by rw [len_one]; omega)

theorem fermat' {p : Nat} (a : Nat) (h : Irr p) (h64 : len p ≤ 64) : pmod (pw a (2 ^ (len p - 1))) p = pmod a p := by
  have hp := h.ne
  have h1 := h.1
  have hq : 2 ≤ 2 ^ (len p - 1) := by
    have : 2 ^ 1 ≤ 2 ^ (len p - 1) := Nat.pow_le_pow_right (by omega) (by omega)
    omega
  have e : 2 ^ (len p - 1) = (2 ^ (len p - 1) - 1) + 1 := by omega
  rw [e]
  simp only [pw]
  by_cases ha : dv p a
  · rw [(pmod_eq_zero hp).2 ha, (pmod_eq_zero hp).2 (dv_mul_right _ ha)]
  · rw [← pmod_mul_right _ _ hp, fermat h h64 ha, mul_one]

/-- the least divisor from degree 1 on is irreducible. -/
theorem least_divisor {p : Nat} : ∀ n c, len c ≤ n → dv c p → 2 ≤ len c → ∃ f, Irr f ∧ dv f p ∧ len f ≤ len c := by
  intro n
  induction n with
  | zero => intro c h1 _ h2; omega
  | succ n ih =>
    intro c h1 hc h2
    by_cases hi : Irr c
    · exact ⟨c, hi, hc, Nat.le_refl _⟩
    · have : ∃ e, dv e c ∧ e ≠ 1 ∧ e ≠ c := by
        apply Classical.byContradiction
        intro hn
        apply hi
        refine ⟨h2, fun e he => ?_⟩
        by_cases h3 : e = 1
        · exact Or.inl h3
        · by_cases h4 : e = c
          · exact Or.inr h4
          · exact absurd ⟨e, he, h3, h4⟩ hn
      obtain ⟨e, he, e1, e2⟩ := this
      have hc0 : c ≠ 0 := len_pos.1 (by omega)
      obtain ⟨he0, hle⟩ := dv_len he hc0
      have hl1 : 2 ≤ len e := by
        have := len_pos.2 he0
        rcases Nat.lt_or_ge (len e) 2 with h5 | h5
        · exact absurd (len_eq_one (by omega)) e1
        · exact h5
      have hl2 : len e < len c := by
        rcases Nat.lt_or_ge (len e) (len c) with h5 | h5
        · exact h5
        · exfalso; apply e2
          obtain ⟨k, hk⟩ := he
          have hk0 : k ≠ 0 := by rintro rfl; rw [zero_mul] at hk; exact hc0 hk
          have := len_mul hk0 he0
          rw [← hk] at this
          have := len_pos.2 hk0
          have : k = 1 := len_eq_one (by omega)
          rw [hk, this, one_mul]
      obtain ⟨f, f1, f2, f3⟩ := ih e (by omega) (dv_trans he hc) hl1
      exact ⟨f, f1, f2, by omega⟩

theorem irrF_spec {p : Nat} (hp : p ≠ 0) (h33 : len p ≤ 33) (k : Nat) : ∀ i z, len p ≤ k + i → 1 ≤ i → z = pmod (pw 2 (2 ^ (i - 1))) p →
    (irrF k i z p = true ↔ ∀ j, i ≤ j → 2 * j + 1 ≤ len p → pgcd (pmod (pw 2 (2 ^ j)) p ^^^ 2) p = 1) := by
  induction k with
  | zero =>
    intro i z hk hi _
    simp only [irrF, true_iff]
    intro j hj h; omega
  | succ k ih =>
    intro i z hk hi hz
    have hzl : len z < len p := by rw [hz]; exact len_pmod _ hp
    have ht : tm z z p = pmod (pw 2 (2 ^ i)) p := by
      rw [tm_eq h33 hzl hzl, hz, pmod_mul_both _ _ hp, ← pw_add]
      have : 2 ^ (i - 1) + 2 ^ (i - 1) = 2 ^ i := by
        obtain ⟨m, rfl⟩ : ∃ m, i = m + 1 := ⟨i - 1, by omega⟩
        rw [Nat.add_sub_cancel, Nat.pow_succ]; omega
      rw [this]
    simp only [irrF]
    by_cases hc : 2 * i + 1 ≤ len p
    · rw [if_pos hc]
      by_cases hd : pgcd (tm z z p ^^^ 2) p = 1
      · rw [if_pos hd, ih (i + 1) (tm z z p) (by omega) (by omega) (by rw [ht, Nat.add_sub_cancel])]
        constructor
        · intro h j hj hl
          rcases Nat.lt_or_ge i j with h5 | h5
          · exact h j (by omega) hl
          · have : j = i := by omega
            subst this; rw [← ht]; exact hd
        · intro h j hj hl; exact h j (by omega) hl
      · rw [if_neg hd]
        constructor
        · intro h; cases h
        · intro h; exfalso; apply hd; rw [ht]; exact h i (Nat.le_refl _) hc
    · rw [if_neg hc]
      simp only [true_iff]
      intro j hj h; omega

theorem irr_iff {p : Nat} (h2 : 2 ≤ len p) (h33 : len p ≤ 33) : irr p = true ↔ ∀ j, 1 ≤ j → 2 * j + 1 ≤ len p → pgcd (pmod (pw 2 (2 ^ j)) p ^^^ 2) p = 1 := by
  have hp : p ≠ 0 := len_pos.1 (by omega)
  unfold irr
  exact irrF_spec hp h33 (len p) 1 (pmod 2 p) (by omega) (by omega) (by simp [pw, mul_one])

/-- what the program's test says yes to is irreducible. -/
theorem irr_sound {p : Nat} (h2 : 2 ≤ len p) (h33 : len p ≤ 33) (h : irr p = true) : Irr p := by
  have hp : p ≠ 0 := len_pos.1 (by omega)
  rw [irr_iff h2 h33] at h
  refine ⟨h2, fun c hc => ?_⟩
  apply Classical.byContradiction
  intro hn
  have hc1 : c ≠ 1 := fun e => hn (Or.inl e)
  have hcp : c ≠ p := fun e => hn (Or.inr e)
  obtain ⟨e, he⟩ := hc
  have hc0 : c ≠ 0 := by rintro rfl; rw [mul_zero] at he; exact hp he
  have he0 : e ≠ 0 := by rintro rfl; rw [zero_mul] at he; exact hp he
  have he1 : e ≠ 1 := by rintro rfl; rw [one_mul] at he; exact hcp he.symm
  have lc := len_pos.2 hc0
  have le := len_pos.2 he0
  have lc2 : 2 ≤ len c := by
    rcases Nat.lt_or_ge (len c) 2 with h5 | h5
    · exact absurd (len_eq_one (by omega)) hc1
    · exact h5
  have le2 : 2 ≤ len e := by
    rcases Nat.lt_or_ge (len e) 2 with h5 | h5
    · exact absurd (len_eq_one (by omega)) he1
    · exact h5
  have lm := len_mul he0 hc0
  rw [← he] at lm
  have : ∃ g, dv g p ∧ 2 ≤ len g ∧ 2 * len g ≤ len p + 1 := by
    rcases Nat.le_total (len c) (len e) with h5 | h5
    · exact ⟨c, ⟨e, he⟩, lc2, by omega⟩
    · exact ⟨e, ⟨c, by rw [he, mul_comm]⟩, le2, by omega⟩
  obtain ⟨g, g1, g2, g3⟩ := this
  obtain ⟨f, f1, f2, f3⟩ := least_divisor (p := p) (len g) g (Nat.le_refl _) g1 g2
  have fl := f1.1
  have hk := h (len f - 1) (by omega) (by omega)
  have hfp := f1.ne
  have : dv f (pmod (pw 2 (2 ^ (len f - 1))) p ^^^ 2) := by
    have a1 : dv f (pw 2 (2 ^ (len f - 1)) ^^^ 2) := (pmod_eq_iff hfp).1 (fermat' 2 f1 (by omega))
    have a2 := dv_trans f2 (dv_pmod_self (pw 2 (2 ^ (len f - 1))) hp)
    have := dv_xor a2 a1
    have e2 : pw 2 (2 ^ (len f - 1)) ^^^ pmod (pw 2 (2 ^ (len f - 1))) p ^^^ (pw 2 (2 ^ (len f - 1)) ^^^ 2) = (pw 2 (2 ^ (len f - 1)) ^^^ pw 2 (2 ^ (len f - 1))) ^^^ (pmod (pw 2 (2 ^ (len f - 1))) p ^^^ 2) := by ac_rfl
    rwa [e2, Nat.xor_self, Nat.zero_xor] at this
  have := dv_pgcd this f2
  rw [hk] at this
  have := dv_one this
  subst this
  rw [len_one] at fl; omega

end Gf2
end Go.Proofs.Ytfhgamaakkoplaa
namespace Go.Proofs.Ytfhgamaakkoplaa
namespace Gf2

/-- the order. -/
def IsOrd (a p n : Nat) : Prop := 1 ≤ n ∧ pmod (pw a n) p = 1 ∧ ∀ m, 1 ≤ m → m < n → pmod (pw a m) p ≠ 1

theorem length_le_of_nodup : ∀ {l l' : List Nat}, l.Nodup → (∀ x, x ∈ l → x ∈ l') → l.length ≤ l'.length := by
  intro l
  induction l with
  | nil => intro l' _ _; simp
  | cons x l ih =>
    intro l' hn hs
    have hx : x ∈ l' := hs x (by simp)
    have hp := List.perm_cons_erase hx
    have hlen := hp.length_eq
    have h2 : l.length ≤ (l'.erase x).length := by
      apply ih (List.nodup_cons.1 hn).2
      intro y hy
      have hyx : y ≠ x := by
        rintro rfl; exact (List.nodup_cons.1 hn).1 hy
      exact (List.mem_erase_of_ne hyx).2 (hs y (by simp [hy]))
    simp at hlen ⊢; omega

theorem pgcd_mul_one {a b p : Nat} (hp : p ≠ 0) (h64 : len p ≤ 64) (ha : pgcd a p = 1) (hb : pgcd b p = 1) : pgcd (mul a b) p = 1 := by
  apply Eq.symm
  apply pgcd_unique (one_dv _) (one_dv _)
  intro e h1 h2
  obtain ⟨ia, -⟩ := inv_exists hp h64 ha
  obtain ⟨ib, -⟩ := inv_exists hp h64 hb
  have j1 := dv_trans h2 ia
  have j2 := dv_trans h2 ib
  -- (ca a + 1) (cb b) + (cb b + 1) = ca cb a b + 1
  have j3 := dv_mul_right (mul (cof b p) b) j1
  rw [xor_mul, one_mul] at j3
  have j4 := dv_xor j3 j2
  have e1 : mul (mul (cof a p) a) (mul (cof b p) b) ^^^ mul (cof b p) b ^^^ (mul (cof b p) b ^^^ 1) = mul (mul (cof a p) a) (mul (cof b p) b) ^^^ 1 ^^^ (mul (cof b p) b ^^^ mul (cof b p) b) := by ac_rfl
  rw [e1, Nat.xor_self, Nat.xor_zero] at j4
  have e2 : mul (mul (cof a p) a) (mul (cof b p) b) = mul (mul (cof a p) (cof b p)) (mul a b) := by
    rw [mul_assoc, mul_assoc, ← mul_assoc a, mul_comm a (cof b p), mul_assoc]
  rw [e2] at j4
  have j5 := dv_xor j4 (dv_mul_left (mul (cof a p) (cof b p)) h1)
  have e3 : mul (mul (cof a p) (cof b p)) (mul a b) ^^^ 1 ^^^ mul (mul (cof a p) (cof b p)) (mul a b) = 1 ^^^ (mul (mul (cof a p) (cof b p)) (mul a b) ^^^ mul (mul (cof a p) (cof b p)) (mul a b)) := by ac_rfl
  rwa [e3, Nat.xor_self, Nat.xor_zero] at j5

theorem pgcd_pw {a p : Nat} (hp : p ≠ 0) (h64 : len p ≤ 64) (ha : pgcd a p = 1) (n : Nat) : pgcd (pw a n) p = 1 := by
  induction n with
  | zero =>
    apply Eq.symm
    exact pgcd_unique (one_dv _) (one_dv _) (fun e h1 _ => h1)
  | succ n ih => exact pgcd_mul_one hp h64 ha ih

theorem pow_unit {a p : Nat} (h2 : 2 ≤ len p) (h64 : len p ≤ 64) (ha : pgcd a p = 1) : ∃ n, 1 ≤ n ∧ n ≤ 2 ^ (len p - 1) - 1 ∧ pmod (pw a n) p = 1 := by
  have hp : p ≠ 0 := len_pos.1 (by omega)
  have hq : 2 ≤ 2 ^ (len p - 1) := by
    have : 2 ^ 1 ≤ 2 ^ (len p - 1) := Nat.pow_le_pow_right (by omega) (by omega)
    omega
  apply Classical.byContradiction
  intro hn
  have hinj : ∀ i j, i < j → j < 2 ^ (len p - 1) → pmod (pw a i) p ≠ pmod (pw a j) p := by
    intro i j hij hj e
    apply hn
    refine ⟨j - i, by omega, by omega, ?_⟩
    have h1 := (pmod_eq_iff hp).1 e
    have e2 : pw a j = mul (pw a i) (pw a (j - i)) := by rw [← pw_add]; congr 1; omega
    rw [e2] at h1
    have h3 : dv p (mul (pw a i) 1 ^^^ mul (pw a i) (pw a (j - i))) := by rw [mul_one]; exact h1
    have := (pmod_eq_iff hp).2 (cancel hp h64 (pgcd_pw hp h64 ha i) h3)
    rw [← this]
    exact pmod_small (by rw [len_one]; omega)
  have hlen := length_le_of_nodup (l := (List.range (2 ^ (len p - 1))).map fun i => pmod (pw a i) p) (l' := List.range' 1 (2 ^ (len p - 1) - 1)) (by
      apply nodup_map_inj List.nodup_range
      intro x y hx hy e
      have hx := List.mem_range.1 hx
      have hy := List.mem_range.1 hy
      rcases Nat.lt_trichotomy x y with h | h | h
      · exact absurd e (hinj x y h hy)
      · exact h
      · exact absurd e.symm (hinj y x h hx)) (by
      intro z hz
      obtain ⟨i, -, rfl⟩ := List.mem_map.1 hz
      have hl := len_pmod (pw a i) hp
      have h0 : pmod (pw a i) p ≠ 0 := by
        intro h0
        have h1 := (pmod_eq_zero hp).1 h0
        have h2' := dv_pgcd h1 (dv_refl p)
        rw [pgcd_pw hp h64 ha] at h2'
        have := dv_one h2'
        rw [this, len_one] at h2; omega
      have := len_le.1 (show len (pmod (pw a i) p) ≤ len p - 1 by omega)
      rw [List.mem_range'_1]
      omega)
  simp at hlen
  omega

theorem least_exists {P : Nat → Prop} : ∀ n, P n → ∃ m, P m ∧ m ≤ n ∧ ∀ k, k < m → ¬ P k := by
  intro n
  induction n using Nat.strongRecOn with
  | _ n ih =>
    intro h
    by_cases hk : ∃ k, k < n ∧ P k
    · obtain ⟨k, hk1, hk2⟩ := hk
      obtain ⟨m, m1, m2, m3⟩ := ih k hk1 hk2
      exact ⟨m, m1, by omega, m3⟩
    · exact ⟨n, h, Nat.le_refl _, fun k h1 h2 => hk ⟨k, h1, h2⟩⟩

theorem ord_exists {a p : Nat} (h2 : 2 ≤ len p) (h64 : len p ≤ 64) (ha : pgcd a p = 1) : ∃ n, IsOrd a p n ∧ n ≤ 2 ^ (len p - 1) - 1 := by
  obtain ⟨n, n1, n2, n3⟩ := pow_unit h2 h64 ha
  obtain ⟨m, m1, m2, m3⟩ := least_exists (P := fun n => 1 ≤ n ∧ pmod (pw a n) p = 1) n ⟨n1, n3⟩
  exact ⟨m, ⟨m1.1, m1.2, fun k k1 k2 k3 => m3 k k2 ⟨k1, k3⟩⟩, by omega⟩

theorem ord_dvd {a p n m : Nat} (hp : p ≠ 0) (h2 : 2 ≤ len p) (h : IsOrd a p n) (hm : pmod (pw a m) p = 1) : m % n = 0 := by
  obtain ⟨n1, n2, n3⟩ := h
  apply Classical.byContradiction
  intro h0
  apply n3 (m % n) (by omega) (Nat.mod_lt _ (by omega))
  have e : m = n * (m / n) + m % n := (Nat.div_add_mod m n).symm
  rw [e, pw_add, pw_mul, ← pmod_mul_left _ _ hp, ← pmod_pw _ _ hp, n2, one_pw] at hm
  rw [show pmod 1 p = 1 from pmod_small (by rw [len_one]; omega), one_mul] at hm
  exact hm

theorem pw_dvd {a p n m : Nat} (h2 : 2 ≤ len p) (h : pmod (pw a n) p = 1) (hd : m % n = 0) : pmod (pw a m) p = 1 := by
  have hp : p ≠ 0 := len_pos.1 (by omega)
  have e : m = n * (m / n) := by have := Nat.div_add_mod m n; omega
  rw [e, pw_mul, ← pmod_pw _ _ hp, h, one_pw]
  exact pmod_small (by rw [len_one]; omega)

theorem div_255 {n : Nat} (h1 : 1 ≤ n) (h : 255 % n = 0) (hn : n ≠ 255) : 85 % n = 0 ∨ 51 % n = 0 ∨ 15 % n = 0 := by
  have hs : n < 256 := by
    apply Classical.byContradiction
    intro hc
    rw [Nat.mod_eq_of_lt (by omega)] at h; omega
  have big : ∀ n : Fin 256, n.val ≠ 0 → n.val ≠ 255 → 255 % n.val = 0 → 85 % n.val = 0 ∨ 51 % n.val = 0 ∨ 15 % n.val = 0 := by decide +kernel
  exact big ⟨n, hs⟩ (by simp only; omega) hn h

theorem ord_8 : IsOrd 2 285 255 := by
  have hl : len 285 = 9 := by decide
  obtain ⟨n, hn, hb⟩ := ord_exists (a := 2) (p := 285) (by omega) (by omega) (by decide)
  have key : ∀ m, powM 2 m 285 = pmod (pw 2 m) 285 := powM_spec (by omega) (by omega) 2
  have h1 : pmod (pw 2 255) 285 = 1 := by rw [← key]; decide +kernel
  have hd := ord_dvd (by decide) (by omega) hn h1
  by_cases e : n = 255
  · rw [← e]; exact hn
  · exfalso
    rcases div_255 hn.1 hd e with h | h | h
    · have := pw_dvd (by omega) hn.2.1 h
      rw [← key] at this; revert this; decide +kernel
    · have := pw_dvd (by omega) hn.2.1 h
      rw [← key] at this; revert this; decide +kernel
    · have := pw_dvd (by omega) hn.2.1 h
      rw [← key] at this; revert this; decide +kernel

end Gf2
end Go.Proofs.Ytfhgamaakkoplaa
