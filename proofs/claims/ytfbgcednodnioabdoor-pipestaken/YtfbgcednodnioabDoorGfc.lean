import Derived.Test.YtfbgcednodnioabDoorGfb
namespace Go.Proofs.YtfbgcednodnioabDoor
namespace Gf2

def gcdF : Nat → Nat → Nat → Nat
  | 0, a, _ => a
  | n + 1, a, b => if b = 0 then a else gcdF n b (pmod a b)
/-- the greatest common divisor, by Euclid. -/
def pgcd (a b : Nat) : Nat := gcdF (len b) a b

def cofF : Nat → Nat → Nat → Nat → Nat → Nat × Nat
  | 0, a, _, u, _ => (a, u)
  | n + 1, a, b, u, x => if b = 0 then (a, u) else cofF n b (pmod a b) x (u ^^^ prod (pdiv a b) x)
/-- the cofactor of a, as the program finds it. -/
def cof (a b : Nat) : Nat := (cofF (len b) a b 1 0).2

def tm (a b p : Nat) : Nat := pmod (prod a b) p

def powF : Nat → Nat → Nat → Nat → Nat → Nat
  | 0, z, _, _, _ => z
  | k + 1, z, s, n, p => if n = 0 then z else powF k (if n % 2 = 1 then tm z s p else z) (tm s s p) (n / 2) p
def powM (a n p : Nat) : Nat := powF (len n) 1 (pmod a p) n p

def irrF : Nat → Nat → Nat → Nat → Bool
  | 0, _, _, _ => true
  | k + 1, i, z, p => if 2 * i + 1 ≤ len p then (if pgcd (tm z z p ^^^ 2) p = 1 then irrF k (i + 1) (tm z z p) p else false) else true
def irr (p : Nat) : Bool := irrF (len p) 1 (pmod 2 p) p

theorem pmod_small {a b : Nat} (h : len a < len b) : pmod a b = a := by
  have := (div_unique (a := a) (b := b) (q := 0) (r := a) (by simp [zero_mul]) h).2
  exact this.symm
theorem pdiv_small {a b : Nat} (h : len a < len b) : pdiv a b = 0 :=
  ((div_unique (a := a) (b := b) (q := 0) (r := a) (by simp [zero_mul]) h).1).symm

theorem gcdF_stable (n : Nat) : ∀ m a b, len b ≤ n → n ≤ m → gcdF m a b = gcdF n a b := by
  induction n with
  | zero =>
    intro m a b h _
    have : b = 0 := len_eq_zero.1 (by omega)
    subst this
    cases m <;> simp [gcdF]
  | succ n ih =>
    intro m a b h hm
    cases m with
    | zero => omega
    | succ m =>
      simp only [gcdF]
      split
      · rfl
      · rename_i hb
        have := len_pmod a hb
        exact ih m b _ (by omega) (by omega)

theorem pgcd_zero (a : Nat) : pgcd a 0 = a := rfl
theorem pgcd_step {a b : Nat} (hb : b ≠ 0) : pgcd a b = pgcd b (pmod a b) := by
  have h := len_pmod a hb
  have hp := len_pos.2 hb
  unfold pgcd
  obtain ⟨m, hm⟩ : ∃ m, len b = m + 1 := ⟨len b - 1, by omega⟩
  rw [hm]
  simp only [gcdF, if_neg hb]
  exact gcdF_stable _ _ _ _ (Nat.le_refl _) (by omega)

/-- a divides b. -/
def dv (a b : Nat) : Prop := ∃ c, b = mul c a

theorem dv_refl (a : Nat) : dv a a := ⟨1, (one_mul a).symm⟩
theorem dv_zero (a : Nat) : dv a 0 := ⟨0, rfl⟩
theorem one_dv (a : Nat) : dv 1 a := ⟨a, (mul_one a).symm⟩
theorem dv_trans {a b c : Nat} (h1 : dv a b) (h2 : dv b c) : dv a c := by
  obtain ⟨x, rfl⟩ := h1; obtain ⟨y, rfl⟩ := h2
  exact ⟨mul y x, (mul_assoc y x a).symm⟩
theorem dv_xor {a b c : Nat} (h1 : dv a b) (h2 : dv a c) : dv a (b ^^^ c) := by
  obtain ⟨x, rfl⟩ := h1; obtain ⟨y, rfl⟩ := h2
  exact ⟨x ^^^ y, (xor_mul x y a).symm⟩
theorem dv_mul_left {a b : Nat} (c : Nat) (h : dv a b) : dv a (mul c b) := by
  obtain ⟨x, rfl⟩ := h
  exact ⟨mul c x, (mul_assoc c x a).symm⟩
theorem dv_mul_right {a b : Nat} (c : Nat) (h : dv a b) : dv a (mul b c) := by
  rw [mul_comm]; exact dv_mul_left c h
theorem dv_of_xor {a b c : Nat} (h1 : dv a (b ^^^ c)) (h2 : dv a c) : dv a b := by
  have := dv_xor h1 h2
  rwa [Nat.xor_assoc, Nat.xor_self, Nat.xor_zero] at this
theorem dv_len {a b : Nat} (h : dv a b) (hb : b ≠ 0) : a ≠ 0 ∧ len a ≤ len b := by
  obtain ⟨c, rfl⟩ := h
  have ha : a ≠ 0 := by rintro rfl; exact hb (mul_zero c)
  have hc : c ≠ 0 := by rintro rfl; exact hb (zero_mul a)
  have := len_mul hc ha
  have := len_pos.2 hc
  exact ⟨ha, by omega⟩
theorem len_eq_one {a : Nat} (h : len a = 1) : a = 1 := by
  have h1 : a < 2 ^ 1 := len_le.1 (by omega)
  have h2 : 2 ^ 0 ≤ a := lt_len.1 (by omega)
  omega
theorem dv_antisymm {a b : Nat} (h1 : dv a b) (h2 : dv b a) : a = b := by
  by_cases hb : b = 0
  · subst hb
    obtain ⟨c, e⟩ := h2
    rw [mul_zero] at e; exact e
  · obtain ⟨ha, l1⟩ := dv_len h1 hb
    obtain ⟨_, l2⟩ := dv_len h2 ha
    obtain ⟨c, rfl⟩ := h1
    have hc : c ≠ 0 := by rintro rfl; exact hb (zero_mul a)
    have := len_mul hc ha
    have := len_pos.2 ha
    have : len c = 1 := by omega
    rw [len_eq_one this, one_mul]
theorem dv_one {a : Nat} (h : dv a 1) : a = 1 := dv_antisymm h (one_dv a)
theorem pmod_eq_zero {a b : Nat} (hb : b ≠ 0) : pmod a b = 0 ↔ dv b a := by
  constructor
  · intro h
    have := div_spec a hb
    rw [h, Nat.xor_zero] at this
    exact ⟨_, this⟩
  · rintro ⟨c, rfl⟩
    exact ((div_unique (a := mul c b) (b := b) (q := c) (r := 0) (by simp) (by rw [len_zero]; exact len_pos.2 hb)).2).symm

theorem dv_pmod {d a b : Nat} (hb : b ≠ 0) (h1 : dv d a) (h2 : dv d b) : dv d (pmod a b) := by
  have e : pmod a b = a ^^^ mul (pdiv a b) b := by
    have := div_spec a hb
    have h3 : mul (pdiv a b) b ^^^ pmod a b ^^^ mul (pdiv a b) b = pmod a b := by
      rw [Nat.xor_comm (mul (pdiv a b) b), Nat.xor_assoc, Nat.xor_self, Nat.xor_zero]
    rw [← this] at h3
    exact h3.symm
  rw [e]
  exact dv_xor h1 (dv_mul_left _ h2)
theorem dv_of_pmod {d a b : Nat} (hb : b ≠ 0) (h1 : dv d b) (h2 : dv d (pmod a b)) : dv d a := by
  rw [div_spec a hb]
  exact dv_xor (dv_mul_left _ h1) h2

theorem pgcd_dv (a b : Nat) : dv (pgcd a b) a ∧ dv (pgcd a b) b := by
  suffices h : ∀ n a b, len b ≤ n → dv (pgcd a b) a ∧ dv (pgcd a b) b from h (len b) a b (Nat.le_refl _)
  intro n
  induction n with
  | zero =>
    intro a b h
    have : b = 0 := len_eq_zero.1 (by omega)
    subst this
    exact ⟨dv_refl a, dv_zero _⟩
  | succ n ih =>
    intro a b h
    by_cases hb : b = 0
    · subst hb; exact ⟨dv_refl a, dv_zero _⟩
    · rw [pgcd_step hb]
      have := len_pmod a hb
      obtain ⟨h1, h2⟩ := ih b (pmod a b) (by omega)
      exact ⟨dv_of_pmod hb h1 h2, h1⟩

theorem dv_pgcd {d a b : Nat} (h1 : dv d a) (h2 : dv d b) : dv d (pgcd a b) := by
  suffices h : ∀ n a b, len b ≤ n → dv d a → dv d b → dv d (pgcd a b) from h (len b) a b (Nat.le_refl _) h1 h2
  intro n
  induction n with
  | zero =>
    intro a b h h1 _
    have : b = 0 := len_eq_zero.1 (by omega)
    subst this; exact h1
  | succ n ih =>
    intro a b h h1 h2
    by_cases hb : b = 0
    · subst hb; exact h1
    · rw [pgcd_step hb]
      have := len_pmod a hb
      exact ih b _ (by omega) h2 (dv_pmod hb h1 h2)

theorem pgcd_unique {d a b : Nat} (h1 : dv d a) (h2 : dv d b) (h : ∀ e, dv e a → dv e b → dv e d) : d = pgcd a b :=
  dv_antisymm (dv_pgcd h1 h2) (h _ (pgcd_dv a b).1 (pgcd_dv a b).2)

theorem pgcd_comm (a b : Nat) : pgcd a b = pgcd b a :=
  pgcd_unique (pgcd_dv a b).2 (pgcd_dv a b).1 (fun _ h1 h2 => dv_pgcd h2 h1)

theorem pgcd_ne_zero {a b : Nat} (h : a ≠ 0 ∨ b ≠ 0) : pgcd a b ≠ 0 := by
  intro h0
  obtain ⟨h1, h2⟩ := pgcd_dv a b
  rw [h0] at h1 h2
  rcases h with h | h
  · exact (dv_len h1 h).1 rfl
  · exact (dv_len h2 h).1 rfl

theorem pmod_mul {a b c : Nat} (hb : b ≠ 0) (hc : c ≠ 0) : pmod (mul a c) (mul b c) = mul (pmod a b) c := by
  have h := div_spec a hb
  have hl := len_pmod a hb
  refine ((div_unique (a := mul a c) (b := mul b c) (q := pdiv a b) (r := mul (pmod a b) c) ?_ ?_).2).symm
  · conv => lhs; rw [h]
    rw [xor_mul, mul_assoc]
  · have l1 := len_mul hb hc
    have l2 := len_mul_le (pmod a b) c
    have := len_pos.2 hb; have := len_pos.2 hc
    by_cases hr : pmod a b = 0
    · rw [hr, zero_mul, len_zero]; omega
    · have := len_mul hr hc; have := len_pos.2 hr; omega

theorem pgcd_mul {c : Nat} (hc : c ≠ 0) (a b : Nat) : pgcd (mul a c) (mul b c) = mul (pgcd a b) c := by
  suffices h : ∀ n a b, len b ≤ n → pgcd (mul a c) (mul b c) = mul (pgcd a b) c from h (len b) a b (Nat.le_refl _)
  intro n
  induction n with
  | zero =>
    intro a b h
    have : b = 0 := len_eq_zero.1 (by omega)
    subst this; rfl
  | succ n ih =>
    intro a b h
    by_cases hb : b = 0
    · subst hb; rfl
    · rw [pgcd_step hb, pgcd_step (mul_ne_zero hb hc), pmod_mul hb hc]
      have := len_pmod a hb
      exact ih b _ (by omega)

/-- the relation of the cofactors' loop. -/
structure CofRel (a0 b0 A B u x : Nat) : Prop where
  lu : len u < len x
  lx : len x + len A = len b0 + 1
  lb : len B < len A
  g : pgcd A B = pgcd a0 b0
  bu : dv b0 (mul u a0 ^^^ A)
  bx : dv b0 (mul x a0 ^^^ B)

theorem pdiv_len {A B : Nat} (hB : B ≠ 0) (h : len B ≤ len A) : len (pdiv A B) + len B = len A + 1 := by
  have hA : 0 < len A := by have := len_pos.2 hB; omega
  have h1 := div_spec A hB
  have hr := len_pmod A hB
  have hq : pdiv A B ≠ 0 := by
    intro h0; rw [h0, zero_mul, Nat.zero_xor] at h1
    rw [← h1] at hr; omega
  have l := len_mul hq hB
  have lq := len_pos.2 hq
  have e : len (mul (pdiv A B) B ^^^ pmod A B) = len (mul (pdiv A B) B) := by
    rw [Nat.xor_comm]; exact len_xor_of_lt (by omega)
  rw [← h1] at e
  omega

theorem pmod_xor (A : Nat) {B : Nat} (hB : B ≠ 0) : pmod A B = A ^^^ mul (pdiv A B) B := by
  have := div_spec A hB
  have h3 : mul (pdiv A B) B ^^^ pmod A B ^^^ mul (pdiv A B) B = pmod A B := by
    rw [Nat.xor_comm (mul (pdiv A B) B), Nat.xor_assoc, Nat.xor_self, Nat.xor_zero]
  rw [← this] at h3
  exact h3.symm

theorem cof_round {a0 b0 A B u x : Nat} (hb64 : len b0 ≤ 64) (h : CofRel a0 b0 A B u x) (hB : B ≠ 0) :
    CofRel a0 b0 B (pmod A B) x (u ^^^ prod (pdiv A B) x) ∧ prod (pdiv A B) x = mul (pdiv A B) x := by
  have lq := pdiv_len hB (A := A) (by have := h.lb; omega)
  have lB := len_pos.2 hB
  have hx : x ≠ 0 := len_pos.1 (by have := h.lu; omega)
  have lxp := len_pos.2 hx
  have hq : pdiv A B ≠ 0 := by
    intro h0; rw [h0, len_zero] at lq; have := h.lb; omega
  have hlx := h.lx; have hlb := h.lb; have hlu := h.lu
  have e : prod (pdiv A B) x = mul (pdiv A B) x := prod_eq (by omega)
  have lm := len_mul hq hx
  rw [e]
  have ln : len (u ^^^ mul (pdiv A B) x) = len (mul (pdiv A B) x) := len_xor_of_lt (by omega)
  refine ⟨⟨?_, ?_, len_pmod A hB, ?_, h.bx, ?_⟩, rfl⟩
  · omega
  · omega
  · rw [← pgcd_step hB]; exact h.g
  · rw [pmod_xor A hB, xor_mul, mul_assoc]
    have : mul u a0 ^^^ mul (pdiv A B) (mul x a0) ^^^ (A ^^^ mul (pdiv A B) B) = (mul u a0 ^^^ A) ^^^ mul (pdiv A B) (mul x a0 ^^^ B) := by
      rw [mul_xor]; ac_rfl
    rw [this]
    exact dv_xor h.bu (dv_mul_left _ h.bx)

theorem cof_first {a0 b0 : Nat} (hb : b0 ≠ 0) : CofRel a0 b0 b0 (pmod a0 b0) 0 (1 ^^^ prod (pdiv a0 b0) 0) := by
  have e : 1 ^^^ prod (pdiv a0 b0) 0 = 1 := by simp [prod, zero_mul]
  rw [e]
  refine ⟨by rw [len_zero, len_one]; omega, by rw [len_one]; omega, len_pmod a0 hb, (pgcd_step hb).symm, ?_, ?_⟩
  · rw [zero_mul, Nat.zero_xor]; exact dv_refl b0
  · rw [one_mul, pmod_xor a0 hb, ← Nat.xor_assoc, Nat.xor_self, Nat.zero_xor]
    exact dv_mul_left _ (dv_refl b0)

theorem cofF_rel (n : Nat) : ∀ {a0 b0 A B u x : Nat}, len b0 ≤ 64 → CofRel a0 b0 A B u x → len B ≤ n →
    ∃ x', CofRel a0 b0 (cofF n A B u x).1 0 (cofF n A B u x).2 x' := by
  induction n with
  | zero =>
    intro a0 b0 A B u x _ h hn
    have : B = 0 := len_eq_zero.1 (by omega)
    subst this
    exact ⟨x, h⟩
  | succ n ih =>
    intro a0 b0 A B u x h64 h hn
    simp only [cofF]
    split
    · rename_i h0; subst h0; exact ⟨x, h⟩
    · rename_i h0
      have := len_pmod A h0
      exact ih h64 (cof_round h64 h h0).1 (by omega)

theorem cof_spec {a b : Nat} (hb : b ≠ 0) (h64 : len b ≤ 64) : (cofF (len b) a b 1 0).1 = pgcd a b ∧ len (cof a b) + len (pgcd a b) ≤ len b ∧ dv b (mul (cof a b) a ^^^ pgcd a b) := by
  have hp := len_pos.2 hb
  obtain ⟨m, hm⟩ : ∃ m, len b = m + 1 := ⟨len b - 1, by omega⟩
  have hl := len_pmod a hb
  obtain ⟨x', h⟩ := cofF_rel m h64 (cof_first (a0 := a) hb) (by omega)
  have e : cofF (len b) a b 1 0 = cofF m b (pmod a b) 0 (1 ^^^ prod (pdiv a b) 0) := by
    rw [hm]; simp only [cofF, if_neg hb]
  have hg : (cofF (len b) a b 1 0).1 = pgcd a b := by
    rw [e]; have := h.g; rwa [pgcd_zero] at this
  refine ⟨hg, ?_, ?_⟩
  · have h1 := h.lx; have h2 := h.lu
    rw [← e, hg] at h1
    unfold cof; rw [e]; omega
  · have h1 := h.bu
    rw [← e, hg] at h1
    exact h1

end Gf2
end Go.Proofs.YtfbgcednodnioabDoor
