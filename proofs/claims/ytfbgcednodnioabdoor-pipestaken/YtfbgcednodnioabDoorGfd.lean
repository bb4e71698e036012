import Derived.Test.YtfbgcednodnioabDoorGfc
namespace Go.Proofs.YtfbgcednodnioabDoor
namespace Gf2

theorem pmod_unique {a b r : Nat} (h : dv b (a ^^^ r)) (hr : len r < len b) : pmod a b = r := by
  obtain ⟨c, e⟩ := h
  have : a = mul c b ^^^ r := by rw [← e, Nat.xor_assoc, Nat.xor_self, Nat.xor_zero]
  exact ((div_unique this hr).2).symm

theorem dv_pmod_self (a : Nat) {p : Nat} (hp : p ≠ 0) : dv p (a ^^^ pmod a p) := by
  rw [pmod_xor a hp, ← Nat.xor_assoc, Nat.xor_self, Nat.zero_xor]
  exact dv_mul_left _ (dv_refl p)

/-- congruence: one remainder. -/
theorem pmod_eq_iff {a b p : Nat} (hp : p ≠ 0) : pmod a p = pmod b p ↔ dv p (a ^^^ b) := by
  constructor
  · intro h
    have h1 := dv_pmod_self a hp
    have h2 := dv_pmod_self b hp
    rw [h] at h1
    have := dv_xor h1 h2
    have e : a ^^^ pmod b p ^^^ (b ^^^ pmod b p) = a ^^^ b ^^^ (pmod b p ^^^ pmod b p) := by ac_rfl
    rwa [e, Nat.xor_self, Nat.xor_zero] at this
  · intro h
    apply pmod_unique _ (len_pmod b hp)
    have h2 := dv_pmod_self b hp
    have := dv_xor h h2
    have e : a ^^^ b ^^^ (b ^^^ pmod b p) = a ^^^ pmod b p ^^^ (b ^^^ b) := by ac_rfl
    rwa [e, Nat.xor_self, Nat.xor_zero] at this

theorem pmod_xor_dist (a b : Nat) {p : Nat} (hp : p ≠ 0) : pmod (a ^^^ b) p = pmod a p ^^^ pmod b p := by
  apply pmod_unique
  · have := dv_xor (dv_pmod_self a hp) (dv_pmod_self b hp)
    have e : a ^^^ pmod a p ^^^ (b ^^^ pmod b p) = a ^^^ b ^^^ (pmod a p ^^^ pmod b p) := by ac_rfl
    rwa [e] at this
  · have h1 := len_pmod a hp
    have h2 := len_pmod b hp
    have := len_xor_lt (a := pmod a p) (b := pmod b p) (n := len p - 1) (by omega) (by omega)
    omega

theorem pmod_pmod (a : Nat) {p : Nat} (hp : p ≠ 0) : pmod (pmod a p) p = pmod a p := pmod_small (len_pmod a hp)

theorem pmod_mul_left (a b : Nat) {p : Nat} (hp : p ≠ 0) : pmod (mul (pmod a p) b) p = pmod (mul a b) p := by
  rw [pmod_eq_iff hp, ← xor_mul, Nat.xor_comm]
  exact dv_mul_right _ (dv_pmod_self a hp)
theorem pmod_mul_right (a b : Nat) {p : Nat} (hp : p ≠ 0) : pmod (mul a (pmod b p)) p = pmod (mul a b) p := by
  rw [mul_comm, pmod_mul_left b a hp, mul_comm]
theorem pmod_mul_both (a b : Nat) {p : Nat} (hp : p ≠ 0) : pmod (mul (pmod a p) (pmod b p)) p = pmod (mul a b) p := by
  rw [pmod_mul_left _ _ hp, pmod_mul_right _ _ hp]

/-- powers, whole. -/
def pw (a : Nat) : Nat → Nat
  | 0 => 1
  | n + 1 => mul a (pw a n)

theorem pw_one (a : Nat) : pw a 1 = a := by simp [pw, mul_one]
theorem pw_add (a m n : Nat) : pw a (m + n) = mul (pw a m) (pw a n) := by
  induction m with
  | zero => rw [Nat.zero_add]; exact (one_mul _).symm
  | succ m ih => rw [Nat.succ_add]; simp only [pw]; rw [ih, mul_assoc]
theorem pw_mul (a m n : Nat) : pw a (m * n) = pw (pw a m) n := by
  induction n with
  | zero => rfl
  | succ n ih => rw [Nat.mul_succ, Nat.add_comm, pw_add, ih]; rfl
theorem one_pw (n : Nat) : pw 1 n = 1 := by
  induction n with
  | zero => rfl
  | succ n ih => simp only [pw]; rw [ih, one_mul]
theorem mul_pw (a b n : Nat) : pw (mul a b) n = mul (pw a n) (pw b n) := by
  induction n with
  | zero => exact (one_mul 1).symm
  | succ n ih =>
    simp only [pw]; rw [ih, mul_assoc, mul_assoc, ← mul_assoc b, mul_comm b, mul_assoc]
theorem pw_two (a : Nat) : pw a 2 = mul a a := by simp [pw, mul_one]
theorem xor_sq (a b : Nat) : pw (a ^^^ b) 2 = pw a 2 ^^^ pw b 2 := by
  rw [pw_two, pw_two, pw_two, mul_xor, xor_mul, xor_mul, mul_comm b a]
  have : mul a a ^^^ mul a b ^^^ (mul a b ^^^ mul b b) = mul a a ^^^ mul b b ^^^ (mul a b ^^^ mul a b) := by ac_rfl
  rw [this, Nat.xor_self, Nat.xor_zero]
theorem pmod_pw (a n : Nat) {p : Nat} (hp : p ≠ 0) : pmod (pw (pmod a p) n) p = pmod (pw a n) p := by
  induction n with
  | zero => rfl
  | succ n ih =>
    simp only [pw]
    rw [← pmod_mul_right, ih, pmod_mul_right _ _ hp, pmod_mul_left _ _ hp]
    exact hp

/-- residues of a modulus of at most 33 bits: the program's product is whole. -/
theorem tm_eq {a b p : Nat} (h33 : len p ≤ 33) (ha : len a < len p) (hb : len b < len p) : tm a b p = pmod (mul a b) p := by
  unfold tm; rw [prod_eq (by omega)]

theorem len_tm (a b : Nat) {p : Nat} (hp : p ≠ 0) : len (tm a b p) < len p := len_pmod _ hp

theorem powF_spec {p : Nat} (hp : p ≠ 0) (h33 : len p ≤ 33) (k : Nat) : ∀ z s n, len n ≤ k → len z < len p → len s < len p →
    powF k z s n p = pmod (mul z (pw s n)) p := by
  induction k with
  | zero =>
    intro z s n h hz _
    have : n = 0 := len_eq_zero.1 (by omega)
    subst this
    simp only [powF, pw, mul_one]
    exact (pmod_small hz).symm
  | succ k ih =>
    intro z s n h hz hs
    simp only [powF]
    split
    · rename_i h0; subst h0; simp only [pw, mul_one]; exact (pmod_small hz).symm
    · rename_i h0
      have hl := len_pos.2 h0
      have hh := @len_half n
      have key : ∀ m, pw (tm s s p) m = pw (pmod (pw s 2) p) m := by
        intro m; rw [tm_eq h33 hs hs, pw_two]
      have ev : n = 2 * (n / 2) + n % 2 := by omega
      by_cases hd : n % 2 = 1
      · rw [if_pos hd, ih _ _ _ (by omega) (len_tm z s hp) (len_tm s s hp), key, tm_eq h33 hz hs]
        rw [pmod_mul_left _ _ hp, ← pmod_mul_right _ _ hp, pmod_pw _ _ hp, pmod_mul_right _ _ hp, ← pw_mul, mul_assoc]
        have : mul s (pw s (2 * (n / 2))) = pw s n := by
          conv => rhs; rw [ev, hd]
          rfl
        rw [this]
      · rw [if_neg hd, ih _ _ _ (by omega) hz (len_tm s s hp), key]
        rw [← pmod_mul_right _ _ hp, pmod_pw _ _ hp, pmod_mul_right _ _ hp, ← pw_mul]
        have : 2 * (n / 2) = n := by omega
        rw [this]

theorem powM_spec {p : Nat} (h2 : 2 ≤ len p) (h33 : len p ≤ 33) (a n : Nat) : powM a n p = pmod (pw a n) p := by
  have hp : p ≠ 0 := len_pos.1 (by omega)
  unfold powM
  rw [powF_spec hp h33 _ _ _ _ (Nat.le_refl _) (by rw [len_one]; omega) (len_pmod a hp), one_mul, pmod_pw _ _ hp]

/-- irreducible: a degree from 1 on, and no divisor but 1 and itself. -/
def Irr (p : Nat) : Prop := 2 ≤ len p ∧ ∀ c, dv c p → c = 1 ∨ c = p

theorem Irr.ne {p : Nat} (h : Irr p) : p ≠ 0 := len_pos.1 (by have := h.1; omega)

theorem irr_gcd {p : Nat} (h : Irr p) (a : Nat) : pgcd a p = 1 ∨ dv p a := by
  rcases h.2 _ (pgcd_dv a p).2 with e | e
  · exact Or.inl e
  · right; have := (pgcd_dv a p).1; rwa [e] at this

/-- where the greatest common divisor is 1 there is an inverse. -/
theorem inv_exists {a p : Nat} (hp : p ≠ 0) (h64 : len p ≤ 64) (h : pgcd a p = 1) : dv p (mul (cof a p) a ^^^ 1) ∧ len (cof a p) < len p := by
  have := cof_spec (a := a) hp h64
  rw [h, len_one] at this
  exact ⟨this.2.2, by omega⟩

theorem cancel {a b c p : Nat} (hp : p ≠ 0) (h64 : len p ≤ 64) (h : pgcd a p = 1) (e : dv p (mul a b ^^^ mul a c)) : dv p (b ^^^ c) := by
  obtain ⟨h1, -⟩ := inv_exists hp h64 h
  have h2 := dv_mul_left (cof a p) e
  rw [← mul_xor, ← mul_assoc] at h2
  have h3 := dv_mul_right (b ^^^ c) h1
  rw [xor_mul, one_mul] at h3
  have := dv_xor h2 h3
  have e2 : mul (mul (cof a p) a) (b ^^^ c) ^^^ (mul (mul (cof a p) a) (b ^^^ c) ^^^ (b ^^^ c)) = b ^^^ c := by
    rw [← Nat.xor_assoc, Nat.xor_self, Nat.zero_xor]
  rwa [e2] at this

theorem irr_prime {a b p : Nat} (h : Irr p) (h64 : len p ≤ 64) (e : dv p (mul a b)) : dv p a ∨ dv p b := by
  rcases irr_gcd h a with g | g
  · right
    have := cancel (b := b) (c := 0) h.ne h64 g (by rw [mul_zero, Nat.xor_zero]; exact e)
    rwa [Nat.xor_zero] at this
  · exact Or.inl g

/-- a list's product. -/
def prodL : List Nat → Nat
  | [] => 1
  | x :: l => mul x (prodL l)

theorem prodL_perm {l l' : List Nat} (h : l.Perm l') : prodL l = prodL l' := by
  induction h with
  | nil => rfl
  | cons x _ ih => simp only [prodL]; rw [ih]
  | swap x y l => simp only [prodL]; rw [← mul_assoc, ← mul_assoc, mul_comm x y]
  | trans _ _ h1 h2 => rw [h1, h2]

theorem perm_of_nodup : ∀ {l l' : List Nat}, l.Nodup → (∀ x, x ∈ l → x ∈ l') → l'.length ≤ l.length → l.Perm l' := by
  intro l
  induction l with
  | nil =>
    intro l' _ _ h
    have : l' = [] := List.length_eq_zero_iff.1 (by simpa using h)
    subst this; exact List.Perm.nil
  | cons x l ih =>
    intro l' hn hs hl
    have hx : x ∈ l' := hs x (by simp)
    have hp := List.perm_cons_erase hx
    have hlen := hp.length_eq
    have h2 : l.Perm (l'.erase x) := by
      apply ih (List.nodup_cons.1 hn).2
      · intro y hy
        have hyx : y ≠ x := by
          rintro rfl; exact (List.nodup_cons.1 hn).1 hy
        have hy' : y ∈ l' := hs y (by simp [hy])
        exact (List.mem_erase_of_ne hyx).2 hy'
      · simp at hlen hl; omega
    exact (h2.cons x).trans hp.symm

theorem prodL_map_mul {a p : Nat} (hp : p ≠ 0) (l : List Nat) : pmod (prodL (l.map fun x => pmod (mul a x) p)) p = pmod (mul (pw a l.length) (prodL l)) p := by
  induction l with
  | nil => simp [prodL, pw, one_mul]
  | cons x l ih =>
    simp only [List.map_cons, prodL, List.length_cons, pw]
    rw [pmod_mul_left _ _ hp, ← pmod_mul_right _ _ hp, ih, pmod_mul_right _ _ hp]
    congr 1
    rw [mul_assoc, mul_assoc, ← mul_assoc x, mul_comm x, mul_assoc]

theorem prodL_coprime {p : Nat} (h : Irr p) (h64 : len p ≤ 64) (l : List Nat) (hl : ∀ x, x ∈ l → ¬ dv p x) : ¬ dv p (prodL l) := by
  induction l with
  | nil =>
    intro h1
    have := dv_one h1
    have := h.1
    subst p; rw [len_one] at this; omega
  | cons x l ih =>
    intro h1
    simp only [prodL] at h1
    rcases irr_prime h h64 h1 with g | g
    · exact hl x (by simp) g
    · exact ih (fun y hy => hl y (by simp [hy])) g

theorem nodup_map_inj {f : Nat → Nat} : ∀ {l : List Nat}, l.Nodup → (∀ x y, x ∈ l → y ∈ l → f x = f y → x = y) → (l.map f).Nodup := by
  intro l
  induction l with
  | nil => intros; exact List.nodup_nil
  | cons a l ih =>
    intro hn hf
    rw [List.map_cons, List.nodup_cons]
    obtain ⟨h1, h2⟩ := List.nodup_cons.1 hn
    refine ⟨?_, ih h2 (fun x y hx hy => hf x y (by simp [hx]) (by simp [hy]))⟩
    intro hm
    obtain ⟨b, hb, e⟩ := List.mem_map.1 hm
    have := hf b a (by simp [hb]) (by simp) e
    subst this
    exact h1 hb

theorem fermat {a p : Nat} (h : Irr p) (h64 : len p ≤ 64) (ha : ¬ dv p a) : pmod (pw a (2 ^ (len p - 1) - 1)) p = 1 := by
  have hp := h.ne
  have h1 := h.1
  have hq : 2 ≤ 2 ^ (len p - 1) := by
    have : 2 ^ 1 ≤ 2 ^ (len p - 1) := Nat.pow_le_pow_right (by omega) (by omega)
    omega
  let l := List.range' 1 (2 ^ (len p - 1) - 1)
  have hmem : ∀ x, x ∈ l ↔ x ≠ 0 ∧ len x < len p := by
    intro x
    have e : len x ≤ len p - 1 ↔ x < 2 ^ (len p - 1) := len_le
    simp only [l, List.mem_range'_1]
    omega
  have hndv : ∀ x, x ∈ l → ¬ dv p x := by
    intro x hx hd
    obtain ⟨x0, xl⟩ := (hmem x).1 hx
    have := (dv_len hd x0).2
    omega
  have hg : pgcd a p = 1 := by
    rcases irr_gcd h a with g | g
    · exact g
    · exact absurd g ha
  have hperm : (l.map fun x => pmod (mul a x) p).Perm l := by
    apply perm_of_nodup
    · apply nodup_map_inj (List.nodup_range')
      intro x y hx hy e
      have h2 := cancel hp h64 hg ((pmod_eq_iff hp).1 e)
      have h3 := (pmod_eq_iff hp).2 h2
      rw [pmod_small ((hmem x).1 hx).2, pmod_small ((hmem y).1 hy).2] at h3
      exact h3
    · intro z hz
      obtain ⟨x, hx, rfl⟩ := List.mem_map.1 hz
      refine (hmem _).2 ⟨?_, len_pmod _ hp⟩
      intro h0
      rcases irr_prime h h64 ((pmod_eq_zero hp).1 h0) with g | g
      · exact ha g
      · exact hndv x hx g
    · simp
  have e := prodL_map_mul (a := a) hp l
  rw [prodL_perm hperm] at e
  have hl : l.length = 2 ^ (len p - 1) - 1 := by simp [l]
  rw [hl] at e
  have hP : pgcd (prodL l) p = 1 := by
    rcases irr_gcd h (prodL l) with g | g
    · exact g
    · exact absurd g (prodL_coprime h h64 l hndv)
  have e2 : dv p (mul (prodL l) 1 ^^^ mul (prodL l) (pw a (2 ^ (len p - 1) - 1))) := by
    rw [mul_one, mul_comm (prodL l)]
    exact (pmod_eq_iff hp).1 e
  have e3 := (pmod_eq_iff hp).2 (cancel hp h64 hP e2)
  rw [← e3]
  exact pmod_small (by rw [len_one]; omega)

theorem fermat' {p : Nat} (a : Nat) (h : Irr p) (h64 : len p ≤ 64) : pmod (pw a (2 ^ (len p - 1))) p = pmod a p := by
  have hp := h.ne
  have h1 := h.1
  have hq : 2 ≤ 2 ^ (len p - 1) := by
    have : 2 ^ 1 ≤ 2 ^ (len p - 1) := Nat.pow_le_pow_right (by omega) (by omega)
    omega
  have e : 2 ^ (len p - 1) = (2 ^ (len p - 1) - 1) + 1 := by omega
  rw [e]
  simp only [pw]
  by_cases ha : dv p a
  · rw [(pmod_eq_zero hp).2 ha, (pmod_eq_zero hp).2 (dv_mul_right _ ha)]
  · rw [← pmod_mul_right _ _ hp, fermat h h64 ha, mul_one]

/-- the least divisor from degree 1 on is irreducible. -/
theorem least_divisor {p : Nat} : ∀ n c, len c ≤ n → dv c p → 2 ≤ len c → ∃ f, Irr f ∧ dv f p ∧ len f ≤ len c := by
  intro n
  induction n with
  | zero => intro c h1 _ h2; omega
  | succ n ih =>
    intro c h1 hc h2
    by_cases hi : Irr c
    · exact ⟨c, hi, hc, Nat.le_refl _⟩
    · have : ∃ e, dv e c ∧ e ≠ 1 ∧ e ≠ c := by
        apply Classical.byContradiction
        intro hn
        apply hi
        refine ⟨h2, fun e he => ?_⟩
        by_cases h3 : e = 1
        · exact Or.inl h3
        · by_cases h4 : e = c
          · exact Or.inr h4
          · exact absurd ⟨e, he, h3, h4⟩ hn
      obtain ⟨e, he, e1, e2⟩ := this
      have hc0 : c ≠ 0 := len_pos.1 (by omega)
      obtain ⟨he0, hle⟩ := dv_len he hc0
      have hl1 : 2 ≤ len e := by
        have := len_pos.2 he0
        rcases Nat.lt_or_ge (len e) 2 with h5 | h5
        · exact absurd (len_eq_one (by omega)) e1
        · exact h5
      have hl2 : len e < len c := by
        rcases Nat.lt_or_ge (len e) (len c) with h5 | h5
        · exact h5
        · exfalso; apply e2
          obtain ⟨k, hk⟩ := he
          have hk0 : k ≠ 0 := by rintro rfl; rw [zero_mul] at hk; exact hc0 hk
          have := len_mul hk0 he0
          rw [← hk] at this
          have := len_pos.2 hk0
          have : k = 1 := len_eq_one (by omega)
          rw [hk, this, one_mul]
      obtain ⟨f, f1, f2, f3⟩ := ih e (by omega) (dv_trans he hc) hl1
      exact ⟨f, f1, f2, by omega⟩

theorem irrF_spec {p : Nat} (hp : p ≠ 0) (h33 : len p ≤ 33) (k : Nat) : ∀ i z, len p ≤ k + i → 1 ≤ i → z = pmod (pw 2 (2 ^ (i - 1))) p →
    (irrF k i z p = true ↔ ∀ j, i ≤ j → 2 * j + 1 ≤ len p → pgcd (pmod (pw 2 (2 ^ j)) p ^^^ 2) p = 1) := by
  induction k with
  | zero =>
    intro i z hk hi _
    simp only [irrF, true_iff]
    intro j hj h; omega
  | succ k ih =>
    intro i z hk hi hz
    have hzl : len z < len p := by rw [hz]; exact len_pmod _ hp
    have ht : tm z z p = pmod (pw 2 (2 ^ i)) p := by
      rw [tm_eq h33 hzl hzl, hz, pmod_mul_both _ _ hp, ← pw_add]
      have : 2 ^ (i - 1) + 2 ^ (i - 1) = 2 ^ i := by
        obtain ⟨m, rfl⟩ : ∃ m, i = m + 1 := ⟨i - 1, by omega⟩
        rw [Nat.add_sub_cancel, Nat.pow_succ]; omega
      rw [this]
    simp only [irrF]
    by_cases hc : 2 * i + 1 ≤ len p
    · rw [if_pos hc]
      by_cases hd : pgcd (tm z z p ^^^ 2) p = 1
      · rw [if_pos hd, ih (i + 1) (tm z z p) (by omega) (by omega) (by rw [ht, Nat.add_sub_cancel])]
        constructor
        · intro h j hj hl
          rcases Nat.lt_or_ge i j with h5 | h5
          · exact h j (by omega) hl
          · have : j = i := by omega
            subst this; rw [← ht]; exact hd
        · intro h j hj hl; exact h j (by omega) hl
      · rw [if_neg hd]
        constructor
        · intro h; cases h
        · intro h; exfalso; apply hd; rw [ht]; exact h i (Nat.le_refl _) hc
    · rw [if_neg hc]
      simp only [true_iff]
      intro j hj h; omega

theorem irr_iff {p : Nat} (h2 : 2 ≤ len p) (h33 : len p ≤ 33) : irr p = true ↔ ∀ j, 1 ≤ j → 2 * j + 1 ≤ len p → pgcd (pmod (pw 2 (2 ^ j)) p ^^^ 2) p = 1 := by
  have hp : p ≠ 0 := len_pos.1 (by omega)
  unfold irr
  exact irrF_spec hp h33 (len p) 1 (pmod 2 p) (by omega) (by omega) (by simp [pw, mul_one])

/-- what the program's test says yes to is irreducible. -/
theorem irr_sound {p : Nat} (h2 : 2 ≤ len p) (h33 : len p ≤ 33) (h : irr p = true) : Irr p := by
  have hp : p ≠ 0 := len_pos.1 (by omega)
  rw [irr_iff h2 h33] at h
  refine ⟨h2, fun c hc => ?_⟩
  apply Classical.byContradiction
  intro hn
  have hc1 : c ≠ 1 := fun e => hn (Or.inl e)
  have hcp : c ≠ p := fun e => hn (Or.inr e)
  obtain ⟨e, he⟩ := hc
  have hc0 : c ≠ 0 := by rintro rfl; rw [mul_zero] at he; exact hp he
  have he0 : e ≠ 0 := by rintro rfl; rw [zero_mul] at he; exact hp he
  have he1 : e ≠ 1 := by rintro rfl; rw [one_mul] at he; exact hcp he.symm
  have lc := len_pos.2 hc0
  have le := len_pos.2 he0
  have lc2 : 2 ≤ len c := by
    rcases Nat.lt_or_ge (len c) 2 with h5 | h5
    · exact absurd (len_eq_one (by omega)) hc1
    · exact h5
  have le2 : 2 ≤ len e := by
    rcases Nat.lt_or_ge (len e) 2 with h5 | h5
    · exact absurd (len_eq_one (by omega)) he1
    · exact h5
  have lm := len_mul he0 hc0
  rw [← he] at lm
  have : ∃ g, dv g p ∧ 2 ≤ len g ∧ 2 * len g ≤ len p + 1 := by
    rcases Nat.le_total (len c) (len e) with h5 | h5
    · exact ⟨c, ⟨e, he⟩, lc2, by omega⟩
    · exact ⟨e, ⟨c, by rw [he, mul_comm]⟩, le2, by omega⟩
  obtain ⟨g, g1, g2, g3⟩ := this
  obtain ⟨f, f1, f2, f3⟩ := least_divisor (p := p) (len g) g (Nat.le_refl _) g1 g2
  have fl := f1.1
  have hk := h (len f - 1) (by omega) (by omega)
  have hfp := f1.ne
  have : dv f (pmod (pw 2 (2 ^ (len f - 1))) p ^^^ 2) := by
    have a1 : dv f (pw 2 (2 ^ (len f - 1)) ^^^ 2) := (pmod_eq_iff hfp).1 (fermat' 2 f1 (by omega))
    have a2 := dv_trans f2 (dv_pmod_self (pw 2 (2 ^ (len f - 1))) hp)
    have := dv_xor a2 a1
    have e2 : pw 2 (2 ^ (len f - 1)) ^^^ pmod (pw 2 (2 ^ (len f - 1))) p ^^^ (pw 2 (2 ^ (len f - 1)) ^^^ 2) = (pw 2 (2 ^ (len f - 1)) ^^^ pw 2 (2 ^ (len f - 1))) ^^^ (pmod (pw 2 (2 ^ (len f - 1))) p ^^^ 2) := by ac_rfl
    rwa [e2, Nat.xor_self, Nat.zero_xor] at this
  have := dv_pgcd this f2
  rw [hk] at this
  have := dv_one this
  subst this
  rw [len_one] at fl; omega

end Gf2
end Go.Proofs.YtfbgcednodnioabDoor
