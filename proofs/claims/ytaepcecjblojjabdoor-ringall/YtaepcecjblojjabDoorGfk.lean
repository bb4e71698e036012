import Derived.Test.YtaepcecjblojjabDoorGfj
namespace Go.Proofs.YtaepcecjblojjabDoor
namespace Gf2

/-- the last coefficient. -/
def lst : List Nat → Nat
  | [] => 0
  | [c] => c
  | _ :: c :: cs => lst (c :: cs)

theorem lst_quo {p : Nat} (hp : p ≠ 0) (r : Nat) : ∀ (a c : Nat) (cs : List Nat), lst (quo p r (a :: c :: cs)) = pmod (lst (c :: cs)) p
  | a, c, [] => by simp [quo, lst, ev, mul_zero]
  | a, c, d :: cs => by
    have ih := lst_quo hp r c d cs
    rw [quo]
    have h : quo p r (c :: d :: cs) = ev p r (d :: cs) :: quo p r (d :: cs) := rfl
    rw [h] at ih ⊢
    exact ih

/-- at as many points as it is long: the last coefficient is 0. -/
theorem roots_lead {p : Nat} (h : Irr p) (h64 : len p ≤ 64) : ∀ (n : Nat) (cs rs : List Nat), cs.length = n + 1 → rs.Nodup → (∀ r ∈ rs, len r < len p ∧ ev p r cs = 0) → n + 1 ≤ rs.length → pmod (lst cs) p = 0 := by
  intro n
  induction n with
  | zero =>
    intro cs rs hl _ hr hlen
    match cs, hl, rs, hlen, hr with
    | [c], _, r :: rs, _, hr =>
      have := (hr r (by simp)).2
      simpa [ev, mul_zero, lst] using this
  | succ n ih =>
    intro cs rs hl hn hr hlen
    have hp := h.ne
    match cs, hl, rs, hn, hr, hlen with
    | a :: c :: cs, hl, r :: rs, hn, hr, hlen =>
      obtain ⟨hr1, hr2⟩ := List.nodup_cons.1 hn
      have hroot : ∀ y, ev p y (a :: c :: cs) = pmod (mul (y ^^^ r) (ev p y (quo p r (a :: c :: cs)))) p := by
        intro y
        rw [ev_quo hp y r (a :: c :: cs), (hr r (by simp)).2, Nat.xor_zero]
      have key := ih (quo p r (a :: c :: cs)) rs (by rw [quo_length]; simp at hl ⊢; omega) hr2 (by
        intro s hs
        obtain ⟨s1, s2⟩ := hr s (by simp [hs])
        refine ⟨s1, ?_⟩
        rw [hroot s] at s2
        rcases irr_prime h h64 ((pmod_eq_zero hp).1 s2) with g | g
        · exfalso
          have hne : s ≠ r := by rintro rfl; exact hr1 hs
          have h0 : s ^^^ r ≠ 0 := fun e => hne (xor_eq_zero e)
          have := (dv_len g h0).2
          have := len_xor_lt (a := s) (b := r) (n := len p - 1) (by omega) (by have := (hr r (by simp)).1; omega)
          omega
        · have := (pmod_eq_zero hp).2 g
          rwa [pmod_small (ev_lt hp _ _)] at this) (by simp at hlen; omega)
      rw [lst_quo hp r a c cs, pmod_pmod _ hp] at key
      exact key

/-- T^(k) as a list, and its value. -/
theorem ev_rep {p : Nat} (hp : p ≠ 0) (_h2 : 2 ≤ len p) (y : Nat) : ∀ k, ev p y (List.replicate k 0 ++ [1]) = pmod (pw y k) p := by
  intro k
  induction k with
  | zero => simp [ev, mul_zero, pw]
  | succ k ih =>
    rw [List.replicate_succ, List.cons_append]
    show pmod (0 ^^^ mul y (ev p y (List.replicate k 0 ++ [1]))) p = _
    rw [ih, Nat.zero_xor, pmod_mul_right _ _ hp]; rfl

theorem lst_rep : ∀ k a, lst (a :: (List.replicate k 0 ++ [1])) = 1
  | 0, a => rfl
  | k + 1, a => by
    rw [List.replicate_succ, List.cons_append]
    exact lst_rep k 0

/-- the polynomial T^N + T. -/
def frob (N : Nat) : List Nat := 0 :: 1 :: (List.replicate (N - 2) 0 ++ [1])
theorem ev_frob {p N : Nat} (hp : p ≠ 0) (h2 : 2 ≤ len p) (hN : 2 ≤ N) (y : Nat) : ev p y (frob N) = pmod (y ^^^ pw y N) p := by
  show pmod (0 ^^^ mul y (pmod (1 ^^^ mul y (ev p y (List.replicate (N - 2) 0 ++ [1]))) p)) p = _
  rw [ev_rep hp h2, Nat.zero_xor, pmod_mul_right _ _ hp]
  have e : pmod (mul y (1 ^^^ mul y (pmod (pw y (N - 2)) p))) p = pmod (mul y (1 ^^^ mul y (pw y (N - 2)))) p := by
    rw [mul_xor, mul_xor, pmod_xor_dist _ _ hp, ← mul_assoc, pmod_mul_right _ _ hp, mul_assoc, ← pmod_xor_dist _ _ hp]
  rw [e, mul_xor, mul_one]
  congr 2
  have : N = (N - 2) + 1 + 1 := by omega
  conv => rhs; rw [this]
  rfl

theorem frob_add (a b : Nat) : ∀ i, pw (a ^^^ b) (2 ^ i) = pw a (2 ^ i) ^^^ pw b (2 ^ i)
  | 0 => by simp [pw, mul_one]
  | i + 1 => by rw [Nat.pow_succ, pw_mul, pw_mul, pw_mul, frob_add a b i, xor_sq]

theorem frob_all {p : Nat} (hp : p ≠ 0) (i : Nat) (hx : pmod (pw 2 (2 ^ i)) p = pmod 2 p) : ∀ n y, len y ≤ n → pmod (pw y (2 ^ i)) p = pmod y p := by
  have hpos : 2 ^ i = (2 ^ i - 1) + 1 := by have := Nat.two_pow_pos i; omega
  intro n
  induction n with
  | zero =>
    intro y h
    have : y = 0 := len_eq_zero.1 (by omega)
    subst this
    rw [hpos]; simp only [pw, zero_mul]
  | succ n ih =>
    intro y h
    have hh := @len_half y
    have e := bit_split y
    have h1 := ih (y / 2) (by omega)
    have h2 : pmod (pw (2 * (y / 2)) (2 ^ i)) p = pmod (2 * (y / 2)) p := by
      rw [← mul_two_left, mul_pw, ← pmod_mul_both _ _ hp, hx, h1, pmod_mul_both _ _ hp]
    have h3 : pw (y % 2) (2 ^ i) = y % 2 := by
      rcases Nat.mod_two_eq_zero_or_one y with h | h
      · rw [h, hpos]; simp only [pw, zero_mul]
      · rw [h, one_pw]
    conv => lhs; rw [e]
    conv => rhs; rw [e]
    rw [frob_add, pmod_xor_dist _ _ hp, h2, h3, ← pmod_xor_dist _ _ hp]

theorem irr_no_frob {p i : Nat} (h : Irr p) (h64 : len p ≤ 64) (hi : 1 ≤ i) (hd : i + 1 < len p) : pmod (pw 2 (2 ^ i)) p ≠ pmod 2 p := by
  intro hx
  have hp := h.ne
  have hN : 2 ≤ 2 ^ i := by
    have : 2 ^ 1 ≤ 2 ^ i := Nat.pow_le_pow_right (by omega) hi
    omega
  have hlt : 2 ^ i < 2 ^ (len p - 1) := Nat.pow_lt_pow_right (by omega) (by omega)
  have := roots_lead h h64 (2 ^ i) (frob (2 ^ i)) (List.range (2 ^ (len p - 1))) (by simp [frob]; omega) List.nodup_range (by
    intro r hr
    have hr := List.mem_range.1 hr
    have hl : len r ≤ len p - 1 := len_le.2 hr
    have := h.1
    refine ⟨by omega, ?_⟩
    rw [ev_frob hp h.1 hN, pmod_xor_dist _ _ hp, frob_all hp i hx (len r) r (Nat.le_refl _), Nat.xor_self]) (by simp; omega)
  unfold frob at this
  have h1 := lst_rep (2 ^ i - 2) 1
  have h2 : lst (0 :: 1 :: (List.replicate (2 ^ i - 2) 0 ++ [1])) = 1 := h1
  rw [h2, pmod_small (by have := h.1; rw [len_one]; omega)] at this
  cases this

/-- the program's test says yes to every irreducible one. -/
theorem irr_complete {p : Nat} (h33 : len p ≤ 33) (h : Irr p) : irr p = true := by
  have hp := h.ne
  rw [irr_iff h.1 h33]
  intro j hj hl
  rcases irr_gcd h (pmod (pw 2 (2 ^ j)) p ^^^ 2) with g | g
  · exact g
  · exfalso
    apply irr_no_frob h (by omega) hj (by omega)
    have := (pmod_eq_iff hp).2 g
    rwa [pmod_pmod _ hp] at this

theorem irr_eq {p : Nat} (h2 : 2 ≤ len p) (h33 : len p ≤ 33) : irr p = true ↔ Irr p := ⟨irr_sound h2 h33, irr_complete h33⟩

/-- by trying divisors of at most half the degree. -/
theorem irr_trial {p : Nat} (h2 : 2 ≤ len p) : Irr p ↔ ∀ c, 2 ≤ len c → 2 * (len c - 1) ≤ len p - 1 → ¬ dv c p := by
  have hp : p ≠ 0 := len_pos.1 (by omega)
  constructor
  · intro h c hc hl hd
    rcases h.2 c hd with e | e
    · rw [e, len_one] at hc; omega
    · rw [e] at hl; omega
  · intro h
    refine ⟨h2, fun c hc => ?_⟩
    apply Classical.byContradiction
    intro hn
    have hc1 : c ≠ 1 := fun e => hn (Or.inl e)
    have hcp : c ≠ p := fun e => hn (Or.inr e)
    obtain ⟨e, he⟩ := hc
    have hc0 : c ≠ 0 := by rintro rfl; rw [mul_zero] at he; exact hp he
    have he0 : e ≠ 0 := by rintro rfl; rw [zero_mul] at he; exact hp he
    have he1 : e ≠ 1 := by rintro rfl; rw [one_mul] at he; exact hcp he.symm
    have lc := len_pos.2 hc0
    have le := len_pos.2 he0
    have lc2 : 2 ≤ len c := by
      rcases Nat.lt_or_ge (len c) 2 with h5 | h5
      · exact absurd (len_eq_one (by omega)) hc1
      · exact h5
    have le2 : 2 ≤ len e := by
      rcases Nat.lt_or_ge (len e) 2 with h5 | h5
      · exact absurd (len_eq_one (by omega)) he1
      · exact h5
    have lm := len_mul he0 hc0
    rw [← he] at lm
    rcases Nat.le_total (len c) (len e) with h5 | h5
    · exact h c lc2 (by omega) ⟨e, he⟩
    · exact h e le2 (by omega) ⟨c, by rw [he, mul_comm]⟩

end Gf2
end Go.Proofs.YtaepcecjblojjabDoor
