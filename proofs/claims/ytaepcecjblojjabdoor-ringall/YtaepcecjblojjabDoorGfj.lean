import Derived.Test.YtaepcecjblojjabDoorGfi
namespace Go.Proofs.YtaepcecjblojjabDoor
namespace Gf2

/-! polynomials over the residues modulo p, the lowest coefficient first -/

/-- the value at x, modulo p. -/
def ev (p : Nat) (x : Nat) : List Nat → Nat
  | [] => 0
  | c :: cs => pmod (c ^^^ mul x (ev p x cs)) p

/-- the quotient by (T + r), by Horner. -/
def quo (p r : Nat) : List Nat → List Nat
  | [] => []
  | [_] => []
  | _ :: c :: cs => ev p r (c :: cs) :: quo p r (c :: cs)

theorem quo_length (p r : Nat) : ∀ cs : List Nat, (quo p r cs).length = cs.length - 1
  | [] => rfl
  | [_] => rfl
  | _ :: c :: cs => by simp [quo, quo_length p r (c :: cs)]

theorem ev_lt {p : Nat} (hp : p ≠ 0) (x : Nat) (cs : List Nat) : len (ev p x cs) < len p := by
  cases cs with
  | nil => simp [ev, len_zero, len_pos.2 hp]
  | cons c cs => exact len_pmod _ hp

/-- f(x) = (x + r) q(x) + f(r). -/
theorem ev_quo {p : Nat} (hp : p ≠ 0) (x r : Nat) : ∀ cs : List Nat, ev p x cs = pmod (mul (x ^^^ r) (ev p x (quo p r cs)) ^^^ ev p r cs) p
  | [] => by simp [ev, quo, mul_zero]; exact (pmod_small (by rw [len_zero]; exact len_pos.2 hp)).symm
  | [c] => by simp [ev, quo, mul_zero]; exact (pmod_pmod c hp).symm
  | c :: d :: cs => by
    have ih := ev_quo hp x r (d :: cs)
    rw [quo]
    rw [show ev p x (c :: d :: cs) = pmod (c ^^^ mul x (ev p x (d :: cs))) p from rfl, show ev p r (c :: d :: cs) = pmod (c ^^^ mul r (ev p r (d :: cs))) p from rfl,
      show ev p x (ev p r (d :: cs) :: quo p r (d :: cs)) = pmod (ev p r (d :: cs) ^^^ mul x (ev p x (quo p r (d :: cs)))) p from rfl]
    generalize ev p r (d :: cs) = f at *
    generalize ev p x (quo p r (d :: cs)) = q at *
    rw [ih]
    -- modulo p: c + x ((x + r) q + f) = (x + r) (f + x q) + c + r f
    have e1 : pmod (c ^^^ mul x (pmod (mul (x ^^^ r) q ^^^ f) p)) p = pmod (c ^^^ mul x (mul (x ^^^ r) q ^^^ f)) p := by
      rw [pmod_xor_dist _ _ hp, pmod_mul_right _ _ hp, ← pmod_xor_dist _ _ hp]
    have e2 : pmod (mul (x ^^^ r) (pmod (f ^^^ mul x q) p) ^^^ pmod (c ^^^ mul r f) p) p = pmod (mul (x ^^^ r) (f ^^^ mul x q) ^^^ (c ^^^ mul r f)) p := by
      rw [pmod_xor_dist _ _ hp, pmod_mul_right _ _ hp, pmod_pmod _ hp, ← pmod_xor_dist _ _ hp]
    rw [e1, e2]
    congr 1
    rw [mul_xor, mul_xor, ← mul_assoc, ← mul_assoc, mul_comm x (x ^^^ r), xor_mul x r f]
    have : c ^^^ (mul (mul (x ^^^ r) x) q ^^^ mul x f) = mul (mul (x ^^^ r) x) q ^^^ mul x f ^^^ c := by ac_rfl
    rw [this]
    have : mul x f ^^^ mul r f ^^^ mul (mul (x ^^^ r) x) q ^^^ (c ^^^ mul r f) = mul (mul (x ^^^ r) x) q ^^^ mul x f ^^^ c ^^^ (mul r f ^^^ mul r f) := by ac_rfl
    rw [this, Nat.xor_self, Nat.xor_zero]

/-- a list is 0 everywhere: at more points than it is long only if every coefficient is 0 (mod p): here: its last one. -/
theorem roots_bound {p : Nat} (h : Irr p) (h64 : len p ≤ 64) : ∀ (n : Nat) (cs rs : List Nat), cs.length = n → rs.Nodup → (∀ r ∈ rs, len r < len p ∧ ev p r cs = 0) → n ≤ rs.length → ∀ x, ev p x cs = 0 := by
  intro n
  induction n with
  | zero =>
    intro cs rs hl _ _ _ x
    have : cs = [] := List.length_eq_zero_iff.1 hl
    subst this; rfl
  | succ n ih =>
    intro cs rs hl hn hr hlen x
    have hp := h.ne
    match rs, hn, hr, hlen with
    | [], _, _, hlen => simp at hlen
    | r :: rs, hn, hr, hlen =>
      obtain ⟨hr1, hr2⟩ := List.nodup_cons.1 hn
      have hroot : ∀ y, ev p y cs = pmod (mul (y ^^^ r) (ev p y (quo p r cs))) p := by
        intro y
        rw [ev_quo hp y r cs, (hr r (by simp)).2, Nat.xor_zero]
      have hq : ∀ y, ev p y (quo p r cs) = 0 := by
        apply ih (quo p r cs) rs (by rw [quo_length]; omega) hr2
        · intro s hs
          obtain ⟨s1, s2⟩ := hr s (by simp [hs])
          refine ⟨s1, ?_⟩
          rw [hroot s] at s2
          rcases irr_prime h h64 ((pmod_eq_zero hp).1 s2) with g | g
          · exfalso
            have hne : s ≠ r := by rintro rfl; exact hr1 hs
            have h0 : s ^^^ r ≠ 0 := fun e => hne (xor_eq_zero e)
            have := (dv_len g h0).2
            have := len_xor_lt (a := s) (b := r) (n := len p - 1) (by omega) (by have := (hr r (by simp)).1; omega)
            omega
          · have := (pmod_eq_zero hp).2 g
            rwa [pmod_small (ev_lt hp _ _)] at this
        · simp at hlen; omega
      rw [hroot x, hq x, mul_zero]
      exact pmod_small (by rw [len_zero]; exact len_pos.2 hp)

end Gf2
end Go.Proofs.YtaepcecjblojjabDoor
