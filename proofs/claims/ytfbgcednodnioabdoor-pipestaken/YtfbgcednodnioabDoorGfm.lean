import Derived.Test.YtfbgcednodnioabDoorGfe
namespace Go.Proofs.YtfbgcednodnioabDoor
namespace Gf2

/-- the product of two residues. -/
def fm (p a b : Nat) : Nat := pmod (mul a b) p
/-- the power of a residue. -/
def fp (p a n : Nat) : Nat := pmod (pw a n) p
/-- the inverse, as the program finds it. -/
def fi (p a : Nat) : Nat := cof (pmod a p) p

/-- p is irreducible of the degree d. -/
structure Fld (p d : Nat) : Prop where
  irr : Irr p
  deg : Gf2.len p = d + 1
  low : d ≤ 32

theorem irr_285' : irr 285 = true := by decide +kernel
theorem irr_65581' : irr 65581 = true := by decide +kernel
theorem fld8 : Fld 285 8 := ⟨irr_sound (by decide) (by decide) irr_285', by decide, by decide⟩
theorem fld16 : Fld 65581 16 := ⟨irr_sound (by decide) (by decide) irr_65581', by decide, by decide⟩

variable {p d : Nat}

theorem Fld.ne (h : Fld p d) : p ≠ 0 := h.irr.ne
theorem Fld.pos (h : Fld p d) : 1 ≤ d := by have := h.irr.1; have := h.deg; omega
theorem Fld.small (h : Fld p d) {a : Nat} (ha : a < 2 ^ d) : pmod a p = a := pmod_small (by have := len_le.2 ha; have := h.deg; omega)
theorem Fld.pmod_lt (h : Fld p d) (a : Nat) : pmod a p < 2 ^ d := by
  have := len_pmod a h.ne; have := h.deg; exact len_le.1 (by omega)
theorem Fld.one_lt (h : Fld p d) : 1 < 2 ^ d := by
  have := h.pos
  have : 2 ^ 1 ≤ 2 ^ d := Nat.pow_le_pow_right (by omega) (by omega)
  omega
theorem Fld.fm_lt (h : Fld p d) (a b : Nat) : fm p a b < 2 ^ d := h.pmod_lt _
theorem Fld.fp_lt (h : Fld p d) (a n : Nat) : fp p a n < 2 ^ d := h.pmod_lt _
theorem fm_comm (p a b : Nat) : fm p a b = fm p b a := by unfold fm; rw [mul_comm]
theorem Fld.fm_assoc (h : Fld p d) (a b c : Nat) : fm p (fm p a b) c = fm p a (fm p b c) := by
  unfold fm; rw [pmod_mul_left _ _ h.ne, pmod_mul_right _ _ h.ne, mul_assoc]
theorem Fld.fm_xor (h : Fld p d) (a b c : Nat) : fm p a (b ^^^ c) = fm p a b ^^^ fm p a c := by
  unfold fm; rw [mul_xor, pmod_xor_dist _ _ h.ne]
theorem Fld.xor_fm (h : Fld p d) (a b c : Nat) : fm p (a ^^^ b) c = fm p a c ^^^ fm p b c := by
  rw [fm_comm, h.fm_xor, fm_comm p c a, fm_comm p c b]
theorem Fld.fm_one (h : Fld p d) {a : Nat} (ha : a < 2 ^ d) : fm p a 1 = a := by unfold fm; rw [mul_one, h.small ha]
theorem Fld.one_fm (h : Fld p d) {a : Nat} (ha : a < 2 ^ d) : fm p 1 a = a := by unfold fm; rw [one_mul, h.small ha]
theorem Fld.fm_zero (h : Fld p d) (a : Nat) : fm p a 0 = 0 := by unfold fm; rw [mul_zero, h.small (Nat.two_pow_pos d)]
theorem Fld.zero_fm (h : Fld p d) (a : Nat) : fm p 0 a = 0 := by rw [fm_comm, h.fm_zero]
theorem Fld.ndv (h : Fld p d) {a : Nat} (ha : a < 2 ^ d) (h0 : a ≠ 0) : ¬ dv p a := by
  intro g
  have := (dv_len g h0).2
  have := len_le.2 ha
  have := h.deg
  omega
theorem Fld.fm_eq_zero (h : Fld p d) {a b : Nat} (ha : a < 2 ^ d) (hb : b < 2 ^ d) : fm p a b = 0 ↔ a = 0 ∨ b = 0 := by
  constructor
  · intro e
    have e := (pmod_eq_zero h.ne).1 e
    rcases irr_prime h.irr (by have := h.deg; have := h.low; omega) e with g | g
    · left
      apply Classical.byContradiction
      exact fun h0 => h.ndv ha h0 g
    · right
      apply Classical.byContradiction
      exact fun h0 => h.ndv hb h0 g
  · rintro (rfl | rfl)
    · exact h.zero_fm _
    · exact h.fm_zero _
theorem Fld.fm_ne (h : Fld p d) {a b : Nat} (ha : a < 2 ^ d) (hb : b < 2 ^ d) (h1 : a ≠ 0) (h2 : b ≠ 0) : fm p a b ≠ 0 := by
  rw [Ne, h.fm_eq_zero ha hb]; rintro (e | e) <;> contradiction
theorem Fld.cancel (h : Fld p d) {a b c : Nat} (ha : a < 2 ^ d) (hb : b < 2 ^ d) (hc : c < 2 ^ d) (h0 : a ≠ 0) (e : fm p a b = fm p a c) : b = c := by
  have e1 : fm p a (b ^^^ c) = 0 := by rw [h.fm_xor, e, Nat.xor_self]
  have e2 := (h.fm_eq_zero ha (Nat.xor_lt_two_pow hb hc)).1 e1
  rcases e2 with e2 | e2
  · contradiction
  · exact xor_eq_zero e2

-- powers
theorem Fld.fp_zero (h : Fld p d) (a : Nat) : fp p a 0 = 1 := by unfold fp pw; exact h.small h.one_lt
theorem Fld.fp_one (h : Fld p d) {a : Nat} (ha : a < 2 ^ d) : fp p a 1 = a := by unfold fp; rw [pw_one, h.small ha]
theorem Fld.fp_add (h : Fld p d) (a m n : Nat) : fp p a (m + n) = fm p (fp p a m) (fp p a n) := by
  unfold fp fm; rw [pw_add, pmod_mul_both _ _ h.ne]
theorem Fld.fp_succ (h : Fld p d) {a : Nat} (ha : a < 2 ^ d) (n : Nat) : fp p a (n + 1) = fm p (fp p a n) a := by
  rw [h.fp_add, h.fp_one ha]
theorem Fld.fp_mul (h : Fld p d) (a m n : Nat) : fp p a (m * n) = fp p (fp p a m) n := by
  unfold fp; rw [pmod_pw _ _ h.ne, pw_mul]
theorem Fld.one_fp (h : Fld p d) (n : Nat) : fp p 1 n = 1 := by
  unfold fp; rw [one_pw, h.small h.one_lt]
theorem fp_two (p a : Nat) : fp p a 2 = fm p a a := by unfold fp fm; rw [pw_two]
theorem Fld.sq_xor (h : Fld p d) (a b : Nat) : fp p (a ^^^ b) 2 = fp p a 2 ^^^ fp p b 2 := by
  unfold fp; rw [xor_sq, pmod_xor_dist _ _ h.ne]
theorem Fld.fermat (h : Fld p d) {a : Nat} (ha : a < 2 ^ d) (h0 : a ≠ 0) : fp p a (2 ^ d - 1) = 1 := by
  have := Gf2.fermat h.irr (by have := h.deg; have := h.low; omega) (h.ndv ha h0)
  rw [h.deg] at this
  exact this
theorem Fld.fp_round (h : Fld p d) {a : Nat} (ha : a < 2 ^ d) (h0 : a ≠ 0) (n k : Nat) : fp p a (n + (2 ^ d - 1) * k) = fp p a n := by
  rw [h.fp_add, h.fp_mul, h.fermat ha h0, h.one_fp, h.fm_one (h.fp_lt _ _)]
theorem Fld.fp_mod (h : Fld p d) {a : Nat} (ha : a < 2 ^ d) (h0 : a ≠ 0) (n : Nat) : fp p a (n % (2 ^ d - 1)) = fp p a n := by
  have := h.fp_round ha h0 (n % (2 ^ d - 1)) (n / (2 ^ d - 1))
  rw [← this, Nat.mod_add_div]
theorem Fld.fp_ne (h : Fld p d) {a : Nat} (ha : a < 2 ^ d) (h0 : a ≠ 0) (n : Nat) : fp p a n ≠ 0 := by
  induction n with
  | zero => rw [h.fp_zero]; decide
  | succ n ih => rw [h.fp_succ ha]; exact h.fm_ne (h.fp_lt _ _) ha ih h0
theorem Fld.fp_nought (h : Fld p d) {n : Nat} (hn : n ≠ 0) : fp p 0 n = 0 := by
  obtain ⟨m, rfl⟩ : ∃ m, n = m + 1 := ⟨n - 1, by omega⟩
  rw [h.fp_succ (Nat.two_pow_pos d), h.fm_zero]

-- inverses
theorem Fld.gcd_one (h : Fld p d) {a : Nat} (ha : a < 2 ^ d) (h0 : a ≠ 0) : pgcd (pmod a p) p = 1 := by
  rw [h.small ha]
  rcases irr_gcd h.irr a with g | g
  · exact g
  · exact absurd g (h.ndv ha h0)
theorem Fld.fi_lt (h : Fld p d) {a : Nat} (ha : a < 2 ^ d) (h0 : a ≠ 0) : fi p a < 2 ^ d := by
  have := (inv_exists h.ne (by have := h.deg; have := h.low; omega) (h.gcd_one ha h0)).2
  have := h.deg
  exact len_le.1 (by unfold fi; omega)
theorem Fld.fi_mul (h : Fld p d) {a : Nat} (ha : a < 2 ^ d) (h0 : a ≠ 0) : fm p a (fi p a) = 1 := by
  have h1 := (inv_exists h.ne (by have := h.deg; have := h.low; omega) (h.gcd_one ha h0)).1
  have h2 := (pmod_eq_iff h.ne).2 h1
  rw [h.small h.one_lt] at h2
  rw [fm_comm]
  unfold fm fi
  rw [← h2]
  conv => rhs; rw [pmod_mul_right _ _ h.ne]
theorem Fld.fi_ne (h : Fld p d) {a : Nat} (ha : a < 2 ^ d) (h0 : a ≠ 0) : fi p a ≠ 0 := by
  intro e
  have := h.fi_mul ha h0
  rw [e, h.fm_zero] at this
  cases this
theorem Fld.fi_unique (h : Fld p d) {a b : Nat} (ha : a < 2 ^ d) (h0 : a ≠ 0) (hb : b < 2 ^ d) (e : fm p a b = 1) : b = fi p a :=
  h.cancel ha hb (h.fi_lt ha h0) h0 (by rw [e, h.fi_mul ha h0])
theorem Fld.fi_fi (h : Fld p d) {a : Nat} (ha : a < 2 ^ d) (h0 : a ≠ 0) : fi p (fi p a) = a :=
  (h.fi_unique (h.fi_lt ha h0) (h.fi_ne ha h0) ha (by rw [fm_comm, h.fi_mul ha h0])).symm
theorem Fld.fi_fp (h : Fld p d) {a : Nat} (ha : a < 2 ^ d) (h0 : a ≠ 0) : fi p a = fp p a (2 ^ d - 2) := by
  have h1 := h.one_lt
  refine (h.fi_unique ha h0 (h.fp_lt _ _) ?_).symm
  rw [fm_comm, ← h.fp_succ ha, show 2 ^ d - 2 + 1 = 2 ^ d - 1 by omega, h.fermat ha h0]
theorem Fld.div_mul (h : Fld p d) {a b : Nat} (ha : a < 2 ^ d) (hb : b < 2 ^ d) (h0 : b ≠ 0) : fm p (fm p a (fi p b)) b = a := by
  rw [h.fm_assoc, fm_comm p (fi p b), h.fi_mul hb h0, h.fm_one ha]
theorem Fld.mul_div (h : Fld p d) {a b : Nat} (ha : a < 2 ^ d) (hb : b < 2 ^ d) (h0 : b ≠ 0) : fm p (fm p a b) (fi p b) = a := by
  rw [h.fm_assoc, h.fi_mul hb h0, h.fm_one ha]

-- the shift
theorem Fld.twice (h : Fld p d) {a : Nat} (ha : a < 2 ^ d) : fm p 2 a = if 2 ^ d ≤ 2 * a then 2 * a ^^^ p else 2 * a := by
  have e : mul 2 a = 2 * a := by have := two_mul' 1 a; rwa [one_mul] at this
  unfold fm
  rw [e]
  have hp2 : p ≠ 0 := h.ne
  have hla := len_le.2 ha
  have hd := h.deg
  split
  · next h1 =>
    have a0 : a ≠ 0 := by rintro rfl; have := Nat.two_pow_pos d; omega
    have l1 := len_two_mul a0
    have l2 : d < len (2 * a) := lt_len.2 h1
    refine pmod_unique ?_ ?_
    · rw [← Nat.xor_assoc, Nat.xor_self, Nat.zero_xor]; exact dv_refl p
    · exact len_xor_eq (by omega) hp2
  · next h1 => exact h.small (by omega)

-- logarithms
theorem Fld.inj (h : Fld p d) (g : IsOrd 2 p (2 ^ d - 1)) (h2 : 2 < 2 ^ d) {m n : Nat} (hm : m < 2 ^ d - 1) (hn : n < 2 ^ d - 1) (e : fp p 2 m = fp p 2 n) : m = n := by
  have key : ∀ {m n : Nat}, m < n → n < 2 ^ d - 1 → fp p 2 m ≠ fp p 2 n := by
    intro m n hmn hn e
    have e2 : fp p 2 (n - m) = 1 := by
      have e3 : n = m + (n - m) := by omega
      rw [e3, h.fp_add] at e
      exact (h.cancel (a := fp p 2 m) (b := 1) (c := fp p 2 (n - m)) (h.fp_lt _ _) h.one_lt (h.fp_lt _ _) (h.fp_ne h2 (by decide) _) (by rw [h.fm_one (h.fp_lt _ _)]; exact e)).symm
    exact g.2.2 (n - m) (by omega) (by omega) e2
  rcases Nat.lt_trichotomy m n with h1 | h1 | h1
  · exact absurd e (key h1 hn)
  · exact h1
  · exact absurd e.symm (key h1 hm)
theorem Fld.onto (h : Fld p d) (g : IsOrd 2 p (2 ^ d - 1)) (h2 : 2 < 2 ^ d) {a : Nat} (ha : a < 2 ^ d) (h0 : a ≠ 0) : ∃ n, n < 2 ^ d - 1 ∧ fp p 2 n = a := by
  have hp : ((List.range (2 ^ d - 1)).map (fp p 2)).Perm (List.range' 1 (2 ^ d - 1)) := by
    apply perm_of_nodup
    · apply nodup_map_inj List.nodup_range
      intro x y hx hy e
      exact h.inj g h2 (List.mem_range.1 hx) (List.mem_range.1 hy) e
    · intro x hx
      obtain ⟨n, hn, rfl⟩ := List.mem_map.1 hx
      have := h.fp_lt 2 n
      have := h.fp_ne h2 (by decide) n
      rw [List.mem_range'_1]; omega
    · simp
  have : a ∈ List.range' 1 (2 ^ d - 1) := by rw [List.mem_range'_1]; omega
  obtain ⟨n, hn, e⟩ := List.mem_map.1 (hp.mem_iff.2 this)
  exact ⟨n, List.mem_range.1 hn, e⟩
/-- the logarithm by 2: the greatest exponent below n that fits, else 0. -/
def lgF (p a : Nat) : Nat → Nat
  | 0 => 0
  | n + 1 => if fp p 2 n = a then n else lgF p a n
def lg (p d a : Nat) : Nat := lgF p a (2 ^ d - 1)
theorem lgF_lt (p a : Nat) : ∀ n, 0 < n → lgF p a n < n := by
  intro n
  induction n with
  | zero => intro h; omega
  | succ n ih =>
    intro _
    simp only [lgF]
    split
    · omega
    · rcases Nat.eq_zero_or_pos n with h | h
      · subst h; simp [lgF]
      · have := ih h; omega
theorem lgF_spec (p a : Nat) : ∀ n, (∃ m, m < n ∧ fp p 2 m = a) → fp p 2 (lgF p a n) = a := by
  intro n
  induction n with
  | zero => rintro ⟨m, h, _⟩; omega
  | succ n ih =>
    rintro ⟨m, h, e⟩
    simp only [lgF]
    split
    · next h1 => exact h1
    · next h1 =>
      refine ih ⟨m, ?_, e⟩
      rcases Nat.lt_or_ge m n with h2 | h2
      · exact h2
      · exact absurd (by rw [← e, show m = n by omega]) h1
theorem lg_lt {d : Nat} (p a : Nat) (hd : 1 < 2 ^ d) : lg p d a < 2 ^ d - 1 := lgF_lt p a _ (by omega)
theorem Fld.lg_spec (h : Fld p d) (g : IsOrd 2 p (2 ^ d - 1)) (h2 : 2 < 2 ^ d) {a : Nat} (ha : a < 2 ^ d) (h0 : a ≠ 0) : fp p 2 (lg p d a) = a :=
  lgF_spec p a _ (h.onto g h2 ha h0)
theorem Fld.lg_fp (h : Fld p d) (g : IsOrd 2 p (2 ^ d - 1)) (h2 : 2 < 2 ^ d) {n : Nat} (hn : n < 2 ^ d - 1) : lg p d (fp p 2 n) = n :=
  h.inj g h2 (lg_lt p _ h.one_lt) hn (h.lg_spec g h2 (h.fp_lt _ _) (h.fp_ne h2 (by decide) _))
theorem Fld.fm_lg (h : Fld p d) (g : IsOrd 2 p (2 ^ d - 1)) (h2 : 2 < 2 ^ d) {a b : Nat} (ha : a < 2 ^ d) (hb : b < 2 ^ d) (a0 : a ≠ 0) (b0 : b ≠ 0) : fm p a b = fp p 2 (lg p d a + lg p d b) := by
  rw [h.fp_add, h.lg_spec g h2 ha a0, h.lg_spec g h2 hb b0]
theorem Fld.fi_lg (h : Fld p d) (g : IsOrd 2 p (2 ^ d - 1)) (h2 : 2 < 2 ^ d) {a b : Nat} (ha : a < 2 ^ d) (hb : b < 2 ^ d) (a0 : a ≠ 0) (b0 : b ≠ 0) : fm p a (fi p b) = fp p 2 (lg p d a + (2 ^ d - 1) - lg p d b) := by
  have hl := lg_lt p b h.one_lt
  refine (h.cancel hb (h.fp_lt _ _) (h.fm_lt _ _) b0 ?_).symm
  rw [fm_comm p b (fm p a _), h.div_mul ha hb b0]
  conv => lhs; rw [← h.lg_spec g h2 hb b0]
  rw [← h.fp_add, h.lg_spec g h2 hb b0, show lg p d b + (lg p d a + (2 ^ d - 1) - lg p d b) = lg p d a + (2 ^ d - 1) * 1 by omega, h.fp_round h2 (by decide), h.lg_spec g h2 ha a0]
end Gf2
end Go.Proofs.YtfbgcednodnioabDoor
