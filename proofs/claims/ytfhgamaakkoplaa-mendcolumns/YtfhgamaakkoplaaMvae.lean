import Derived.Test.YtfhgamaakkoplaaMvaa
namespace Go.Proofs.Ytfhgamaakkoplaa
namespace Gf2

/-- the product of two residues. -/
def fm (p a b : Nat) : Nat := pmod (mul a b) p
/-- the power of a residue. -/
def fp (p a n : Nat) : Nat := pmod (pw a n) p
/-- the inverse, as the program finds it. -/
def fi (p a : Nat) : Nat := cof (pmod a p) p

/-- p is irreducible of the degree d. -/
structure Fld (p d : Nat) : Prop where
  irr : Irr p
  deg : Gf2.len p = d + 1
  low : d ≤ 32

theorem irr_285' : irr 285 = true := by decide +kernel
theorem irr_65581' : irr 65581 = true := by decide +kernel
theorem fld8 : Fld 285 8 := ⟨irr_sound (by decide) (by decide) irr_285', by decide, by decide⟩
theorem fld16 : Fld 65581 16 := ⟨irr_sound (by decide) (by decide) irr_65581', by decide, by decide⟩

variable {p d : Nat}

theorem Fld.ne (h : Fld p d) : p ≠ 0 := h.irr.ne
theorem Fld.pos (h : Fld p d) : 1 ≤ d := by have := h.irr.1; have := h.deg; omega
theorem Fld.small (h : Fld p d) {a : Nat} (ha : a < 2 ^ d) : pmod a p = a := pmod_small (by have := len_le.2 ha; have := h.deg; omega)
theorem Fld.pmod_lt (h : Fld p d) (a : Nat) : pmod a p < 2 ^ d := by
  have := len_pmod a h.ne; have := h.deg; exact len_le.1 (by omega)
theorem Fld.one_lt (h : Fld p d) : 1 < 2 ^ d := by
  have := h.pos
  have : 2 ^ 1 ≤ 2 ^ d := Nat.pow_le_pow_right (by omega) (by omega)
  omega
theorem Fld.fm_lt (h : Fld p d) (a b : Nat) : fm p a b < 2 ^ d := h.pmod_lt _
theorem Fld.fp_lt (h : Fld p d) (a n : Nat) : fp p a n < 2 ^ d := h.pmod_lt _
theorem fm_comm (p a b : Nat) : fm p a b = fm p b a := by unfold fm; rw [mul_comm]
theorem Fld.fm_assoc (h : Fld p d) (a b c : Nat) : fm p (fm p a b) c = fm p a (fm p b c) := by
  unfold fm; rw [pmod_mul_left _ _ h.ne, pmod_mul_right _ _ h.ne, mul_assoc]
theorem Fld.fm_xor (h : Fld p d) (a b c : Nat) : fm p a (b ^^^ c) = fm p a b ^^^ fm p a c := by
  unfold fm; rw [mul_xor, pmod_xor_dist _ _ h.ne]
theorem Fld.xor_fm (h : Fld p d) (a b c : Nat) : fm p (a ^^^ b) c = fm p a c ^^^ fm p b c := by
  rw [fm_comm, h.fm_xor, fm_comm p c a, fm_comm p c b]
theorem Fld.fm_one (h : Fld p d) {a : Nat} (ha : a < 2 ^ d) : fm p a 1 = a := by unfold fm; rw [mul_one, h.small ha]
theorem Fld.one_fm (h : Fld p d) {a : Nat} (ha : a < 2 ^ d) : fm p 1 a = a := by unfold fm; rw [one_mul, h.small ha]
theorem Fld.fm_zero (h : Fld p d) (a : Nat) : fm p a 0 = 0 := by unfold fm; rw [mul_zero, h.small (Nat.two_pow_pos d)]
theorem Fld.zero_fm (h : Fld p d) (a : Nat) : fm p 0 a = 0 := by rw [fm_comm, h.fm_zero]
theorem Fld.ndv (h : Fld p d) {a : Nat} (ha : a < 2 ^ d) (h0 : a ≠ 0) : ¬ dv p a := by
  intro g
  have := (dv_len g h0).2
  have := len_le.2 ha
  have := h.deg
  omega
theorem Fld.fm_eq_zero (h : Fld p d) {a b : Nat} (ha : a < 2 ^ d) (hb : b < 2 ^ d) : fm p a b = 0 ↔ a = 0 ∨ b = 0 := by
  constructor
  · intro e
    have e := (pmod_eq_zero h.ne).1 e
    rcases irr_prime h.irr (by have := h.deg; have := h.low; omega) e with g | g
    · left
      apply Classical.byContradiction
      exact fun h0 => h.ndv ha h0 g
    · right
      apply Classical.byContradiction
      exact fun h0 => h.ndv hb h0 g
  · rintro (rfl | rfl)
    · exact h.zero_fm _
    · exact h.fm_zero _
theorem Fld.fm_ne (h : Fld p d) {a b : Nat} (ha : a < 2 ^ d) (hb : b < 2 ^ d) (h1 : a ≠ 0) (h2 : b ≠ 0) : fm p a b ≠ 0 := by
  rw [Ne, h.fm_eq_zero ha hb]; rintro (e | e) <;> contradiction
theorem Fld.cancel (h : Fld p d) {a b c : Nat} (ha : a < 2 ^ d) (hb : b < 2 ^ d) (hc : c < 2 ^ d) (h0 : a ≠ 0) (e : fm p a b = fm p a c) : b = c := by
  have e1 : fm p a (b ^^^ c) = 0 := by rw [h.fm_xor, e, Nat.xor_self]
  have e2 := (h.fm_eq_zero ha (Nat.xor_lt_two_pow hb hc)).1 e1
  rcases e2 with e2 | e2
  · contradiction
  · exact xor_eq_zero e2

-- powers
theorem Fld.fp_zero (h : Fld p d) (a : Nat) : fp p a 0 = 1 := by unfold fp pw; exact h.small h.one_lt
theorem Fld.fp_one (h : Fld p d) {a : Nat} (ha : a < 2 ^ d) : fp p a 1 = a := by unfold fp; rw [pw_one, h.small ha]
theorem Fld.fp_add (h : Fld p d) (a m n : Nat) : fp p a (m + n) = fm p (fp p a m) (fp p a n) := by
  unfold fp fm; rw [pw_add, pmod_mul_both _ _ h.ne]
theorem Fld.fp_succ (h : Fld p d) {a : Nat} (ha : a < 2 ^ d) (n : Nat) : fp p a (n + 1) = fm p (fp p a n) a := by
  rw [h.fp_add, h.fp_one ha]
theorem Fld.fp_mul (h : Fld p d) (a m n : Nat) : fp p a (m * n) = fp p (fp p a m) n := by
  unfold fp; rw [pmod_pw _ _ h.ne, pw_mul]
theorem Fld.one_fp (h : Fld p d) (n : Nat) : fp p 1 n = 1 := by
  unfold fp; rw [one_pw, h.small h.one_lt]
theorem fp_two (p a : Nat) : fp p a 2 = fm p a a := by unfold fp fm; rw [pw_two]
theorem Fld.fermat (h : Fld p d) {a : Nat} (ha : a < 2 ^ d) (h0 : a ≠ 0) : fp p a (2 ^ d - 1) = 1 := by
  have := Gf2.fermat h.irr (by have := h.deg; have := h.low; omega) (h.ndv ha h0)
  rw [h.deg] at this
  exact this
theorem Fld.fp_round (h : Fld p d) {a : Nat} (ha : a < 2 ^ d) (h0 : a ≠ 0) (n k : Nat) : fp p a (n + (2 ^ d - 1) * k) = fp p a n := by
  rw [h.fp_add, h.fp_mul, h.fermat ha h0, h.one_fp, h.fm_one (h.fp_lt _ _)]
theorem Fld.fp_ne (h : Fld p d) {a : Nat} (ha : a < 2 ^ d) (h0 : a ≠ 0) (n : Nat) : fp p a n ≠ 0 := by
  induction n with
  | zero => rw [h.fp_zero]; decide
  | succ n ih => rw [h.fp_succ ha]; exact h.fm_ne (h.fp_lt _ _) ha ih h0
-- inverses
theorem Fld.gcd_one (h : Fld p d) {a : Nat} (ha : a < 2 ^ d) (h0 : a ≠ 0) : pgcd (pmod a p) p = 1 := by
  rw [h.small ha]
  rcases irr_gcd h.irr a with g | g
  · exact g
  · exact absurd g (h.ndv ha h0)
theorem Fld.fi_lt (h : Fld p d) {a : Nat} (ha : a < 2 ^ d) (h0 : a ≠ 0) : fi p a < 2 ^ d := by
  have := (inv_exists h.ne (by have := h.deg; have := h.low; omega) (h.gcd_one ha h0)).2
  have := h.deg
  exact len_le.1 (by unfold fi; omega)
theorem Fld.fi_mul (h : Fld p d) {a : Nat} (ha : a < 2 ^ d) (h0 : a ≠ 0) : fm p a (fi p a) = 1 := by
  have h1 := (inv_exists h.ne (by have := h.deg; have := h.low; omega) (h.gcd_one ha h0)).1
  have h2 := (pmod_eq_iff h.ne).2 h1
  rw [h.small h.one_lt] at h2
  rw [fm_comm]
  unfold fm fi
  rw [← h2]
  conv => rhs; rw [pmod_mul_right _ _ h.ne]
theorem Fld.fi_unique (h : Fld p d) {a b : Nat} (ha : a < 2 ^ d) (h0 : a ≠ 0) (hb : b < 2 ^ d) (e : fm p a b = 1) : b = fi p a :=
  h.cancel ha hb (h.fi_lt ha h0) h0 (by rw [e, h.fi_mul ha h0])
theorem Fld.fi_fp (h : Fld p d) {a : Nat} (ha : a < 2 ^ d) (h0 : a ≠ 0) : fi p a = fp p a (2 ^ d - 2) := by
  have h1 := h.one_lt
  refine (h.fi_unique ha h0 (h.fp_lt _ _) ?_).symm
  rw [fm_comm, ← h.fp_succ ha, show 2 ^ d - 2 + 1 = 2 ^ d - 1 by omega, h.fermat ha h0]
theorem Fld.div_mul (h : Fld p d) {a b : Nat} (ha : a < 2 ^ d) (hb : b < 2 ^ d) (h0 : b ≠ 0) : fm p (fm p a (fi p b)) b = a := by
  rw [h.fm_assoc, fm_comm p (fi p b), h.fi_mul hb h0, h.fm_one ha]
theorem Fld.mul_div (h : Fld p d) {a b : Nat} (ha : a < 2 ^ d) (hb : b < 2 ^ d) (h0 : b ≠ 0) : fm p (fm p a b) (fi p b) = a := by
  rw [h.fm_assoc, h.fi_mul hb h0, h.fm_one ha]

-- the shift
-- logarithms
theorem Fld.inj (h : Fld p d) (g : IsOrd 2 p (2 ^ d - 1)) (h2 : 2 < 2 ^ d) {m n : Nat} (hm : m < 2 ^ d - 1) (hn : n < 2 ^ d - 1) (e : fp p 2 m = fp p 2 n) : m = n := by
  have key : ∀ {m n : Nat}, m < n → n < 2 ^ d - 1 → fp p 2 m ≠ fp p 2 n := by
    intro m n hmn hn e
    have e2 : fp p 2 (n - m) = 1 := by
      have e3 : n = m + (n - m) := by omega
      rw [e3, h.fp_add] at e
      exact (h.cancel (a := fp p 2 m) (b := 1) (c := fp p 2 (n - m)) (h.fp_lt _ _) h.one_lt (h.fp_lt _ _) (h.fp_ne h2 (by decide) _) (by rw [h.fm_one (h.fp_lt _ _)]; exact e)).symm
    exact g.2.2 (n - m) (by omega) (by omega) e2
  rcases Nat.lt_trichotomy m n with h1 | h1 | h1
  · exact absurd e (key h1 hn)
  · exact h1
  · exact absurd e.symm (key h1 hm)
theorem Fld.onto (h : Fld p d) (g : IsOrd 2 p (2 ^ d - 1)) (h2 : 2 < 2 ^ d) {a : Nat} (ha : a < 2 ^ d) (h0 : a ≠ 0) : ∃ n, n < 2 ^ d - 1 ∧ fp p 2 n = a := by
  have hp : ((List.range (2 ^ d - 1)).map (fp p 2)).Perm (List.range' 1 (2 ^ d - 1)) := by
    apply perm_of_nodup
    · apply nodup_map_inj List.nodup_range
      intro x y hx hy e
      exact h.inj g h2 (List.mem_range.1 hx) (List.mem_range.1 hy) e
    · intro x hx
      obtain ⟨n, hn, rfl⟩ := List.mem_map.1 hx
      have := h.fp_lt 2 n
      have := h.fp_ne h2 (by decide) n
      rw [List.mem_range'_1]; omega
    · simp
  have : a ∈ List.range' 1 (2 ^ d - 1) := by rw [List.mem_range'_1]; omega
  obtain ⟨n, hn, e⟩ := List.mem_map.1 (hp.mem_iff.2 this)
  exact ⟨n, List.mem_range.1 hn, e⟩
/-- the logarithm by 2: the greatest exponent below n that fits, else 0. -/
def lgF (p a : Nat) : Nat → Nat
  | 0 => 0
  | n + 1 => if fp p 2 n = a then n else lgF p a n
def lg (p d a : Nat) : Nat := lgF p a (2 ^ d - 1)
theorem lgF_lt (p a : Nat) : ∀ n, 0 < n → lgF p a n < n := by
  intro n
  induction n with
  | zero => intro h; omega
  | succ n ih =>
    intro _
    simp only [lgF]
    split
    · omega
    · rcases Nat.eq_zero_or_pos n with h | h
      · subst h; simp [lgF]
      · have := ih h; omega
theorem lgF_spec (p a : Nat) : ∀ n, (∃ m, m < n ∧ fp p 2 m = a) → fp p 2 (lgF p a n) = a := by
  intro n
  induction n with
  | zero => rintro ⟨m, h, _⟩; omega
  | succ n ih =>
    rintro ⟨m, h, e⟩
    simp only [lgF]
    split
    · next h1 => exact h1
    · next h1 =>
      refine ih ⟨m, ?_, e⟩
      rcases Nat.lt_or_ge m n with h2 | h2
      · exact h2
      · exact absurd (by rw [← e, show m = n by omega]) h1
theorem lg_lt {d : Nat} (p a : Nat) (hd : 1 < 2 ^ d) : lg p d a < 2 ^ d - 1 := lgF_lt p a _ (by omega)
theorem Fld.lg_spec (h : Fld p d) (g : IsOrd 2 p (2 ^ d - 1)) (h2 : 2 < 2 ^ d) {a : Nat} (ha : a < 2 ^ d) (h0 : a ≠ 0) : fp p 2 (lg p d a) = a :=
  lgF_spec p a _ (h.onto g h2 ha h0)
theorem Fld.fm_lg (h : Fld p d) (g : IsOrd 2 p (2 ^ d - 1)) (h2 : 2 < 2 ^ d) {a b : Nat} (ha : a < 2 ^ d) (hb : b < 2 ^ d) (a0 : a ≠ 0) (b0 : b ≠ 0) : fm p a b = fp p 2 (lg p d a + lg p d b) := by
  rw [h.fp_add, h.lg_spec g h2 ha a0, h.lg_spec g h2 hb b0]
theorem Fld.fi_lg (h : Fld p d) (g : IsOrd 2 p (2 ^ d - 1)) (h2 : 2 < 2 ^ d) {a b : Nat} (ha : a < 2 ^ d) (hb : b < 2 ^ d) (a0 : a ≠ 0) (b0 : b ≠ 0) : fm p a (fi p b) = fp p 2 (lg p d a + (2 ^ d - 1) - lg p d b) := by
  have hl := lg_lt p b h.one_lt
  refine (h.cancel hb (h.fp_lt _ _) (h.fm_lt _ _) b0 ?_).symm
  rw [fm_comm p b (fm p a _), h.div_mul ha hb b0]
  conv => lhs; rw [← h.lg_spec g h2 hb b0]
  rw [← h.fp_add, h.lg_spec g h2 hb b0, show lg p d b + (lg p d a + (2 ^ d - 1) - lg p d b) = lg p d a + (2 ^ d - 1) * 1 by omega, h.fp_round h2 (by decide), h.lg_spec g h2 ha a0]
end Gf2
end Go.Proofs.Ytfhgamaakkoplaa
namespace Go.Proofs.Ytfhgamaakkoplaa
namespace Gf2
variable {p d : Nat}

/-- the map y * y + y. -/
def hs (p y : Nat) : Nat := fm p y y ^^^ y
end Gf2
end Go.Proofs.Ytfhgamaakkoplaa
namespace Go.Proofs.Ytfhgamaakkoplaa
namespace Gf2

-- the field of 65536
/-- the Cantor basis. -/
def cb : List Nat := [1, 44234, 15374, 5694, 50562, 60718, 37196, 16402, 27800, 4312, 27250, 47360, 64952, 64308, 65336, 39198]
-- subfields
end Gf2
end Go.Proofs.Ytfhgamaakkoplaa
namespace Go.Proofs.Ytfhgamaakkoplaa
namespace Gf2
set_option linter.unusedVariables false

/-- the sum of f 0, .., f (n - 1). -/
def sx : Nat → (Nat → Nat) → Nat
  | 0, _ => 0
  | n + 1, f => sx n f ^^^ f n
theorem sx_congr {n : Nat} {f g : Nat → Nat} (h : ∀ i, i < n → f i = g i) : sx n f = sx n g := by
  induction n with
  | zero => rfl
  | succ n ih => simp only [sx]; rw [ih (fun i hi => h i (by omega)), h n (by omega)]
theorem sx_zero {n : Nat} {f : Nat → Nat} (h : ∀ i, i < n → f i = 0) : sx n f = 0 := by
  induction n with
  | zero => rfl
  | succ n ih => simp only [sx]; rw [ih (fun i hi => h i (by omega)), h n (by omega)]; rfl
theorem sx_xor (n : Nat) (f g : Nat → Nat) : sx n (fun i => f i ^^^ g i) = sx n f ^^^ sx n g := by
  induction n with
  | zero => simp [sx]
  | succ n ih => simp only [sx]; rw [ih]; ac_rfl
theorem sx_split (a b : Nat) (f : Nat → Nat) : sx (a + b) f = sx a f ^^^ sx b (fun i => f (a + i)) := by
  induction b with
  | zero => simp [sx]
  | succ b ih =>
    show sx (a + b) f ^^^ f (a + b) = _
    rw [ih, Nat.xor_assoc]; rfl
theorem sx_first (n : Nat) (f : Nat → Nat) : sx (n + 1) f = f 0 ^^^ sx n (fun i => f (i + 1)) := by
  have := sx_split 1 n f
  rw [Nat.add_comm n 1, this]
  simp only [sx, Nat.zero_xor]
  congr 1
  exact sx_congr (fun i _ => by rw [Nat.add_comm])
theorem sx_rev (n : Nat) (f : Nat → Nat) : sx (n + 1) f = sx (n + 1) (fun i => f (n - i)) := by
  induction n generalizing f with
  | zero => rfl
  | succ n ih =>
    rw [sx_first]
    have e : sx (n + 2) (fun i => f (n + 1 - i)) = sx (n + 1) (fun i => f (n + 1 - i)) ^^^ f (n + 1 - (n + 1)) := rfl
    rw [e, Nat.sub_self, ih (fun i => f (i + 1)), Nat.xor_comm]
    congr 1
    exact sx_congr (fun i hi => by congr 1; omega)
/-- a sum whose terms beyond m are 0. -/
theorem sx_cut {m n : Nat} {f : Nat → Nat} (hmn : m ≤ n) (h : ∀ i, m ≤ i → i < n → f i = 0) : sx n f = sx m f := by
  obtain ⟨k, rfl⟩ : ∃ k, n = m + k := ⟨n - m, by omega⟩
  rw [sx_split, sx_zero (n := k) (fun i hi => h (m + i) (by omega) (by omega)), Nat.xor_zero]
theorem sx_one {n k : Nat} {f : Nat → Nat} (hk : k < n) (h : ∀ i, i < n → i ≠ k → f i = 0) : sx n f = f k := by
  rw [sx_cut (m := k + 1) (by omega) (fun i h1 h2 => h i h2 (by omega))]
  simp only [sx]
  rw [sx_zero (fun i hi => h i (by omega) (by omega)), Nat.zero_xor]
theorem sx_lt {n d : Nat} {f : Nat → Nat} (h : ∀ i, i < n → f i < 2 ^ d) : sx n f < 2 ^ d := by
  induction n with
  | zero => exact Nat.two_pow_pos d
  | succ n ih => exact Nat.xor_lt_two_pow (ih (fun i hi => h i (by omega))) (h n (by omega))

variable {p d : Nat}

theorem Fld.fm_sx (h : Fld p d) (a n : Nat) (f : Nat → Nat) : fm p a (sx n f) = sx n (fun i => fm p a (f i)) := by
  induction n with
  | zero => exact h.fm_zero a
  | succ n ih => simp only [sx]; rw [h.fm_xor, ih]

/-! polynomials over the field: their coefficients. -/
/-- all coefficients are elements. -/
def El (d : Nat) (f : Nat → Nat) : Prop := ∀ i, f i < 2 ^ d
/-- the degree is below n. -/
def Dg (f : Nat → Nat) (n : Nat) : Prop := ∀ i, n ≤ i → f i = 0
def pz : Nat → Nat := fun _ => 0
def po : Nat → Nat := fun i => if i = 0 then 1 else 0
def pa (f g : Nat → Nat) : Nat → Nat := fun i => f i ^^^ g i
def pc (p a : Nat) (f : Nat → Nat) : Nat → Nat := fun i => fm p a (f i)
def ps (k : Nat) (f : Nat → Nat) : Nat → Nat := fun i => if i < k then 0 else f (i - k)
def pm (p : Nat) (f g : Nat → Nat) : Nat → Nat := fun n => sx (n + 1) (fun i => fm p (f i) (g (n - i)))
/-- a times X^k. -/
def mo (a k : Nat) : Nat → Nat := fun i => if i = k then a else 0

theorem Dg.mono {f : Nat → Nat} {m n : Nat} (h : Dg f m) (hmn : m ≤ n) : Dg f n := fun i hi => h i (by omega)
theorem Dg.pa {f g : Nat → Nat} {n : Nat} (h : Dg f n) (k : Dg g n) : Dg (pa f g) n := fun i hi => by show f i ^^^ g i = 0; rw [h i hi, k i hi]; rfl
theorem Dg.zero {f : Nat → Nat} (h : Dg f 0) : f = pz := funext fun i => h i (by omega)
theorem Dg.pz (n : Nat) : Dg pz n := fun _ _ => rfl
theorem El.pa {f g : Nat → Nat} (h : El d f) (k : El d g) : El d (pa f g) := fun i => Nat.xor_lt_two_pow (h i) (k i)
theorem El.pz (d : Nat) : El d pz := fun _ => Nat.two_pow_pos d
theorem Fld.el_po (h : Fld p d) : El d po := fun i => by unfold po; split; exact h.one_lt; exact Nat.two_pow_pos d
theorem Fld.el_pm (h : Fld p d) (f g : Nat → Nat) : El d (pm p f g) := fun _ => sx_lt (fun _ _ => h.fm_lt _ _)
theorem Fld.el_pc (h : Fld p d) (a : Nat) (f : Nat → Nat) : El d (pc p a f) := fun _ => h.fm_lt _ _
theorem el_mo {a : Nat} (ha : a < 2 ^ d) (k : Nat) : El d (mo a k) := fun i => by unfold mo; split; exact ha; exact Nat.two_pow_pos d
theorem El.ps {f : Nat → Nat} (h : El d f) (k : Nat) : El d (ps k f) := fun i => by unfold Gf2.ps; split; exact Nat.two_pow_pos d; exact h _
theorem pa_comm (f g : Nat → Nat) : pa f g = pa g f := funext fun i => Nat.xor_comm _ _
theorem pa_assoc (f g k : Nat → Nat) : pa (pa f g) k = pa f (pa g k) := funext fun i => Nat.xor_assoc _ _ _
theorem pa_self (f : Nat → Nat) : pa f f = pz := funext fun i => Nat.xor_self _
theorem pa_pz (f : Nat → Nat) : pa f pz = f := funext fun i => Nat.xor_zero _
theorem pz_pa (f : Nat → Nat) : pa pz f = f := funext fun i => Nat.zero_xor _
theorem pa_eq_pz {f g : Nat → Nat} (h : pa f g = pz) : f = g := by
  have : pa (pa f g) g = pa pz g := by rw [h]
  rwa [pa_assoc, pa_self, pa_pz, pz_pa] at this
theorem pa_move {f g k : Nat → Nat} (h : f = pa g k) : g = pa f k := by rw [h, pa_assoc, pa_self, pa_pz]

theorem Fld.pm_comm (_h : Fld p d) (f g : Nat → Nat) : pm p f g = pm p g f := by
  funext n
  unfold pm
  rw [sx_rev]
  exact sx_congr (fun i hi => by rw [fm_comm, show n - (n - i) = i by omega])
theorem Fld.pm_pa (h : Fld p d) (f g k : Nat → Nat) : pm p f (pa g k) = pa (pm p f g) (pm p f k) := by
  funext n
  unfold pm pa
  rw [← sx_xor]
  exact sx_congr (fun i _ => by rw [h.fm_xor])
theorem Fld.pa_pm (h : Fld p d) (f g k : Nat → Nat) : pm p (pa f g) k = pa (pm p f k) (pm p g k) := by
  rw [h.pm_comm, h.pm_pa, h.pm_comm k f, h.pm_comm k g]
theorem Fld.pz_pm (h : Fld p d) (g : Nat → Nat) : pm p pz g = pz := funext fun n => sx_zero (fun i _ => h.zero_fm _)
theorem Fld.pm_pz (h : Fld p d) (g : Nat → Nat) : pm p g pz = pz := by rw [h.pm_comm, h.pz_pm]
/-- a monomial times g. -/
theorem Fld.mo_pm (h : Fld p d) (a k : Nat) (g : Nat → Nat) : pm p (mo a k) g = ps k (pc p a g) := by
  funext n
  unfold pm ps pc
  by_cases hk : n < k
  · rw [if_pos hk]
    exact sx_zero (fun i hi => by unfold mo; rw [if_neg (by omega), h.zero_fm])
  · rw [if_neg hk, sx_one (k := k) (by omega) (fun i _ hne => by unfold mo; rw [if_neg hne, h.zero_fm])]
    unfold mo
    rw [if_pos rfl]
theorem Fld.po_pm (h : Fld p d) {g : Nat → Nat} (hg : El d g) : pm p po g = g := by
  have : po = mo 1 0 := rfl
  rw [this, h.mo_pm]
  funext n
  unfold ps pc
  rw [if_neg (by omega), h.one_fm (hg _)]; rfl
theorem Fld.pm_po (h : Fld p d) {g : Nat → Nat} (hg : El d g) : pm p g po = g := by rw [h.pm_comm, h.po_pm hg]
/-- a polynomial by its first n coefficients and the rest. -/
theorem split_top {f : Nat → Nat} {n : Nat} (h : Dg f (n + 1)) : f = pa (fun i => if i < n then f i else 0) (mo (f n) n) := by
  funext i
  unfold pa mo
  by_cases h1 : i < n
  · simp [h1, Nat.ne_of_lt h1]
  · by_cases h2 : i = n
    · subst h2; simp
    · simp [h1, h2, h i (by omega)]
theorem cut_dg (f : Nat → Nat) (n : Nat) : Dg (fun i => if i < n then f i else 0) n := fun i hi => by show (if i < n then f i else 0) = 0; rw [if_neg (by omega)]
theorem Fld.ps_pm (h : Fld p d) (k : Nat) (f g : Nat → Nat) : pm p (ps k f) g = ps k (pm p f g) := by
  funext n
  unfold pm
  by_cases hk : n < k
  · have e : ps k (pm p f g) n = 0 := by unfold ps; rw [if_pos hk]
    show _ = ps k (pm p f g) n
    rw [e]
    exact sx_zero (fun i hi => by unfold ps; rw [if_pos (by omega), h.zero_fm])
  · have e : ps k (pm p f g) n = pm p f g (n - k) := by unfold ps; rw [if_neg hk]
    show _ = ps k (pm p f g) n
    rw [e, show n + 1 = k + (n - k + 1) by omega, sx_split, sx_zero (n := k) (fun i hi => by unfold ps; rw [if_pos hi, h.zero_fm]), Nat.zero_xor]
    unfold pm
    exact sx_congr (fun i hi => by unfold ps; rw [if_neg (by omega), show k + i - k = i by omega, show n - (k + i) = n - k - i by omega])
theorem Fld.pc_pm (h : Fld p d) (a : Nat) (f g : Nat → Nat) : pm p (pc p a f) g = pc p a (pm p f g) := by
  funext n
  unfold pm pc
  rw [h.fm_sx]
  exact sx_congr (fun i _ => by rw [h.fm_assoc])
theorem Fld.pm_assoc (h : Fld p d) (f g k : Nat → Nat) {n : Nat} (hf : Dg f n) : pm p (pm p f g) k = pm p f (pm p g k) := by
  induction n generalizing f with
  | zero => rw [hf.zero, h.pz_pm, h.pz_pm, h.pz_pm]
  | succ n ih =>
    rw [split_top hf, h.pa_pm, h.pa_pm, h.pa_pm, ih _ (cut_dg f n), h.mo_pm, h.mo_pm, h.ps_pm, h.pc_pm]
theorem Fld.dg_pm (h : Fld p d) {f g : Nat → Nat} {m n : Nat} (hf : Dg f m) (hg : Dg g n) : Dg (pm p f g) (m + n - 1) := by
  intro i hi
  refine sx_zero (fun j hj => ?_)
  by_cases hjm : m ≤ j
  · rw [hf j hjm, h.zero_fm]
  · rw [hg (i - j) (by omega), h.fm_zero]
/-- the top coefficient of a product. -/
theorem Fld.top_pm (h : Fld p d) {f g : Nat → Nat} {m n : Nat} (hf : Dg f (m + 1)) (hg : Dg g (n + 1)) : pm p f g (m + n) = fm p (f m) (g n) := by
  unfold pm
  rw [sx_one (k := m) (by omega) (fun i hi hne => ?_), show m + n - m = n by omega]
  rcases Nat.lt_or_gt_of_ne hne with h1 | h1
  · rw [hg (m + n - i) (by omega), h.fm_zero]
  · rw [hf i (by omega), h.zero_fm]
end Gf2
end Go.Proofs.Ytfhgamaakkoplaa
namespace Go.Proofs.Ytfhgamaakkoplaa
namespace Gf2
set_option linter.unusedVariables false
variable {p d : Nat}

/-- a polynomial: elements, and from some place on 0. -/
def Pol (d : Nat) (f : Nat → Nat) : Prop := El d f ∧ ∃ n, Dg f n
/-- its degree is n. -/
def Tp (f : Nat → Nat) (n : Nat) : Prop := Dg f (n + 1) ∧ f n ≠ 0

theorem Dg.max {f g : Nat → Nat} {m n : Nat} (h : Dg f m) (k : Dg g n) : Dg (Gf2.pa f g) (m + n) := (h.mono (by omega)).pa (k.mono (by omega))
theorem Pol.pa {f g : Nat → Nat} (h : Pol d f) (k : Pol d g) : Pol d (Gf2.pa f g) := by
  obtain ⟨h1, m, h2⟩ := h
  obtain ⟨k1, n, k2⟩ := k
  exact ⟨h1.pa k1, m + n, h2.max k2⟩
theorem Fld.pol_pm (h : Fld p d) {f g : Nat → Nat} (hf : Pol d f) (hg : Pol d g) : Pol d (pm p f g) := by
  obtain ⟨h1, m, h2⟩ := hf
  obtain ⟨k1, n, k2⟩ := hg
  exact ⟨h.el_pm f g, _, h.dg_pm h2 k2⟩
theorem Pol.pz (d : Nat) : Pol d pz := ⟨El.pz d, 0, Dg.pz 0⟩
theorem Fld.pol_po (h : Fld p d) : Pol d po := ⟨h.el_po, 1, fun i hi => by unfold po; rw [if_neg (by omega)]⟩
theorem mo_dg (a k : Nat) : Dg (mo a k) (k + 1) := fun i hi => by unfold mo; rw [if_neg (by omega)]
theorem po_tp : Tp po 0 := ⟨fun i hi => by unfold po; rw [if_neg (by omega)], by unfold po; simp⟩
theorem Tp.ne {f : Nat → Nat} {n : Nat} (h : Tp f n) : f ≠ pz := fun e => h.2 (by rw [e]; rfl)
theorem tp_of {f : Nat → Nat} {n : Nat} (h : Dg f n) (h0 : f ≠ pz) : ∃ k, k < n ∧ Tp f k := by
  induction n with
  | zero => exact absurd h.zero h0
  | succ n ih =>
    by_cases e : f n = 0
    · obtain ⟨k, hk, ht⟩ := ih (fun i hi => by
        rcases Nat.lt_or_ge n i with h1 | h1
        · exact h i (by omega)
        · rw [show i = n by omega]; exact e)
      exact ⟨k, by omega, ht⟩
    · exact ⟨n, by omega, h, e⟩
theorem Tp.only {f : Nat → Nat} {m n : Nat} (h : Tp f m) (k : Tp f n) : m = n := by
  rcases Nat.lt_trichotomy m n with e | e | e
  · exact absurd (h.1 n (by omega)) k.2
  · exact e
  · exact absurd (k.1 m (by omega)) h.2
theorem Tp.below {f : Nat → Nat} {m n : Nat} (h : Tp f m) (k : Dg f n) : m < n := by
  rcases Nat.lt_or_ge m n with e | e
  · exact e
  · exact absurd (k m e) h.2
theorem Fld.tp_pm (h : Fld p d) {f g : Nat → Nat} {m n : Nat} (ef : El d f) (eg : El d g) (hf : Tp f m) (hg : Tp g n) : Tp (pm p f g) (m + n) := by
  refine ⟨?_, ?_⟩
  · have := h.dg_pm hf.1 hg.1
    exact this.mono (by omega)
  · rw [h.top_pm hf.1 hg.1]
    exact h.fm_ne (ef m) (eg n) hf.2 hg.2
theorem Fld.pm_eq_pz (h : Fld p d) {f g : Nat → Nat} (hf : Pol d f) (hg : Pol d g) (e : pm p f g = pz) : f = pz ∨ g = pz := by
  by_cases h1 : f = pz
  · exact .inl h1
  · by_cases h2 : g = pz
    · exact .inr h2
    · obtain ⟨m, _, hm⟩ := tp_of hf.2.choose_spec h1
      obtain ⟨n, _, hn⟩ := tp_of hg.2.choose_spec h2
      exact absurd e (h.tp_pm hf.1 hg.1 hm hn).ne
/-- division with a remainder. -/
theorem Fld.div_ex (h : Fld p d) {g : Nat → Nat} {e : Nat} (eg : El d g) (hg : Tp g e) : ∀ {N : Nat} {f : Nat → Nat}, El d f → Dg f N → ∃ q m, El d q ∧ El d m ∧ Dg q (N - e) ∧ Dg m e ∧ f = pa (pm p q g) m := by
  intro N
  induction N with
  | zero =>
    intro f ef hf
    exact ⟨pz, f, El.pz d, ef, Dg.pz _, hf.mono (by omega), by rw [h.pz_pm, pz_pa]⟩
  | succ k ih =>
    intro f ef hf
    by_cases hk : k < e
    · exact ⟨pz, f, El.pz d, ef, Dg.pz _, hf.mono (by omega), by rw [h.pz_pm, pz_pa]⟩
    · have hgi := h.fi_lt (eg e) hg.2
      obtain ⟨t, ht⟩ : ∃ t, t = fm p (f k) (fi p (g e)) := ⟨_, rfl⟩
      have tl : t < 2 ^ d := by rw [ht]; exact h.fm_lt _ _
      have top : pm p (mo t (k - e)) g k = f k := by
        have := h.top_pm (mo_dg t (k - e)) hg.1
        rw [show k - e + e = k by omega] at this
        rw [this]
        unfold mo
        rw [if_pos rfl, ht]
        exact h.div_mul (ef k) (eg e) hg.2
      have dg : Dg (pa f (pm p (mo t (k - e)) g)) k := by
        intro i hi
        rcases Nat.lt_or_ge k i with h1 | h1
        · show f i ^^^ pm p (mo t (k - e)) g i = 0
          rw [hf i (by omega), (h.dg_pm (mo_dg t (k - e)) hg.1) i (by omega)]; rfl
        · rw [show i = k by omega]
          show f k ^^^ pm p (mo t (k - e)) g k = 0
          rw [top, Nat.xor_self]
      obtain ⟨q, m, eq, em, dq, dm, he⟩ := ih (ef.pa (h.el_pm _ _)) dg
      refine ⟨pa q (mo t (k - e)), m, eq.pa (el_mo tl _), em, (dq.mono (by omega)).pa ((mo_dg t (k - e)).mono (by omega)), dm, ?_⟩
      rw [h.pa_pm, pa_assoc, pa_comm (pm p (mo t (k - e)) g) m, ← pa_assoc, ← he, pa_assoc, pa_self, pa_pz]
theorem Fld.div_only (h : Fld p d) {g q m q' m' : Nat → Nat} {e : Nat} (eg : El d g) (hg : Tp g e) (hq : Pol d q) (hq' : Pol d q') (hm : Dg m e) (hm' : Dg m' e)
    (he : pa (pm p q g) m = pa (pm p q' g) m') : q = q' ∧ m = m' := by
  have h1 : pm p (pa q q') g = pa m m' := by
    rw [h.pa_pm]
    have h2 := pa_move he
    rw [h2, pa_assoc (pm p q g) m m', ← pa_assoc (pm p q g) (pm p q g), pa_self, pz_pa]
  have h3 : pa q q' = pz := by
    rcases Classical.em (pa q q' = pz) with h0 | h0
    · exact h0
    · obtain ⟨k, _, hk⟩ := tp_of (hq.pa hq').2.choose_spec h0
      have t := h.tp_pm (hq.pa hq').1 eg hk hg
      rw [h1] at t
      have := t.below (hm.pa hm')
      omega
  have e1 := pa_eq_pz h3
  refine ⟨e1, ?_⟩
  rw [h3, h.pz_pm] at h1
  exact pa_eq_pz h1.symm

/-- g divides f. -/
def Dv (p d : Nat) (g f : Nat → Nat) : Prop := ∃ q, Pol d q ∧ f = pm p q g
theorem Fld.dv_pm (h : Fld p d) {c f g : Nat → Nat} (hf : Pol d f) (h1 : Dv p d c g) : Dv p d c (pm p f g) := by
  obtain ⟨q, hq, rfl⟩ := h1
  exact ⟨pm p f q, h.pol_pm hf hq, (h.pm_assoc f q c hf.2.choose_spec).symm⟩
theorem Fld.dv_trans (h : Fld p d) {a b c : Nat → Nat} (h1 : Dv p d a b) (h2 : Dv p d b c) : Dv p d a c := by
  obtain ⟨q, hq, rfl⟩ := h2
  exact h.dv_pm hq h1
end Gf2
end Go.Proofs.Ytfhgamaakkoplaa
namespace Go.Proofs.Ytfhgamaakkoplaa
namespace Gf2
set_option linter.unusedVariables false
variable {p d : Nat}

/-- the value at x of a polynomial of a degree below n. -/
def pe (p x n : Nat) (f : Nat → Nat) : Nat := sx n (fun i => fm p (f i) (fp p x i))
theorem Fld.pe_cut (h : Fld p d) {f : Nat → Nat} {m n : Nat} (x : Nat) (hf : Dg f m) (hmn : m ≤ n) : pe p x n f = pe p x m f :=
  sx_cut hmn (fun i h1 _ => by rw [hf i h1, h.zero_fm])
theorem Fld.pe_lt (h : Fld p d) (x n : Nat) (f : Nat → Nat) : pe p x n f < 2 ^ d := sx_lt (fun _ _ => h.fm_lt _ _)
theorem Fld.pe_pa (h : Fld p d) (x n : Nat) (f g : Nat → Nat) : pe p x n (pa f g) = pe p x n f ^^^ pe p x n g := by
  unfold pe
  rw [← sx_xor]
  exact sx_congr (fun i _ => h.xor_fm _ _ _)
theorem Fld.pe_pz (h : Fld p d) (x n : Nat) : pe p x n pz = 0 := sx_zero (fun i _ => h.zero_fm _)
theorem Fld.pe_pc (h : Fld p d) (x n a : Nat) (f : Nat → Nat) : pe p x n (pc p a f) = fm p a (pe p x n f) := by
  unfold pe pc
  rw [h.fm_sx]
  exact sx_congr (fun i _ => h.fm_assoc _ _ _)
theorem Fld.pe_ps (h : Fld p d) (x k n : Nat) (f : Nat → Nat) : pe p x (k + n) (ps k f) = fm p (fp p x k) (pe p x n f) := by
  unfold pe
  rw [sx_split, sx_zero (n := k) (fun i hi => by unfold ps; rw [if_pos hi, h.zero_fm]), Nat.zero_xor, h.fm_sx]
  refine sx_congr (fun i _ => ?_)
  unfold ps
  rw [if_neg (by omega), show k + i - k = i by omega, h.fp_add, ← h.fm_assoc, fm_comm p (f i), h.fm_assoc]
theorem Fld.pe_mo (h : Fld p d) {x a k n : Nat} (hk : k < n) : pe p x n (mo a k) = fm p a (fp p x k) := by
  unfold pe
  rw [sx_one hk (fun i _ hne => by unfold mo; rw [if_neg hne, h.zero_fm])]
  unfold mo; rw [if_pos rfl]
theorem Fld.pe_pm (h : Fld p d) (x : Nat) {f g : Nat → Nat} {m n : Nat} (hf : Dg f m) (hg : Dg g n) : pe p x (m + n) (pm p f g) = fm p (pe p x m f) (pe p x n g) := by
  induction m generalizing f with
  | zero => rw [hf.zero, h.pz_pm, h.pe_pz, h.pe_pz, h.zero_fm]
  | succ m ih =>
    rw [split_top hf, h.pa_pm, h.pe_pa, h.pe_pa, h.xor_fm, h.mo_pm]
    congr 1
    · rw [h.pe_cut x (h.dg_pm (cut_dg f m) hg) (by omega : m + n - 1 ≤ m + 1 + n), ← h.pe_cut x (h.dg_pm (cut_dg f m) hg) (by omega : m + n - 1 ≤ m + n), ih (cut_dg f m), h.pe_cut x (cut_dg f m) (by omega : m ≤ m + 1)]
    · have hd : Dg (ps m (pc p (f m) g)) (m + n) := fun i hi => by unfold ps pc; rw [if_neg (by omega), hg _ (by omega), h.fm_zero]
      rw [h.pe_cut x hd (by omega : m + n ≤ m + 1 + n), h.pe_ps, h.pe_pc, h.pe_mo (by omega), ← h.fm_assoc, fm_comm p (fp p x m)]

/-- X + x. -/
def px (x : Nat) : Nat → Nat := fun i => if i = 0 then x else if i = 1 then 1 else 0
theorem px_dg (x : Nat) : Dg (px x) 2 := fun i hi => by unfold px; rw [if_neg (by omega), if_neg (by omega)]
theorem px_tp (x : Nat) : Tp (px x) 1 := ⟨px_dg x, by unfold px; simp⟩
theorem Fld.el_px (h : Fld p d) {x : Nat} (hx : x < 2 ^ d) : El d (px x) := fun i => by
  unfold px
  split
  · exact hx
  · split
    · exact h.one_lt
    · exact Nat.two_pow_pos d
theorem Fld.pe_px (h : Fld p d) {x y : Nat} (hx : x < 2 ^ d) (hy : y < 2 ^ d) : pe p y 2 (px x) = x ^^^ y := by
  show (0 ^^^ fm p (px x 0) (fp p y 0)) ^^^ fm p (px x 1) (fp p y 1) = _
  rw [Nat.zero_xor, h.fp_zero, h.fp_one hy]
  show fm p x 1 ^^^ fm p 1 y = _
  rw [h.fm_one hx, h.one_fm hy]
/-- the factor theorem. -/
theorem Fld.div_px (h : Fld p d) {x n : Nat} (hx : x < 2 ^ d) {f : Nat → Nat} (ef : El d f) (hf : Dg f n) : ∃ q, El d q ∧ Dg q (n - 1) ∧ f = pa (pm p q (px x)) (mo (pe p x n f) 0) := by
  obtain ⟨q, m, eq, em, dq, dm, he⟩ := h.div_ex (h.el_px hx) (px_tp x) ef hf
  refine ⟨q, eq, dq, ?_⟩
  have hm : m = mo (m 0) 0 := by
    funext i
    unfold mo
    by_cases hi : i = 0
    · rw [if_pos hi, hi]
    · rw [if_neg hi, dm i (by omega)]
  have hv : pe p x n f = m 0 := by
    have e1 : pe p x (n + 2) f = pe p x n f := h.pe_cut x hf (by omega)
    rw [← e1]
    rw [he]
    rw [h.pe_pa, h.pe_cut x (h.dg_pm dq (px_dg x)) (by omega : n - 1 + 2 - 1 ≤ n + 2), ← h.pe_cut x (h.dg_pm dq (px_dg x)) (by omega : n - 1 + 2 - 1 ≤ n - 1 + 2), h.pe_pm x dq (px_dg x), h.pe_px hx hx, Nat.xor_self, h.fm_zero, Nat.zero_xor, hm, h.pe_mo (by omega), h.fp_zero, h.fm_one (em 0)]
    unfold mo; simp
  rw [hv, ← hm]
  exact he
/-- as many roots as the number of coefficients: 0. -/
theorem Fld.roots_pz (h : Fld p d) : ∀ {n : Nat} {f pts : Nat → Nat}, El d f → Dg f n → (∀ i, i < n → pts i < 2 ^ d) → (∀ i j, i < n → j < n → pts i = pts j → i = j) → (∀ i, i < n → pe p (pts i) n f = 0) → f = pz := by
  intro n
  induction n with
  | zero => intro f pts ef hf _ _ _; exact hf.zero
  | succ n ih =>
    intro f pts ef hf hl hi hr
    obtain ⟨q, eq, dq, he⟩ := h.div_px (hl n (by omega)) ef hf
    rw [hr n (by omega)] at he
    have e0 : mo 0 0 = pz := funext fun i => by unfold mo pz; split <;> rfl
    rw [e0, pa_pz] at he
    rw [Nat.add_sub_cancel] at dq
    have hq : q = pz := by
      refine ih (pts := pts) eq dq (fun i hi => hl i (by omega)) (fun i j h1 h2 => hi i j (by omega) (by omega)) (fun i h1 => ?_)
      have hv := hr i (by omega)
      have e1 : pe p (pts i) (n + 2) f = 0 := by rw [h.pe_cut _ hf (by omega)]; exact hv
      rw [he, h.pe_pm _ dq (px_dg _), h.pe_px (hl n (by omega)) (hl i (by omega))] at e1
      rcases (h.fm_eq_zero (h.pe_lt _ _ _) (Nat.xor_lt_two_pow (hl n (by omega)) (hl i (by omega)))).1 e1 with h2 | h2
      · exact h2
      · have := hi n i (by omega) (by omega) (xor_eq_zero h2)
        omega
    rw [he, hq, h.pz_pm]
end Gf2
end Go.Proofs.Ytfhgamaakkoplaa
namespace Go.Proofs.Ytfhgamaakkoplaa
namespace Gf2
set_option linter.unusedVariables false
variable {p d : Nat}

theorem Fld.pe_any (h : Fld p d) {f : Nat → Nat} {m n : Nat} (x : Nat) (hm : Dg f m) (hn : Dg f n) : pe p x m f = pe p x n f := by
  rw [← h.pe_cut x hm (Nat.le_add_right m n), ← h.pe_cut x hn (Nat.le_add_left n m)]
/-- the product of the X + pts i, i below n. -/
def pv (p : Nat) (pts : Nat → Nat) : Nat → Nat → Nat
  | 0 => po
  | n + 1 => pm p (pv p pts n) (px (pts n))
theorem Fld.el_pv (h : Fld p d) (pts : Nat → Nat) : ∀ n, El d (pv p pts n)
  | 0 => h.el_po
  | n + 1 => h.el_pm _ _
theorem Fld.pv_dg (h : Fld p d) (pts : Nat → Nat) : ∀ n, Dg (pv p pts n) (n + 1)
  | 0 => po_tp.1
  | n + 1 => (h.dg_pm (h.pv_dg pts n) (px_dg (pts n))).mono (by omega)
theorem Fld.pv_top (h : Fld p d) (pts : Nat → Nat) : ∀ n, pv p pts n n = 1
  | 0 => rfl
  | n + 1 => by
    show pm p (pv p pts n) (px (pts n)) (n + 1) = 1
    rw [h.top_pm (h.pv_dg pts n) (px_dg (pts n)), h.pv_top pts n]
    exact h.fm_one h.one_lt
theorem Fld.pv_tp (h : Fld p d) (pts : Nat → Nat) (n : Nat) : Tp (pv p pts n) n := ⟨h.pv_dg pts n, by rw [h.pv_top]; decide⟩
theorem Fld.pol_pv (h : Fld p d) (pts : Nat → Nat) (n : Nat) : Pol d (pv p pts n) := ⟨h.el_pv pts n, _, h.pv_dg pts n⟩
theorem Fld.pe_pv_succ (h : Fld p d) {pts : Nat → Nat} {n x : Nat} (hl : pts n < 2 ^ d) (hx : x < 2 ^ d) : pe p x (n + 2) (pv p pts (n + 1)) = fm p (pe p x (n + 1) (pv p pts n)) (pts n ^^^ x) := by
  have e := h.pe_pm x (h.pv_dg pts n) (px_dg (pts n))
  rw [h.pe_px hl hx] at e
  rw [← e]
  exact h.pe_any x (h.pv_dg pts (n + 1)) ((h.pv_dg pts (n + 1)).mono (by omega))
/-- how often y stands among the first n points. -/
def cnt (pts : Nat → Nat) (y : Nat) : Nat → Nat
  | 0 => 0
  | n + 1 => cnt pts y n + (if pts n = y then 1 else 0)
theorem Fld.pv_root (h : Fld p d) {pts : Nat → Nat} {x : Nat} (hx : x < 2 ^ d) : ∀ n, (∀ i, i < n → pts i < 2 ^ d) → (pe p x (n + 1) (pv p pts n) = 0 ↔ 0 < cnt pts x n)
  | 0, _ => by
    have e : pe p x 1 (pv p pts 0) = 1 := by
      show 0 ^^^ fm p 1 (fp p x 0) = 1
      rw [h.fp_zero, h.one_fm h.one_lt]; rfl
    rw [e]; simp [cnt]
  | n + 1, hl => by
    rw [h.pe_pv_succ (hl n (by omega)) hx, h.fm_eq_zero (h.pe_lt _ _ _) (Nat.xor_lt_two_pow (hl n (by omega)) hx), h.pv_root hx n (fun i hi => hl i (by omega))]
    simp only [cnt]
    by_cases e : pts n = x
    · rw [if_pos e, e]; simp
    · rw [if_neg e]
      constructor
      · intro hh
        rcases hh with h1 | h1
        · omega
        · exact absurd (xor_eq_zero h1) e
      · intro hh; exact .inl (by omega)
/-- what is left of the product without one of the points. -/
structure Oth (p d : Nat) (pts : Nat → Nat) (n i : Nat) (o : Nat → Nat) : Prop where
  el : El d o
  dg : Dg o n
  eq : pv p pts n = pm p o (px (pts i))
theorem Fld.oth_ex (h : Fld p d) {pts : Nat → Nat} {n i : Nat} (hl : ∀ i, i < n → pts i < 2 ^ d) (hi : i < n) : ∃ o, Oth p d pts n i o := by
  obtain ⟨q, eq, dq, he⟩ := h.div_px (hl i hi) (h.el_pv pts n) (h.pv_dg pts n)
  have hz : pe p (pts i) (n + 1) (pv p pts n) = 0 := (h.pv_root (hl i hi) n hl).2 (by
    have : ∀ n, i < n → 0 < cnt pts (pts i) n := by
      intro n
      induction n with
      | zero => intro hh; omega
      | succ n ih =>
        intro hh
        simp only [cnt]
        by_cases e : i = n
        · rw [if_pos (by rw [e])]; omega
        · have := ih (by omega); omega
    exact this n hi)
  rw [hz] at he
  have e0 : mo 0 0 = pz := funext fun i => by unfold mo pz; split <;> rfl
  rw [e0, pa_pz] at he
  exact ⟨q, eq, dq.mono (by omega), he⟩
theorem Fld.oth_at (h : Fld p d) {pts o : Nat → Nat} {n i j : Nat} (ho : Oth p d pts n i o) (hl : ∀ i, i < n → pts i < 2 ^ d) (hinj : ∀ i j, i < n → j < n → pts i = pts j → i = j) (hi : i < n) (hj : j < n) :
    pe p (pts j) n o = 0 ↔ j ≠ i := by
  have zero : ∀ k, k < n → k ≠ i → pe p (pts k) n o = 0 := by
    intro k hk hne
    have hz : pe p (pts k) (n + 1) (pv p pts n) = 0 := by
      obtain ⟨q, hq⟩ := h.oth_ex hl hk
      have e := h.pe_pm (pts k) hq.dg (px_dg (pts k))
      rw [h.pe_px (hl k hk) (hl k hk), Nat.xor_self, h.fm_zero, ← hq.eq] at e
      rw [← e]
      exact h.pe_any _ (h.pv_dg pts n) ((h.pv_dg pts n).mono (by omega))
    have e := h.pe_pm (pts k) ho.dg (px_dg (pts i))
    rw [h.pe_px (hl i hi) (hl k hk), ← ho.eq, h.pe_cut _ (h.pv_dg pts n) (by omega), hz] at e
    rcases (h.fm_eq_zero (h.pe_lt _ _ _) (Nat.xor_lt_two_pow (hl i hi) (hl k hk))).1 e.symm with h1 | h1
    · exact h1
    · exact absurd (hinj k i hk hi (xor_eq_zero h1).symm) hne
  constructor
  · intro hz e
    subst e
    have : o = pz := h.roots_pz (pts := pts) ho.el ho.dg hl hinj (fun k hk => by
      by_cases e : k = j
      · rw [e]; exact hz
      · exact zero k hk e)
    have hne := (h.pv_tp pts n).ne
    rw [ho.eq, this, h.pz_pm] at hne
    exact hne rfl
  · exact zero j hj
/-- Lagrange's sum. -/
def lag (p : Nat) (c : Nat → Nat) (o : Nat → Nat → Nat) : Nat → Nat → Nat
  | 0 => pz
  | n + 1 => pa (lag p c o n) (pc p (c n) (o n))
theorem Fld.el_lag (h : Fld p d) (c : Nat → Nat) (o : Nat → Nat → Nat) : ∀ n, El d (lag p c o n)
  | 0 => El.pz d
  | n + 1 => (h.el_lag c o n).pa (h.el_pc _ _)
theorem Fld.lag_dg (h : Fld p d) {c : Nat → Nat} {o : Nat → Nat → Nat} {m : Nat} : ∀ n, (∀ i, i < n → Dg (o i) m) → Dg (lag p c o n) m
  | 0, _ => Dg.pz _
  | n + 1, ho => (h.lag_dg n (fun i hi => ho i (by omega))).pa (fun i hi => by unfold pc; rw [ho n (by omega) i hi, h.fm_zero])
theorem Fld.pe_lag (h : Fld p d) (x m : Nat) (c : Nat → Nat) (o : Nat → Nat → Nat) : ∀ n, pe p x m (lag p c o n) = sx n (fun i => fm p (c i) (pe p x m (o i)))
  | 0 => h.pe_pz _ _
  | n + 1 => by
    show pe p x m (pa (lag p c o n) (pc p (c n) (o n))) = _
    rw [h.pe_pa, h.pe_pc, h.pe_lag x m c o n]; rfl
theorem Fld.lagrange (h : Fld p d) {pts vals : Nat → Nat} {o : Nat → Nat → Nat} {n : Nat} (hl : ∀ i, i < n → pts i < 2 ^ d) (hv : ∀ i, i < n → vals i < 2 ^ d) (hinj : ∀ i j, i < n → j < n → pts i = pts j → i = j)
    (ho : ∀ i, i < n → Oth p d pts n i (o i)) {c : Nat → Nat} (hc : ∀ i, i < n → c i = fm p (vals i) (fi p (pe p (pts i) n (o i)))) {j : Nat} (hj : j < n) : pe p (pts j) n (lag p c o n) = vals j := by
  rw [h.pe_lag, sx_one hj (fun i hi hne => by rw [(h.oth_at (ho i hi) hl hinj hi hj).2 (fun e => hne e.symm), h.fm_zero]), hc j hj]
  have hne : pe p (pts j) n (o j) ≠ 0 := fun e => (h.oth_at (ho j hj) hl hinj hj hj).1 e rfl
  exact h.div_mul (hv j hj) (h.pe_lt _ _ _) hne

end Gf2
end Go.Proofs.Ytfhgamaakkoplaa
namespace Go.Proofs.Ytfhgamaakkoplaa
namespace Gf2
set_option linter.unusedVariables false
variable {p d : Nat}

/-! Euclid's way to the greatest common divisor. -/
theorem Fld.pc_mo (h : Fld p d) (c : Nat) (f : Nat → Nat) : pc p c f = pm p (mo c 0) f := by
  rw [h.mo_pm]
  funext i
  unfold ps
  rw [if_neg (by omega)]; rfl
/-! lists of coefficients. -/
def co (l : List Nat) : Nat → Nat := fun i => l.getD i 0
theorem getD_out {l : List Nat} {i : Nat} (h : l.length ≤ i) : l.getD i 0 = 0 := by rw [List.getD_eq_getElem?_getD, List.getElem?_eq_none h]; rfl
theorem getD_in {l : List Nat} {i : Nat} (h : i < l.length) : l.getD i 0 = l[i] := by rw [List.getD_eq_getElem?_getD, List.getElem?_eq_getElem h]; rfl
theorem co_dg (l : List Nat) : Dg (co l) l.length := fun i hi => by unfold co; rw [getD_out hi]
theorem co_el {l : List Nat} (h : ∀ x ∈ l, x < 2 ^ d) : El d (co l) := fun i => by
  unfold co
  by_cases hi : i < l.length
  · rw [getD_in hi]; exact h _ (List.getElem_mem hi)
  · rw [getD_out (by omega)]; exact Nat.two_pow_pos d
theorem co_get {l : List Nat} {i : Nat} (h : i < l.length) : l[i]? = some (co l i) := by
  unfold co; rw [List.getElem?_eq_getElem h, getD_in h]
/-- no zero at the end. -/
def Neat (l : List Nat) : Prop := l.length = 0 ∨ co l (l.length - 1) ≠ 0
/-- how many are left without the zeros at the end. -/
def nzl : List Nat → Nat
  | [] => 0
  | a :: l => if nzl l = 0 then (if a = 0 then 0 else 1) else nzl l + 1
theorem nzl_le : ∀ l : List Nat, nzl l ≤ l.length
  | [] => Nat.le_refl _
  | a :: l => by
    have := nzl_le l
    unfold nzl
    split
    · split <;> simp
    · simp; omega
theorem nzl_zero : ∀ {l : List Nat} {i : Nat}, nzl l ≤ i → co l i = 0
  | [], i, _ => by unfold co; simp
  | a :: l, i, h => by
    unfold nzl at h
    cases i with
    | zero =>
      split at h
      · split at h
        · next e => unfold co; simpa using e
        · omega
      · omega
    | succ i =>
      show co l i = 0
      refine nzl_zero ?_
      split at h
      · omega
      · omega
theorem nzl_top : ∀ {l : List Nat}, nzl l ≠ 0 → co l (nzl l - 1) ≠ 0
  | [], h => absurd rfl h
  | a :: l, h => by
    unfold nzl at h ⊢
    by_cases e : nzl l = 0
    · rw [if_pos e] at h ⊢
      by_cases e2 : a = 0
      · rw [if_pos e2] at h; exact absurd rfl h
      · rw [if_neg e2]
        show co (a :: l) 0 ≠ 0
        unfold co; simpa using e2
    · rw [if_neg e]
      obtain ⟨k, hk⟩ : ∃ k, nzl l = k + 1 := ⟨nzl l - 1, by omega⟩
      have := nzl_top (l := l) e
      rw [hk] at this ⊢
      exact this
def tri (l : List Nat) : List Nat := l.take (nzl l)
theorem tri_len (l : List Nat) : (tri l).length = nzl l := by unfold tri; rw [List.length_take, Nat.min_eq_left (nzl_le l)]
theorem tri_co (l : List Nat) : co (tri l) = co l := by
  funext i
  by_cases h : i < nzl l
  · unfold co tri
    rw [List.getD_eq_getElem?_getD, List.getD_eq_getElem?_getD, List.getElem?_take, if_pos h]
  · rw [nzl_zero (l := l) (by omega)]
    exact co_dg (tri l) i (by rw [tri_len]; omega)
theorem tri_neat (l : List Nat) : Neat (tri l) := by
  unfold Neat
  rw [tri_len, tri_co]
  by_cases h : nzl l = 0
  · exact .inl h
  · exact .inr (nzl_top h)
/-- the length that is left, by its two marks. -/
theorem nzl_only {l : List Nat} {n : Nat} (h0 : ∀ i, n ≤ i → co l i = 0) (h1 : n = 0 ∨ co l (n - 1) ≠ 0) : nzl l = n := by
  rcases Nat.lt_trichotomy (nzl l) n with h | h | h
  · rcases h1 with h1 | h1
    · omega
    · exact absurd (nzl_zero (by omega)) h1
  · exact h
  · exact absurd (h0 _ (by omega)) (nzl_top (by omega))
end Gf2
end Go.Proofs.Ytfhgamaakkoplaa
namespace Go.Proofs.Ytfhgamaakkoplaa
namespace Gf2
set_option linter.unusedVariables false

theorem sx_fm (a n : Nat) (f : Nat → Nat) : fm 285 (sx n f) a = sx n (fun i => fm 285 (f i) a) := by
  rw [fm_comm, fld8.fm_sx]
  exact sx_congr (fun i _ => fm_comm _ _ _)

/-- rows t and r change places. -/
def swp {α : Type} (M : Nat → α) (t r : Nat) : Nat → α := fun i => if i = t then M r else if i = r then M t else M i
/-- row t, times f i, is added to each other row i. -/
def rad (f : Nat → Nat) (t : Nat) (M : Nat → Nat → Nat) : Nat → Nat → Nat := fun i j => if i = t then M t j else M i j ^^^ fm 285 (f i) (M t j)
/-! elimination. -/
/-- the first row from t on, of k rows, that is not 0 in column c. -/
def fr (M : Nat → Nat → Nat) (c : Nat) : Nat → Nat → Nat
  | 0, t => t
  | k + 1, t => if M t c = 0 then fr M c k (t + 1) else t
/-- what Inv answers. -/
def fv (a : Nat) : Nat := if a = 0 then 0 else fi 285 a
/-- row t scaled from column c on. -/
def scl (M : Nat → Nat → Nat) (t c : Nat) : Nat → Nat → Nat := fun i j => if i = t ∧ c ≤ j then fm 285 (fv (M t c)) (M t j) else M i j
/-- the other rows cleared from column c on. -/
def clr (M : Nat → Nat → Nat) (t c : Nat) : Nat → Nat → Nat := fun i j => if i ≠ t ∧ c ≤ j then M i j ^^^ fm 285 (M i c) (M t j) else M i j
structure St where
  M : Nat → Nat → Nat
  t : Nat
  P : Nat → Nat
  d : Nat
theorem fv_lt {a : Nat} (h : a < 256) : fv a < 256 := by
  unfold fv
  split
  · decide
  · next h0 => exact fld8.fi_lt h h0
end Gf2
end Go.Proofs.Ytfhgamaakkoplaa
namespace Go.Proofs.Ytfhgamaakkoplaa
namespace Gf2
set_option linter.unusedVariables false
variable {p d : Nat}

-- Newton's way through points
/-- a product with X + x, place by place. -/
theorem Fld.pm_px8 (h : Fld p d) {f : Nat → Nat} (ef : El d f) {x : Nat} (n : Nat) : pm p f (px x) n = (if 1 ≤ n then f (n - 1) else 0) ^^^ fm p (f n) x := by
  have e : px x = pa (mo x 0) (mo 1 1) := by
    funext i
    unfold px pa mo
    by_cases h0 : i = 0
    · simp [h0]
    · by_cases h1 : i = 1
      · simp [h1]
      · simp [h0, h1]
  rw [e, h.pm_pa, h.pm_comm f (mo x 0), h.pm_comm f (mo 1 1), h.mo_pm, h.mo_pm]
  unfold pa ps pc
  rw [if_neg (by omega), Nat.sub_zero, fm_comm p x, Nat.xor_comm]
  congr 1
  by_cases h1 : 1 ≤ n
  · rw [if_neg (by omega), if_pos h1, h.one_fm (ef _)]
  · rw [if_pos (by omega), if_neg h1]
/-- the value of a product with X + x. -/
theorem Fld.pe_pm_px (h : Fld p d) {f : Nat → Nat} {n x y : Nat} (hf : Dg f n) (hx : x < 2 ^ d) (hy : y < 2 ^ d) : pe p y (n + 1) (pm p f (px x)) = fm p (pe p y n f) (x ^^^ y) := by
  have e := h.pe_pm y hf (px_dg x)
  rw [h.pe_px hx hy] at e
  rw [← e]
  exact h.pe_any y ((h.dg_pm hf (px_dg x)).mono (by omega)) ((h.dg_pm hf (px_dg x)).mono (by omega))

/-- divided differences: of g + 1 values up to the i-th. -/
def ddf (p : Nat) (pts vals : Nat → Nat) : Nat → Nat → Nat
  | 0, i => vals i
  | g + 1, i => fm p (ddf p pts vals g i ^^^ ddf p pts vals g (i - 1)) (fi p (pts i ^^^ pts (i - (g + 1))))
/-- the polynomial through the g + 1 points up to the i-th. -/
def nwP (p : Nat) (pts vals : Nat → Nat) : Nat → Nat → Nat → Nat
  | 0, i => mo (vals i) 0
  | g + 1, i => pc p (fi p (pts i ^^^ pts (i - (g + 1)))) (pa (pm p (nwP p pts vals g i) (px (pts (i - (g + 1))))) (pm p (nwP p pts vals g (i - 1)) (px (pts i))))
structure Nw (p d : Nat) (pts vals : Nat → Nat) (g i : Nat) : Prop where
  el : El d (nwP p pts vals g i)
  dg : Dg (nwP p pts vals g i) (g + 1)
  top : nwP p pts vals g i g = ddf p pts vals g i
  at_ : ∀ t, i - g ≤ t → t ≤ i → pe p (pts t) (g + 1) (nwP p pts vals g i) = vals t
theorem xor_nep {a b : Nat} (h : a ≠ b) : a ^^^ b ≠ 0 := fun e => h (by
  have := congrArg (· ^^^ b) e
  simpa [Nat.xor_assoc] using this)
theorem Fld.nw (h : Fld p d) {pts vals : Nat → Nat} {n : Nat} (hl : ∀ i, i < n → pts i < 2 ^ d) (hv : ∀ i, i < n → vals i < 2 ^ d) (hinj : ∀ i j, i < n → j < n → pts i = pts j → i = j) :
    ∀ g i, g ≤ i → i < n → Nw p d pts vals g i := by
  intro g
  induction g with
  | zero =>
    intro i _ hi
    refine ⟨el_mo (hv i hi) 0, mo_dg _ _, by show mo (vals i) 0 0 = vals i; unfold mo; rw [if_pos rfl], fun t h1 h2 => ?_⟩
    obtain rfl : t = i := by omega
    show pe p (pts t) 1 (mo (vals t) 0) = vals t
    rw [h.pe_mo (by omega), h.fp_zero, h.fm_one (hv t hi)]
  | succ g ih =>
    intro i hg hi
    have k1 := ih i (by omega) hi
    have k2 := ih (i - 1) (by omega) (by omega)
    have ha := hl (i - (g + 1)) (by omega)
    have hb := hl i hi
    have hne : pts i ^^^ pts (i - (g + 1)) ≠ 0 := xor_nep fun e => absurd (hinj _ _ hi (by omega) e) (by omega)
    have hlt : pts i ^^^ pts (i - (g + 1)) < 2 ^ d := Nat.xor_lt_two_pow hb ha
    have d1 : Dg (pm p (nwP p pts vals g i) (px (pts (i - (g + 1))))) (g + 2) := (h.dg_pm k1.dg (px_dg _)).mono (by omega)
    have d2 : Dg (pm p (nwP p pts vals g (i - 1)) (px (pts i))) (g + 2) := (h.dg_pm k2.dg (px_dg _)).mono (by omega)
    refine ⟨h.el_pc _ _, fun t ht => ?_, ?_, fun t h1 h2 => ?_⟩
    · show fm p _ (pa _ _ t) = 0
      rw [(d1.pa d2) t ht, h.fm_zero]
    · show fm p _ (pm p _ _ (g + 1) ^^^ pm p _ _ (g + 1)) = fm p _ _
      rw [h.pm_px8 k1.el, h.pm_px8 k2.el, if_pos (by omega), if_pos (by omega), Nat.add_sub_cancel, k1.top, k2.top, k1.dg (g + 1) (by omega), k2.dg (g + 1) (by omega), h.zero_fm, h.zero_fm, Nat.xor_zero, Nat.xor_zero, fm_comm]
    · show pe p (pts t) (g + 1 + 1) (pc p _ (pa _ _)) = vals t
      have ht : t < n := by omega
      have hx := hl t ht
      rw [h.pe_pc, h.pe_pa, h.pe_pm_px k1.dg ha hx, h.pe_pm_px k2.dg hb hx]
      by_cases e1 : t = i
      · subst e1
        rw [k1.at_ t (by omega) (Nat.le_refl _), Nat.xor_self, h.fm_zero, Nat.xor_zero, Nat.xor_comm (pts (t - (g + 1))), fm_comm, h.mul_div (hv t ht) hlt hne]
      · by_cases e2 : t = i - (g + 1)
        · subst e2
          rw [k2.at_ _ (by omega) (by omega), Nat.xor_self, h.fm_zero, Nat.zero_xor, fm_comm, h.mul_div (hv _ ht) hlt hne]
        · rw [k1.at_ t (by omega) h2, k2.at_ t (by omega) (by omega), ← h.fm_xor]
          have : (pts (i - (g + 1)) ^^^ pts t) ^^^ (pts i ^^^ pts t) = pts i ^^^ pts (i - (g + 1)) := by
            apply Nat.eq_of_testBit_eq; intro b; simp only [Nat.testBit_xor]
            cases (pts (i - (g + 1))).testBit b <;> cases (pts t).testBit b <;> cases (pts i).testBit b <;> rfl
          rw [this, fm_comm, h.mul_div (hv t ht) hlt hne]
/-- Newton's sum. -/
def nws (p : Nat) (pts vals : Nat → Nat) : Nat → Nat → Nat
  | 0 => pz
  | n + 1 => pa (nws p pts vals n) (pc p (ddf p pts vals n n) (pv p pts n))
theorem Fld.nws_eq (h : Fld p d) {pts vals : Nat → Nat} {n : Nat} (hl : ∀ i, i < n → pts i < 2 ^ d) (hv : ∀ i, i < n → vals i < 2 ^ d) (hinj : ∀ i j, i < n → j < n → pts i = pts j → i = j) :
    ∀ i, i < n → nws p pts vals (i + 1) = nwP p pts vals i i := by
  intro i
  induction i with
  | zero =>
    intro hi
    show pa pz (pc p (vals 0) po) = mo (vals 0) 0
    rw [pz_pa]
    funext t
    unfold pc po mo
    by_cases h0 : t = 0
    · rw [if_pos h0, if_pos h0, h.fm_one (hv 0 hi)]
    · rw [if_neg h0, if_neg h0, h.fm_zero]
  | succ i ih =>
    intro hi
    have k1 := h.nw hl hv hinj i i (Nat.le_refl _) (by omega)
    have k2 := h.nw hl hv hinj (i + 1) (i + 1) (Nat.le_refl _) hi
    show pa (nws p pts vals (i + 1)) (pc p (ddf p pts vals (i + 1) (i + 1)) (pv p pts (i + 1))) = nwP p pts vals (i + 1) (i + 1)
    rw [ih (by omega)]
    apply pa_eq_pz
    have dpv : Dg (pc p (ddf p pts vals (i + 1) (i + 1)) (pv p pts (i + 1))) (i + 2) := fun t ht => by
      show fm p _ _ = 0
      rw [h.pv_dg pts (i + 1) t ht, h.fm_zero]
    have dl : ddf p pts vals (i + 1) (i + 1) < 2 ^ d := by rw [← k2.top]; exact k2.el _
    have dgD : Dg (pa (pa (nwP p pts vals i i) (pc p (ddf p pts vals (i + 1) (i + 1)) (pv p pts (i + 1)))) (nwP p pts vals (i + 1) (i + 1))) (i + 1) := by
      intro t ht
      by_cases e : t = i + 1
      · subst e
        show (nwP p pts vals i i (i + 1) ^^^ fm p _ (pv p pts (i + 1) (i + 1))) ^^^ nwP p pts vals (i + 1) (i + 1) (i + 1) = 0
        rw [k1.dg (i + 1) (Nat.le_refl _), Nat.zero_xor, h.pv_top, h.fm_one dl, k2.top, Nat.xor_self]
      · exact (((k1.dg.mono (by omega)).pa dpv).pa k2.dg) t (by omega)
    refine h.roots_pz (n := i + 1) (pts := pts) ((k1.el.pa (h.el_pc _ _)).pa k2.el) dgD (fun t ht => hl t (by omega)) (fun a b ha hb => hinj a b (by omega) (by omega)) (fun t ht => ?_)
    have hx := hl t (by omega)
    rw [← h.pe_cut (pts t) dgD (Nat.le_succ (i + 1)), h.pe_pa, h.pe_pa, h.pe_pc, h.pe_cut (pts t) k1.dg (Nat.le_succ _), k1.at_ t (by omega) (by omega), k2.at_ t (by omega) (by omega)]
    have hz : pe p (pts t) (i + 2) (pv p pts (i + 1)) = 0 := (h.pv_root hx (i + 1) (fun a ha => hl a (by omega))).2 (by
      have : ∀ m, t < m → 0 < cnt pts (pts t) m := by
        intro m
        induction m with
        | zero => intro h; omega
        | succ m ihm =>
          intro hm
          show 0 < cnt pts (pts t) m + _
          by_cases e : t = m
          · subst e; rw [if_pos rfl]; omega
          · have := ihm (by omega); omega
      exact this _ ht)
    rw [hz, h.fm_zero, Nat.xor_zero, Nat.xor_self]
/-- the same sum from the inside out, k of its n steps done. -/
def nwf (p : Nat) (pts dd : Nat → Nat) (n : Nat) : Nat → Nat → Nat
  | 0 => pz
  | k + 1 => pa (pm p (nwf p pts dd n k) (px (pts (n - 1 - k)))) (mo (dd (n - 1 - k)) 0)
theorem Fld.nwf_dg (h : Fld p d) (pts dd : Nat → Nat) (n : Nat) : ∀ k, Dg (nwf p pts dd n k) k
  | 0 => Dg.pz 0
  | k + 1 => by
    cases k with
    | zero =>
      show Dg (pa (pm p pz _) (mo _ 0)) 1
      rw [h.pz_pm, pz_pa]
      exact mo_dg _ _
    | succ k => exact ((h.dg_pm (h.nwf_dg pts dd n (k + 1)) (px_dg _)).mono (by omega)).pa ((mo_dg _ _).mono (by omega))
theorem Fld.nwf_el (h : Fld p d) {pts dd : Nat → Nat} {n : Nat} (hd : ∀ i, i < n → dd i < 2 ^ d) : ∀ k, k ≤ n → El d (nwf p pts dd n k)
  | 0, _ => El.pz d
  | k + 1, hk => (h.el_pm _ _).pa (el_mo (hd _ (by omega)) 0)
theorem Fld.nwf_sum (h : Fld p d) {pts vals : Nat → Nat} {n : Nat} (hd : ∀ i, i < n → ddf p pts vals i i < 2 ^ d) : ∀ k, k ≤ n →
    pa (nws p pts vals (n - k)) (pm p (pv p pts (n - k)) (nwf p pts (fun i => ddf p pts vals i i) n k)) = nws p pts vals n
  | 0, _ => by
    show pa (nws p pts vals n) (pm p _ pz) = _
    rw [h.pm_pz, pa_pz]
  | k + 1, hk => by
    have ih := h.nwf_sum hd k (by omega)
    obtain ⟨i, hi⟩ : ∃ i, n - k = i + 1 := ⟨n - k - 1, by omega⟩
    have e1 : n - (k + 1) = i := by omega
    have e2 : n - 1 - k = i := by omega
    rw [hi] at ih
    rw [← ih, e1]
    show pa _ (pm p (pv p pts i) (pa (pm p (nwf p pts _ n k) (px (pts (n - 1 - k)))) (mo (ddf p pts vals (n - 1 - k) (n - 1 - k)) 0))) = pa (pa (nws p pts vals i) (pc p (ddf p pts vals i i) (pv p pts i))) (pm p (pm p (pv p pts i) (px (pts i))) _)
    rw [e2, h.pm_pa, h.pm_comm (pv p pts i) (mo _ 0), ← h.pc_mo, h.pm_assoc (pv p pts i) (px (pts i)) _ (h.pv_dg pts i), h.pm_comm (px (pts i)), pa_assoc]
    congr 1
    rw [pa_comm]
/-- what Newton's way makes goes through the points. -/
theorem Fld.newton (h : Fld p d) {pts vals : Nat → Nat} {n : Nat} (hl : ∀ i, i < n → pts i < 2 ^ d) (hv : ∀ i, i < n → vals i < 2 ^ d) (hinj : ∀ i j, i < n → j < n → pts i = pts j → i = j) :
    El d (nwf p pts (fun i => ddf p pts vals i i) n n) ∧ Dg (nwf p pts (fun i => ddf p pts vals i i) n n) n ∧ ∀ t, t < n → pe p (pts t) n (nwf p pts (fun i => ddf p pts vals i i) n n) = vals t := by
  have hd : ∀ i, i < n → ddf p pts vals i i < 2 ^ d := fun i hi => by
    have k := h.nw hl hv hinj i i (Nat.le_refl _) hi
    rw [← k.top]; exact k.el _
  have el := h.nwf_el (pts := pts) (dd := fun i => ddf p pts vals i i) hd n (Nat.le_refl _)
  refine ⟨el, h.nwf_dg _ _ _ _, fun t ht => ?_⟩
  have e := h.nwf_sum hd n (Nat.le_refl _)
  rw [Nat.sub_self] at e
  have e0 : nwf p pts (fun i => ddf p pts vals i i) n n = nws p pts vals n := by
    rw [← e]
    show _ = pa pz (pm p po _)
    rw [pz_pa, h.po_pm el]
  rw [e0]
  obtain ⟨m, rfl⟩ : ∃ m, n = m + 1 := ⟨n - 1, by omega⟩
  rw [h.nws_eq hl hv hinj m (by omega)]
  exact (h.nw hl hv hinj m m (Nat.le_refl _) (by omega)).at_ t (by omega) (by omega)
end Gf2
end Go.Proofs.Ytfhgamaakkoplaa
