import Derived.Test.YtljfpgebekpjgaaWsaa
namespace Go.Proofs.Ytljfpgebekpjgaa
namespace Gf2

/-- the product of two residues. -/
def fm (p a b : Nat) : Nat := pmod (mul a b) p
/-- the power of a residue. -/
def fp (p a n : Nat) : Nat := pmod (pw a n) p
/-- the inverse, as the program finds it. -/
def fi (p a : Nat) : Nat := cof (pmod a p) p

/-- p is irreducible of the degree d. -/
structure Fld (p d : Nat) : Prop where
  irr : Irr p
  deg : Gf2.len p = d + 1
  low : d ≤ 32

theorem irr_285' : irr 285 = true := by decide +kernel
theorem fld8 : Fld 285 8 := ⟨irr_sound (by decide) (by decide) irr_285', by decide, by decide⟩
variable {p d : Nat}

theorem Fld.ne (h : Fld p d) : p ≠ 0 := h.irr.ne
theorem Fld.pos (h : Fld p d) : 1 ≤ d := by have := h.irr.1; have := h.deg; omega
theorem Fld.small (h : Fld p d) {a : Nat} (ha : a < 2 ^ d) : pmod a p = a := pmod_small (by have := len_le.2 ha; have := h.deg; omega)
theorem Fld.pmod_lt (h : Fld p d) (a : Nat) : pmod a p < 2 ^ d := by
  have := len_pmod a h.ne; have := h.deg; exact len_le.1 (by omega)
theorem Fld.one_lt (h : Fld p d) : 1 < 2 ^ d := by
  have := h.pos
  have : 2 ^ 1 ≤ 2 ^ d := Nat.pow_le_pow_right (by omega) (by omega)
  omega
theorem Fld.fm_lt (h : Fld p d) (a b : Nat) : fm p a b < 2 ^ d := h.pmod_lt _
theorem Fld.fp_lt (h : Fld p d) (a n : Nat) : fp p a n < 2 ^ d := h.pmod_lt _
theorem fm_comm (p a b : Nat) : fm p a b = fm p b a := by unfold fm; rw [mul_comm]
theorem Fld.fm_assoc (h : Fld p d) (a b c : Nat) : fm p (fm p a b) c = fm p a (fm p b c) := by
  unfold fm; rw [pmod_mul_left _ _ h.ne, pmod_mul_right _ _ h.ne, mul_assoc]
theorem Fld.fm_xor (h : Fld p d) (a b c : Nat) : fm p a (b ^^^ c) = fm p a b ^^^ fm p a c := by
  unfold fm; rw [mul_xor, pmod_xor_dist _ _ h.ne]
theorem Fld.xor_fm (h : Fld p d) (a b c : Nat) : fm p (a ^^^ b) c = fm p a c ^^^ fm p b c := by
  rw [fm_comm, h.fm_xor, fm_comm p c a, fm_comm p c b]
theorem Fld.fm_one (h : Fld p d) {a : Nat} (ha : a < 2 ^ d) : fm p a 1 = a := by unfold fm; rw [mul_one, h.small ha]
theorem Fld.one_fm (h : Fld p d) {a : Nat} (ha : a < 2 ^ d) : fm p 1 a = a := by unfold fm; rw [one_mul, h.small ha]
theorem Fld.fm_zero (h : Fld p d) (a : Nat) : fm p a 0 = 0 := by unfold fm; rw [mul_zero, h.small (Nat.two_pow_pos d)]
theorem Fld.zero_fm (h : Fld p d) (a : Nat) : fm p 0 a = 0 := by rw [fm_comm, h.fm_zero]
theorem Fld.ndv (h : Fld p d) {a : Nat} (ha : a < 2 ^ d) (h0 : a ≠ 0) : ¬ dv p a := by
  intro g
  have := (dv_len g h0).2
  have := len_le.2 ha
  have := h.deg
  omega
theorem Fld.fm_eq_zero (h : Fld p d) {a b : Nat} (ha : a < 2 ^ d) (hb : b < 2 ^ d) : fm p a b = 0 ↔ a = 0 ∨ b = 0 := by
  constructor
  · intro e
    have e := (pmod_eq_zero h.ne).1 e
    rcases irr_prime h.irr (by have := h.deg; have := h.low; omega) e with g | g
    · left
      apply Classical.byContradiction
      exact fun h0 => h.ndv ha h0 g
    · right
      apply Classical.byContradiction
      exact fun h0 => h.ndv hb h0 g
  · rintro (rfl | rfl)
    · exact h.zero_fm _
    · exact h.fm_zero _
theorem Fld.fm_ne (h : Fld p d) {a b : Nat} (ha : a < 2 ^ d) (hb : b < 2 ^ d) (h1 : a ≠ 0) (h2 : b ≠ 0) : fm p a b ≠ 0 := by
  rw [Ne, h.fm_eq_zero ha hb]; rintro (e | e) <;> contradiction
theorem Fld.cancel (h : Fld p d) {a b c : Nat} (ha : a < 2 ^ d) (hb : b < 2 ^ d) (hc : c < 2 ^ d) (h0 : a ≠ 0) (e : fm p a b = fm p a c) : b = c := by
  have e1 : fm p a (b ^^^ c) = 0 := by rw [h.fm_xor, e, Nat.xor_self]
  have e2 := (h.fm_eq_zero ha (Nat.xor_lt_two_pow hb hc)).1 e1
  rcases e2 with e2 | e2
  · contradiction
  · exact xor_eq_zero e2

-- powers
theorem Fld.fp_zero (h : Fld p d) (a : Nat) : fp p a 0 = 1 := by unfold fp pw; exact h.small h.one_lt
theorem Fld.fp_one (h : Fld p d) {a : Nat} (ha : a < 2 ^ d) : fp p a 1 = a := by unfold fp; rw [pw_one, h.small ha]
theorem Fld.fp_add (h : Fld p d) (a m n : Nat) : fp p a (m + n) = fm p (fp p a m) (fp p a n) := by
  unfold fp fm; rw [pw_add, pmod_mul_both _ _ h.ne]
theorem Fld.fp_succ (h : Fld p d) {a : Nat} (ha : a < 2 ^ d) (n : Nat) : fp p a (n + 1) = fm p (fp p a n) a := by
  rw [h.fp_add, h.fp_one ha]
theorem Fld.fp_mul (h : Fld p d) (a m n : Nat) : fp p a (m * n) = fp p (fp p a m) n := by
  unfold fp; rw [pmod_pw _ _ h.ne, pw_mul]
theorem Fld.one_fp (h : Fld p d) (n : Nat) : fp p 1 n = 1 := by
  unfold fp; rw [one_pw, h.small h.one_lt]
theorem Fld.fermat (h : Fld p d) {a : Nat} (ha : a < 2 ^ d) (h0 : a ≠ 0) : fp p a (2 ^ d - 1) = 1 := by
  have := Gf2.fermat h.irr (by have := h.deg; have := h.low; omega) (h.ndv ha h0)
  rw [h.deg] at this
  exact this
theorem Fld.fp_round (h : Fld p d) {a : Nat} (ha : a < 2 ^ d) (h0 : a ≠ 0) (n k : Nat) : fp p a (n + (2 ^ d - 1) * k) = fp p a n := by
  rw [h.fp_add, h.fp_mul, h.fermat ha h0, h.one_fp, h.fm_one (h.fp_lt _ _)]
theorem Fld.fp_ne (h : Fld p d) {a : Nat} (ha : a < 2 ^ d) (h0 : a ≠ 0) (n : Nat) : fp p a n ≠ 0 := by
  induction n with
  | zero => rw [h.fp_zero]; decide
  | succ n ih => rw [h.fp_succ ha]; exact h.fm_ne (h.fp_lt _ _) ha ih h0
-- inverses
theorem Fld.gcd_one (h : Fld p d) {a : Nat} (ha : a < 2 ^ d) (h0 : a ≠ 0) : pgcd (pmod a p) p = 1 := by
  rw [h.small ha]
  rcases irr_gcd h.irr a with g | g
  · exact g
  · exact absurd g (h.ndv ha h0)
theorem Fld.fi_lt (h : Fld p d) {a : Nat} (ha : a < 2 ^ d) (h0 : a ≠ 0) : fi p a < 2 ^ d := by
  have := (inv_exists h.ne (by have := h.deg; have := h.low; omega) (h.gcd_one ha h0)).2
  have := h.deg
  exact len_le.1 (by unfold fi; omega)
theorem Fld.fi_mul (h : Fld p d) {a : Nat} (ha : a < 2 ^ d) (h0 : a ≠ 0) : fm p a (fi p a) = 1 := by
  have h1 := (inv_exists h.ne (by have := h.deg; have := h.low; omega) (h.gcd_one ha h0)).1
  have h2 := (pmod_eq_iff h.ne).2 h1
  rw [h.small h.one_lt] at h2
  rw [fm_comm]
  unfold fm fi
  rw [← h2]
  conv => rhs; rw [pmod_mul_right _ _ h.ne]
theorem Fld.div_mul (h : Fld p d) {a b : Nat} (ha : a < 2 ^ d) (hb : b < 2 ^ d) (h0 : b ≠ 0) : fm p (fm p a (fi p b)) b = a := by
  rw [h.fm_assoc, fm_comm p (fi p b), h.fi_mul hb h0, h.fm_one ha]
theorem Fld.mul_div (h : Fld p d) {a b : Nat} (ha : a < 2 ^ d) (hb : b < 2 ^ d) (h0 : b ≠ 0) : fm p (fm p a b) (fi p b) = a := by
  rw [h.fm_assoc, h.fi_mul hb h0, h.fm_one ha]

-- the shift
theorem Fld.twice (h : Fld p d) {a : Nat} (ha : a < 2 ^ d) : fm p 2 a = if 2 ^ d ≤ 2 * a then 2 * a ^^^ p else 2 * a := by
  have e : mul 2 a = 2 * a := by have := two_mul' 1 a; rwa [one_mul] at this
  unfold fm
  rw [e]
  have hp2 : p ≠ 0 := h.ne
  have hla := len_le.2 ha
  have hd := h.deg
  split
  · next h1 =>
    have a0 : a ≠ 0 := by rintro rfl; have := Nat.two_pow_pos d; omega
    have l1 := len_two_mul a0
    have l2 : d < len (2 * a) := lt_len.2 h1
    refine pmod_unique ?_ ?_
    · rw [← Nat.xor_assoc, Nat.xor_self, Nat.zero_xor]; exact dv_refl p
    · exact len_xor_eq (by omega) hp2
  · next h1 => exact h.small (by omega)

-- logarithms
theorem Fld.inj (h : Fld p d) (g : IsOrd 2 p (2 ^ d - 1)) (h2 : 2 < 2 ^ d) {m n : Nat} (hm : m < 2 ^ d - 1) (hn : n < 2 ^ d - 1) (e : fp p 2 m = fp p 2 n) : m = n := by
  have key : ∀ {m n : Nat}, m < n → n < 2 ^ d - 1 → fp p 2 m ≠ fp p 2 n := by
    intro m n hmn hn e
    have e2 : fp p 2 (n - m) = 1 := by
      have e3 : n = m + (n - m) := by omega
      rw [e3, h.fp_add] at e
      exact (h.cancel (a := fp p 2 m) (b := 1) (c := fp p 2 (n - m)) (h.fp_lt _ _) h.one_lt (h.fp_lt _ _) (h.fp_ne h2 (by decide) _) (by rw [h.fm_one (h.fp_lt _ _)]; exact e)).symm
    exact g.2.2 (n - m) (by omega) (by omega) e2
  rcases Nat.lt_trichotomy m n with h1 | h1 | h1
  · exact absurd e (key h1 hn)
  · exact h1
  · exact absurd e.symm (key h1 hm)
theorem Fld.onto (h : Fld p d) (g : IsOrd 2 p (2 ^ d - 1)) (h2 : 2 < 2 ^ d) {a : Nat} (ha : a < 2 ^ d) (h0 : a ≠ 0) : ∃ n, n < 2 ^ d - 1 ∧ fp p 2 n = a := by
  have hp : ((List.range (2 ^ d - 1)).map (fp p 2)).Perm (List.range' 1 (2 ^ d - 1)) := by
    apply perm_of_nodup
    · apply nodup_map_inj List.nodup_range
      intro x y hx hy e
      exact h.inj g h2 (List.mem_range.1 hx) (List.mem_range.1 hy) e
    · intro x hx
      obtain ⟨n, hn, rfl⟩ := List.mem_map.1 hx
      have := h.fp_lt 2 n
      have := h.fp_ne h2 (by decide) n
      rw [List.mem_range'_1]; omega
    · simp
  have : a ∈ List.range' 1 (2 ^ d - 1) := by rw [List.mem_range'_1]; omega
  obtain ⟨n, hn, e⟩ := List.mem_map.1 (hp.mem_iff.2 this)
  exact ⟨n, List.mem_range.1 hn, e⟩
/-- the logarithm by 2: the greatest exponent below n that fits, else 0. -/
def lgF (p a : Nat) : Nat → Nat
  | 0 => 0
  | n + 1 => if fp p 2 n = a then n else lgF p a n
def lg (p d a : Nat) : Nat := lgF p a (2 ^ d - 1)
theorem lgF_lt (p a : Nat) : ∀ n, 0 < n → lgF p a n < n := by
  intro n
  induction n with
  | zero => intro h; omega
  | succ n ih =>
    intro _
    simp only [lgF]
    split
    · omega
    · rcases Nat.eq_zero_or_pos n with h | h
      · subst h; simp [lgF]
      · have := ih h; omega
theorem lgF_spec (p a : Nat) : ∀ n, (∃ m, m < n ∧ fp p 2 m = a) → fp p 2 (lgF p a n) = a := by
  intro n
  induction n with
  | zero => rintro ⟨m, h, _⟩; omega
  | succ n ih =>
    rintro ⟨m, h, e⟩
    simp only [lgF]
    split
    · next h1 => exact h1
    · next h1 =>
      refine ih ⟨m, ?_, e⟩
      rcases Nat.lt_or_ge m n with h2 | h2
      · exact h2
      · exact absurd (by rw [← e, show m = n by omega]) h1
theorem lg_lt {d : Nat} (p a : Nat) (hd : 1 < 2 ^ d) : lg p d a < 2 ^ d - 1 := lgF_lt p a _ (by omega)
theorem Fld.lg_spec (h : Fld p d) (g : IsOrd 2 p (2 ^ d - 1)) (h2 : 2 < 2 ^ d) {a : Nat} (ha : a < 2 ^ d) (h0 : a ≠ 0) : fp p 2 (lg p d a) = a :=
  lgF_spec p a _ (h.onto g h2 ha h0)
theorem Fld.fm_lg (h : Fld p d) (g : IsOrd 2 p (2 ^ d - 1)) (h2 : 2 < 2 ^ d) {a b : Nat} (ha : a < 2 ^ d) (hb : b < 2 ^ d) (a0 : a ≠ 0) (b0 : b ≠ 0) : fm p a b = fp p 2 (lg p d a + lg p d b) := by
  rw [h.fp_add, h.lg_spec g h2 ha a0, h.lg_spec g h2 hb b0]
theorem Fld.fi_lg (h : Fld p d) (g : IsOrd 2 p (2 ^ d - 1)) (h2 : 2 < 2 ^ d) {a b : Nat} (ha : a < 2 ^ d) (hb : b < 2 ^ d) (a0 : a ≠ 0) (b0 : b ≠ 0) : fm p a (fi p b) = fp p 2 (lg p d a + (2 ^ d - 1) - lg p d b) := by
  have hl := lg_lt p b h.one_lt
  refine (h.cancel hb (h.fp_lt _ _) (h.fm_lt _ _) b0 ?_).symm
  rw [fm_comm p b (fm p a _), h.div_mul ha hb b0]
  conv => lhs; rw [← h.lg_spec g h2 hb b0]
  rw [← h.fp_add, h.lg_spec g h2 hb b0, show lg p d b + (lg p d a + (2 ^ d - 1) - lg p d b) = lg p d a + (2 ^ d - 1) * 1 by omega, h.fp_round h2 (by decide), h.lg_spec g h2 ha a0]
end Gf2
end Go.Proofs.Ytljfpgebekpjgaa
namespace Go.Proofs.Ytljfpgebekpjgaa
namespace Gf2
variable {p d : Nat}

/-- the map y * y + y. -/
def hs (p y : Nat) : Nat := fm p y y ^^^ y
end Gf2
end Go.Proofs.Ytljfpgebekpjgaa
namespace Go.Proofs.Ytljfpgebekpjgaa
namespace Gf2

/-- a sum over the bits that are set. -/
def lin : List Nat → Nat → Nat
  | [], _ => 0
  | c :: l, x => (if x % 2 = 1 then c else 0) ^^^ lin l (x / 2)
-- the field of 65536
/-- the Cantor basis. -/
def cb : List Nat := [1, 44234, 15374, 5694, 50562, 60718, 37196, 16402, 27800, 4312, 27250, 47360, 64952, 64308, 65336, 39198]
/-- the indices of the powers of two. -/
def ci : List Nat := [1, 18064, 26072, 25296, 22324, 17904, 21432, 7736, 31918, 20024, 26376, 49756, 31332, 40620, 4388, 21050]
def wi (a : Nat) : Nat := lin ci a
-- subfields
end Gf2
end Go.Proofs.Ytljfpgebekpjgaa
namespace Go.Proofs.Ytljfpgebekpjgaa
namespace Gf2
set_option linter.unusedVariables false

/-- the sum of f 0, .., f (n - 1). -/
def sx : Nat → (Nat → Nat) → Nat
  | 0, _ => 0
  | n + 1, f => sx n f ^^^ f n
theorem sx_congr {n : Nat} {f g : Nat → Nat} (h : ∀ i, i < n → f i = g i) : sx n f = sx n g := by
  induction n with
  | zero => rfl
  | succ n ih => simp only [sx]; rw [ih (fun i hi => h i (by omega)), h n (by omega)]
theorem sx_zero {n : Nat} {f : Nat → Nat} (h : ∀ i, i < n → f i = 0) : sx n f = 0 := by
  induction n with
  | zero => rfl
  | succ n ih => simp only [sx]; rw [ih (fun i hi => h i (by omega)), h n (by omega)]; rfl
theorem sx_xor (n : Nat) (f g : Nat → Nat) : sx n (fun i => f i ^^^ g i) = sx n f ^^^ sx n g := by
  induction n with
  | zero => simp [sx]
  | succ n ih => simp only [sx]; rw [ih]; ac_rfl
theorem sx_split (a b : Nat) (f : Nat → Nat) : sx (a + b) f = sx a f ^^^ sx b (fun i => f (a + i)) := by
  induction b with
  | zero => simp [sx]
  | succ b ih =>
    show sx (a + b) f ^^^ f (a + b) = _
    rw [ih, Nat.xor_assoc]; rfl
theorem sx_first (n : Nat) (f : Nat → Nat) : sx (n + 1) f = f 0 ^^^ sx n (fun i => f (i + 1)) := by
  have := sx_split 1 n f
  rw [Nat.add_comm n 1, this]
  simp only [sx, Nat.zero_xor]
  congr 1
  exact sx_congr (fun i _ => by rw [Nat.add_comm])
theorem sx_rev (n : Nat) (f : Nat → Nat) : sx (n + 1) f = sx (n + 1) (fun i => f (n - i)) := by
  induction n generalizing f with
  | zero => rfl
  | succ n ih =>
    rw [sx_first]
    have e : sx (n + 2) (fun i => f (n + 1 - i)) = sx (n + 1) (fun i => f (n + 1 - i)) ^^^ f (n + 1 - (n + 1)) := rfl
    rw [e, Nat.sub_self, ih (fun i => f (i + 1)), Nat.xor_comm]
    congr 1
    exact sx_congr (fun i hi => by congr 1; omega)
/-- a sum whose terms beyond m are 0. -/
theorem sx_cut {m n : Nat} {f : Nat → Nat} (hmn : m ≤ n) (h : ∀ i, m ≤ i → i < n → f i = 0) : sx n f = sx m f := by
  obtain ⟨k, rfl⟩ : ∃ k, n = m + k := ⟨n - m, by omega⟩
  rw [sx_split, sx_zero (n := k) (fun i hi => h (m + i) (by omega) (by omega)), Nat.xor_zero]
theorem sx_one {n k : Nat} {f : Nat → Nat} (hk : k < n) (h : ∀ i, i < n → i ≠ k → f i = 0) : sx n f = f k := by
  rw [sx_cut (m := k + 1) (by omega) (fun i h1 h2 => h i h2 (by omega))]
  simp only [sx]
  rw [sx_zero (fun i hi => h i (by omega) (by omega)), Nat.zero_xor]
theorem sx_lt {n d : Nat} {f : Nat → Nat} (h : ∀ i, i < n → f i < 2 ^ d) : sx n f < 2 ^ d := by
  induction n with
  | zero => exact Nat.two_pow_pos d
  | succ n ih => exact Nat.xor_lt_two_pow (ih (fun i hi => h i (by omega))) (h n (by omega))

variable {p d : Nat}

theorem Fld.fm_sx (h : Fld p d) (a n : Nat) (f : Nat → Nat) : fm p a (sx n f) = sx n (fun i => fm p a (f i)) := by
  induction n with
  | zero => exact h.fm_zero a
  | succ n ih => simp only [sx]; rw [h.fm_xor, ih]

/-! polynomials over the field: their coefficients. -/
/-- all coefficients are elements. -/
def El (d : Nat) (f : Nat → Nat) : Prop := ∀ i, f i < 2 ^ d
/-- the degree is below n. -/
def Dg (f : Nat → Nat) (n : Nat) : Prop := ∀ i, n ≤ i → f i = 0
def pz : Nat → Nat := fun _ => 0
def po : Nat → Nat := fun i => if i = 0 then 1 else 0
def pa (f g : Nat → Nat) : Nat → Nat := fun i => f i ^^^ g i
def pc (p a : Nat) (f : Nat → Nat) : Nat → Nat := fun i => fm p a (f i)
def ps (k : Nat) (f : Nat → Nat) : Nat → Nat := fun i => if i < k then 0 else f (i - k)
def pm (p : Nat) (f g : Nat → Nat) : Nat → Nat := fun n => sx (n + 1) (fun i => fm p (f i) (g (n - i)))
/-- a times X^k. -/
def mo (a k : Nat) : Nat → Nat := fun i => if i = k then a else 0

theorem Dg.mono {f : Nat → Nat} {m n : Nat} (h : Dg f m) (hmn : m ≤ n) : Dg f n := fun i hi => h i (by omega)
theorem Dg.pa {f g : Nat → Nat} {n : Nat} (h : Dg f n) (k : Dg g n) : Dg (pa f g) n := fun i hi => by show f i ^^^ g i = 0; rw [h i hi, k i hi]; rfl
theorem Dg.zero {f : Nat → Nat} (h : Dg f 0) : f = pz := funext fun i => h i (by omega)
theorem Dg.pz (n : Nat) : Dg pz n := fun _ _ => rfl
theorem El.pa {f g : Nat → Nat} (h : El d f) (k : El d g) : El d (pa f g) := fun i => Nat.xor_lt_two_pow (h i) (k i)
theorem El.pz (d : Nat) : El d pz := fun _ => Nat.two_pow_pos d
theorem Fld.el_pm (h : Fld p d) (f g : Nat → Nat) : El d (pm p f g) := fun _ => sx_lt (fun _ _ => h.fm_lt _ _)
theorem Fld.el_pc (h : Fld p d) (a : Nat) (f : Nat → Nat) : El d (pc p a f) := fun _ => h.fm_lt _ _
theorem el_mo {a : Nat} (ha : a < 2 ^ d) (k : Nat) : El d (mo a k) := fun i => by unfold mo; split; exact ha; exact Nat.two_pow_pos d
theorem El.ps {f : Nat → Nat} (h : El d f) (k : Nat) : El d (ps k f) := fun i => by unfold Gf2.ps; split; exact Nat.two_pow_pos d; exact h _
theorem pa_comm (f g : Nat → Nat) : pa f g = pa g f := funext fun i => Nat.xor_comm _ _
theorem pa_assoc (f g k : Nat → Nat) : pa (pa f g) k = pa f (pa g k) := funext fun i => Nat.xor_assoc _ _ _
theorem pa_self (f : Nat → Nat) : pa f f = pz := funext fun i => Nat.xor_self _
theorem pa_pz (f : Nat → Nat) : pa f pz = f := funext fun i => Nat.xor_zero _
theorem pz_pa (f : Nat → Nat) : pa pz f = f := funext fun i => Nat.zero_xor _
theorem pa_eq_pz {f g : Nat → Nat} (h : pa f g = pz) : f = g := by
  have : pa (pa f g) g = pa pz g := by rw [h]
  rwa [pa_assoc, pa_self, pa_pz, pz_pa] at this
theorem Fld.pm_comm (_h : Fld p d) (f g : Nat → Nat) : pm p f g = pm p g f := by
  funext n
  unfold pm
  rw [sx_rev]
  exact sx_congr (fun i hi => by rw [fm_comm, show n - (n - i) = i by omega])
theorem Fld.pm_pa (h : Fld p d) (f g k : Nat → Nat) : pm p f (pa g k) = pa (pm p f g) (pm p f k) := by
  funext n
  unfold pm pa
  rw [← sx_xor]
  exact sx_congr (fun i _ => by rw [h.fm_xor])
theorem Fld.pa_pm (h : Fld p d) (f g k : Nat → Nat) : pm p (pa f g) k = pa (pm p f k) (pm p g k) := by
  rw [h.pm_comm, h.pm_pa, h.pm_comm k f, h.pm_comm k g]
theorem Fld.pz_pm (h : Fld p d) (g : Nat → Nat) : pm p pz g = pz := funext fun n => sx_zero (fun i _ => h.zero_fm _)
theorem Fld.pm_pz (h : Fld p d) (g : Nat → Nat) : pm p g pz = pz := by rw [h.pm_comm, h.pz_pm]
/-- a monomial times g. -/
theorem Fld.mo_pm (h : Fld p d) (a k : Nat) (g : Nat → Nat) : pm p (mo a k) g = ps k (pc p a g) := by
  funext n
  unfold pm ps pc
  by_cases hk : n < k
  · rw [if_pos hk]
    exact sx_zero (fun i hi => by unfold mo; rw [if_neg (by omega), h.zero_fm])
  · rw [if_neg hk, sx_one (k := k) (by omega) (fun i _ hne => by unfold mo; rw [if_neg hne, h.zero_fm])]
    unfold mo
    rw [if_pos rfl]
theorem Fld.po_pm (h : Fld p d) {g : Nat → Nat} (hg : El d g) : pm p po g = g := by
  have : po = mo 1 0 := rfl
  rw [this, h.mo_pm]
  funext n
  unfold ps pc
  rw [if_neg (by omega), h.one_fm (hg _)]; rfl
/-- a polynomial by its first n coefficients and the rest. -/
theorem split_top {f : Nat → Nat} {n : Nat} (h : Dg f (n + 1)) : f = pa (fun i => if i < n then f i else 0) (mo (f n) n) := by
  funext i
  unfold pa mo
  by_cases h1 : i < n
  · simp [h1, Nat.ne_of_lt h1]
  · by_cases h2 : i = n
    · subst h2; simp
    · simp [h1, h2, h i (by omega)]
theorem cut_dg (f : Nat → Nat) (n : Nat) : Dg (fun i => if i < n then f i else 0) n := fun i hi => by show (if i < n then f i else 0) = 0; rw [if_neg (by omega)]
theorem El.cut {f : Nat → Nat} (h : El d f) (n : Nat) : El d (fun i => if i < n then f i else 0) := fun i => by
  show (if i < n then f i else 0) < 2 ^ d
  split
  · exact h i
  · exact Nat.two_pow_pos d
theorem Fld.ps_pm (h : Fld p d) (k : Nat) (f g : Nat → Nat) : pm p (ps k f) g = ps k (pm p f g) := by
  funext n
  unfold pm
  by_cases hk : n < k
  · have e : ps k (pm p f g) n = 0 := by unfold ps; rw [if_pos hk]
    show _ = ps k (pm p f g) n
    rw [e]
    exact sx_zero (fun i hi => by unfold ps; rw [if_pos (by omega), h.zero_fm])
  · have e : ps k (pm p f g) n = pm p f g (n - k) := by unfold ps; rw [if_neg hk]
    show _ = ps k (pm p f g) n
    rw [e, show n + 1 = k + (n - k + 1) by omega, sx_split, sx_zero (n := k) (fun i hi => by unfold ps; rw [if_pos hi, h.zero_fm]), Nat.zero_xor]
    unfold pm
    exact sx_congr (fun i hi => by unfold ps; rw [if_neg (by omega), show k + i - k = i by omega, show n - (k + i) = n - k - i by omega])
theorem Fld.pc_pm (h : Fld p d) (a : Nat) (f g : Nat → Nat) : pm p (pc p a f) g = pc p a (pm p f g) := by
  funext n
  unfold pm pc
  rw [h.fm_sx]
  exact sx_congr (fun i _ => by rw [h.fm_assoc])
theorem Fld.pm_assoc (h : Fld p d) (f g k : Nat → Nat) {n : Nat} (hf : Dg f n) : pm p (pm p f g) k = pm p f (pm p g k) := by
  induction n generalizing f with
  | zero => rw [hf.zero, h.pz_pm, h.pz_pm, h.pz_pm]
  | succ n ih =>
    rw [split_top hf, h.pa_pm, h.pa_pm, h.pa_pm, ih _ (cut_dg f n), h.mo_pm, h.mo_pm, h.ps_pm, h.pc_pm]
theorem Fld.dg_pm (h : Fld p d) {f g : Nat → Nat} {m n : Nat} (hf : Dg f m) (hg : Dg g n) : Dg (pm p f g) (m + n - 1) := by
  intro i hi
  refine sx_zero (fun j hj => ?_)
  by_cases hjm : m ≤ j
  · rw [hf j hjm, h.zero_fm]
  · rw [hg (i - j) (by omega), h.fm_zero]
/-- the top coefficient of a product. -/
theorem Fld.top_pm (h : Fld p d) {f g : Nat → Nat} {m n : Nat} (hf : Dg f (m + 1)) (hg : Dg g (n + 1)) : pm p f g (m + n) = fm p (f m) (g n) := by
  unfold pm
  rw [sx_one (k := m) (by omega) (fun i hi hne => ?_), show m + n - m = n by omega]
  rcases Nat.lt_or_gt_of_ne hne with h1 | h1
  · rw [hg (m + n - i) (by omega), h.fm_zero]
  · rw [hf i (by omega), h.zero_fm]
end Gf2
end Go.Proofs.Ytljfpgebekpjgaa
namespace Go.Proofs.Ytljfpgebekpjgaa
namespace Gf2
set_option linter.unusedVariables false

theorem sx_swap (n m : Nat) (f : Nat → Nat → Nat) : sx n (fun i => sx m (fun j => f i j)) = sx m (fun j => sx n (fun i => f i j)) := by
  induction n with
  | zero => exact (sx_zero (fun _ _ => rfl)).symm
  | succ n ih => simp only [sx]; rw [ih, ← sx_xor]
theorem sx_fm (a n : Nat) (f : Nat → Nat) : fm 285 (sx n f) a = sx n (fun i => fm 285 (f i) a) := by
  rw [fm_comm, fld8.fm_sx]
  exact sx_congr (fun i _ => fm_comm _ _ _)

/-- the product of two matrices, n the middle. -/
def mm (n : Nat) (A B : Nat → Nat → Nat) : Nat → Nat → Nat := fun i j => sx n (fun t => fm 285 (A i t) (B t j))
def idm : Nat → Nat → Nat := fun i j => if i = j then 1 else 0
theorem mm_congr {n : Nat} {A A' B B' : Nat → Nat → Nat} {i j : Nat} (h : ∀ t, t < n → A i t = A' i t) (k : ∀ t, t < n → B t j = B' t j) : mm n A B i j = mm n A' B' i j :=
  sx_congr (fun t ht => by rw [h t ht, k t ht])
theorem mm_assoc (n k : Nat) (A B C : Nat → Nat → Nat) : mm n A (mm k B C) = mm k (mm n A B) C := by
  funext i j
  unfold mm
  have e : ∀ t, fm 285 (A i t) (sx k (fun s => fm 285 (B t s) (C s j))) = sx k (fun s => fm 285 (fm 285 (A i t) (B t s)) (C s j)) := fun t => by
    rw [fld8.fm_sx]
    exact sx_congr (fun s _ => (fld8.fm_assoc _ _ _).symm)
  rw [sx_congr (fun t _ => e t), sx_swap]
  exact sx_congr (fun s _ => (sx_fm _ _ _).symm)
theorem idm_mm {n : Nat} {B : Nat → Nat → Nat} {i j : Nat} (hi : i < n) (h : B i j < 256) : mm n idm B i j = B i j := by
  unfold mm
  rw [sx_one hi (fun t _ ht => by unfold idm; rw [if_neg (fun e => ht e.symm), fld8.zero_fm])]
  unfold idm
  rw [if_pos rfl, fld8.one_fm h]
theorem mm_idm {n : Nat} {A : Nat → Nat → Nat} {i j : Nat} (hj : j < n) (h : A i j < 256) : mm n A idm i j = A i j := by
  unfold mm
  rw [sx_one hj (fun t _ ht => by unfold idm; rw [if_neg ht, fld8.fm_zero])]
  unfold idm
  rw [if_pos rfl, fld8.fm_one h]

/-- rows t and r change places. -/
def swp {α : Type} (M : Nat → α) (t r : Nat) : Nat → α := fun i => if i = t then M r else if i = r then M t else M i
/-- row t times u. -/
def rsc (u t : Nat) (M : Nat → Nat → Nat) : Nat → Nat → Nat := fun i j => if i = t then fm 285 u (M t j) else M i j
/-- row t, times f i, is added to each other row i. -/
def rad (f : Nat → Nat) (t : Nat) (M : Nat → Nat → Nat) : Nat → Nat → Nat := fun i j => if i = t then M t j else M i j ^^^ fm 285 (f i) (M t j)
theorem mm_swp (n : Nat) (P M : Nat → Nat → Nat) (t r : Nat) : mm n (swp P t r) M = swp (mm n P M) t r := by
  funext i j
  unfold swp mm
  by_cases h1 : i = t
  · simp only [if_pos h1]
  · by_cases h2 : i = r
    · simp only [if_neg h1, if_pos h2]
    · simp only [if_neg h1, if_neg h2]
theorem mm_rsc (n u t : Nat) (P M : Nat → Nat → Nat) : mm n (rsc u t P) M = rsc u t (mm n P M) := by
  funext i j
  unfold rsc mm
  by_cases h1 : i = t
  · simp only [if_pos h1]
    rw [fld8.fm_sx]
    exact sx_congr (fun s _ => fld8.fm_assoc _ _ _)
  · simp only [if_neg h1]
theorem mm_rad (n : Nat) (f : Nat → Nat) (t : Nat) (P M : Nat → Nat → Nat) : mm n (rad f t P) M = rad f t (mm n P M) := by
  funext i j
  unfold rad mm
  by_cases h1 : i = t
  · simp only [if_pos h1]
  · simp only [if_neg h1]
    rw [fld8.fm_sx, ← sx_xor]
    exact sx_congr (fun s _ => by rw [fld8.xor_fm, fld8.fm_assoc])
theorem swp_swp {α : Type} (M : Nat → α) (t r : Nat) : swp (swp M t r) t r = M := by
  funext i
  unfold swp
  by_cases h1 : i = t
  · subst h1
    by_cases h3 : r = i
    · simp [h3]
    · simp [h3]
  · by_cases h2 : i = r
    · subst h2; simp [h1]
    · simp [h1, h2]
theorem rad_rad (f : Nat → Nat) (t : Nat) (M : Nat → Nat → Nat) : rad f t (rad f t M) = M := by
  funext i j
  unfold rad
  by_cases h1 : i = t
  · subst h1; simp
  · simp [h1, Nat.xor_assoc]
theorem rsc_rsc {u v t : Nat} (M : Nat → Nat → Nat) (hu : fm 285 u v = 1) (h : ∀ i j, M i j < 256) : rsc u t (rsc v t M) = M := by
  funext i j
  unfold rsc
  by_cases h1 : i = t
  · subst h1; simp [← fld8.fm_assoc, hu, fld8.one_fm (h i j)]
  · simp [h1]

/-- M is made of M0 by rows, and M0 of M. -/
def Like (n : Nat) (M0 M : Nat → Nat → Nat) : Prop := ∃ P Q : Nat → Nat → Nat, (∀ i, i < n → ∀ j, M i j = mm n P M0 i j) ∧ ∀ i, i < n → ∀ j, M0 i j = mm n Q M i j
theorem Like.refl {n : Nat} {M : Nat → Nat → Nat} (h : ∀ i j, M i j < 256) : Like n M M := ⟨idm, idm, fun i hi j => (idm_mm hi (h i j)).symm, fun i hi j => (idm_mm hi (h i j)).symm⟩
theorem Like.step {n : Nat} {M0 M M' : Nat → Nat → Nat} (h : Like n M0 M) {op op' : (Nat → Nat → Nat) → Nat → Nat → Nat}
    (a1 : ∀ P X, mm n (op P) X = op (mm n P X)) (a2 : ∀ P X, mm n (op' P) X = op' (mm n P X))
    (c1 : ∀ X Y : Nat → Nat → Nat, (∀ i, i < n → ∀ j, X i j = Y i j) → ∀ i, i < n → ∀ j, op X i j = op Y i j)
    (c2 : ∀ X Y : Nat → Nat → Nat, (∀ i, i < n → ∀ j, X i j = Y i j) → ∀ i, i < n → ∀ j, op' X i j = op' Y i j)
    (b : ∀ i j, M' i j < 256)
    (e1 : ∀ i, i < n → ∀ j, M' i j = op M i j) (e2 : ∀ i, i < n → ∀ j, M i j = op' M' i j) : Like n M0 M' := by
  obtain ⟨P, Q, h1, h2⟩ := h
  refine ⟨op P, mm n Q (op' idm), fun i hi j => ?_, fun i hi j => ?_⟩
  · rw [e1 i hi j, a1, c1 M (mm n P M0) h1 i hi j]
  · rw [h2 i hi j, ← mm_assoc]
    refine mm_congr (fun _ _ => rfl) (fun t ht => ?_)
    rw [e2 t ht j, a2]
    exact c2 _ _ (fun i hi j => (idm_mm hi (b i j)).symm) t ht j
/-- what makes the identity of a makes the inverse of the identity. -/
theorem Like.inverse {n : Nat} {M0 M A X : Nat → Nat → Nat} (h : Like n M0 M) (h1 : ∀ i j, i < n → j < n → M0 i j = A i j) (h2 : ∀ i j, i < n → j < n → M0 i (n + j) = idm i j)
    (h3 : ∀ i j, i < n → j < n → M i j = idm i j) (h4 : ∀ i j, i < n → j < n → M i (n + j) = X i j) (bA : ∀ i j, A i j < 256) (bX : ∀ i j, X i j < 256) :
    (∀ i j, i < n → j < n → mm n X A i j = idm i j) ∧ ∀ i j, i < n → j < n → mm n A X i j = idm i j := by
  obtain ⟨P, Q, e1, e2⟩ := h
  have aq : ∀ i j, i < n → j < n → A i j = mm n Q idm i j := fun i j hi hj => by
    rw [← h1 i j hi hj, e2 i hi]
    exact mm_congr (fun _ _ => rfl) (fun t ht => h3 t j ht hj)
  have xq : ∀ i j, i < n → j < n → X i j = mm n P idm i j := fun i j hi hj => by
    rw [← h4 i j hi hj, e1 i hi]
    exact sx_congr (fun t ht => by rw [h2 t j ht hj])
  constructor
  · intro i j hi hj
    rw [← h3 i j hi hj, e1 i hi]
    rw [mm_congr (A' := mm n P idm) (B' := M0) (fun t ht => xq i t hi ht) (fun t ht => (h1 t j ht hj).symm), ← mm_assoc]
    exact mm_congr (fun _ _ => rfl) (fun t ht => idm_mm ht (by rw [h1 t j ht hj]; exact bA _ _))
  · intro i j hi hj
    rw [← h2 i j hi hj, e2 i hi]
    rw [mm_congr (A' := mm n Q idm) (B' := fun t j => M t (n + j)) (fun t ht => aq i t hi ht) (fun t ht => (h4 t j ht hj).symm), ← mm_assoc]
    exact mm_congr (fun _ _ => rfl) (fun t ht => idm_mm ht (by show M t (n + j) < 256; rw [h4 t j ht hj]; exact bX _ _))
/-! elimination. -/
/-- the first row from t on, of k rows, that is not 0 in column c. -/
def fr (M : Nat → Nat → Nat) (c : Nat) : Nat → Nat → Nat
  | 0, t => t
  | k + 1, t => if M t c = 0 then fr M c k (t + 1) else t
theorem fr_spec (M : Nat → Nat → Nat) (c : Nat) : ∀ k t, t ≤ fr M c k t ∧ fr M c k t ≤ t + k ∧ (∀ i, t ≤ i → i < fr M c k t → M i c = 0) ∧ (fr M c k t < t + k → M (fr M c k t) c ≠ 0)
  | 0, t => ⟨Nat.le_refl _, Nat.le_refl _, fun i h1 h2 => absurd h2 (by unfold fr; omega), fun h => absurd h (by unfold fr; omega)⟩
  | k + 1, t => by
    unfold fr
    by_cases h : M t c = 0
    · rw [if_pos h]
      obtain ⟨a1, a2, a3, a4⟩ := fr_spec M c k (t + 1)
      refine ⟨by omega, by omega, fun i h1 h2 => ?_, fun h' => a4 (by omega)⟩
      by_cases e : i = t
      · rw [e]; exact h
      · exact a3 i (by omega) h2
    · rw [if_neg h]
      exact ⟨Nat.le_refl _, by omega, fun i h1 h2 => absurd h2 (by omega), fun _ => h⟩
theorem fr_eq {M : Nat → Nat → Nat} {c k t r : Nat} (h1 : t ≤ r) (h2 : r ≤ t + k) (h3 : ∀ i, t ≤ i → i < r → M i c = 0) (h4 : r < t + k → M r c ≠ 0) : fr M c k t = r := by
  obtain ⟨a1, a2, a3, a4⟩ := fr_spec M c k t
  rcases Nat.lt_trichotomy (fr M c k t) r with h | h | h
  · exact absurd (h3 _ a1 h) (a4 (by omega))
  · exact h
  · exact absurd (a3 r h1 h) (h4 (by omega))
theorem fr_congr {M M' : Nat → Nat → Nat} {c k t : Nat} (h : ∀ i, t ≤ i → i < t + k → M i c = M' i c) : fr M c k t = fr M' c k t := by
  obtain ⟨a1, a2, a3, a4⟩ := fr_spec M' c k t
  exact fr_eq a1 a2 (fun i h1 h2 => by rw [h i h1 (by omega)]; exact a3 i h1 h2) (fun h' => by rw [h _ a1 h']; exact a4 h')
/-- what Inv answers. -/
def fv (a : Nat) : Nat := if a = 0 then 0 else fi 285 a
/-- row t scaled from column c on. -/
def scl (M : Nat → Nat → Nat) (t c : Nat) : Nat → Nat → Nat := fun i j => if i = t ∧ c ≤ j then fm 285 (fv (M t c)) (M t j) else M i j
/-- the other rows cleared from column c on. -/
def clr (M : Nat → Nat → Nat) (t c : Nat) : Nat → Nat → Nat := fun i j => if i ≠ t ∧ c ≤ j then M i j ^^^ fm 285 (M i c) (M t j) else M i j
structure St where
  M : Nat → Nat → Nat
  t : Nat
  P : Nat → Nat
  d : Nat
/-- one column. -/
def stp (m c : Nat) (s : St) : St :=
  if s.t = m then s else if fr s.M c (m - s.t) s.t = m then s else
    ⟨clr (scl (swp s.M s.t (fr s.M c (m - s.t) s.t)) s.t c) s.t c, s.t + 1, fun i => if i = s.t then c else s.P i, fm 285 s.d (s.M (fr s.M c (m - s.t) s.t) c)⟩
/-- the first c columns. -/
def elm (m : Nat) (M : Nat → Nat → Nat) : Nat → St
  | 0 => ⟨M, 0, fun _ => 0, 1⟩
  | c + 1 => stp m c (elm m M c)

/-- what holds behind c columns. -/
structure Red (m c : Nat) (M0 : Nat → Nat → Nat) (s : St) : Prop where
  tm : s.t ≤ m
  tc : s.t ≤ c
  lt : ∀ i j, s.M i j < 256
  pc : ∀ i, i < s.t → s.P i < c
  up : ∀ i k, i < k → k < s.t → s.P i < s.P k
  unit : ∀ i k, i < m → k < s.t → s.M i (s.P k) = idm i k
  ahead : ∀ k j, k < s.t → j < s.P k → s.M k j = 0
  rest : ∀ i j, s.t ≤ i → i < m → j < c → s.M i j = 0
  d0 : s.d ≠ 0
  d1 : s.d < 256
  like : Like m M0 s.M
theorem fv_lt {a : Nat} (h : a < 256) : fv a < 256 := by
  unfold fv
  split
  · decide
  · next h0 => exact fld8.fi_lt h h0
theorem fv_mul {a : Nat} (h : a < 256) (h0 : a ≠ 0) : fm 285 (fv a) a = 1 := by
  unfold fv
  rw [if_neg h0, fm_comm, fld8.fi_mul h h0]
theorem xor_lt8 {a b : Nat} (h : a < 256) (k : b < 256) : a ^^^ b < 256 := Nat.xor_lt_two_pow (n := 8) h k
theorem red_start {m : Nat} {M : Nat → Nat → Nat} (h : ∀ i j, M i j < 256) : Red m 0 M (elm m M 0) := by
  refine ⟨Nat.zero_le _, Nat.le_refl _, h, ?_, ?_, ?_, ?_, ?_, ?_, ?_, Like.refl h⟩
  · intro i hi; exact absurd hi (Nat.not_lt_zero _)
  · intro i k _ hk; exact absurd hk (Nat.not_lt_zero _)
  · intro i k _ hk; exact absurd hk (Nat.not_lt_zero _)
  · intro k j hk; exact absurd hk (Nat.not_lt_zero _)
  · intro i j _ _ hj; exact absurd hj (Nat.not_lt_zero _)
  · show (1 : Nat) ≠ 0; decide
  · show (1 : Nat) < 256; decide
theorem Red.skip {m c : Nat} {M0 : Nat → Nat → Nat} {s : St} (h : Red m c M0 s) (hz : ∀ i, s.t ≤ i → i < m → s.M i c = 0) : Red m (c + 1) M0 s := by
  obtain ⟨a1, a2, a3, a4, a5, a6, a7, a8, a9, a10, a11⟩ := h
  refine ⟨a1, by omega, a3, fun i hi => by have := a4 i hi; omega, a5, a6, a7, fun i j h1 h2 h3 => ?_, a9, a10, a11⟩
  by_cases e : j = c
  · rw [e]; exact hz i h1 h2
  · exact a8 i j h1 h2 (by omega)
theorem swp_lt {M : Nat → Nat → Nat} (h : ∀ i j, M i j < 256) (t r i j : Nat) : swp M t r i j < 256 := by
  unfold swp
  split
  · exact h _ _
  · split
    · exact h _ _
    · exact h _ _
theorem rsc_lt {M : Nat → Nat → Nat} (h : ∀ i j, M i j < 256) (u t i j : Nat) : rsc u t M i j < 256 := by
  unfold rsc
  split
  · exact fld8.fm_lt _ _
  · exact h _ _
theorem rad_lt {M : Nat → Nat → Nat} (h : ∀ i j, M i j < 256) (f : Nat → Nat) (t i j : Nat) : rad f t M i j < 256 := by
  unfold rad
  split
  · exact h _ _
  · exact xor_lt8 (h _ _) (fld8.fm_lt _ _)
theorem Red.pivot {m c r : Nat} {M0 : Nat → Nat → Nat} {s : St} (h : Red m c M0 s) (htm : s.t < m) (htr : s.t ≤ r) (hr : r < m) (hz : ∀ i, s.t ≤ i → i < r → s.M i c = 0) (h0 : s.M r c ≠ 0) :
    Red m (c + 1) M0 ⟨clr (scl (swp s.M s.t r) s.t c) s.t c, s.t + 1, fun i => if i = s.t then c else s.P i, fm 285 s.d (s.M r c)⟩ := by
  obtain ⟨a1, a2, a3, a4, a5, a6, a7, a8, a9, a10, a11⟩ := h
  obtain ⟨M, t, P, d⟩ := s
  simp only at *
  -- the rows as they are swapped
  have z1 : ∀ j, j < c → swp M t r t j = 0 := fun j hj => by
    unfold swp; rw [if_pos rfl]; exact a8 r j htr hr hj
  have l1 := swp_lt a3 t r
  have e1 : swp M t r t c = M r c := by unfold swp; rw [if_pos rfl]
  generalize hM1 : swp M t r = M1 at *
  have e2 : scl M1 t c = rsc (fv (M r c)) t M1 := by
    funext i j
    unfold scl rsc
    by_cases h1 : i = t
    · subst h1
      by_cases h2 : c ≤ j
      · rw [if_pos ⟨rfl, h2⟩, if_pos rfl, e1]
      · rw [if_neg (fun e => h2 e.2), if_pos rfl, z1 j (by omega), fld8.fm_zero]
    · rw [if_neg (fun e => h1 e.1), if_neg h1]
  have l2 := rsc_lt l1 (fv (M r c)) t
  have z2 : ∀ j, j < c → rsc (fv (M r c)) t M1 t j = 0 := fun j hj => by
    unfold rsc; rw [if_pos rfl, z1 j hj, fld8.fm_zero]
  have o2 : rsc (fv (M r c)) t M1 t c = 1 := by
    unfold rsc; rw [if_pos rfl, e1, fv_mul (a3 r c) h0]
  have hi2 : ∀ i j, i ≠ t → rsc (fv (M r c)) t M1 i j = M1 i j := fun i j hi => by unfold rsc; rw [if_neg hi]
  rw [e2]
  generalize hM2 : rsc (fv (M r c)) t M1 = M2 at *
  have e3 : clr M2 t c = rad (fun i => M2 i c) t M2 := by
    funext i j
    unfold clr rad
    by_cases h1 : i = t
    · subst h1
      rw [if_neg (fun e => e.1 rfl), if_pos rfl]
    · rw [if_neg h1]
      by_cases h2 : c ≤ j
      · rw [if_pos ⟨h1, h2⟩]
      · rw [if_neg (fun e => h2 e.2), z2 j (by omega), fld8.fm_zero, Nat.xor_zero]
  rw [e3]
  have l3 := rad_lt l2 (fun i => M2 i c) t
  have t3 : ∀ j, rad (fun i => M2 i c) t M2 t j = M2 t j := fun j => by unfold rad; rw [if_pos rfl]
  have n3 : ∀ i j, i ≠ t → rad (fun i => M2 i c) t M2 i j = M2 i j ^^^ fm 285 (M2 i c) (M2 t j) := fun i j hi => by unfold rad; rw [if_neg hi]
  have like3 : Like m M0 (rad (fun i => M2 i c) t M2) := by
    have k1 : Like m M0 M1 := a11.step (op := fun X => swp X t r) (op' := fun X => swp X t r) (fun P X => mm_swp _ _ _ _ _) (fun P X => mm_swp _ _ _ _ _)
      (fun X Y hXY i hi j => by unfold swp; split; exact hXY _ hr _; split; exact hXY _ htm _; exact hXY _ hi _)
      (fun X Y hXY i hi j => by unfold swp; split; exact hXY _ hr _; split; exact hXY _ htm _; exact hXY _ hi _) l1 (fun i _ j => by rw [← hM1]) (fun i _ j => by rw [← hM1, swp_swp])
    have k2 : Like m M0 M2 := k1.step (op := rsc (fv (M r c)) t) (op' := rsc (M r c) t) (fun P X => mm_rsc _ _ _ _ _) (fun P X => mm_rsc _ _ _ _ _)
      (fun X Y hXY i hi j => by unfold rsc; split; rw [hXY _ htm _]; exact hXY _ hi _)
      (fun X Y hXY i hi j => by unfold rsc; split; rw [hXY _ htm _]; exact hXY _ hi _) l2 (fun i _ j => by rw [← hM2]) (fun i _ j => by rw [← hM2, rsc_rsc _ (by rw [fm_comm]; exact fv_mul (a3 r c) h0) l1])
    exact k2.step (op := rad (fun i => M2 i c) t) (op' := rad (fun i => M2 i c) t) (fun P X => mm_rad _ _ _ _ _) (fun P X => mm_rad _ _ _ _ _)
      (fun X Y hXY i hi j => by unfold rad; split; exact hXY _ htm _; rw [hXY _ hi _, hXY _ htm _])
      (fun X Y hXY i hi j => by unfold rad; split; exact hXY _ htm _; rw [hXY _ hi _, hXY _ htm _]) l3 (fun _ _ _ => rfl) (fun i _ j => by rw [rad_rad])
  have m1 : ∀ i j, i < m → i ≠ t → ∃ i', i' < m ∧ M1 i j = M i' j ∧ (i < t → i' = i) ∧ (t ≤ i → t ≤ i') := fun i j hi hit => by
    rw [← hM1]
    unfold swp
    rw [if_neg hit]
    by_cases e : i = r
    · rw [if_pos e]; exact ⟨t, htm, rfl, fun h => by omega, fun _ => Nat.le_refl _⟩
    · rw [if_neg e]; exact ⟨i, hi, rfl, fun _ => rfl, fun h => h⟩
  refine ⟨by show t + 1 ≤ m; omega, by show t + 1 ≤ c + 1; omega, l3, ?_, ?_, ?_, ?_, ?_, fld8.fm_ne a10 (a3 r c) a9 h0, fld8.fm_lt _ _, like3⟩
  · intro i hi
    show (if i = t then c else P i) < c + 1
    have hi' : i < t + 1 := hi
    split
    · omega
    · have := a4 i (by omega); omega
  · intro i k hik hk
    show (if i = t then c else P i) < (if k = t then c else P k)
    have hk' : k < t + 1 := hk
    rw [if_neg (by omega)]
    split
    · exact a4 i (by omega)
    · exact a5 i k hik (by omega)
  · intro i k hi hk
    have hk' : k < t + 1 := hk
    show rad (fun i => M2 i c) t M2 i (if k = t then c else P k) = idm i k
    by_cases ek : k = t
    · rw [if_pos ek, ek]
      by_cases ei : i = t
      · rw [ei, t3, o2]; unfold idm; rw [if_pos rfl]
      · rw [n3 i c ei, o2, fld8.fm_one (l2 i c), Nat.xor_self]; unfold idm; rw [if_neg ei]
    · rw [if_neg ek]
      have pk := a4 k (by omega)
      by_cases ei : i = t
      · rw [ei, t3, z2 _ pk]; unfold idm; rw [if_neg (by omega)]
      · rw [n3 i _ ei, z2 _ pk, fld8.fm_zero, Nat.xor_zero, hi2 i _ ei]
        obtain ⟨i', h1, h2, h3, h4⟩ := m1 i (P k) hi ei
        rw [h2]
        by_cases hit : i < t
        · rw [h3 hit]; exact a6 i k hi (by omega)
        · rw [a8 i' _ (h4 (by omega)) h1 pk]; unfold idm; rw [if_neg (by omega)]
  · intro k j hk hj
    have hk' : k < t + 1 := hk
    have hj' : j < (if k = t then c else P k) := hj
    show rad (fun i => M2 i c) t M2 k j = 0
    by_cases ek : k = t
    · rw [if_pos ek] at hj'
      rw [ek, t3, z2 j hj']
    · rw [if_neg ek] at hj'
      have pk := a4 k (by omega)
      rw [n3 k j ek, z2 j (by omega), fld8.fm_zero, Nat.xor_zero, hi2 k j ek]
      obtain ⟨i', h1, h2, h3, h4⟩ := m1 k j (by omega) ek
      rw [h2, h3 (by omega)]
      exact a7 k j (by omega) hj'
  · intro i j h1 h2 hj
    have h1' : t + 1 ≤ i := h1
    show rad (fun i => M2 i c) t M2 i j = 0
    have ei : i ≠ t := by omega
    by_cases ej : j = c
    · rw [ej, n3 i c ei, o2, fld8.fm_one (l2 i c), Nat.xor_self]
    · rw [n3 i j ei, z2 j (by omega), fld8.fm_zero, Nat.xor_zero, hi2 i j ei]
      obtain ⟨i', g1, g2, g3, g4⟩ := m1 i j h2 ei
      rw [g2]
      exact a8 i' j (g4 (by omega)) g1 (by omega)
theorem red_elm {m : Nat} {M : Nat → Nat → Nat} (h : ∀ i j, M i j < 256) : ∀ c, Red m c M (elm m M c)
  | 0 => red_start h
  | c + 1 => by
    have ih := red_elm (m := m) h c
    unfold elm stp
    by_cases h1 : (elm m M c).t = m
    · rw [if_pos h1]; exact ih.skip (fun i h2 h3 => by omega)
    · rw [if_neg h1]
      have htm : (elm m M c).t < m := by have := ih.tm; omega
      obtain ⟨b1, b2, b3, b4⟩ := fr_spec (elm m M c).M c (m - (elm m M c).t) (elm m M c).t
      by_cases h2 : fr (elm m M c).M c (m - (elm m M c).t) (elm m M c).t = m
      · rw [if_pos h2]
        refine ih.skip (fun i h3 h4 => b3 i h3 (by omega))
      · rw [if_neg h2]
        exact ih.pivot htm b1 (by omega) b3 (b4 (by omega))
/-- the first C columns go by themselves. -/
theorem elm_local {m C : Nat} {M M' : Nat → Nat → Nat} (h : ∀ i j, i < m → j < C → M i j = M' i j) : ∀ c, c ≤ C → (elm m M c).t = (elm m M' c).t ∧ (elm m M c).P = (elm m M' c).P ∧ (elm m M c).d = (elm m M' c).d ∧ ∀ i j, i < m → j < C → (elm m M c).M i j = (elm m M' c).M i j
  | 0, _ => ⟨rfl, rfl, rfl, h⟩
  | c + 1, hc => by
    obtain ⟨e1, e2, e3, e4⟩ := elm_local h c (by omega)
    unfold elm stp
    rw [e1]
    by_cases h1 : (elm m M' c).t = m
    · rw [if_pos h1, if_pos h1]; exact ⟨e1, e2, e3, e4⟩
    · rw [if_neg h1, if_neg h1]
      have tm : ∀ c, (elm m M' c).t ≤ m := fun c => by
        induction c with
        | zero => exact Nat.zero_le _
        | succ c ih =>
          unfold elm stp
          split
          · exact ih
          · split
            · exact ih
            · show (elm m M' c).t + 1 ≤ m; omega
      have htm := tm c
      have ef : fr (elm m M c).M c (m - (elm m M' c).t) (elm m M' c).t = fr (elm m M' c).M c (m - (elm m M' c).t) (elm m M' c).t := fr_congr (fun i h2 h3 => e4 i c (by omega) (by omega))
      rw [ef]
      obtain ⟨b1, b2, b3, b4⟩ := fr_spec (elm m M' c).M c (m - (elm m M' c).t) (elm m M' c).t
      generalize fr (elm m M' c).M c (m - (elm m M' c).t) (elm m M' c).t = r at *
      by_cases h2 : r = m
      · rw [if_pos h2, if_pos h2]; exact ⟨e1, e2, e3, e4⟩
      · rw [if_neg h2, if_neg h2]
        generalize elm m M c = s at *
        generalize elm m M' c = s' at *
        have t1 : ∀ i j, i < m → j < C → swp s.M s'.t r i j = swp s'.M s'.t r i j := fun i j hi hj => by
          unfold swp
          split
          · exact e4 _ _ (by omega) hj
          · split
            · exact e4 _ _ (by omega) hj
            · exact e4 _ _ hi hj
        have t2 : ∀ i j, i < m → j < C → scl (swp s.M s'.t r) s'.t c i j = scl (swp s'.M s'.t r) s'.t c i j := fun i j hi hj => by
          unfold scl
          split
          · rw [t1 _ c (by omega) (by omega), t1 _ j (by omega) hj]
          · exact t1 i j hi hj
        refine ⟨rfl, by simp only [e2], by simp only [e3]; rw [e4 r c (by omega) (by omega)], fun i j hi hj => ?_⟩
        show clr _ _ _ i j = clr _ _ _ i j
        unfold clr
        split
        · rw [t2 i j hi hj, t2 i c hi (by omega), t2 _ j (by omega) hj]
        · exact t2 i j hi hj
/-- with a pivot in each of n columns they are the identity. -/
theorem Red.full {n : Nat} {M0 : Nat → Nat → Nat} {s : St} (h : Red n n M0 s) (ht : s.t = n) : ∀ i j, i < n → j < n → s.M i j = idm i j := by
  have ge : ∀ k, k < n → k ≤ s.P k := by
    intro k
    induction k with
    | zero => intro _; exact Nat.zero_le _
    | succ k ih => intro hk; have := h.up k (k + 1) (by omega) (by omega); have := ih (by omega); omega
  have le : ∀ q k, q + k + 1 = n → s.P k ≤ k := by
    intro q
    induction q with
    | zero => intro k hk; have := h.pc k (by omega); omega
    | succ q ih => intro k hk; have := h.up k (k + 1) (by omega) (by omega); have := ih (k + 1) (by omega); omega
  intro i j hi hj
  have e : s.P j = j := Nat.le_antisymm (le (n - 1 - j) j (by omega)) (ge j hj)
  have := h.unit i j hi (by omega)
  rw [e] at this
  exact this
end Gf2
end Go.Proofs.Ytljfpgebekpjgaa
namespace Go.Proofs.Ytljfpgebekpjgaa
namespace Gf2
set_option linter.unusedVariables false

/-! null vectors of a reduced form, and the rank of the transposed. -/
theorem Red.inj {m c : Nat} {M0 : Nat → Nat → Nat} {s : St} (h : Red m c M0 s) {i k : Nat} (hi : i < s.t) (hk : k < s.t) (e : i ≠ k) : s.P i ≠ s.P k := by
  rcases Nat.lt_or_gt_of_ne e with x | x
  · exact Nat.ne_of_lt (h.up i k x hk)
  · exact fun y => Nat.ne_of_lt (h.up k i x hi) y.symm
/-- fewer pivots than columns: a column is free. -/
theorem Red.free {m c : Nat} {M0 : Nat → Nat → Nat} {s : St} (h : Red m c M0 s) (ht : s.t < c) : ∃ f, f < c ∧ ∀ k, k < s.t → s.P k ≠ f := by
  apply Classical.byContradiction
  intro hno
  have all : ∀ f, f < c → ∃ k, k < s.t ∧ s.P k = f := fun f hf => Classical.byContradiction (fun hx => hno ⟨f, hf, fun k hk e => hx ⟨k, hk, e⟩⟩)
  have ge : ∀ f, f < c → ∃ k, f ≤ k ∧ k < s.t ∧ s.P k = f := by
    intro f
    induction f with
    | zero => intro hf; obtain ⟨k, a, b⟩ := all 0 hf; exact ⟨k, Nat.zero_le _, a, b⟩
    | succ f ih =>
      intro hf
      obtain ⟨k, a1, a2, a3⟩ := ih (by omega)
      obtain ⟨k', b1, b2⟩ := all (f + 1) hf
      refine ⟨k', ?_, b1, b2⟩
      rcases Nat.lt_trichotomy k' k with x | x | x
      · have := h.up k' k x a2; omega
      · subst x; omega
      · omega
  obtain ⟨k, a1, a2, a3⟩ := ge (c - 1) (by omega)
  omega
end Gf2
end Go.Proofs.Ytljfpgebekpjgaa
namespace Go.Proofs.Ytljfpgebekpjgaa
namespace Gf2
set_option linter.unusedVariables false
variable {p d : Nat}

/-- a polynomial: elements, and from some place on 0. -/
def Pol (d : Nat) (f : Nat → Nat) : Prop := El d f ∧ ∃ n, Dg f n
/-- its degree is n. -/
def Tp (f : Nat → Nat) (n : Nat) : Prop := Dg f (n + 1) ∧ f n ≠ 0

theorem Dg.max {f g : Nat → Nat} {m n : Nat} (h : Dg f m) (k : Dg g n) : Dg (Gf2.pa f g) (m + n) := (h.mono (by omega)).pa (k.mono (by omega))
theorem Pol.pa {f g : Nat → Nat} (h : Pol d f) (k : Pol d g) : Pol d (Gf2.pa f g) := by
  obtain ⟨h1, m, h2⟩ := h
  obtain ⟨k1, n, k2⟩ := k
  exact ⟨h1.pa k1, m + n, h2.max k2⟩
theorem Fld.pol_pm (h : Fld p d) {f g : Nat → Nat} (hf : Pol d f) (hg : Pol d g) : Pol d (pm p f g) := by
  obtain ⟨h1, m, h2⟩ := hf
  obtain ⟨k1, n, k2⟩ := hg
  exact ⟨h.el_pm f g, _, h.dg_pm h2 k2⟩
theorem Pol.pz (d : Nat) : Pol d pz := ⟨El.pz d, 0, Dg.pz 0⟩
theorem mo_dg (a k : Nat) : Dg (mo a k) (k + 1) := fun i hi => by unfold mo; rw [if_neg (by omega)]
theorem po_tp : Tp po 0 := ⟨fun i hi => by unfold po; rw [if_neg (by omega)], by unfold po; simp⟩
theorem Tp.ne {f : Nat → Nat} {n : Nat} (h : Tp f n) : f ≠ pz := fun e => h.2 (by rw [e]; rfl)
theorem Tp.only {f : Nat → Nat} {m n : Nat} (h : Tp f m) (k : Tp f n) : m = n := by
  rcases Nat.lt_trichotomy m n with e | e | e
  · exact absurd (h.1 n (by omega)) k.2
  · exact e
  · exact absurd (k.1 m (by omega)) h.2
theorem Tp.below {f : Nat → Nat} {m n : Nat} (h : Tp f m) (k : Dg f n) : m < n := by
  rcases Nat.lt_or_ge m n with e | e
  · exact e
  · exact absurd (k m e) h.2
/-- division with a remainder. -/
theorem Fld.div_ex (h : Fld p d) {g : Nat → Nat} {e : Nat} (eg : El d g) (hg : Tp g e) : ∀ {N : Nat} {f : Nat → Nat}, El d f → Dg f N → ∃ q m, El d q ∧ El d m ∧ Dg q (N - e) ∧ Dg m e ∧ f = pa (pm p q g) m := by
  intro N
  induction N with
  | zero =>
    intro f ef hf
    exact ⟨pz, f, El.pz d, ef, Dg.pz _, hf.mono (by omega), by rw [h.pz_pm, pz_pa]⟩
  | succ k ih =>
    intro f ef hf
    by_cases hk : k < e
    · exact ⟨pz, f, El.pz d, ef, Dg.pz _, hf.mono (by omega), by rw [h.pz_pm, pz_pa]⟩
    · have hgi := h.fi_lt (eg e) hg.2
      obtain ⟨t, ht⟩ : ∃ t, t = fm p (f k) (fi p (g e)) := ⟨_, rfl⟩
      have tl : t < 2 ^ d := by rw [ht]; exact h.fm_lt _ _
      have top : pm p (mo t (k - e)) g k = f k := by
        have := h.top_pm (mo_dg t (k - e)) hg.1
        rw [show k - e + e = k by omega] at this
        rw [this]
        unfold mo
        rw [if_pos rfl, ht]
        exact h.div_mul (ef k) (eg e) hg.2
      have dg : Dg (pa f (pm p (mo t (k - e)) g)) k := by
        intro i hi
        rcases Nat.lt_or_ge k i with h1 | h1
        · show f i ^^^ pm p (mo t (k - e)) g i = 0
          rw [hf i (by omega), (h.dg_pm (mo_dg t (k - e)) hg.1) i (by omega)]; rfl
        · rw [show i = k by omega]
          show f k ^^^ pm p (mo t (k - e)) g k = 0
          rw [top, Nat.xor_self]
      obtain ⟨q, m, eq, em, dq, dm, he⟩ := ih (ef.pa (h.el_pm _ _)) dg
      refine ⟨pa q (mo t (k - e)), m, eq.pa (el_mo tl _), em, (dq.mono (by omega)).pa ((mo_dg t (k - e)).mono (by omega)), dm, ?_⟩
      rw [h.pa_pm, pa_assoc, pa_comm (pm p (mo t (k - e)) g) m, ← pa_assoc, ← he, pa_assoc, pa_self, pa_pz]
/-- g divides f. -/
def Dv (p d : Nat) (g f : Nat → Nat) : Prop := ∃ q, Pol d q ∧ f = pm p q g
theorem Fld.dv_pm (h : Fld p d) {c f g : Nat → Nat} (hf : Pol d f) (h1 : Dv p d c g) : Dv p d c (pm p f g) := by
  obtain ⟨q, hq, rfl⟩ := h1
  exact ⟨pm p f q, h.pol_pm hf hq, (h.pm_assoc f q c hf.2.choose_spec).symm⟩
theorem Fld.dv_trans (h : Fld p d) {a b c : Nat → Nat} (h1 : Dv p d a b) (h2 : Dv p d b c) : Dv p d a c := by
  obtain ⟨q, hq, rfl⟩ := h2
  exact h.dv_pm hq h1
end Gf2
end Go.Proofs.Ytljfpgebekpjgaa
namespace Go.Proofs.Ytljfpgebekpjgaa
namespace Gf2
set_option linter.unusedVariables false
variable {p d : Nat}

/-- the value at x of a polynomial of a degree below n. -/
def pe (p x n : Nat) (f : Nat → Nat) : Nat := sx n (fun i => fm p (f i) (fp p x i))
theorem Fld.pe_cut (h : Fld p d) {f : Nat → Nat} {m n : Nat} (x : Nat) (hf : Dg f m) (hmn : m ≤ n) : pe p x n f = pe p x m f :=
  sx_cut hmn (fun i h1 _ => by rw [hf i h1, h.zero_fm])
theorem Fld.pe_lt (h : Fld p d) (x n : Nat) (f : Nat → Nat) : pe p x n f < 2 ^ d := sx_lt (fun _ _ => h.fm_lt _ _)
theorem Fld.pe_pa (h : Fld p d) (x n : Nat) (f g : Nat → Nat) : pe p x n (pa f g) = pe p x n f ^^^ pe p x n g := by
  unfold pe
  rw [← sx_xor]
  exact sx_congr (fun i _ => h.xor_fm _ _ _)
theorem Fld.pe_pz (h : Fld p d) (x n : Nat) : pe p x n pz = 0 := sx_zero (fun i _ => h.zero_fm _)
theorem Fld.pe_pc (h : Fld p d) (x n a : Nat) (f : Nat → Nat) : pe p x n (pc p a f) = fm p a (pe p x n f) := by
  unfold pe pc
  rw [h.fm_sx]
  exact sx_congr (fun i _ => h.fm_assoc _ _ _)
theorem Fld.pe_ps (h : Fld p d) (x k n : Nat) (f : Nat → Nat) : pe p x (k + n) (ps k f) = fm p (fp p x k) (pe p x n f) := by
  unfold pe
  rw [sx_split, sx_zero (n := k) (fun i hi => by unfold ps; rw [if_pos hi, h.zero_fm]), Nat.zero_xor, h.fm_sx]
  refine sx_congr (fun i _ => ?_)
  unfold ps
  rw [if_neg (by omega), show k + i - k = i by omega, h.fp_add, ← h.fm_assoc, fm_comm p (f i), h.fm_assoc]
theorem Fld.pe_mo (h : Fld p d) {x a k n : Nat} (hk : k < n) : pe p x n (mo a k) = fm p a (fp p x k) := by
  unfold pe
  rw [sx_one hk (fun i _ hne => by unfold mo; rw [if_neg hne, h.zero_fm])]
  unfold mo; rw [if_pos rfl]
theorem Fld.pe_pm (h : Fld p d) (x : Nat) {f g : Nat → Nat} {m n : Nat} (hf : Dg f m) (hg : Dg g n) : pe p x (m + n) (pm p f g) = fm p (pe p x m f) (pe p x n g) := by
  induction m generalizing f with
  | zero => rw [hf.zero, h.pz_pm, h.pe_pz, h.pe_pz, h.zero_fm]
  | succ m ih =>
    rw [split_top hf, h.pa_pm, h.pe_pa, h.pe_pa, h.xor_fm, h.mo_pm]
    congr 1
    · rw [h.pe_cut x (h.dg_pm (cut_dg f m) hg) (by omega : m + n - 1 ≤ m + 1 + n), ← h.pe_cut x (h.dg_pm (cut_dg f m) hg) (by omega : m + n - 1 ≤ m + n), ih (cut_dg f m), h.pe_cut x (cut_dg f m) (by omega : m ≤ m + 1)]
    · have hd : Dg (ps m (pc p (f m) g)) (m + n) := fun i hi => by unfold ps pc; rw [if_neg (by omega), hg _ (by omega), h.fm_zero]
      rw [h.pe_cut x hd (by omega : m + n ≤ m + 1 + n), h.pe_ps, h.pe_pc, h.pe_mo (by omega), ← h.fm_assoc, fm_comm p (fp p x m)]

/-- X + x. -/
def px (x : Nat) : Nat → Nat := fun i => if i = 0 then x else if i = 1 then 1 else 0
theorem px_dg (x : Nat) : Dg (px x) 2 := fun i hi => by unfold px; rw [if_neg (by omega), if_neg (by omega)]
theorem px_tp (x : Nat) : Tp (px x) 1 := ⟨px_dg x, by unfold px; simp⟩
theorem Fld.el_px (h : Fld p d) {x : Nat} (hx : x < 2 ^ d) : El d (px x) := fun i => by
  unfold px
  split
  · exact hx
  · split
    · exact h.one_lt
    · exact Nat.two_pow_pos d
theorem Fld.pe_px (h : Fld p d) {x y : Nat} (hx : x < 2 ^ d) (hy : y < 2 ^ d) : pe p y 2 (px x) = x ^^^ y := by
  show (0 ^^^ fm p (px x 0) (fp p y 0)) ^^^ fm p (px x 1) (fp p y 1) = _
  rw [Nat.zero_xor, h.fp_zero, h.fp_one hy]
  show fm p x 1 ^^^ fm p 1 y = _
  rw [h.fm_one hx, h.one_fm hy]
/-- the factor theorem. -/
theorem Fld.div_px (h : Fld p d) {x n : Nat} (hx : x < 2 ^ d) {f : Nat → Nat} (ef : El d f) (hf : Dg f n) : ∃ q, El d q ∧ Dg q (n - 1) ∧ f = pa (pm p q (px x)) (mo (pe p x n f) 0) := by
  obtain ⟨q, m, eq, em, dq, dm, he⟩ := h.div_ex (h.el_px hx) (px_tp x) ef hf
  refine ⟨q, eq, dq, ?_⟩
  have hm : m = mo (m 0) 0 := by
    funext i
    unfold mo
    by_cases hi : i = 0
    · rw [if_pos hi, hi]
    · rw [if_neg hi, dm i (by omega)]
  have hv : pe p x n f = m 0 := by
    have e1 : pe p x (n + 2) f = pe p x n f := h.pe_cut x hf (by omega)
    rw [← e1]
    rw [he]
    rw [h.pe_pa, h.pe_cut x (h.dg_pm dq (px_dg x)) (by omega : n - 1 + 2 - 1 ≤ n + 2), ← h.pe_cut x (h.dg_pm dq (px_dg x)) (by omega : n - 1 + 2 - 1 ≤ n - 1 + 2), h.pe_pm x dq (px_dg x), h.pe_px hx hx, Nat.xor_self, h.fm_zero, Nat.zero_xor, hm, h.pe_mo (by omega), h.fp_zero, h.fm_one (em 0)]
    unfold mo; simp
  rw [hv, ← hm]
  exact he
/-- as many roots as the number of coefficients: 0. -/
theorem Fld.roots_pz (h : Fld p d) : ∀ {n : Nat} {f pts : Nat → Nat}, El d f → Dg f n → (∀ i, i < n → pts i < 2 ^ d) → (∀ i j, i < n → j < n → pts i = pts j → i = j) → (∀ i, i < n → pe p (pts i) n f = 0) → f = pz := by
  intro n
  induction n with
  | zero => intro f pts ef hf _ _ _; exact hf.zero
  | succ n ih =>
    intro f pts ef hf hl hi hr
    obtain ⟨q, eq, dq, he⟩ := h.div_px (hl n (by omega)) ef hf
    rw [hr n (by omega)] at he
    have e0 : mo 0 0 = pz := funext fun i => by unfold mo pz; split <;> rfl
    rw [e0, pa_pz] at he
    rw [Nat.add_sub_cancel] at dq
    have hq : q = pz := by
      refine ih (pts := pts) eq dq (fun i hi => hl i (by omega)) (fun i j h1 h2 => hi i j (by omega) (by omega)) (fun i h1 => ?_)
      have hv := hr i (by omega)
      have e1 : pe p (pts i) (n + 2) f = 0 := by rw [h.pe_cut _ hf (by omega)]; exact hv
      rw [he, h.pe_pm _ dq (px_dg _), h.pe_px (hl n (by omega)) (hl i (by omega))] at e1
      rcases (h.fm_eq_zero (h.pe_lt _ _ _) (Nat.xor_lt_two_pow (hl n (by omega)) (hl i (by omega)))).1 e1 with h2 | h2
      · exact h2
      · have := hi n i (by omega) (by omega) (xor_eq_zero h2)
        omega
    rw [he, hq, h.pz_pm]
/-- the polynomial through points is the only one. -/
theorem Fld.through_only (h : Fld p d) {n : Nat} {f g pts : Nat → Nat} (ef : El d f) (eg : El d g) (hf : Dg f n) (hg : Dg g n) (hl : ∀ i, i < n → pts i < 2 ^ d) (hi : ∀ i j, i < n → j < n → pts i = pts j → i = j)
    (hr : ∀ i, i < n → pe p (pts i) n f = pe p (pts i) n g) : f = g := by
  refine pa_eq_pz (h.roots_pz (pts := pts) (ef.pa eg) (hf.pa hg) hl hi (fun i h1 => ?_))
  rw [h.pe_pa, hr i h1, Nat.xor_self]

end Gf2
end Go.Proofs.Ytljfpgebekpjgaa
