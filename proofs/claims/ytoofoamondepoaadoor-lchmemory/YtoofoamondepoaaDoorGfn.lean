import Derived.Test.YtoofoamondepoaaDoorGfm
namespace Go.Proofs.YtoofoamondepoaaDoor
namespace Gf2
variable {p d : Nat}

theorem Fld.sq_add (h : Fld p d) (a b : Nat) : fm p (a ^^^ b) (a ^^^ b) = fm p a a ^^^ fm p b b := by
  have := h.sq_xor a b
  rwa [fp_two, fp_two, fp_two] at this

/-- the sum of n squares of squares. -/
def trF (p : Nat) : Nat → Nat → Nat
  | 0, _ => 0
  | n + 1, a => a ^^^ trF p n (fm p a a)
theorem Fld.trF_xor (h : Fld p d) (n : Nat) : ∀ a b, trF p n (a ^^^ b) = trF p n a ^^^ trF p n b := by
  induction n with
  | zero => intros; simp [trF]
  | succ n ih =>
    intro a b
    simp only [trF]
    rw [h.sq_add, ih]
    ac_rfl
theorem Fld.trF_zero (h : Fld p d) (n : Nat) : trF p n 0 = 0 := by
  induction n with
  | zero => rfl
  | succ n ih => simp only [trF]; rw [h.fm_zero, ih]; rfl
theorem Fld.trF_sq (h : Fld p d) (n : Nat) : ∀ a, trF p n (fm p a a) = fm p (trF p n a) (trF p n a) := by
  induction n with
  | zero => intro a; exact (h.fm_zero 0).symm
  | succ n ih =>
    intro a
    simp only [trF]
    rw [h.sq_add, ih (fm p a a)]
theorem Fld.trF_lt (h : Fld p d) (n : Nat) : ∀ a, a < 2 ^ d → trF p n a < 2 ^ d := by
  induction n with
  | zero => intro a _; exact Nat.two_pow_pos d
  | succ n ih => intro a ha; exact Nat.xor_lt_two_pow ha (ih _ (h.fm_lt _ _))
theorem Fld.trF_end (h : Fld p d) (n : Nat) {a : Nat} (ha : a < 2 ^ d) : a ^^^ fm p (trF p n a) (trF p n a) = trF p n a ^^^ fp p a (2 ^ n) := by
  induction n with
  | zero =>
    show a ^^^ fm p 0 0 = 0 ^^^ fp p a 1
    rw [h.fm_zero, h.fp_one ha, Nat.xor_zero, Nat.zero_xor]
  | succ n ih =>
    have e1 : trF p (n + 1) a = a ^^^ fm p (trF p n a) (trF p n a) := by
      show a ^^^ trF p n (fm p a a) = _
      rw [h.trF_sq]
    have e2 : fp p a (2 ^ (n + 1)) = fm p (fp p a (2 ^ n)) (fp p a (2 ^ n)) := by
      rw [← h.fp_add, Nat.pow_succ]; congr 1; omega
    conv => lhs; rw [e1, ih, h.sq_add, ← e2]
    rw [← Nat.xor_assoc, ← e1]
/-- the trace. -/
def tr (p d a : Nat) : Nat := trF p d a
theorem Fld.frob (h : Fld p d) {a : Nat} (ha : a < 2 ^ d) : fp p a (2 ^ d) = a := by
  by_cases h0 : a = 0
  · subst h0; exact h.fp_nought (by have := Nat.two_pow_pos d; omega)
  · have h1 := h.one_lt
    rw [show 2 ^ d = 1 + (2 ^ d - 1) * 1 by omega, h.fp_round ha h0, h.fp_one ha]
theorem Fld.tr_sq (h : Fld p d) {a : Nat} (ha : a < 2 ^ d) : fm p (tr p d a) (tr p d a) = tr p d a := by
  have := h.trF_end d ha
  rw [h.frob ha, Nat.xor_comm (trF p d a) a] at this
  exact xor_left_cancel' this
theorem Fld.idem (h : Fld p d) {t : Nat} (ht : t < 2 ^ d) (e : fm p t t = t) : t = 0 ∨ t = 1 := by
  have e1 : fm p t (t ^^^ 1) = 0 := by rw [h.fm_xor, e, h.fm_one ht, Nat.xor_self]
  rcases (h.fm_eq_zero ht (Nat.xor_lt_two_pow ht h.one_lt)).1 e1 with e2 | e2
  · exact .inl e2
  · exact .inr (xor_eq_zero e2)
theorem Fld.tr_bit (h : Fld p d) {a : Nat} (ha : a < 2 ^ d) : tr p d a = 0 ∨ tr p d a = 1 := h.idem (h.trF_lt d a ha) (h.tr_sq ha)
theorem Fld.tr_xor (h : Fld p d) (a b : Nat) : tr p d (a ^^^ b) = tr p d a ^^^ tr p d b := h.trF_xor d a b
theorem Fld.tr_of_sq (h : Fld p d) {a : Nat} (ha : a < 2 ^ d) : tr p d (fm p a a) = tr p d a := by
  show trF p d _ = _
  rw [h.trF_sq]; exact h.tr_sq ha
/-- the map y * y + y. -/
def hs (p y : Nat) : Nat := fm p y y ^^^ y
theorem Fld.hs_xor (h : Fld p d) (a b : Nat) : hs p (a ^^^ b) = hs p a ^^^ hs p b := by
  unfold hs; rw [h.sq_add]; ac_rfl
theorem Fld.hs_lt (h : Fld p d) {a : Nat} (ha : a < 2 ^ d) : hs p a < 2 ^ d := Nat.xor_lt_two_pow (h.fm_lt _ _) ha
theorem Fld.hs_zero (h : Fld p d) : hs p 0 = 0 := by unfold hs; rw [h.fm_zero]; rfl
theorem Fld.hs_one (h : Fld p d) : hs p 1 = 0 := by unfold hs; rw [h.fm_one h.one_lt]; rfl
theorem Fld.hs_ker (h : Fld p d) {a : Nat} (ha : a < 2 ^ d) (e : hs p a = 0) : a = 0 ∨ a = 1 := h.idem ha (xor_eq_zero e)
theorem Fld.hs_two (h : Fld p d) {a b : Nat} (ha : a < 2 ^ d) (hb : b < 2 ^ d) (e : hs p a = hs p b) : a = b ∨ a = b ^^^ 1 := by
  have e1 : hs p (a ^^^ b) = 0 := by rw [h.hs_xor, e, Nat.xor_self]
  rcases h.hs_ker (Nat.xor_lt_two_pow ha hb) e1 with e2 | e2
  · exact .inl (xor_eq_zero e2)
  · right
    have : a ^^^ b ^^^ b = 1 ^^^ b := by rw [e2]
    rw [Nat.xor_assoc, Nat.xor_self, Nat.xor_zero, Nat.xor_comm] at this
    exact this
theorem Fld.tr_hs (h : Fld p d) {a : Nat} (ha : a < 2 ^ d) : tr p d (hs p a) = 0 := by
  unfold hs; rw [h.tr_xor, h.tr_of_sq ha, Nat.xor_self]
theorem xor_one_mod (b : Nat) : (b ^^^ 1) % 2 = 1 - b % 2 := by
  have h := Nat.testBit_xor b 1 0
  simp only [Nat.testBit_zero] at h
  have := Nat.mod_two_eq_zero_or_one b
  have := Nat.mod_two_eq_zero_or_one (b ^^^ 1)
  rcases Nat.mod_two_eq_zero_or_one b with e1 | e1 <;> rcases Nat.mod_two_eq_zero_or_one (b ^^^ 1) with e2 | e2 <;> simp_all
theorem Fld.hs_even (h : Fld p d) {a b : Nat} (ha : a < 2 ^ d) (hb : b < 2 ^ d) (ea : a % 2 = 0) (eb : b % 2 = 0) (e : hs p a = hs p b) : a = b := by
  rcases h.hs_two ha hb e with e1 | e1
  · exact e1
  · have := xor_one_mod b
    rw [← e1] at this
    omega
/-- the map done t times is a power of two's Frobenius plus the identity, t a power of two. -/
def hsN (p : Nat) : Nat → Nat → Nat
  | 0, x => x
  | n + 1, x => hsN p n (hs p x)
theorem hsN_add (p m n x : Nat) : hsN p (m + n) x = hsN p m (hsN p n x) := by
  induction n generalizing x with
  | zero => rfl
  | succ n ih => show hsN p (m + n) (hs p x) = _; rw [ih]; rfl
theorem Fld.fp_pow_xor (h : Fld p d) (n a b : Nat) : fp p (a ^^^ b) (2 ^ n) = fp p a (2 ^ n) ^^^ fp p b (2 ^ n) := by
  induction n with
  | zero => show fp p _ 1 = _ ^^^ _; unfold fp; rw [pw_one, pw_one, pw_one, pmod_xor_dist _ _ h.ne]
  | succ n ih =>
    have e : ∀ x, fp p x (2 ^ (n + 1)) = fm p (fp p x (2 ^ n)) (fp p x (2 ^ n)) := fun x => by
      rw [← h.fp_add, Nat.pow_succ]; congr 1; omega
    rw [e, e, e, ih, h.sq_add]
theorem Fld.hsN_double (h : Fld p d) {t : Nat} (ht : ∀ x, x < 2 ^ d → hsN p t x = fp p x (2 ^ t) ^^^ x) {x : Nat} (hx : x < 2 ^ d) : hsN p (t + t) x = fp p x (2 ^ (t + t)) ^^^ x := by
  have hl : fp p x (2 ^ t) ^^^ x < 2 ^ d := Nat.xor_lt_two_pow (h.fp_lt _ _) hx
  rw [hsN_add, ht x hx, ht _ hl, h.fp_pow_xor, ← h.fp_mul, ← Nat.pow_add]
  have : fp p x (2 ^ (t + t)) ^^^ fp p x (2 ^ t) ^^^ (fp p x (2 ^ t) ^^^ x) = fp p x (2 ^ (t + t)) ^^^ (fp p x (2 ^ t) ^^^ fp p x (2 ^ t)) ^^^ x := by ac_rfl
  rw [this, Nat.xor_self, Nat.xor_zero]
theorem Fld.hsN_one (h : Fld p d) {x : Nat} (_ : x < 2 ^ d) : hsN p 1 x = fp p x (2 ^ 1) ^^^ x := by
  show hs p x = fp p x 2 ^^^ x
  have := h.ne
  rw [fp_two]; rfl
end Gf2
end Go.Proofs.YtoofoamondepoaaDoor
