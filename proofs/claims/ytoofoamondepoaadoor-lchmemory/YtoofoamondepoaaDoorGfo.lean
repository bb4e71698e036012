import Derived.Test.YtoofoamondepoaaDoorGfn
namespace Go.Proofs.YtoofoamondepoaaDoor
namespace Gf2

/-- a sum over the bits that are set. -/
def lin : List Nat → Nat → Nat
  | [], _ => 0
  | c :: l, x => (if x % 2 = 1 then c else 0) ^^^ lin l (x / 2)
theorem half_xor (x y : Nat) : (x ^^^ y) / 2 = x / 2 ^^^ y / 2 := by
  apply Nat.eq_of_testBit_eq
  intro i
  rw [Nat.testBit_div_two, Nat.testBit_xor, Nat.testBit_xor, Nat.testBit_div_two, Nat.testBit_div_two]
theorem odd_xor (x y : Nat) : (x ^^^ y) % 2 = (x % 2 + y % 2) % 2 := by
  have h := Nat.testBit_xor x y 0
  simp only [Nat.testBit_zero] at h
  rcases Nat.mod_two_eq_zero_or_one x with e1 | e1 <;> rcases Nat.mod_two_eq_zero_or_one y with e2 | e2 <;> rcases Nat.mod_two_eq_zero_or_one (x ^^^ y) with e3 | e3 <;> simp_all
theorem lin_xor (l : List Nat) : ∀ x y, lin l (x ^^^ y) = lin l x ^^^ lin l y := by
  induction l with
  | nil => intros; simp [lin]
  | cons c l ih =>
    intro x y
    simp only [lin]
    rw [half_xor, ih]
    have e : (if (x ^^^ y) % 2 = 1 then c else 0) = (if x % 2 = 1 then c else 0) ^^^ (if y % 2 = 1 then c else 0) := by
      rw [odd_xor]
      rcases Nat.mod_two_eq_zero_or_one x with e1 | e1 <;> rcases Nat.mod_two_eq_zero_or_one y with e2 | e2 <;> simp [e1, e2]
    rw [e]
    ac_rfl
theorem lin_zero (l : List Nat) : lin l 0 = 0 := by
  induction l with
  | nil => rfl
  | cons c l ih => simp [lin, ih]
theorem lin_lt {n : Nat} (l : List Nat) : (∀ c ∈ l, c < 2 ^ n) → ∀ x, lin l x < 2 ^ n := by
  induction l with
  | nil => intro _ x; exact Nat.two_pow_pos n
  | cons c l ih =>
    intro h x
    refine Nat.xor_lt_two_pow ?_ (ih (fun c hc => h c (by simp [hc])) _)
    split
    · exact h c (by simp)
    · exact Nat.two_pow_pos n
/-- two maps that keep sums and agree at the powers of two are alike. -/
theorem lin_ext {f g : Nat → Nat} (hf : ∀ x y, f (x ^^^ y) = f x ^^^ f y) (hg : ∀ x y, g (x ^^^ y) = g x ^^^ g y) (n : Nat) (h : ∀ k, k < n → f (2 ^ k) = g (2 ^ k)) : ∀ x, x < 2 ^ n → f x = g x := by
  have z : ∀ {q : Nat → Nat}, (∀ x y, q (x ^^^ y) = q x ^^^ q y) → q 0 = 0 := fun {q} hq => by
    have := hq 0 0
    rwa [Nat.xor_self, Nat.xor_self] at this
  induction n with
  | zero => intro x hx; obtain rfl : x = 0 := by omega
            rw [z hf, z hg]
  | succ n ih =>
    intro x hx
    have ih' := ih (fun k hk => h k (by omega))
    by_cases hb : x < 2 ^ n
    · exact ih' x hb
    · have hl : len x = n + 1 := len_eq (by omega) hx
      have hs : len (x ^^^ 2 ^ n) < n + 1 := by
        have := len_xor_eq (a := x) (b := 2 ^ n) (by rw [hl, len_two_pow]) (by have := Nat.two_pow_pos n; omega)
        rwa [len_two_pow] at this
      have hx2 : x ^^^ 2 ^ n < 2 ^ n := len_le.1 (by omega)
      have e : x = (x ^^^ 2 ^ n) ^^^ 2 ^ n := by rw [Nat.xor_assoc, Nat.xor_self, Nat.xor_zero]
      rw [e, hf, hg, ih' _ hx2, h n (by omega)]

-- the field of 65536
theorem two_lt16 : 2 < 2 ^ 16 := by decide
theorem ord16' : IsOrd 2 65581 (2 ^ 16 - 1) := ord_16
/-- the Cantor basis. -/
def cb : List Nat := [1, 44234, 15374, 5694, 50562, 60718, 37196, 16402, 27800, 4312, 27250, 47360, 64952, 64308, 65336, 39198]
/-- the indices of the powers of two. -/
def ci : List Nat := [1, 18064, 26072, 25296, 22324, 17904, 21432, 7736, 31918, 20024, 26376, 49756, 31332, 40620, 4388, 21050]
/-- even roots of the powers of two (with bit 11 mended). -/
def cr : List Nat := [44234, 52186, 52184, 52720, 52188, 24622, 52728, 27678, 52172, 3636, 24590, 0, 52664, 30330, 27806, 36278]
/-- the element of an index; the index; a root. -/
def we (i : Nat) : Nat := lin cb i
def wi (a : Nat) : Nat := lin ci a
def rt16 (a : Nat) : Nat := lin cr a
theorem we_xor (i j : Nat) : we (i ^^^ j) = we i ^^^ we j := lin_xor cb i j
theorem wi_xor (i j : Nat) : wi (i ^^^ j) = wi i ^^^ wi j := lin_xor ci i j
theorem rt16_xor (i j : Nat) : rt16 (i ^^^ j) = rt16 i ^^^ rt16 j := lin_xor cr i j
theorem we_lt (i : Nat) : we i < 65536 := lin_lt (n := 16) cb (by decide) i
theorem wi_lt (i : Nat) : wi i < 65536 := lin_lt (n := 16) ci (by decide) i
theorem rt16_lt (i : Nat) : rt16 i < 65536 := lin_lt (n := 16) cr (by decide) i
theorem we_wi {a : Nat} (ha : a < 65536) : we (wi a) = a :=
  lin_ext (f := fun a => we (wi a)) (g := fun a => a) (fun x y => by simp only [wi_xor, we_xor]) (fun _ _ => rfl) 16 (by decide +kernel) a ha
theorem wi_we {i : Nat} (hi : i < 65536) : wi (we i) = i :=
  lin_ext (f := fun a => wi (we a)) (g := fun a => a) (fun x y => by simp only [wi_xor, we_xor]) (fun _ _ => rfl) 16 (by decide +kernel) i hi
theorem hs_we {i : Nat} (hi : i < 65536) : hs 65581 (we i) = we (i / 2) :=
  lin_ext (f := fun a => hs 65581 (we a)) (g := fun a => we (a / 2)) (fun x y => by simp only [we_xor, fld16.hs_xor]) (fun x y => by simp only [half_xor, we_xor]) 16 (by decide +kernel) i hi
/-- the trace, by two bits. -/
theorem tr16 {a : Nat} (ha : a < 65536) : tr 65581 16 a = lin [0, 0, 0, 0, 0, 0, 0, 0, 0, 0, 0, 1, 0, 1, 0, 0] a :=
  lin_ext (f := tr 65581 16) (g := lin [0, 0, 0, 0, 0, 0, 0, 0, 0, 0, 0, 1, 0, 1, 0, 0]) (fun x y => fld16.tr_xor x y) (lin_xor _) 16 (by decide +kernel) a ha
theorem hs_rt16 {a : Nat} (ha : a < 65536) : hs 65581 (rt16 a) = a ^^^ lin [0, 0, 0, 0, 0, 0, 0, 0, 0, 0, 0, 2048, 0, 2048, 0, 0] a :=
  lin_ext (f := fun a => hs 65581 (rt16 a)) (g := fun a => a ^^^ lin [0, 0, 0, 0, 0, 0, 0, 0, 0, 0, 0, 2048, 0, 2048, 0, 0] a) (fun x y => by simp only [rt16_xor, fld16.hs_xor]) (fun x y => by simp only [lin_xor]; ac_rfl) 16 (by decide +kernel) a ha
theorem rt16_even (a : Nat) : rt16 a % 2 = 0 := by
  have h : ∀ (l : List Nat), (∀ c ∈ l, c % 2 = 0) → ∀ x, lin l x % 2 = 0 := by
    intro l
    induction l with
    | nil => intro _ x; rfl
    | cons c l ih =>
      intro h x
      simp only [lin]
      rw [odd_xor, ih (fun c hc => h c (by simp [hc]))]
      split
      · rw [h c (by simp)]
      · rfl
  exact h cr (by decide) a
theorem root16 {a : Nat} (ha : a < 65536) (ht : tr 65581 16 a = 0) : hs 65581 (rt16 a) = a := by
  rw [hs_rt16 ha]
  rw [tr16 ha] at ht
  have : ∀ x, lin [0, 0, 0, 0, 0, 0, 0, 0, 0, 0, 0, 2048, 0, 2048, 0, 0] x = lin [0, 0, 0, 0, 0, 0, 0, 0, 0, 0, 0, 1, 0, 1, 0, 0] x * 2048 := by
    intro x
    simp only [lin, ite_self, Nat.zero_xor, Nat.xor_zero]
    split <;> split <;> rfl
  rw [this, ht, Nat.zero_mul, Nat.xor_zero]
/-- a root is told by the trace. -/
theorem root16_iff {a : Nat} (ha : a < 65536) : (∃ y, y < 65536 ∧ hs 65581 y = a) ↔ tr 65581 16 a = 0 := by
  constructor
  · rintro ⟨y, hy, rfl⟩; exact fld16.tr_hs hy
  · exact fun h => ⟨rt16 a, rt16_lt a, root16 ha h⟩
theorem root16_only {a y : Nat} (hy : y < 65536) (he : y % 2 = 0) (e : hs 65581 y = a) : y = rt16 a := by
  have ha : a < 65536 := by rw [← e]; exact fld16.hs_lt hy
  have ht : tr 65581 16 a = 0 := by rw [← e]; exact fld16.tr_hs hy
  exact fld16.hs_even hy (rt16_lt a) he (rt16_even a) (by rw [e, root16 ha ht])
-- subfields
theorem hsN_we (t : Nat) : ∀ {i : Nat}, i < 65536 → hsN 65581 t (we i) = we (i / 2 ^ t) := by
  induction t with
  | zero => intro i _; simp [hsN]
  | succ t ih =>
    intro i hi
    show hsN 65581 t (hs 65581 (we i)) = _
    rw [hs_we hi, ih (by omega), Nat.div_div_eq_div_mul, Nat.pow_succ, Nat.mul_comm 2]
theorem we_eq_zero {i : Nat} (hi : i < 65536) : we i = 0 ↔ i = 0 := by
  constructor
  · intro e
    have := wi_we hi
    rw [e] at this
    rw [← this]; exact lin_zero ci
  · rintro rfl; exact lin_zero cb
theorem hsN16 : (∀ x, x < 65536 → hsN 65581 1 x = fp 65581 x (2 ^ 1) ^^^ x) ∧ (∀ x, x < 65536 → hsN 65581 2 x = fp 65581 x (2 ^ 2) ^^^ x) ∧ (∀ x, x < 65536 → hsN 65581 4 x = fp 65581 x (2 ^ 4) ^^^ x) ∧ (∀ x, x < 65536 → hsN 65581 8 x = fp 65581 x (2 ^ 8) ^^^ x) := by
  have h1 : ∀ x, x < 2 ^ 16 → hsN 65581 1 x = fp 65581 x (2 ^ 1) ^^^ x := fun x hx => fld16.hsN_one hx
  have h2 : ∀ x, x < 2 ^ 16 → hsN 65581 2 x = fp 65581 x (2 ^ 2) ^^^ x := fun x hx => fld16.hsN_double h1 hx
  have h4 : ∀ x, x < 2 ^ 16 → hsN 65581 4 x = fp 65581 x (2 ^ 4) ^^^ x := fun x hx => fld16.hsN_double h2 hx
  have h8 : ∀ x, x < 2 ^ 16 → hsN 65581 8 x = fp 65581 x (2 ^ 8) ^^^ x := fun x hx => fld16.hsN_double h4 hx
  exact ⟨h1, h2, h4, h8⟩
/-- the index is below 2^t just where the power of 2^t leads back. -/
theorem sub_iff {t : Nat} (ht : t = 1 ∨ t = 2 ∨ t = 4 ∨ t = 8) {x : Nat} (hx : x < 65536) : wi x < 2 ^ t ↔ fp 65581 x (2 ^ t) = x := by
  have hN : hsN 65581 t x = fp 65581 x (2 ^ t) ^^^ x := by
    rcases ht with rfl | rfl | rfl | rfl
    · exact hsN16.1 x hx
    · exact hsN16.2.1 x hx
    · exact hsN16.2.2.1 x hx
    · exact hsN16.2.2.2 x hx
  have hw : hsN 65581 t x = we (wi x / 2 ^ t) := by
    have := hsN_we t (wi_lt x)
    rwa [we_wi hx] at this
  have h0 : wi x / 2 ^ t = 0 ↔ wi x < 2 ^ t := Nat.div_eq_zero_iff_lt (Nat.two_pow_pos t)
  have hl : wi x / 2 ^ t < 65536 := Nat.lt_of_le_of_lt (Nat.div_le_self _ _) (wi_lt x)
  rw [← h0, ← we_eq_zero hl, ← hw, hN]
  constructor
  · intro e; exact xor_eq_zero e
  · intro e; rw [e, Nat.xor_self]
theorem Fld.fp_fm {p d : Nat} (h : Fld p d) (a b n : Nat) : fp p (fm p a b) n = fm p (fp p a n) (fp p b n) := by
  unfold fp fm
  rw [pmod_pw _ _ h.ne, mul_pw, pmod_mul_both _ _ h.ne]
theorem sub_mul {t : Nat} (ht : t = 1 ∨ t = 2 ∨ t = 4 ∨ t = 8) {x y : Nat} (hx : x < 65536) (hy : y < 65536) (h1 : wi x < 2 ^ t) (h2 : wi y < 2 ^ t) : wi (fm 65581 x y) < 2 ^ t := by
  rw [sub_iff ht (fld16.fm_lt _ _), fld16.fp_fm, (sub_iff ht hx).1 h1, (sub_iff ht hy).1 h2]
theorem sub_inv {t : Nat} (ht : t = 1 ∨ t = 2 ∨ t = 4 ∨ t = 8) {x : Nat} (hx : x < 65536) (h0 : x ≠ 0) (h1 : wi x < 2 ^ t) : wi (fi 65581 x) < 2 ^ t := by
  have hl : fi 65581 x < 65536 := fld16.fi_lt hx h0
  rw [sub_iff ht hl, fld16.fi_fp hx h0, ← fld16.fp_mul, Nat.mul_comm, fld16.fp_mul, (sub_iff ht hx).1 h1]
end Gf2
end Go.Proofs.YtoofoamondepoaaDoor
