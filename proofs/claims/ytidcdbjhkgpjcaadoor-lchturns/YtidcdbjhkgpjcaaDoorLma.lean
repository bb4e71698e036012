import Derived.Test.YtidcdbjhkgpjcaaDoorGfp
namespace Go.Proofs.YtidcdbjhkgpjcaaDoor.Gf2
set_option linter.unusedVariables false

-- layer 13: the subspace polynomials, plain mathematics
/-- s_i at x. -/
def sv (i x : Nat) : Nat := we (wi x / 2 ^ i)
theorem sv_lt (i x : Nat) : sv i x < 65536 := we_lt _
theorem shr_xor (a b i : Nat) : (a ^^^ b) / 2 ^ i = a / 2 ^ i ^^^ b / 2 ^ i := by
  rw [← Nat.shiftRight_eq_div_pow, ← Nat.shiftRight_eq_div_pow, ← Nat.shiftRight_eq_div_pow, Nat.shiftRight_xor_distrib]
theorem sv_xor (i x y : Nat) : sv i (x ^^^ y) = sv i x ^^^ sv i y := by
  unfold sv; rw [wi_xor, shr_xor, we_xor]
theorem sv_zero {x : Nat} (hx : x < 65536) : sv 0 x = x := by
  unfold sv; rw [Nat.pow_zero, Nat.div_one, we_wi hx]
theorem sv_succ (i x : Nat) : sv (i + 1) x = fm 65581 (sv i x) (sv i x) ^^^ sv i x := by
  have h : wi x / 2 ^ i < 65536 := Nat.lt_of_le_of_lt (Nat.div_le_self _ _) (wi_lt x)
  have := hs_we h
  unfold hs at this
  unfold sv
  rw [this, Nat.pow_succ, Nat.div_div_eq_div_mul]
theorem sv_we {j : Nat} (hj : j < 65536) (i : Nat) : sv i (we j) = we (j / 2 ^ i) := by unfold sv; rw [wi_we hj]
theorem sv_16 (x : Nat) : sv 16 x = 0 := by
  unfold sv
  rw [Nat.div_eq_of_lt (wi_lt x)]
  exact lin_zero _
theorem sv_eq_zero {j : Nat} (hj : j < 65536) (i : Nat) : we (j / 2 ^ i) = 0 ↔ j < 2 ^ i := by
  rw [we_eq_zero (Nat.lt_of_le_of_lt (Nat.div_le_self _ _) hj), Nat.div_eq_zero_iff]
  have := Nat.two_pow_pos i
  omega

/-- the coefficient of s_i at x^(2^t). -/
def oc (t i : Nat) : Nat := if t &&& i = t then 1 else 0
theorem oc_row : ∀ i, i < 16 → ∀ t, t ≤ 17 → oc (t + 1) (i + 1) = oc t i ^^^ oc (t + 1) i := by decide +kernel
theorem oc_0 (i : Nat) : oc 0 i = 1 := by unfold oc; rw [Nat.zero_and, if_pos rfl]
theorem oc_00 : ∀ t, t ≤ 17 → oc (t + 1) 0 = 0 := by decide +kernel
theorem oc_top : ∀ i, i ≤ 16 → oc i i = 1 ∧ oc (i + 1) i = 0 := by decide +kernel
theorem oc_bit (t i : Nat) : oc t i = 0 ∨ oc t i = 1 := by unfold oc; split <;> simp
theorem oc_lt (t i : Nat) : oc t i < 65536 := by rcases oc_bit t i with h | h <;> omega
/-- x to the 2^t. -/
def qp : Nat → Nat → Nat
  | 0, x => x
  | t + 1, x => fm 65581 (qp t x) (qp t x)
theorem qp_lt (t : Nat) {x : Nat} (hx : x < 65536) : qp t x < 65536 := by
  cases t
  · exact hx
  · exact fld16.fm_lt _ _
/-- the sum of the first T terms. -/
def ls (i : Nat) : Nat → Nat → Nat
  | 0, _ => 0
  | T + 1, x => ls i T x ^^^ fm 65581 (oc T i) (qp T x)
theorem ls_lt (i T x : Nat) : ls i T x < 65536 := by
  induction T with
  | zero => exact Nat.zero_lt_succ _
  | succ T ih => exact Nat.xor_lt_two_pow (n := 16) ih (fld16.fm_lt _ _)
theorem zero_fm16 (y : Nat) : fm 65581 0 y = 0 := by unfold fm; rw [zero_mul]; exact fld16.small (Nat.two_pow_pos 16)
theorem fm_oc (t i y : Nat) (hy : y < 65536) : fm 65581 (oc t i) y = if oc t i = 1 then y else 0 := by
  rcases oc_bit t i with h | h <;> rw [h]
  · exact zero_fm16 y
  · exact fld16.one_fm hy
theorem sq_oc (t i y : Nat) (hy : y < 65536) : fm 65581 (fm 65581 (oc t i) y) (fm 65581 (oc t i) y) = fm 65581 (oc t i) (fm 65581 y y) := by
  rcases oc_bit t i with h | h <;> rw [h]
  · rw [zero_fm16, zero_fm16, zero_fm16]
  · rw [fld16.one_fm hy, fld16.one_fm (fld16.fm_lt _ _)]
theorem oc_xor_fm (a b t u i j y : Nat) (hy : y < 65536) (ha : a = oc t i) (hb : b = oc u j) : fm 65581 (a ^^^ b) y = fm 65581 a y ^^^ fm 65581 b y := by
  subst ha hb
  rcases oc_bit t i with h | h <;> rcases oc_bit u j with k | k <;> rw [h, k]
  · rw [Nat.xor_self, zero_fm16, Nat.xor_self]
  · rw [Nat.zero_xor, zero_fm16, Nat.zero_xor]
  · rw [Nat.xor_zero, zero_fm16, Nat.xor_zero]
  · rw [Nat.xor_self, zero_fm16, Nat.xor_self]
theorem ls_row (i : Nat) (hi : i < 16) (x : Nat) (hx : x < 65536) : ∀ T, T ≤ 17 → ls (i + 1) (T + 1) x = fm 65581 (ls i T x) (ls i T x) ^^^ ls i (T + 1) x := by
  intro T
  induction T with
  | zero =>
    intro _
    show 0 ^^^ fm 65581 (oc 0 (i + 1)) x = fm 65581 0 0 ^^^ (0 ^^^ fm 65581 (oc 0 i) x)
    rw [oc_0, oc_0, zero_fm16, Nat.zero_xor, Nat.zero_xor]
  | succ T ih =>
    intro hT
    have h1 := ih (by omega)
    have q := qp_lt T hx
    have q1 := qp_lt (T + 1) hx
    rw [show ls (i + 1) (T + 1 + 1) x = ls (i + 1) (T + 1) x ^^^ fm 65581 (oc (T + 1) (i + 1)) (qp (T + 1) x) from rfl, h1, oc_row i hi T (by omega), oc_xor_fm _ _ _ _ _ _ _ q1 rfl rfl,
      show ls i (T + 1 + 1) x = ls i (T + 1) x ^^^ fm 65581 (oc (T + 1) i) (qp (T + 1) x) from rfl]
    have h2 : fm 65581 (ls i (T + 1) x) (ls i (T + 1) x) = fm 65581 (ls i T x) (ls i T x) ^^^ fm 65581 (oc T i) (qp (T + 1) x) := by
      rw [show ls i (T + 1) x = ls i T x ^^^ fm 65581 (oc T i) (qp T x) from rfl, fld16.sq_add, sq_oc _ _ _ q]
      rfl
    rw [h2]
    generalize fm 65581 (ls i T x) (ls i T x) = A
    generalize ls i (T + 1) x = B
    generalize fm 65581 (oc T i) (qp (T + 1) x) = C
    generalize fm 65581 (oc (T + 1) i) (qp (T + 1) x) = D
    rw [Nat.xor_assoc, Nat.xor_assoc, ← Nat.xor_assoc B C D, ← Nat.xor_assoc C B D, Nat.xor_comm B C]
/-- the coefficients tell the value. -/
theorem ls_sv {x : Nat} (hx : x < 65536) : ∀ i, i ≤ 16 → ls i (i + 1) x = sv i x := by
  intro i
  induction i with
  | zero =>
    intro _
    rw [sv_zero hx]
    show 0 ^^^ fm 65581 (oc 0 0) x = x
    rw [oc_0, fld16.one_fm hx, Nat.zero_xor]
  | succ i ih =>
    intro hi
    have h1 := ih (by omega)
    rw [ls_row i (by omega) x hx (i + 1) (by omega), show ls i (i + 1 + 1) x = ls i (i + 1) x ^^^ fm 65581 (oc (i + 1) i) (qp (i + 1) x) from rfl, (oc_top i (by omega)).2, zero_fm16, Nat.xor_zero, h1, sv_succ]

/-- the product over the first n points. -/
def zv : Nat → Nat → Nat
  | 0, _ => 1
  | n + 1, x => fm 65581 (zv n x) (x ^^^ we n)
theorem zv_lt (n x : Nat) : zv n x < 65536 := by
  cases n
  · exact (by decide : 1 < 65536)
  · exact fld16.fm_lt _ _
theorem zv_add (t : Nat) (ht : t < 16) (x : Nat) : ∀ n, n ≤ 2 ^ t → zv (2 ^ t + n) x = fm 65581 (zv (2 ^ t) x) (zv n (x ^^^ cbn t)) := by
  intro n
  induction n with
  | zero => intro _; exact (fld16.fm_one (zv_lt _ _)).symm
  | succ n ih =>
    intro hn
    rw [show 2 ^ t + (n + 1) = (2 ^ t + n) + 1 by omega, show zv (2 ^ t + n + 1) x = fm 65581 (zv (2 ^ t + n) x) (x ^^^ we (2 ^ t + n)) from rfl, ih (by omega), we_add ht (by omega),
      show zv (n + 1) (x ^^^ cbn t) = fm 65581 (zv n (x ^^^ cbn t)) (x ^^^ cbn t ^^^ we n) from rfl, ← fld16.fm_assoc]
    congr 1
    rw [Nat.xor_assoc, Nat.xor_comm (we n)]
theorem zv_sv : ∀ i, i ≤ 16 → ∀ x, x < 65536 → zv (2 ^ i) x = sv i x := by
  intro i
  induction i with
  | zero =>
    intro _ x hx
    rw [sv_zero hx]
    show fm 65581 1 (x ^^^ we 0) = x
    rw [show we 0 = 0 by decide, Nat.xor_zero, fld16.one_fm hx]
  | succ i ih =>
    intro hi x hx
    have hc := cbn_lt i (by omega)
    rw [Nat.pow_succ, Nat.mul_two, zv_add i (by omega) x (2 ^ i) (Nat.le_refl _), ih (by omega) x hx, ih (by omega) _ (Nat.xor_lt_two_pow (n := 16) hx hc), sv_xor, ← we_pow i (by omega),
      sv_we (Nat.lt_of_le_of_lt (Nat.pow_le_pow_right (by decide) (show i ≤ 15 by omega)) (by decide)) i, Nat.div_self (Nat.two_pow_pos i), show we 1 = 1 by decide, fld16.fm_xor, fld16.fm_one (sv_lt _ _), sv_succ]
theorem zv_zero (n : Nat) (x : Nat) (h : zv n x = 0) : ∀ k, zv (n + k) x = 0 := by
  intro k
  induction k with
  | zero => exact h
  | succ k ih => show fm 65581 (zv (n + k) x) _ = 0; rw [ih]; exact zero_fm16 _
end Go.Proofs.YtidcdbjhkgpjcaaDoor.Gf2
