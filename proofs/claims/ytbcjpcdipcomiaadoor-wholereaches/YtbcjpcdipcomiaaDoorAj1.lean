import Derived.Test.YtbcjpcdipcomiaaDoorLea
namespace Go.Proofs.YtbcjpcdipcomiaaDoor
open Go.RowKit Gf2
set_option linter.unusedVariables false

-- layer 14: the additive transform, plain mathematics
theorem fm_xor_left (a b c : Nat) : fm 65581 (a ^^^ b) c = fm 65581 a c ^^^ fm 65581 b c := by
  rw [fm_comm, fld16.fm_xor, fm_comm _ c a, fm_comm _ c b]
theorem four_xor (a b c d : Nat) : (a ^^^ b) ^^^ (c ^^^ d) = (a ^^^ c) ^^^ (b ^^^ d) := by
  apply Nat.eq_of_testBit_eq
  intro i
  simp only [Nat.testBit_xor]
  cases a.testBit i <;> cases b.testBit i <;> cases c.testBit i <;> cases d.testBit i <;> rfl
theorem sxx_xor (x : Nat) (F G : Nat → Nat) : ∀ n, sxx x (fun j => F j ^^^ G j) n = sxx x F n ^^^ sxx x G n := by
  intro n
  induction n with
  | zero => exact (Nat.xor_self 0).symm
  | succ n ih => rw [sxx, ih, sxx, sxx, fm_xor_left, four_xor]
theorem sxx_mul (x S : Nat) (F : Nat → Nat) : ∀ n, sxx x (fun j => fm 65581 S (F j)) n = fm 65581 S (sxx x F n) := by
  intro n
  induction n with
  | zero => exact (fld16.fm_zero S).symm
  | succ n ih => rw [sxx, ih, sxx, fld16.fm_xor, fld16.fm_assoc]

/-- a block's pairs, turned forward. -/
def bf (o t S : Nat) (F : Nat → Nat) (x : Nat) : Nat :=
  if x < o + 2 ^ t then F x ^^^ fm 65581 S (F (x + 2 ^ t)) else F x ^^^ (F (x - 2 ^ t) ^^^ fm 65581 S (F x))
theorem bf_low {t : Nat} (ht : t < 16) (o S x : Nat) (F : Nat → Nat) (h : sv t x = S) :
    sxx x (fun y => F (o + y)) (2 * 2 ^ t) = sxx x (fun y => bf o t S F (o + y)) (2 ^ t) := by
  rw [show 2 * 2 ^ t = 2 ^ t + 2 ^ t by omega, sxx_split ht x _ _ (Nat.le_refl _), h, ← sxx_mul, ← sxx_xor]
  refine sxx_congr (fun j hj => ?_)
  show _ = bf o t S F (o + j)
  unfold bf
  rw [if_pos (by omega), show o + j + 2 ^ t = o + (2 ^ t + j) by omega]
theorem bf_high {t : Nat} (ht : t < 16) (o S x : Nat) (F : Nat → Nat) (h : sv t x = S ^^^ 1) :
    sxx x (fun y => F (o + y)) (2 * 2 ^ t) = sxx x (fun y => bf o t S F (o + (2 ^ t + y))) (2 ^ t) := by
  rw [show 2 * 2 ^ t = 2 ^ t + 2 ^ t by omega, sxx_split ht x _ _ (Nat.le_refl _), h, fm_xor_left, fld16.one_fm (sxx_lt _ _ _), ← sxx_mul, ← Nat.xor_assoc, ← sxx_xor, ← sxx_xor]
  refine sxx_congr (fun j hj => ?_)
  show _ = bf o t S F (o + (2 ^ t + j))
  unfold bf
  rw [if_neg (by omega), show o + (2 ^ t + j) - 2 ^ t = o + j by omega, Nat.xor_comm]

/-- a round forward: every block of 2^(t+1) is turned. -/
def rd (sh t : Nat) (F : Nat → Nat) (x : Nat) : Nat :=
  bf (x / (2 * 2 ^ t) * (2 * 2 ^ t)) t (sv t (we (sh + x / (2 * 2 ^ t) * (2 * 2 ^ t)))) F x
theorem rd_at {sh t b y : Nat} (hy : y < 2 * 2 ^ t) (F : Nat → Nat) : rd sh t F (b * (2 * 2 ^ t) + y) = bf (b * (2 * 2 ^ t)) t (sv t (we (sh + b * (2 * 2 ^ t)))) F (b * (2 * 2 ^ t) + y) := by
  unfold rd
  have e : (b * (2 * 2 ^ t) + y) / (2 * 2 ^ t) = b := by
    rw [Nat.mul_comm b, Nat.mul_add_div (by have := Nat.two_pow_pos t; omega), Nat.div_eq_of_lt hy, Nat.add_zero]
  rw [e]
/-- the first c rounds of k. -/
def fw (sh k : Nat) (F : Nat → Nat) : Nat → Nat → Nat
  | 0 => F
  | c + 1 => rd sh (k - c - 1) (fw sh k F c)
theorem even_xor (n : Nat) : 2 * n ^^^ 1 = 2 * n + 1 := by
  have h1 := shr_xor (2 * n) 1 1
  have h2 := Nat.xor_mod_two_pow (a := 2 * n) (b := 1) (n := 1)
  rw [Nat.pow_one] at h1 h2
  rw [show 2 * n / 2 = n by omega, show 1 / 2 = 0 from rfl, Nat.xor_zero] at h1
  rw [show 2 * n % 2 = 0 by omega, show 1 % 2 = 1 from rfl, Nat.zero_xor] at h2
  omega
theorem fw_values {sh k : Nat} (hk : k ≤ 16) (hm : 2 ^ k ∣ sh) (hs : sh + 2 ^ k ≤ 65536) (F : Nat → Nat) : ∀ c, c ≤ k → ∀ b, b < 2 ^ c → ∀ z, z / 2 ^ (k - c) = sh / 2 ^ (k - c) + b → z < 65536 →
    sxx (we z) F (2 ^ k) = sxx (we z) (fun y => fw sh k F c (b * 2 ^ (k - c) + y)) (2 ^ (k - c)) := by
  intro c
  induction c with
  | zero =>
    intro _ b hb z _ _
    have : b = 0 := by omega
    subst this
    refine sxx_congr (fun j _ => ?_)
    show F j = F _
    congr 1
    omega
  | succ c ih =>
    intro hc b hb z hz lz
    obtain ⟨t, et⟩ : ∃ t, k - c = t + 1 := ⟨k - c - 1, by omega⟩
    have et2 : k - (c + 1) = t := by omega
    rw [et2] at hz ⊢
    have ht : t < 16 := by omega
    have e2 : 2 ^ (t + 1) = 2 * 2 ^ t := by rw [Nat.pow_succ]; omega
    obtain ⟨m, em⟩ : ∃ m, sh = 2 * 2 ^ t * m := by
      obtain ⟨q, hq⟩ := hm
      refine ⟨2 ^ (k - (t + 1)) * q, ?_⟩
      rw [hq, ← Nat.mul_assoc, ← e2, ← Nat.pow_add, show t + 1 + (k - (t + 1)) = k by omega]
    have p0 := Nat.two_pow_pos t
    have d1 : sh / 2 ^ t = 2 * m := by rw [em, Nat.mul_comm 2, Nat.mul_assoc, Nat.mul_div_cancel_left _ p0]
    have d2 : sh / (2 * 2 ^ t) = m := by rw [em, Nat.mul_div_cancel_left _ (by omega)]
    have i := ih (by omega) (b / 2) (by rw [Nat.pow_succ] at hb; omega) z
    rw [et, e2] at i
    have i := i (by rw [d2, Nat.mul_comm 2, ← Nat.div_div_eq_div_mul, hz, d1]; omega) lz
    rw [i]
    have lS : sh + b / 2 * (2 * 2 ^ t) < 65536 := by
      have h1 : b / 2 + 1 ≤ 2 ^ c := by rw [Nat.pow_succ] at hb; omega
      have h2 : (b / 2 + 1) * (2 * 2 ^ t) ≤ 2 ^ c * (2 * 2 ^ t) := Nat.mul_le_mul_right _ h1
      rw [← e2, ← Nat.pow_add, show c + (t + 1) = k by omega, e2, Nat.add_mul] at h2
      omega
    have vS : sv t (we (sh + b / 2 * (2 * 2 ^ t))) = we (2 * (m + b / 2)) := by
      rw [sv_we lS, em, show 2 * 2 ^ t * m + b / 2 * (2 * 2 ^ t) = 2 ^ t * (2 * (m + b / 2)) by rw [Nat.mul_comm (b / 2), ← Nat.mul_add, Nat.mul_comm 2, Nat.mul_assoc], Nat.mul_div_cancel_left _ p0]
    have vz : sv t (we z) = we (2 * m + b) := by rw [sv_we lz, hz, d1]
    rcases Nat.mod_two_eq_zero_or_one b with hb2 | hb2
    · rw [bf_low ht _ (sv t (we (sh + b / 2 * (2 * 2 ^ t)))) (we z) _ (by rw [vz, vS]; congr 1; omega)]
      refine sxx_congr (fun j hj => ?_)
      show _ = fw sh k F (c + 1) _
      rw [fw, show k - c - 1 = t by omega, show b * 2 ^ t + j = b / 2 * (2 * 2 ^ t) + j by
        rw [← Nat.mul_assoc, show b / 2 * 2 = b by omega], rd_at (by omega)]
    · rw [bf_high ht _ (sv t (we (sh + b / 2 * (2 * 2 ^ t)))) (we z) _ (by
        rw [vz, vS, show 2 * m + b = 2 * (m + b / 2) + 1 by omega, ← even_xor, we_xor]; congr 1)]
      refine sxx_congr (fun j hj => ?_)
      show _ = fw sh k F (c + 1) _
      rw [fw, show k - c - 1 = t by omega, show b * 2 ^ t + j = b / 2 * (2 * 2 ^ t) + (2 ^ t + j) by
        have : b * 2 ^ t = (b / 2 * 2 + 1) * 2 ^ t := by rw [show b / 2 * 2 + 1 = b by omega]
        rw [this, Nat.add_mul, Nat.mul_assoc]; omega, rd_at (by omega)]
/-- Forward: behind k rounds place i holds the value at w(sh + i). -/
theorem fw_all {sh k : Nat} (hk : k ≤ 16) (hm : 2 ^ k ∣ sh) (hs : sh + 2 ^ k ≤ 65536) (F : Nat → Nat) {i : Nat} (hi : i < 2 ^ k) (hl : fw sh k F k i < 65536) :
    fw sh k F k i = sxx (we (sh + i)) F (2 ^ k) := by
  have h := fw_values hk hm hs F k (Nat.le_refl _) i hi (sh + i)
  rw [Nat.sub_self, Nat.pow_zero, Nat.div_one, Nat.div_one, Nat.mul_one] at h
  rw [h rfl (by omega)]
  show _ = 0 ^^^ fm 65581 (fw sh k F k (i + 0)) (xx _ 0)
  rw [xx_0, Nat.zero_xor, Nat.add_zero, fld16.fm_one hl]
end Go.Proofs.YtbcjpcdipcomiaaDoor
namespace Go.Proofs.YtbcjpcdipcomiaaDoor
open Go.RowKit Gf2
set_option linter.unusedVariables false

-- layer 14: the way back, plain mathematics
theorem blk_low {B x : Nat} (h : x < x / (2 * B) * (2 * B) + B) : (x + B) / (2 * B) = x / (2 * B) := by
  refine Nat.div_eq_of_lt_le ?_ ?_
  · exact Nat.le_trans (Nat.div_mul_le_self _ _) (Nat.le_add_right _ _)
  · rw [Nat.add_mul, Nat.one_mul]; omega
theorem blk_high {B x : Nat} (hB : 0 < B) (h : ¬ x < x / (2 * B) * (2 * B) + B) : (x - B) / (2 * B) = x / (2 * B) := by
  have h1 := Nat.lt_div_mul_add (a := x) (b := 2 * B) (by omega)
  refine Nat.div_eq_of_lt_le (by omega) ?_
  rw [Nat.add_mul, Nat.one_mul]; omega
/-- a block's pairs, turned back. -/
def bi (o t S : Nat) (F : Nat → Nat) (x : Nat) : Nat :=
  if x < o + 2 ^ t then F x ^^^ fm 65581 S (F (x + 2 ^ t) ^^^ F x) else F x ^^^ F (x - 2 ^ t)
def ri (sh t : Nat) (F : Nat → Nat) (x : Nat) : Nat :=
  bi (x / (2 * 2 ^ t) * (2 * 2 ^ t)) t (sv t (we (sh + x / (2 * 2 ^ t) * (2 * 2 ^ t)))) F x
theorem ri_low {sh t x : Nat} (F : Nat → Nat) (h : x < x / (2 * 2 ^ t) * (2 * 2 ^ t) + 2 ^ t) : ri sh t F x = F x ^^^ fm 65581 (sv t (we (sh + x / (2 * 2 ^ t) * (2 * 2 ^ t)))) (F (x + 2 ^ t) ^^^ F x) := by
  unfold ri bi; rw [if_pos h]
theorem ri_high {sh t x : Nat} (F : Nat → Nat) (h : ¬ x < x / (2 * 2 ^ t) * (2 * 2 ^ t) + 2 ^ t) : ri sh t F x = F x ^^^ F (x - 2 ^ t) := by
  unfold ri bi; rw [if_neg h]
theorem rd_low {sh t x : Nat} (F : Nat → Nat) (h : x < x / (2 * 2 ^ t) * (2 * 2 ^ t) + 2 ^ t) : rd sh t F x = F x ^^^ fm 65581 (sv t (we (sh + x / (2 * 2 ^ t) * (2 * 2 ^ t)))) (F (x + 2 ^ t)) := by
  unfold rd bf; rw [if_pos h]
theorem rd_high {sh t x : Nat} (F : Nat → Nat) (h : ¬ x < x / (2 * 2 ^ t) * (2 * 2 ^ t) + 2 ^ t) : rd sh t F x = F x ^^^ (F (x - 2 ^ t) ^^^ fm 65581 (sv t (we (sh + x / (2 * 2 ^ t) * (2 * 2 ^ t)))) (F x)) := by
  unfold rd bf; rw [if_neg h]
theorem xor_back (a b : Nat) : (a ^^^ b) ^^^ b = a := by rw [Nat.xor_assoc, Nat.xor_self, Nat.xor_zero]
/-- what lies at the partner of a low place. -/
theorem low_mate {t x : Nat} (h : x < x / (2 * 2 ^ t) * (2 * 2 ^ t) + 2 ^ t) : ¬ x + 2 ^ t < (x + 2 ^ t) / (2 * 2 ^ t) * (2 * 2 ^ t) + 2 ^ t := by
  rw [blk_low h]
  have := Nat.div_mul_le_self x (2 * 2 ^ t)
  omega
theorem high_mate {t x : Nat} (h : ¬ x < x / (2 * 2 ^ t) * (2 * 2 ^ t) + 2 ^ t) : x - 2 ^ t < (x - 2 ^ t) / (2 * 2 ^ t) * (2 * 2 ^ t) + 2 ^ t := by
  have h1 := Nat.lt_div_mul_add (a := x) (b := 2 * 2 ^ t) (by have := Nat.two_pow_pos t; omega)
  rw [blk_high (Nat.two_pow_pos t) h]
  omega
theorem rd_ri (sh t : Nat) (F : Nat → Nat) : rd sh t (ri sh t F) = F := by
  funext x
  by_cases h : x < x / (2 * 2 ^ t) * (2 * 2 ^ t) + 2 ^ t
  · rw [rd_low _ h, ri_low _ h, ri_high _ (low_mate h), Nat.add_sub_cancel, xor_back]
  · have hx : x - 2 ^ t + 2 ^ t = x := by omega
    rw [rd_high _ h, ri_high _ h, ri_low _ (high_mate h), blk_high (Nat.two_pow_pos t) h, hx, xor_back, xor_back]
theorem ri_rd (sh t : Nat) (F : Nat → Nat) : ri sh t (rd sh t F) = F := by
  funext x
  by_cases h : x < x / (2 * 2 ^ t) * (2 * 2 ^ t) + 2 ^ t
  · rw [ri_low _ h, rd_low _ h, rd_high _ (low_mate h), Nat.add_sub_cancel, blk_low h, xor_back, xor_back]
  · have hx : x - 2 ^ t + 2 ^ t = x := by omega
    rw [ri_high _ h, rd_high _ h, rd_low _ (high_mate h), blk_high (Nat.two_pow_pos t) h, hx, xor_back]
/-- the first c rounds back. -/
def iw (sh : Nat) (F : Nat → Nat) : Nat → Nat → Nat
  | 0 => F
  | c + 1 => ri sh c (iw sh F c)
theorem fw_iw_at (sh k : Nat) (F : Nat → Nat) : ∀ c, c ≤ k → fw sh k (iw sh F k) c = iw sh F (k - c) := by
  intro c
  induction c with
  | zero => intro _; rfl
  | succ c ih =>
    intro hc
    obtain ⟨m, em⟩ : ∃ m, k - c = m + 1 := ⟨k - c - 1, by omega⟩
    rw [fw, ih (by omega), em, iw, show m + 1 - 1 = m from rfl, rd_ri, show k - (c + 1) = m by omega]
theorem fw_iw (sh k : Nat) (F : Nat → Nat) : fw sh k (iw sh F k) k = F := by
  rw [fw_iw_at sh k F k (Nat.le_refl _), Nat.sub_self]; rfl
theorem iw_fw_at (sh k : Nat) (F : Nat → Nat) : ∀ c, c ≤ k → iw sh (fw sh k F k) c = fw sh k F (k - c) := by
  intro c
  induction c with
  | zero => intro _; rfl
  | succ c ih =>
    intro hc
    obtain ⟨m, em⟩ : ∃ m, k - c = m + 1 := ⟨k - c - 1, by omega⟩
    rw [iw, ih (by omega), em, fw, show k - m - 1 = c by omega, ri_rd, show k - (c + 1) = m by omega]
theorem iw_fw (sh k : Nat) (F : Nat → Nat) : iw sh (fw sh k F k) k = F := by
  rw [iw_fw_at sh k F k (Nat.le_refl _), Nat.sub_self]; rfl

-- nothing at 2^k or behind is looked at
theorem mate_in {t k x : Nat} (ht : t < k) (hx : x < 2 ^ k) (h : x < x / (2 * 2 ^ t) * (2 * 2 ^ t) + 2 ^ t) : x + 2 ^ t < 2 ^ k := by
  have e : 2 ^ k = 2 ^ (k - (t + 1)) * (2 * 2 ^ t) := by
    rw [show 2 * 2 ^ t = 2 ^ (t + 1) by rw [Nat.pow_succ]; omega, ← Nat.pow_add, show k - (t + 1) + (t + 1) = k by omega]
  have h1 : x / (2 * 2 ^ t) < 2 ^ (k - (t + 1)) := by
    rw [Nat.div_lt_iff_lt_mul (by have := Nat.two_pow_pos t; omega), ← e]; exact hx
  have h2 := Nat.mul_le_mul_right (2 * 2 ^ t) (show x / (2 * 2 ^ t) + 1 ≤ _ from h1)
  rw [← e, Nat.add_mul, Nat.one_mul] at h2
  omega
theorem rd_congr {sh t k : Nat} (ht : t < k) {F G : Nat → Nat} (h : ∀ x, x < 2 ^ k → F x = G x) {x : Nat} (hx : x < 2 ^ k) : rd sh t F x = rd sh t G x := by
  by_cases c : x < x / (2 * 2 ^ t) * (2 * 2 ^ t) + 2 ^ t
  · rw [rd_low _ c, rd_low _ c, h x hx, h _ (mate_in ht hx c)]
  · rw [rd_high _ c, rd_high _ c, h x hx, h _ (Nat.lt_of_le_of_lt (Nat.sub_le _ _) hx)]
theorem ri_congr {sh t k : Nat} (ht : t < k) {F G : Nat → Nat} (h : ∀ x, x < 2 ^ k → F x = G x) {x : Nat} (hx : x < 2 ^ k) : ri sh t F x = ri sh t G x := by
  by_cases c : x < x / (2 * 2 ^ t) * (2 * 2 ^ t) + 2 ^ t
  · rw [ri_low _ c, ri_low _ c, h x hx, h _ (mate_in ht hx c)]
  · rw [ri_high _ c, ri_high _ c, h x hx, h _ (Nat.lt_of_le_of_lt (Nat.sub_le _ _) hx)]
theorem rd_lt {sh t k : Nat} (ht : t < k) {F : Nat → Nat} (h : ∀ x, x < 2 ^ k → F x < 65536) {x : Nat} (hx : x < 2 ^ k) : rd sh t F x < 65536 := by
  by_cases c : x < x / (2 * 2 ^ t) * (2 * 2 ^ t) + 2 ^ t
  · rw [rd_low _ c]; exact Nat.xor_lt_two_pow (n := 16) (h x hx) (fm16_lt _ _)
  · rw [rd_high _ c]; exact Nat.xor_lt_two_pow (n := 16) (h x hx) (Nat.xor_lt_two_pow (n := 16) (h _ (Nat.lt_of_le_of_lt (Nat.sub_le _ _) hx)) (fm16_lt _ _))
theorem ri_lt {sh t k : Nat} (ht : t < k) {F : Nat → Nat} (h : ∀ x, x < 2 ^ k → F x < 65536) {x : Nat} (hx : x < 2 ^ k) : ri sh t F x < 65536 := by
  by_cases c : x < x / (2 * 2 ^ t) * (2 * 2 ^ t) + 2 ^ t
  · rw [ri_low _ c]; exact Nat.xor_lt_two_pow (n := 16) (h x hx) (fm16_lt _ _)
  · rw [ri_high _ c]; exact Nat.xor_lt_two_pow (n := 16) (h x hx) (h _ (Nat.lt_of_le_of_lt (Nat.sub_le _ _) hx))
theorem fw_congr {sh k : Nat} {F G : Nat → Nat} (h : ∀ x, x < 2 ^ k → F x = G x) : ∀ c, c ≤ k → ∀ x, x < 2 ^ k → fw sh k F c x = fw sh k G c x := by
  intro c
  induction c with
  | zero => intro _ x hx; exact h x hx
  | succ c ih => intro hc x hx; exact rd_congr (by omega) (ih (by omega)) hx
theorem fw_lt {sh k : Nat} {F : Nat → Nat} (h : ∀ x, x < 2 ^ k → F x < 65536) : ∀ c, c ≤ k → ∀ x, x < 2 ^ k → fw sh k F c x < 65536 := by
  intro c
  induction c with
  | zero => intro _ x hx; exact h x hx
  | succ c ih => intro hc x hx; exact rd_lt (by omega) (ih (by omega)) hx
theorem iw_congr {sh k : Nat} {F G : Nat → Nat} (h : ∀ x, x < 2 ^ k → F x = G x) : ∀ c, c ≤ k → ∀ x, x < 2 ^ k → iw sh F c x = iw sh G c x := by
  intro c
  induction c with
  | zero => intro _ x hx; exact h x hx
  | succ c ih => intro hc x hx; exact ri_congr (by omega) (ih (by omega)) hx
theorem iw_lt {sh k : Nat} {F : Nat → Nat} (h : ∀ x, x < 2 ^ k → F x < 65536) : ∀ c, c ≤ k → ∀ x, x < 2 ^ k → iw sh F c x < 65536 := by
  intro c
  induction c with
  | zero => intro _ x hx; exact h x hx
  | succ c ih => intro hc x hx; exact ri_lt (by omega) (ih (by omega)) hx
/-- Forward: the values. -/
theorem fw_val {sh k : Nat} (hk : k ≤ 16) (hm : 2 ^ k ∣ sh) (hs : sh + 2 ^ k ≤ 65536) {F : Nat → Nat} (h : ∀ x, x < 2 ^ k → F x < 65536) {i : Nat} (hi : i < 2 ^ k) :
    fw sh k F k i = sxx (we (sh + i)) F (2 ^ k) := fw_all hk hm hs F hi (fw_lt h k (Nat.le_refl _) i hi)
/-- Inverse: its polynomial has the values. -/
theorem iw_val {sh k : Nat} (hk : k ≤ 16) (hm : 2 ^ k ∣ sh) (hs : sh + 2 ^ k ≤ 65536) {V : Nat → Nat} (h : ∀ x, x < 2 ^ k → V x < 65536) {i : Nat} (hi : i < 2 ^ k) :
    sxx (we (sh + i)) (iw sh V k) (2 ^ k) = V i := by
  rw [← fw_val hk hm hs (iw_lt h k (Nat.le_refl _)) hi, fw_iw]
/-- Inverse: there is no other. -/
theorem iw_only {sh k : Nat} (hk : k ≤ 16) (hm : 2 ^ k ∣ sh) (hs : sh + 2 ^ k ≤ 65536) {V G : Nat → Nat} (h : ∀ x, x < 2 ^ k → G x < 65536)
    (hv : ∀ i, i < 2 ^ k → sxx (we (sh + i)) G (2 ^ k) = V i) {i : Nat} (hi : i < 2 ^ k) : G i = iw sh V k i := by
  have e := iw_congr (sh := sh) (k := k) (F := fw sh k G k) (G := V) (fun x hx => by rw [fw_val hk hm hs h hx, hv x hx]) k (Nat.le_refl _) i hi
  rw [iw_fw] at e
  exact e
end Go.Proofs.YtbcjpcdipcomiaaDoor
namespace Go.Proofs.YtbcjpcdipcomiaaDoor
open Go.RowKit Gf2
set_option linter.unusedVariables false

-- layer 14: the reference's way, by halves
/-- values, by halves. -/
def vl : Nat → (Nat → Nat) → Nat → Nat → Nat
  | 0, F, _, i => F i
  | t + 1, F, a, i => if i < 2 ^ t then vl t (bf 0 t (we (a / 2 ^ t)) F) a i else vl t (fun y => bf 0 t (we (a / 2 ^ t)) F (2 ^ t + y)) (a + 2 ^ t) (i - 2 ^ t)
theorem bf0_lt {t S : Nat} {F : Nat → Nat} (h : ∀ x, x < 2 ^ (t + 1) → F x < 65536) {x : Nat} (hx : x < 2 ^ (t + 1)) : bf 0 t S F x < 65536 := by
  unfold bf
  split
  · exact Nat.xor_lt_two_pow (n := 16) (h x hx) (fm16_lt _ _)
  · exact Nat.xor_lt_two_pow (n := 16) (h x hx) (Nat.xor_lt_two_pow (n := 16) (h _ (Nat.lt_of_le_of_lt (Nat.sub_le _ _) hx)) (fm16_lt _ _))
/-- s_t on the two halves of a coset. -/
theorem half_low {t a i : Nat} (hm : 2 ^ (t + 1) ∣ a) (hi : i < 2 ^ t) (hs : a + 2 ^ (t + 1) ≤ 65536) : sv t (we (a + i)) = we (a / 2 ^ t) := by
  have e : 2 ^ (t + 1) = 2 * 2 ^ t := by rw [Nat.pow_succ]; omega
  rw [sv_we (by omega)]
  obtain ⟨q, rfl⟩ := hm
  rw [e, Nat.mul_comm 2, Nat.mul_assoc, Nat.mul_add_div (Nat.two_pow_pos t), Nat.div_eq_of_lt hi, Nat.mul_div_cancel_left _ (Nat.two_pow_pos t), Nat.add_zero]
theorem half_high {t a i : Nat} (hm : 2 ^ (t + 1) ∣ a) (hi : i < 2 ^ t) (hs : a + 2 ^ (t + 1) ≤ 65536) : sv t (we (a + (2 ^ t + i))) = we (a / 2 ^ t) ^^^ 1 := by
  have e : 2 ^ (t + 1) = 2 * 2 ^ t := by rw [Nat.pow_succ]; omega
  rw [sv_we (by omega)]
  obtain ⟨q, rfl⟩ := hm
  rw [e, Nat.mul_comm 2, Nat.mul_assoc, Nat.mul_add_div (Nat.two_pow_pos t), Nat.mul_div_cancel_left _ (Nat.two_pow_pos t), Nat.add_div_left _ (Nat.two_pow_pos t), Nat.div_eq_of_lt hi, ← even_xor, we_xor]
  congr 1
theorem half_dvd {t a : Nat} (hm : 2 ^ (t + 1) ∣ a) : 2 ^ t ∣ a := Nat.dvd_trans ⟨2, Nat.pow_succ ..⟩ hm
theorem vl_val : ∀ k, k ≤ 16 → ∀ (F : Nat → Nat) (a : Nat), 2 ^ k ∣ a → a + 2 ^ k ≤ 65536 → (∀ x, x < 2 ^ k → F x < 65536) → ∀ i, i < 2 ^ k → vl k F a i = sxx (we (a + i)) F (2 ^ k) := by
  intro k
  induction k with
  | zero =>
    intro _ F a _ _ hF i hi
    have : i = 0 := by simpa using hi
    subst this
    show F 0 = 0 ^^^ fm 65581 (F 0) (xx _ 0)
    rw [xx_0, Nat.zero_xor, fld16.fm_one (hF 0 (by decide))]
  | succ t ih =>
    intro hk F a hm hs hF i hi
    have e : 2 ^ (t + 1) = 2 * 2 ^ t := by rw [Nat.pow_succ]; omega
    have p0 := Nat.two_pow_pos t
    rw [vl]
    by_cases c : i < 2 ^ t
    · rw [if_pos c, ih (by omega) _ a (half_dvd hm) (by omega) (fun x hx => bf0_lt hF (by omega)) i c, e]
      have h := bf_low (t := t) (by omega) 0 _ _ F (half_low hm c hs)
      simp only [Nat.zero_add] at h
      exact h.symm
    · obtain ⟨j, rfl⟩ : ∃ j, i = 2 ^ t + j := ⟨i - 2 ^ t, by omega⟩
      rw [if_neg c, Nat.add_sub_cancel_left, ih (by omega) _ (a + 2 ^ t) (Nat.dvd_add (half_dvd hm) (Nat.dvd_refl _)) (by omega) (fun x hx => bf0_lt hF (by omega)) j (by omega), e]
      have h := bf_high (t := t) (by omega) 0 _ _ F (half_high hm (i := j) (by omega) hs)
      simp only [Nat.zero_add] at h
      rw [h, Nat.add_assoc]
/-- coefficients, by halves. -/
def cl : Nat → (Nat → Nat) → Nat → Nat → Nat
  | 0, V, _, i => V i
  | t + 1, V, a, i => if i < 2 ^ t then cl t V a i ^^^ fm 65581 (we (a / 2 ^ t)) (cl t V a i ^^^ cl t (fun y => V (2 ^ t + y)) (a + 2 ^ t) i)
      else cl t V a (i - 2 ^ t) ^^^ cl t (fun y => V (2 ^ t + y)) (a + 2 ^ t) (i - 2 ^ t)
theorem cl_lt : ∀ k (V : Nat → Nat) (a : Nat), (∀ x, x < 2 ^ k → V x < 65536) → ∀ i, i < 2 ^ k → cl k V a i < 65536 := by
  intro k
  induction k with
  | zero => intro V a h i hi; exact h i hi
  | succ t ih =>
    intro V a h i hi
    have e : 2 ^ (t + 1) = 2 * 2 ^ t := by rw [Nat.pow_succ]; omega
    rw [cl]
    split
    · exact Nat.xor_lt_two_pow (n := 16) (ih V a (fun x hx => h x (by omega)) i (by omega)) (fm16_lt _ _)
    · exact Nat.xor_lt_two_pow (n := 16) (ih V a (fun x hx => h x (by omega)) _ (by omega)) (ih _ _ (fun x hx => h _ (by omega)) _ (by omega))
theorem cl_val : ∀ k, k ≤ 16 → ∀ (V : Nat → Nat) (a : Nat), 2 ^ k ∣ a → a + 2 ^ k ≤ 65536 → (∀ x, x < 2 ^ k → V x < 65536) → ∀ i, i < 2 ^ k → sxx (we (a + i)) (cl k V a) (2 ^ k) = V i := by
  intro k
  induction k with
  | zero =>
    intro _ V a _ _ hV i hi
    have : i = 0 := by simpa using hi
    subst this
    show 0 ^^^ fm 65581 (V 0) (xx _ 0) = V 0
    rw [xx_0, Nat.zero_xor, fld16.fm_one (hV 0 (by decide))]
  | succ t ih =>
    intro hk V a hm hs hV i hi
    have e : 2 ^ (t + 1) = 2 * 2 ^ t := by rw [Nat.pow_succ]; omega
    have p0 := Nat.two_pow_pos t
    have lo : ∀ y, y < 2 ^ t → cl (t + 1) V a y = cl t V a y ^^^ fm 65581 (we (a / 2 ^ t)) (cl t V a y ^^^ cl t (fun y => V (2 ^ t + y)) (a + 2 ^ t) y) := fun y hy => by rw [cl, if_pos hy]
    have hi' : ∀ y, y < 2 ^ t → cl (t + 1) V a (2 ^ t + y) = cl t V a y ^^^ cl t (fun y => V (2 ^ t + y)) (a + 2 ^ t) y := fun y hy => by rw [cl, if_neg (by omega), Nat.add_sub_cancel_left]
    rw [e]
    by_cases c : i < 2 ^ t
    · have h := bf_low (t := t) (by omega) 0 _ _ (cl (t + 1) V a) (half_low hm c hs)
      simp only [Nat.zero_add] at h
      rw [h, sxx_congr (G := cl t V a) (fun y hy => by
        unfold bf
        rw [if_pos (by omega), Nat.add_comm y, lo y hy, hi' y hy, xor_back])]
      exact ih (by omega) V a (half_dvd hm) (by omega) (fun x hx => hV x (by omega)) i c
    · obtain ⟨j, rfl⟩ : ∃ j, i = 2 ^ t + j := ⟨i - 2 ^ t, by omega⟩
      have h := bf_high (t := t) (by omega) 0 _ _ (cl (t + 1) V a) (half_high hm (i := j) (by omega) hs)
      simp only [Nat.zero_add] at h
      rw [h, sxx_congr (G := cl t (fun y => V (2 ^ t + y)) (a + 2 ^ t)) (fun y hy => by
        show bf 0 t _ _ (2 ^ t + y) = _
        unfold bf
        rw [if_neg (by omega), Nat.add_sub_cancel_left, lo y hy, hi' y hy, xor_back, Nat.xor_comm (cl t V a y), xor_back]), ← Nat.add_assoc]
      exact ih (by omega) _ (a + 2 ^ t) (Nat.dvd_add (half_dvd hm) (Nat.dvd_refl _)) (by omega) (fun x hx => hV _ (by omega)) j (by omega)
/-- the two ways are one. -/
theorem vl_fw {k a : Nat} (hk : k ≤ 16) (hm : 2 ^ k ∣ a) (hs : a + 2 ^ k ≤ 65536) {F : Nat → Nat} (h : ∀ x, x < 2 ^ k → F x < 65536) {i : Nat} (hi : i < 2 ^ k) : vl k F a i = fw a k F k i := by
  rw [vl_val k hk F a hm hs h i hi, fw_val hk hm hs h hi]
theorem cl_iw {k a : Nat} (hk : k ≤ 16) (hm : 2 ^ k ∣ a) (hs : a + 2 ^ k ≤ 65536) {V : Nat → Nat} (h : ∀ x, x < 2 ^ k → V x < 65536) {i : Nat} (hi : i < 2 ^ k) : cl k V a i = iw a V k i :=
  iw_only hk hm hs (cl_lt k V a h) (cl_val k hk V a hm hs h) hi
end Go.Proofs.YtbcjpcdipcomiaaDoor
namespace Go.Proofs.YtbcjpcdipcomiaaDoor
open Go.RowKit Gf2
set_option linter.unusedVariables false

-- layer 14: sums, multiples, zeros behind, pieces folded
theorem rd_lin (sh t S : Nat) (F G : Nat → Nat) : rd sh t (fun x => F x ^^^ fm 65581 S (G x)) = fun x => rd sh t F x ^^^ fm 65581 S (rd sh t G x) := by
  have sw : ∀ a b c, fm 65581 a (fm 65581 b c) = fm 65581 b (fm 65581 a c) := fun a b c => by
    rw [← fld16.fm_assoc, fm_comm _ a b, fld16.fm_assoc]
  funext x
  by_cases h : x < x / (2 * 2 ^ t) * (2 * 2 ^ t) + 2 ^ t
  · rw [rd_low _ h, rd_low _ h, rd_low _ h, fld16.fm_xor, fld16.fm_xor, sw _ S, four_xor]
  · rw [rd_high _ h, rd_high _ h, rd_high _ h, fld16.fm_xor, fld16.fm_xor, fld16.fm_xor, sw _ S, four_xor (F (x - 2 ^ t)), four_xor (F x)]
/-- Forward of a sum with a multiple. -/
theorem fw_lin (sh k S : Nat) (F G : Nat → Nat) : ∀ c, fw sh k (fun x => F x ^^^ fm 65581 S (G x)) c = fun x => fw sh k F c x ^^^ fm 65581 S (fw sh k G c x) := by
  intro c
  induction c with
  | zero => rfl
  | succ c ih => rw [fw, ih, rd_lin]; rfl
theorem ri_xor (sh t : Nat) (F G : Nat → Nat) : ri sh t (fun x => F x ^^^ G x) = fun x => ri sh t F x ^^^ ri sh t G x := by
  funext x
  by_cases h : x < x / (2 * 2 ^ t) * (2 * 2 ^ t) + 2 ^ t
  · rw [ri_low _ h, ri_low _ h, ri_low _ h, four_xor (F (x + 2 ^ t)), fld16.fm_xor, four_xor]
  · rw [ri_high _ h, ri_high _ h, ri_high _ h, four_xor]
theorem iw_xor (sh : Nat) (F G : Nat → Nat) : ∀ c, iw sh (fun x => F x ^^^ G x) c = fun x => iw sh F c x ^^^ iw sh G c x := by
  intro c
  induction c with
  | zero => rfl
  | succ c ih => rw [iw, ih, ri_xor]; rfl
/-- noughts behind the coefficients change no value. -/
theorem sxx_pad (x n : Nat) (F : Nat → Nat) : ∀ m, (∀ j, n ≤ j → j < n + m → F j = 0) → sxx x F (n + m) = sxx x F n := by
  intro m
  induction m with
  | zero => intro _; rfl
  | succ m ih =>
    intro h
    rw [show n + (m + 1) = (n + m) + 1 from rfl, sxx, ih (fun j h1 h2 => h j h1 (by omega)), h (n + m) (by omega) (by omega), zero_fm16, Nat.xor_zero]
/-- Extend: the values on one coset from those on another. -/
def ex (a b k : Nat) (V : Nat → Nat) : Nat → Nat := fw b k (iw a V k) k
theorem ex_val {a b k : Nat} (hk : k ≤ 16) (hb : 2 ^ k ∣ b) (sb : b + 2 ^ k ≤ 65536) {V : Nat → Nat} (h : ∀ x, x < 2 ^ k → V x < 65536) {i : Nat} (hi : i < 2 ^ k) :
    ex a b k V i = sxx (we (b + i)) (iw a V k) (2 ^ k) := fw_val hk hb sb (iw_lt h k (Nat.le_refl _)) hi
theorem ex_back (a b k : Nat) (V : Nat → Nat) : ex b a k (ex a b k V) = V := by
  unfold ex; rw [iw_fw, fw_iw]
/-- two cosets side by side: Forward of coefficients with as many noughts behind them. -/
theorem fw_two {p k : Nat} (hk : k < 16) (hp : 2 ^ (k + 1) ∣ p) (sp : p + 2 ^ (k + 1) ≤ 65536) {F : Nat → Nat} (h : ∀ x, x < 2 ^ k → F x < 65536) (h0 : ∀ x, 2 ^ k ≤ x → x < 2 ^ (k + 1) → F x = 0) {i : Nat} (hi : i < 2 ^ k) :
    fw p (k + 1) F (k + 1) i = fw p k F k i ∧ fw p (k + 1) F (k + 1) (2 ^ k + i) = ex p (p + 2 ^ k) k (fw p k F k) i := by
  have e : 2 ^ (k + 1) = 2 ^ k + 2 ^ k := by rw [Nat.pow_succ]; omega
  have hF : ∀ x, x < 2 ^ (k + 1) → F x < 65536 := fun x hx => by
    by_cases c : x < 2 ^ k
    · exact h x c
    · rw [h0 x (by omega) hx]; exact Nat.zero_lt_succ _
  have pad : ∀ z, sxx z F (2 ^ (k + 1)) = sxx z F (2 ^ k) := fun z => by
    rw [e, sxx_pad z _ F _ (fun j h1 h2 => h0 j h1 (by omega))]
  refine ⟨?_, ?_⟩
  · rw [fw_val (by omega) hp sp hF (by omega), pad, fw_val (by omega) (half_dvd hp) (by omega) h hi]
  · unfold ex
    rw [iw_fw, fw_val (by omega) hp sp hF (by omega), pad, fw_val (by omega) (Nat.dvd_add (half_dvd hp) (Nat.dvd_refl _)) (by omega) h hi, Nat.add_assoc]
/-- Fold: the first P pieces' coefficients, summed. -/
def fd (sh k : Nat) (V : Nat → Nat) : Nat → Nat → Nat
  | 0, _ => 0
  | P + 1, i => fd sh k V P i ^^^ iw (sh + P * 2 ^ k) (fun y => V (P * 2 ^ k + y)) k i
theorem fd_lt {sh k : Nat} {V : Nat → Nat} : ∀ P, (∀ x, x < P * 2 ^ k → V x < 65536) → ∀ i, i < 2 ^ k → fd sh k V P i < 65536 := by
  intro P
  induction P with
  | zero => intro _ i _; exact Nat.zero_lt_succ _
  | succ P ih =>
    intro h i hi
    have e : (P + 1) * 2 ^ k = P * 2 ^ k + 2 ^ k := by rw [Nat.add_mul, Nat.one_mul]
    exact Nat.xor_lt_two_pow (n := 16) (ih (fun x hx => h x (by omega)) i hi) (iw_lt (fun x hx => h _ (by omega)) k (Nat.le_refl _) i hi)
end Go.Proofs.YtbcjpcdipcomiaaDoor
namespace Go.Proofs.YtbcjpcdipcomiaaDoor
open Go.RowKit Gf2
set_option linter.unusedVariables false

-- layer 14: a round block by block
/-- one block of a list turned forward. -/
def tf (m t S : Nat) (F : Nat → Nat) (x : Nat) : Nat := if m ≤ x ∧ x < m + 2 * 2 ^ t then bf m t S F x else F x
/-- one block of a list turned back. -/
def ti (m t S : Nat) (F : Nat → Nat) (x : Nat) : Nat := if m ≤ x ∧ x < m + 2 * 2 ^ t then bi m t S F x else F x
/-- the blocks of the first m places turned. -/
def pf (sh t : Nat) (F : Nat → Nat) (m x : Nat) : Nat := if x < m then rd sh t F x else F x
def pb (sh t : Nat) (F : Nat → Nat) (m x : Nat) : Nat := if x < m then ri sh t F x else F x
theorem pf_zero (sh t : Nat) (F : Nat → Nat) : pf sh t F 0 = F := by funext x; unfold pf; rw [if_neg (Nat.not_lt_zero _)]
theorem pb_zero (sh t : Nat) (F : Nat → Nat) : pb sh t F 0 = F := by funext x; unfold pb; rw [if_neg (Nat.not_lt_zero _)]
theorem ri_at {sh t b y : Nat} (hy : y < 2 * 2 ^ t) (F : Nat → Nat) : ri sh t F (b * (2 * 2 ^ t) + y) = bi (b * (2 * 2 ^ t)) t (sv t (we (sh + b * (2 * 2 ^ t)))) F (b * (2 * 2 ^ t) + y) := by
  unfold ri
  have e : (b * (2 * 2 ^ t) + y) / (2 * 2 ^ t) = b := by
    rw [Nat.mul_comm b, Nat.mul_add_div (by have := Nat.two_pow_pos t; omega), Nat.div_eq_of_lt hy, Nat.add_zero]
  rw [e]
theorem pf_step (sh t b : Nat) (F : Nat → Nat) : tf (b * (2 * 2 ^ t)) t (sv t (we (sh + b * (2 * 2 ^ t)))) (pf sh t F (b * (2 * 2 ^ t))) = pf sh t F ((b + 1) * (2 * 2 ^ t)) := by
  funext x
  have e1 : (b + 1) * (2 * 2 ^ t) = b * (2 * 2 ^ t) + 2 * 2 ^ t := by rw [Nat.add_mul, Nat.one_mul]
  have hp := Nat.two_pow_pos t
  rw [e1]
  by_cases h : b * (2 * 2 ^ t) ≤ x ∧ x < b * (2 * 2 ^ t) + 2 * 2 ^ t
  · have hr := rd_at (sh := sh) (t := t) (b := b) (y := x - b * (2 * 2 ^ t)) (by omega) F
    rw [show b * (2 * 2 ^ t) + (x - b * (2 * 2 ^ t)) = x by omega] at hr
    unfold tf
    rw [if_pos h]
    show _ = if _ then _ else _
    rw [if_pos h.2, hr]
    generalize b * (2 * 2 ^ t) = m at *
    unfold bf
    have q0 : pf sh t F m x = F x := by unfold pf; rw [if_neg (by omega)]
    have q1 : pf sh t F m (x + 2 ^ t) = F (x + 2 ^ t) := by unfold pf; rw [if_neg (by omega)]
    by_cases k : x < m + 2 ^ t
    · rw [if_pos k, if_pos k, q0, q1]
    · have q2 : pf sh t F m (x - 2 ^ t) = F (x - 2 ^ t) := by unfold pf; rw [if_neg (by omega)]
      rw [if_neg k, if_neg k, q0, q2]
  · unfold tf
    rw [if_neg h]
    unfold pf
    by_cases k : x < b * (2 * 2 ^ t)
    · rw [if_pos k, if_pos (by omega)]
    · rw [if_neg k, if_neg (by omega)]
theorem pb_step (sh t b : Nat) (F : Nat → Nat) : ti (b * (2 * 2 ^ t)) t (sv t (we (sh + b * (2 * 2 ^ t)))) (pb sh t F (b * (2 * 2 ^ t))) = pb sh t F ((b + 1) * (2 * 2 ^ t)) := by
  funext x
  have e1 : (b + 1) * (2 * 2 ^ t) = b * (2 * 2 ^ t) + 2 * 2 ^ t := by rw [Nat.add_mul, Nat.one_mul]
  have hp := Nat.two_pow_pos t
  rw [e1]
  by_cases h : b * (2 * 2 ^ t) ≤ x ∧ x < b * (2 * 2 ^ t) + 2 * 2 ^ t
  · have hr := ri_at (sh := sh) (t := t) (b := b) (y := x - b * (2 * 2 ^ t)) (by omega) F
    rw [show b * (2 * 2 ^ t) + (x - b * (2 * 2 ^ t)) = x by omega] at hr
    unfold ti
    rw [if_pos h]
    show _ = if _ then _ else _
    rw [if_pos h.2, hr]
    generalize b * (2 * 2 ^ t) = m at *
    unfold bi
    have q0 : pb sh t F m x = F x := by unfold pb; rw [if_neg (by omega)]
    have q1 : pb sh t F m (x + 2 ^ t) = F (x + 2 ^ t) := by unfold pb; rw [if_neg (by omega)]
    by_cases k : x < m + 2 ^ t
    · rw [if_pos k, if_pos k, q0, q1]
    · have q2 : pb sh t F m (x - 2 ^ t) = F (x - 2 ^ t) := by unfold pb; rw [if_neg (by omega)]
      rw [if_neg k, if_neg k, q0, q2]
  · unfold ti
    rw [if_neg h]
    unfold pb
    by_cases k : x < b * (2 * 2 ^ t)
    · rw [if_pos k, if_pos (by omega)]
    · rw [if_neg k, if_neg (by omega)]
/-- to n words from o on the products of n words from p on are added. -/
def ap (S o p n : Nat) (F : Nat → Nat) : Nat → Nat := pl F o n (fun i => F (o + i) ^^^ fm 65581 S (F (p + i)))
/-- to n words from o on n words from p on are added. -/
def ad (o p n : Nat) (F : Nat → Nat) : Nat → Nat := pl F o n (fun i => F (o + i) ^^^ F (p + i))
theorem ap_in {S o p n i : Nat} {F : Nat → Nat} (h : i < n) : ap S o p n F (o + i) = F (o + i) ^^^ fm 65581 S (F (p + i)) := pl_in h
theorem ap_out {S o p n x : Nat} {F : Nat → Nat} (h : x < o ∨ o + n ≤ x) : ap S o p n F x = F x := pl_out h
theorem ad_in {o p n i : Nat} {F : Nat → Nat} (h : i < n) : ad o p n F (o + i) = F (o + i) ^^^ F (p + i) := pl_in h
theorem ad_out {o p n x : Nat} {F : Nat → Nat} (h : x < o ∨ o + n ≤ x) : ad o p n F x = F x := pl_out h
theorem tf_two (m t S : Nat) (F : Nat → Nat) : ad (m + 2 ^ t) m (2 ^ t) (ap S m (m + 2 ^ t) (2 ^ t) F) = tf m t S F := by
  funext x
  unfold tf bf
  generalize 2 ^ t = h at *
  by_cases h1 : m ≤ x ∧ x < m + h
  · obtain ⟨y, rfl⟩ : ∃ y, x = m + y := ⟨x - m, by omega⟩
    rw [ad_out (by omega), ap_in (by omega), if_pos (by omega), if_pos h1.2, show m + y + h = m + h + y by omega]
  · by_cases h2 : m + h ≤ x ∧ x < m + h + h
    · obtain ⟨y, rfl⟩ : ∃ y, x = m + h + y := ⟨x - (m + h), by omega⟩
      rw [ad_in (by omega), ap_out (by omega), ap_in (by omega), if_pos (by omega), if_neg (by omega), show m + h + y - h = m + y by omega]
    · rw [ad_out (by omega), ap_out (by omega), if_neg (by omega)]
theorem ti_two (m t S : Nat) (F : Nat → Nat) : ap S m (m + 2 ^ t) (2 ^ t) (ad (m + 2 ^ t) m (2 ^ t) F) = ti m t S F := by
  funext x
  unfold ti bi
  generalize 2 ^ t = h at *
  by_cases h1 : m ≤ x ∧ x < m + h
  · obtain ⟨y, rfl⟩ : ∃ y, x = m + y := ⟨x - m, by omega⟩
    rw [ap_in (by omega), ad_out (by omega), ad_in (by omega), if_pos (by omega), if_pos h1.2, show m + y + h = m + h + y by omega]
  · by_cases h2 : m + h ≤ x ∧ x < m + h + h
    · obtain ⟨y, rfl⟩ : ∃ y, x = m + h + y := ⟨x - (m + h), by omega⟩
      rw [ap_out (by omega), ad_in (by omega), if_pos (by omega), if_neg (by omega), show m + h + y - h = m + y by omega]
    · rw [ap_out (by omega), ad_out (by omega), if_neg (by omega)]

-- the product with a word, by its four half bytes
/-- the word that has n at half byte q alone. -/
def hb (x : Nat) : Nat := x % 16 * 16 ^ (x / 16)
/-- what stands at place x of the factor's lists. -/
def tg (c x : Nat) : Nat := fm 65581 c (hb x)
/-- the lists, filled up to place m. -/
def tgm (c m x : Nat) : Nat := if x < m then tg c x else 0
theorem tg_lt (c x : Nat) : tg c x < 65536 := fld16.fm_lt _ _
theorem tgm_lt (c m x : Nat) : tgm c m x < 65536 := by
  unfold tgm; split
  · exact tg_lt _ _
  · decide
theorem tg_start (c q : Nat) : tg c (16 * q) = 0 := by
  unfold tg hb; rw [Nat.mul_mod_right, Nat.zero_mul]; exact fld16.fm_zero _
end Go.Proofs.YtbcjpcdipcomiaaDoor
