import Derived.Test.YtidcdbjhkgpjcaaDoorLtm
namespace Go.Proofs.YtidcdbjhkgpjcaaDoor
open Gf2
set_option linter.unusedVariables false

-- FromMonomials undoes ToMonomials
theorem spr_twice (o i J : Nat) (G : Nat → Nat) : spr o i J i (spr o i J i G) = G := by
  funext x
  have h1 : spr o i J i G (o + (J + 2 ^ i)) = G (o + (J + 2 ^ i)) := by
    rw [spr_eq o i J G i (Nat.le_refl _), sx_zero (fun t ht => if_neg (fun e => ?_)), Nat.xor_zero]
    have := pow_ne ht
    omega
  rw [spr_eq o i J _ i (Nat.le_refl _) x, h1, spr_eq o i J G i (Nat.le_refl _) x, Nat.xor_assoc, Nat.xor_self, Nat.xor_zero]
theorem spr_out {o i J x : Nat} {G : Nat → Nat} (hJ : J < 2 ^ i) (h : x < o ∨ o + 2 * 2 ^ i ≤ x) : spr o i J i G x = G x := by
  rw [spr_eq o i J G i (Nat.le_refl _), sx_zero (fun t ht => if_neg (fun e => ?_)), Nat.xor_zero]
  have : 2 ^ t < 2 ^ i := Nat.pow_lt_pow_right (by decide) ht
  have := Nat.two_pow_pos t
  omega
theorem spr_in {o i J x : Nat} {F G : Nat → Nat} (hJ : J < 2 ^ i) (h1 : o ≤ x) (h2 : x < o + 2 * 2 ^ i) (h : ∀ y, o ≤ y → y < o + 2 * 2 ^ i → F y = G y) : spr o i J i F x = spr o i J i G x := by
  rw [spr_eq o i J F i (Nat.le_refl _), spr_eq o i J G i (Nat.le_refl _), h x h1 h2, h (o + (J + 2 ^ i)) (by omega) (by omega)]
/-- the rounds below J, the last first. -/
def dd (o i : Nat) : Nat → (Nat → Nat) → Nat → Nat
  | 0, F => F
  | J + 1, F => dd o i J (spr o i J i F)
theorem mlp_dd (o i : Nat) : ∀ J (F : Nat → Nat), mlp o i J (dd o i J F) = F := by
  intro J
  induction J with
  | zero => intro F; rfl
  | succ J ih =>
    intro F
    show spr o i J i (mlp o i J (dd o i J (spr o i J i F))) = F
    rw [ih, spr_twice]
theorem dd_dvp (o i B : Nat) (F : Nat → Nat) : ∀ c, c ≤ B → dd o i (B - c) (dvp o i B c F) = dd o i B F := by
  intro c
  induction c with
  | zero => intro _; rfl
  | succ c ih =>
    intro hc
    rw [← ih (by omega), show B - c = (B - (c + 1)) + 1 by omega]
    show _ = dd o i (B - (c + 1)) (spr o i (B - (c + 1)) i (dvp o i B c F))
    rw [dvp, show B - 1 - c = B - (c + 1) by omega]
theorem mlp_dvp (o i B : Nat) (F : Nat → Nat) : mlp o i B (dvp o i B B F) = F := by
  have h := dd_dvp o i B F B (Nat.le_refl _)
  rw [Nat.sub_self] at h
  rw [show dvp o i B B F = dd o i B F from h, mlp_dd]
theorem dvp_out {o i x : Nat} {F : Nat → Nat} (h : x < o ∨ o + 2 * 2 ^ i ≤ x) : ∀ c, c ≤ 2 ^ i → dvp o i (2 ^ i) c F x = F x := by
  intro c
  induction c with
  | zero => intro _; rfl
  | succ c ih => intro hc; rw [dvp, spr_out (by omega) h, ih (by omega)]
theorem dvp_in {o i : Nat} {F G : Nat → Nat} (h : ∀ y, o ≤ y → y < o + 2 * 2 ^ i → F y = G y) : ∀ c, c ≤ 2 ^ i → ∀ x, o ≤ x → x < o + 2 * 2 ^ i → dvp o i (2 ^ i) c F x = dvp o i (2 ^ i) c G x := by
  intro c
  induction c with
  | zero => intro _ x h1 h2; exact h x h1 h2
  | succ c ih => intro hc x h1 h2; rw [dvp, dvp]; exact spr_in (by omega) h1 h2 (ih (by omega))
theorem fob_eq (i : Nat) (F : Nat → Nat) : ∀ C x, fob i C F x = if x < C * (2 * 2 ^ i) then dvp (x / (2 * 2 ^ i) * (2 * 2 ^ i)) i (2 ^ i) (2 ^ i) F x else F x := by
  intro C
  have hD : 0 < 2 * 2 ^ i := by have := Nat.two_pow_pos i; omega
  induction C with
  | zero => intro x; rw [if_neg (by omega)]; rfl
  | succ C ih =>
    intro x
    have e1 : (C + 1) * (2 * 2 ^ i) = C * (2 * 2 ^ i) + 2 * 2 ^ i := by rw [Nat.add_mul, Nat.one_mul]
    rw [fob]
    by_cases h1 : x < C * (2 * 2 ^ i)
    · rw [dvp_out (.inl h1) _ (Nat.le_refl _), ih x, if_pos h1, if_pos (by omega)]
    · by_cases h2 : x < (C + 1) * (2 * 2 ^ i)
      · have hq : x / (2 * 2 ^ i) = C := by
          apply Nat.div_eq_of_lt_le
          · omega
          · omega
        rw [if_pos h2, hq]
        refine dvp_in (fun y hy1 hy2 => ?_) _ (Nat.le_refl _) x (by omega) (by omega)
        rw [ih y, if_neg (by omega)]
      · rw [dvp_out (.inr (by omega)) _ (Nat.le_refl _), ih x, if_neg h1, if_neg h2]
theorem tob_fob (i C : Nat) (F : Nat → Nat) : tob i C (fob i C F) = F := by
  funext x
  have hD : 0 < 2 * 2 ^ i := by have := Nat.two_pow_pos i; omega
  rw [tob_eq]
  by_cases h : x < C * (2 * 2 ^ i)
  · rw [if_pos h]
    have h1 : x / (2 * 2 ^ i) * (2 * 2 ^ i) ≤ x := Nat.div_mul_le_self _ _
    have h2 : x < x / (2 * 2 ^ i) * (2 * 2 ^ i) + 2 * 2 ^ i := by
      have e := Nat.div_add_mod x (2 * 2 ^ i)
      have m := Nat.mod_lt x hD
      rw [Nat.mul_comm (2 * 2 ^ i) (x / (2 * 2 ^ i))] at e
      omega
    have hq : x / (2 * 2 ^ i) < C := (Nat.div_lt_iff_lt_mul hD).2 h
    rw [mlp_in (G := dvp (x / (2 * 2 ^ i) * (2 * 2 ^ i)) i (2 ^ i) (2 ^ i) F) h1 h2 (fun y hy1 hy2 => ?_), mlp_dvp]
    have hyq : y / (2 * 2 ^ i) = x / (2 * 2 ^ i) := by
      apply Nat.div_eq_of_lt_le
      · exact hy1
      · rw [Nat.add_mul, Nat.one_mul]; exact hy2
    have hyC : y < C * (2 * 2 ^ i) := (Nat.div_lt_iff_lt_mul hD).1 (by rw [hyq]; exact hq)
    rw [fob_eq, if_pos hyC, hyq]
  · rw [if_neg h, fob_eq, if_neg h]
/-- the levels below j, the last first. -/
def ff (n : Nat) : Nat → (Nat → Nat) → Nat → Nat
  | 0, F => F
  | j + 1, F => ff n j (fob j (n / (2 * 2 ^ j)) F)
theorem tol_ff (n : Nat) : ∀ j (F : Nat → Nat), tol n j (ff n j F) = F := by
  intro j
  induction j with
  | zero => intro F; rfl
  | succ j ih =>
    intro F
    show tob j (n / (2 * 2 ^ j)) (tol n j (ff n j (fob j (n / (2 * 2 ^ j)) F))) = F
    rw [ih, tob_fob]
theorem ff_fol (n k : Nat) (F : Nat → Nat) : ∀ c, c ≤ k → ff n (k - c) (fol n k c F) = ff n k F := by
  intro c
  induction c with
  | zero => intro _; rfl
  | succ c ih =>
    intro hc
    rw [← ih (by omega), show k - c = (k - (c + 1)) + 1 by omega]
    show _ = ff n (k - (c + 1)) (fob (k - (c + 1)) (n / (2 * 2 ^ (k - (c + 1)))) (fol n k c F))
    rw [fol, show k - 1 - c = k - (c + 1) by omega]
theorem tol_fol (n k : Nat) (F : Nat → Nat) : tol n k (fol n k k F) = F := by
  have h := ff_fol n k F k (Nat.le_refl _)
  rw [Nat.sub_self] at h
  rw [show fol n k k F = ff n k F from h, tol_ff]
/-- what ToMonomials answers. -/
theorem to_bp {n k : Nat} (hn : n = 2 ^ k) (hk : k ≤ 16) {F : Nat → Nat} (hF : ∀ y, y < n → F y < 65536) {y : Nat} (hy : y < n) : tol n k F y = bp k F y := by
  have h := tol_bp hn hk hF k (Nat.le_refl _) 0 (Nat.two_pow_pos _) y (hn ▸ hy)
  rw [Nat.zero_mul, Nat.zero_add] at h
  rw [h]
  congr 1
  funext z
  rw [Nat.zero_add]
/-- what FromMonomials answers. -/
theorem from_bp {n k : Nat} (hn : n = 2 ^ k) (hk : k ≤ 16) {F : Nat → Nat} (hd : ∀ y, y < n → fol n k k F y < 65536) {y : Nat} (hy : y < n) : bp k (fol n k k F) y = F y := by
  rw [← to_bp hn hk hd hy, tol_fol]
theorem sp_tp {i : Nat} (hi : i ≤ 16) : Tp (sp i) (2 ^ i) := by
  refine ⟨sp_dg i, ?_⟩
  have h : sp i (2 ^ i) = 1 := by
    show sx i _ ^^^ (if 2 ^ i = 2 ^ i then oc i i else 0) = 1
    rw [if_pos rfl, (oc_top i hi).1, sx_zero (fun t ht => if_neg (fun e => pow_ne ht e.symm)), Nat.zero_xor]
  rw [h]
  decide
/-- the coefficients in the basis are the polynomial's own. -/
theorem bp_only : ∀ i, i ≤ 16 → ∀ (G H : Nat → Nat), (∀ y, y < 2 ^ i → G y < 65536) → (∀ y, y < 2 ^ i → H y < 65536) → bp i G = bp i H → ∀ y, y < 2 ^ i → G y = H y := by
  intro i
  induction i with
  | zero =>
    intro _ G H _ _ e y hy
    obtain rfl : y = 0 := by simpa using hy
    have := congrFun e 0
    simpa [bp, mo] using this
  | succ i ih =>
    intro hi G H hG hH e y hy
    have hp : 2 ^ (i + 1) = 2 ^ i + 2 ^ i := by rw [Nat.pow_succ, Nat.mul_two]
    have eG := bp_el i (fun z => G (2 ^ i + z)) (fun z hz => hG _ (by omega))
    have eH := bp_el i (fun z => H (2 ^ i + z)) (fun z hz => hH _ (by omega))
    have e' : pa (pm 65581 (bp i (fun z => G (2 ^ i + z))) (sp i)) (bp i G) = pa (pm 65581 (bp i (fun z => H (2 ^ i + z))) (sp i)) (bp i H) := by
      rw [pa_comm, pa_comm (pm 65581 (bp i (fun z => H (2 ^ i + z))) (sp i))]
      exact e
    obtain ⟨h1, h2⟩ := fld16.div_only (sp_el i) (sp_tp (by omega)) ⟨eG, _, bp_dg i _⟩ ⟨eH, _, bp_dg i _⟩ (bp_dg i G) (bp_dg i H) e'
    by_cases h : y < 2 ^ i
    · exact ih (by omega) G H (fun z hz => hG z (by omega)) (fun z hz => hH z (by omega)) h2 y h
    · have := ih (by omega) (fun z => G (2 ^ i + z)) (fun z => H (2 ^ i + z)) (fun z hz => hG _ (by omega)) (fun z hz => hH _ (by omega)) h1 (y - 2 ^ i) (by omega)
      rw [show 2 ^ i + (y - 2 ^ i) = y by omega] at this
      exact this
/-- the members of the basis, as the document makes them. -/
def mb : Nat → Nat → Nat → Nat
  | 0, _ => po
  | i + 1, j => if j < 2 ^ i then mb i j else pm 65581 (mb i (j - 2 ^ i)) (sp i)
/-- the sum of n polynomials. -/
def pn : Nat → (Nat → Nat → Nat) → Nat → Nat
  | 0, _ => pz
  | n + 1, f => pa (pn n f) (f n)
theorem pn_split (a b : Nat) (f : Nat → Nat → Nat) : pn (a + b) f = pa (pn a f) (pn b (fun j => f (a + j))) := by
  induction b with
  | zero => exact (pa_pz _).symm
  | succ b ih =>
    show pa (pn (a + b) f) (f (a + b)) = _
    rw [ih, pa_assoc]
    rfl
theorem pn_congr {n : Nat} {f g : Nat → Nat → Nat} (h : ∀ j, j < n → f j = g j) : pn n f = pn n g := by
  induction n with
  | zero => rfl
  | succ n ih => show pa (pn n f) (f n) = pa (pn n g) (g n); rw [ih (fun j hj => h j (by omega)), h n (Nat.lt_succ_self n)]
theorem pn_pm (n : Nat) (f : Nat → Nat → Nat) (g : Nat → Nat) : pm 65581 (pn n f) g = pn n (fun j => pm 65581 (f j) g) := by
  induction n with
  | zero => exact fld16.pz_pm g
  | succ n ih => show pm 65581 (pa (pn n f) (f n)) g = pa _ _; rw [fld16.pa_pm, ih]
/-- the sum of the members is the polynomial. -/
theorem mb_bp : ∀ i (G : Nat → Nat), (∀ y, y < 2 ^ i → G y < 65536) → pn (2 ^ i) (fun j => pc 65581 (G j) (mb i j)) = bp i G := by
  intro i
  induction i with
  | zero =>
    intro G hG
    show pa pz (pc 65581 (G 0) po) = mo (G 0) 0
    rw [pz_pa]
    funext y
    show fm 65581 (G 0) (po y) = (if y = 0 then G 0 else 0)
    unfold po
    by_cases h : y = 0
    · rw [if_pos h, if_pos h, fld16.fm_one (hG 0 (by decide))]
    · rw [if_neg h, if_neg h, fld16.fm_zero]
  | succ i ih =>
    intro G hG
    have hp : 2 ^ (i + 1) = 2 ^ i + 2 ^ i := by rw [Nat.pow_succ, Nat.mul_two]
    rw [hp, pn_split]
    show _ = pa (bp i G) (pm 65581 (bp i (fun y => G (2 ^ i + y))) (sp i))
    rw [← ih G (fun y hy => hG y (by omega)), ← ih (fun y => G (2 ^ i + y)) (fun y hy => hG _ (by omega)), pn_pm]
    congr 1
    · refine pn_congr (fun j hj => ?_)
      show pc 65581 (G j) (if j < 2 ^ i then mb i j else _) = _
      rw [if_pos hj]
    · refine pn_congr (fun j hj => ?_)
      show pc 65581 (G (2 ^ i + j)) (if 2 ^ i + j < 2 ^ i then mb i (2 ^ i + j) else pm 65581 (mb i (2 ^ i + j - 2 ^ i)) (sp i)) = _
      rw [if_neg (by omega), Nat.add_sub_cancel_left, fld16.pc_pm]
end Go.Proofs.YtidcdbjhkgpjcaaDoor
