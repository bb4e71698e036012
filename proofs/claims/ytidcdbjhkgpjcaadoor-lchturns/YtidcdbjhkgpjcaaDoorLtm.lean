import Derived.Test.YtidcdbjhkgpjcaaDoorLtb
import Derived.Test.YtidcdbjhkgpjcaaDoorTj3
namespace Go.Proofs.YtidcdbjhkgpjcaaDoor
open Gf2
set_option linter.unusedVariables false

-- what the turns do, as polynomials
theorem pow_ne {t T : Nat} (h : t < T) : 2 ^ t ≠ 2 ^ T := Nat.ne_of_lt (Nat.pow_lt_pow_right (by decide) h)
/-- T rounds of spread. -/
theorem spr_eq (o i J : Nat) (G : Nat → Nat) : ∀ T, T ≤ i → ∀ x, spr o i J T G x = G x ^^^ sx T (fun t => if oc t i = 1 ∧ x = o + (J + 2 ^ t) then G (o + (J + 2 ^ i)) else 0) := by
  intro T
  induction T with
  | zero => intro _ x; exact (Nat.xor_zero _).symm
  | succ T ih =>
    intro hT x
    have hne : spr o i J T G (o + (J + 2 ^ i)) = G (o + (J + 2 ^ i)) := by
      rw [ih (by omega), sx_zero (fun t ht => if_neg (fun e => ?_)), Nat.xor_zero]
      have := pow_ne (show t < i by omega)
      omega
    by_cases ho : oc T i = 1
    · rw [spr, if_pos ho]
      show (if x = o + (J + 2 ^ T) then spr o i J T G (o + (J + 2 ^ T)) ^^^ spr o i J T G (o + (J + 2 ^ i)) else spr o i J T G x) = G x ^^^ (sx T _ ^^^ (if oc T i = 1 ∧ x = o + (J + 2 ^ T) then G (o + (J + 2 ^ i)) else 0))
      by_cases e : x = o + (J + 2 ^ T)
      · rw [if_pos e, if_pos ⟨ho, e⟩, hne, ← e, ih (by omega) x, Nat.xor_assoc]
      · rw [if_neg e, if_neg (fun h => e h.2), Nat.xor_zero, ih (by omega) x]
    · rw [spr, if_neg ho, ih (by omega) x]
      show _ = G x ^^^ (sx T _ ^^^ (if oc T i = 1 ∧ x = o + (J + 2 ^ T) then G (o + (J + 2 ^ i)) else 0))
      rw [if_neg (fun h => ho h.1), Nat.xor_zero]
/-- J rounds of multiply. -/
theorem mlp_eq (o i : Nat) (F : Nat → Nat) : ∀ J, J ≤ 2 ^ i → ∀ x, mlp o i J F x = F x ^^^ sx i (fun t => if oc t i = 1 ∧ o + 2 ^ t ≤ x ∧ x < o + 2 ^ t + J then F (2 ^ i + x - 2 ^ t) else 0) := by
  intro J
  induction J with
  | zero => intro _ x; rw [sx_zero (fun t ht => if_neg (by omega)), Nat.xor_zero]; rfl
  | succ J ih =>
    intro hJ x
    have h1 : mlp o i J F (o + (J + 2 ^ i)) = F (o + (J + 2 ^ i)) := by
      rw [ih (by omega), sx_zero (fun t ht => if_neg (fun e => ?_)), Nat.xor_zero]
      have : 2 ^ t < 2 ^ i := Nat.pow_lt_pow_right (by decide) ht
      omega
    rw [mlp, spr_eq o i J _ i (Nat.le_refl _) x, h1, ih (by omega) x, Nat.xor_assoc, ← sx_xor]
    congr 1
    refine sx_congr (fun t ht => ?_)
    have hp : 2 ^ t < 2 ^ i := Nat.pow_lt_pow_right (by decide) ht
    by_cases ho : oc t i = 1
    · by_cases e : x = o + (J + 2 ^ t)
      · rw [if_neg (by omega), if_pos ⟨ho, e⟩, if_pos ⟨ho, by omega, by omega⟩, Nat.zero_xor]
        congr 1
        omega
      · have z : (if oc t i = 1 ∧ x = o + (J + 2 ^ t) then F (o + (J + 2 ^ i)) else 0) = 0 := if_neg (fun h => e h.2)
        rw [z, Nat.xor_zero]
        by_cases e2 : o + 2 ^ t ≤ x ∧ x < o + 2 ^ t + J
        · rw [if_pos ⟨ho, e2⟩, if_pos ⟨ho, by omega, by omega⟩]
        · rw [if_neg (fun h => e2 h.2), if_neg (by omega)]
    · rw [if_neg (fun h => ho h.1), if_neg (fun h => ho h.1), if_neg (fun h => ho h.1)]
      rfl
/-- outside of its block nothing turns, and inside nothing but the block counts. -/
theorem mlp_out {o i x : Nat} {F : Nat → Nat} (h : x < o ∨ o + 2 * 2 ^ i ≤ x) : mlp o i (2 ^ i) F x = F x := by
  rw [mlp_eq o i F _ (Nat.le_refl _), sx_zero (fun t ht => if_neg (fun e => ?_)), Nat.xor_zero]
  have : 2 ^ t < 2 ^ i := Nat.pow_lt_pow_right (by decide) ht
  have := Nat.two_pow_pos t
  omega
theorem mlp_in {o i x : Nat} {F G : Nat → Nat} (h1 : o ≤ x) (h2 : x < o + 2 * 2 ^ i) (h : ∀ y, o ≤ y → y < o + 2 * 2 ^ i → F y = G y) : mlp o i (2 ^ i) F x = mlp o i (2 ^ i) G x := by
  rw [mlp_eq o i F _ (Nat.le_refl _), mlp_eq o i G _ (Nat.le_refl _), h x h1 h2]
  congr 1
  refine sx_congr (fun t ht => ?_)
  have hp : 2 ^ t < 2 ^ i := Nat.pow_lt_pow_right (by decide) ht
  by_cases e : oc t i = 1 ∧ o + 2 ^ t ≤ x ∧ x < o + 2 ^ t + 2 ^ i
  · rw [if_pos e, if_pos e, h _ (by omega) (by omega)]
  · rw [if_neg e, if_neg e]
/-- all blocks of a level. -/
theorem tob_eq (i : Nat) (F : Nat → Nat) : ∀ C x, tob i C F x = if x < C * (2 * 2 ^ i) then mlp (x / (2 * 2 ^ i) * (2 * 2 ^ i)) i (2 ^ i) F x else F x := by
  intro C
  have hD : 0 < 2 * 2 ^ i := by have := Nat.two_pow_pos i; omega
  induction C with
  | zero => intro x; rw [if_neg (by omega)]; rfl
  | succ C ih =>
    intro x
    have e1 : (C + 1) * (2 * 2 ^ i) = C * (2 * 2 ^ i) + 2 * 2 ^ i := by rw [Nat.add_mul, Nat.one_mul]
    rw [tob]
    by_cases h1 : x < C * (2 * 2 ^ i)
    · rw [mlp_out (.inl h1), ih x, if_pos h1, if_pos (by omega)]
    · by_cases h2 : x < (C + 1) * (2 * 2 ^ i)
      · have hq : x / (2 * 2 ^ i) = C := by
          apply Nat.div_eq_of_lt_le
          · omega
          · omega
        rw [if_pos h2, hq]
        refine mlp_in (by omega) (by omega) (fun y hy1 hy2 => ?_)
        rw [ih y, if_neg (by omega)]
      · rw [mlp_out (.inr (by omega)), ih x, if_neg h1, if_neg h2]
/-- the subspace polynomial in powers of x. -/
def sp (i : Nat) : Nat → Nat := fun y => sx (i + 1) (fun t => if y = 2 ^ t then oc t i else 0)
/-- the polynomial of 2^i coefficients in the basis, in powers of x. -/
def bp : Nat → (Nat → Nat) → Nat → Nat
  | 0, G => mo (G 0) 0
  | i + 1, G => pa (bp i G) (pm 65581 (bp i (fun y => G (2 ^ i + y))) (sp i))
theorem sp_el (i : Nat) : El 16 (sp i) := fun y => sx_lt (fun t _ => by split; exact oc_lt _ _; exact Nat.zero_lt_succ _)
theorem sp_dg (i : Nat) : Dg (sp i) (2 ^ i + 1) := fun y hy => sx_zero (fun t ht => if_neg (fun e => by
  have : 2 ^ t ≤ 2 ^ i := Nat.pow_le_pow_right (by decide) (by omega)
  omega))
theorem bp_dg : ∀ i (G : Nat → Nat), Dg (bp i G) (2 ^ i) := by
  intro i
  induction i with
  | zero => intro G y hy; show (if y = 0 then _ else 0) = 0; rw [if_neg (by simp at hy; omega)]
  | succ i ih =>
    intro G
    have hp := Nat.two_pow_pos i
    have e : 2 ^ (i + 1) = 2 ^ i + (2 ^ i + 1) - 1 := by rw [Nat.pow_succ]; omega
    refine Dg.pa ((ih G).mono (by rw [Nat.pow_succ]; omega)) ?_
    rw [e]
    exact fld16.dg_pm (ih _) (sp_dg i)
theorem bp_el : ∀ i (G : Nat → Nat), (∀ y, y < 2 ^ i → G y < 65536) → El 16 (bp i G) := by
  intro i
  induction i with
  | zero => intro G h; exact el_mo (h 0 (by decide)) 0
  | succ i ih =>
    intro G h
    exact El.pa (ih G (fun y hy => h y (by rw [Nat.pow_succ]; omega))) (fld16.el_pm _ _)
theorem bp_congr : ∀ i (G H : Nat → Nat), (∀ y, y < 2 ^ i → G y = H y) → bp i G = bp i H := by
  intro i
  induction i with
  | zero => intro G H h; show mo (G 0) 0 = mo (H 0) 0; rw [h 0 (by decide)]
  | succ i ih =>
    intro G H h
    have hp : 2 ^ (i + 1) = 2 ^ i + 2 ^ i := by rw [Nat.pow_succ, Nat.mul_two]
    show pa (bp i G) (pm 65581 (bp i _) (sp i)) = pa (bp i H) (pm 65581 (bp i _) (sp i))
    rw [ih G H (fun y hy => h y (by omega)), ih (fun y => G (2 ^ i + y)) (fun y => H (2 ^ i + y)) (fun y hy => h _ (by omega))]
/-- the product with a subspace polynomial, place by place. -/
theorem pm_sp (i : Nat) {q : Nat → Nat} (hq : El 16 q) (y : Nat) : pm 65581 q (sp i) y = sx (i + 1) (fun t => if oc t i = 1 ∧ 2 ^ t ≤ y then q (y - 2 ^ t) else 0) := by
  show sx (y + 1) (fun a => fm 65581 (q a) (sp i (y - a))) = _
  have h1 : ∀ a, a < y + 1 → fm 65581 (q a) (sp i (y - a)) = sx (i + 1) (fun t => if oc t i = 1 ∧ y - a = 2 ^ t then q a else 0) := by
    intro a ha
    show fm 65581 (q a) (sx (i + 1) _) = _
    rw [fld16.fm_sx]
    refine sx_congr (fun t ht => ?_)
    by_cases e : y - a = 2 ^ t
    · rw [if_pos e]
      rcases oc_bit t i with h | h
      · rw [h, fld16.fm_zero, if_neg (by omega)]
      · rw [h, fld16.fm_one (hq a), if_pos ⟨rfl, e⟩]
    · rw [if_neg e, fld16.fm_zero, if_neg (fun h => e h.2)]
  rw [sx_congr h1]
  have swap : ∀ (m n : Nat) (f : Nat → Nat → Nat), sx m (fun a => sx n (fun t => f a t)) = sx n (fun t => sx m (fun a => f a t)) := by
    intro m n f
    induction m with
    | zero => exact (sx_zero (fun _ _ => rfl)).symm
    | succ m ih =>
      show sx m _ ^^^ sx n _ = sx n (fun t => sx m (fun a => f a t) ^^^ f m t)
      rw [ih, sx_xor]
  rw [swap]
  refine sx_congr (fun t ht => ?_)
  have hp := Nat.two_pow_pos t
  by_cases e : oc t i = 1 ∧ 2 ^ t ≤ y
  · rw [if_pos e, sx_one (k := y - 2 ^ t) (by omega) (fun a ha hne => if_neg (fun h => hne (by omega)))]
    rw [if_pos ⟨e.1, by omega⟩]
  · rw [if_neg e]
    refine sx_zero (fun a ha => if_neg (fun h => e ⟨h.1, by omega⟩))
/-- one level, in one block. -/
theorem mlp_bp (i o : Nat) (hi : i ≤ 16) {F G : Nat → Nat} (hG : ∀ y, y < 2 * 2 ^ i → G y < 65536) (h1 : ∀ y, y < 2 ^ i → F (o + y) = bp i G y) (h2 : ∀ y, y < 2 ^ i → F (o + (2 ^ i + y)) = bp i (fun z => G (2 ^ i + z)) y) {y : Nat} (hy : y < 2 * 2 ^ i) :
    mlp o i (2 ^ i) F (o + y) = bp (i + 1) G y := by
  have hq := bp_el i (fun z => G (2 ^ i + z)) (fun z hz => hG _ (by omega))
  have dq := bp_dg i (fun z => G (2 ^ i + z))
  have dr := bp_dg i G
  rw [mlp_eq o i F _ (Nat.le_refl _)]
  show _ = bp i G y ^^^ pm 65581 (bp i (fun z => G (2 ^ i + z))) (sp i) y
  rw [pm_sp i hq y]
  show _ = bp i G y ^^^ (sx i _ ^^^ (if oc i i = 1 ∧ 2 ^ i ≤ y then bp i (fun z => G (2 ^ i + z)) (y - 2 ^ i) else 0))
  have e1 : F (o + y) = bp i G y ^^^ (if oc i i = 1 ∧ 2 ^ i ≤ y then bp i (fun z => G (2 ^ i + z)) (y - 2 ^ i) else 0) := by
    by_cases h : y < 2 ^ i
    · rw [if_neg (by omega), Nat.xor_zero, h1 y h]
    · rw [if_pos ⟨(oc_top i hi).1, by omega⟩, dr y (by omega), Nat.zero_xor, ← h2 (y - 2 ^ i) (by omega)]
      congr 1
      omega
  rw [e1]
  have e2 : sx i (fun t => if oc t i = 1 ∧ o + 2 ^ t ≤ o + y ∧ o + y < o + 2 ^ t + 2 ^ i then F (2 ^ i + (o + y) - 2 ^ t) else 0) = sx i (fun t => if oc t i = 1 ∧ 2 ^ t ≤ y then bp i (fun z => G (2 ^ i + z)) (y - 2 ^ t) else 0) := by
    refine sx_congr (fun t ht => ?_)
    have hp : 2 ^ t < 2 ^ i := Nat.pow_lt_pow_right (by decide) ht
    by_cases e : oc t i = 1 ∧ 2 ^ t ≤ y
    · by_cases e3 : y < 2 ^ t + 2 ^ i
      · rw [if_pos ⟨e.1, by omega, by omega⟩, if_pos e, ← h2 (y - 2 ^ t) (by omega)]
        congr 1
        omega
      · rw [if_neg (by omega), if_pos e, dq _ (by omega)]
    · rw [if_neg (fun h => e ⟨h.1, by omega⟩), if_neg e]
  rw [e2]
  generalize (if oc i i = 1 ∧ 2 ^ i ≤ y then bp i (fun z => G (2 ^ i + z)) (y - 2 ^ i) else 0) = Q
  generalize sx i _ = R
  rw [Nat.xor_assoc, Nat.xor_comm Q R]
/-- ToMonomials: all levels. -/
theorem tol_bp {n k : Nat} (hn : n = 2 ^ k) (hk : k ≤ 16) {F : Nat → Nat} (hF : ∀ y, y < n → F y < 65536) : ∀ i, i ≤ k → ∀ c, c < 2 ^ (k - i) → ∀ y, y < 2 ^ i → tol n i F (c * 2 ^ i + y) = bp i (fun z => F (c * 2 ^ i + z)) y := by
  intro i
  induction i with
  | zero =>
    intro _ c hc y hy
    obtain rfl : y = 0 := by simpa using hy
    show F (c * 2 ^ 0 + 0) = (if 0 = 0 then F (c * 2 ^ 0 + 0) else 0)
    rw [if_pos rfl]
  | succ i ih =>
    intro hi c hc y hy
    have hp : 2 ^ (i + 1) = 2 * 2 ^ i := by rw [Nat.pow_succ, Nat.mul_comm]
    have hpk : 2 ^ (k - i) = 2 * 2 ^ (k - (i + 1)) := by rw [show k - i = (k - (i + 1)) + 1 by omega, Nat.pow_succ, Nat.mul_comm]
    have hnn : n = 2 ^ (k - (i + 1)) * (2 * 2 ^ i) := by rw [hn, ← hp, ← Nat.pow_add]; congr 1; omega
    have hD : 0 < 2 * 2 ^ i := by have := Nat.two_pow_pos i; omega
    have hdiv : n / (2 * 2 ^ i) = 2 ^ (k - (i + 1)) := by rw [hnn, Nat.mul_div_cancel _ hD]
    rw [hp] at hy ⊢
    have hall : ∀ z, z < 2 * 2 ^ i → c * (2 * 2 ^ i) + z < 2 ^ (k - (i + 1)) * (2 * 2 ^ i) := fun z hz => by
      have : (c + 1) * (2 * 2 ^ i) ≤ 2 ^ (k - (i + 1)) * (2 * 2 ^ i) := Nat.mul_le_mul_right _ hc
      rw [Nat.add_mul, Nat.one_mul] at this
      omega
    have hx := hall y hy
    have hq : (c * (2 * 2 ^ i) + y) / (2 * 2 ^ i) = c := by
      rw [Nat.mul_comm c, Nat.mul_add_div hD, Nat.div_eq_of_lt hy, Nat.add_zero]
    rw [tol, hdiv, tob_eq, if_pos hx, hq]
    refine mlp_bp i (c * (2 * 2 ^ i)) (by omega) (G := fun z => F (c * (2 * 2 ^ i) + z)) (fun z hz => hF _ (by rw [hnn]; exact hall z hz)) (fun z hz => ?_) (fun z hz => ?_) hy
    · have e : c * (2 * 2 ^ i) = (2 * c) * 2 ^ i := by rw [← Nat.mul_assoc, Nat.mul_comm c 2]
      rw [e, ih (by omega) (2 * c) (by omega) z hz]
    · have e : c * (2 * 2 ^ i) + 2 ^ i = (2 * c + 1) * 2 ^ i := by rw [Nat.add_mul, Nat.one_mul, ← Nat.mul_assoc, Nat.mul_comm c 2]
      have e2 : ∀ z, c * (2 * 2 ^ i) + (2 ^ i + z) = (2 * c + 1) * 2 ^ i + z := fun z => by rw [← e, Nat.add_assoc]
      rw [e2, ih (by omega) (2 * c + 1) (by omega) z hz]
      congr 1
      funext z
      rw [e2]
end Go.Proofs.YtidcdbjhkgpjcaaDoor
