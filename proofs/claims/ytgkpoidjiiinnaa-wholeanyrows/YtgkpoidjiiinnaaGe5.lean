import Derived.Test.YtgkpoidjiiinnaaGj1
import Derived.Test.YtgkpoidjiiinnaaGme
namespace Go.Proofs.Ytgkpoidjiiinnaa
open Go.RowKit Gf2
set_option linter.unusedVariables false

theorem par11_lt {f : Int} {k : Nat} (hk : k ≤ 256) {i j : Nat} (hi : k + i < 256) (hj : j < 256) : par11 f k i j < 256 := by
  unfold par11
  split
  · exact ti_lt (xor_lt8 hi hj)
  · exact lgr_lt k i j
/-- Vander's row s, by the products. -/
theorem gen0_eq {k s i : Nat} (hs : s < 256) (hi : i < k) (hk : k ≤ 256) : gen11 0 k s i = fm 285 (qq i k s) (fv (wg k i)) := by
  have wi : wg k i = qq i k i := rfl
  have wl : wg k i < 256 := wg_lt k i
  have w0 : wg k i ≠ 0 := pr_ne k _ (fun t ht => by
    by_cases e : t = i
    · rw [if_pos e]; decide
    · rw [if_neg e]; exact ⟨xor_lt8 (by omega) (by omega), xor_ne (fun x => e x.symm)⟩)
  unfold gen11
  by_cases hsk : s < k
  · rw [if_pos hsk]
    unfold idm
    by_cases e : s = i
    · subst e
      rw [if_pos rfl, ← wi, fm_comm, fv_mul wl w0]
    · rw [if_neg e, show qq i k s = 0 from pr_zero k _ s hsk (by rw [if_neg e, Nat.xor_self]), fld8.zero_fm]
  · rw [if_neg hsk]
    have ks : k + (s - k) = s := by omega
    have e1 : par11 0 k (s - k) i = lgr k (s - k) i := by unfold par11; rw [if_neg (by decide)]
    rw [e1]
    unfold lgr
    rw [ks]
    have x0 : s ^^^ i ≠ 0 := xor_ne (by omega)
    have xl : s ^^^ i < 256 := xor_lt8 hs (by omega)
    have m0 : fm 285 (wg k i) (s ^^^ i) ≠ 0 := fld8.fm_ne wl xl w0 x0
    have ml : fm 285 (wg k i) (s ^^^ i) < 256 := fld8.fm_lt _ _
    have ws : wg k s = fm 285 (qq i k s) (s ^^^ i) := by
      unfold wg
      rw [pr_congr k (g := fun t => s ^^^ t) (fun t ht => if_neg (by omega)), pr_pull k _ i hi]
      rfl
    unfold td
    rw [if_neg m0, ws]
    have il := fld8.fi_lt ml m0
    have im := fld8.fi_mul ml m0
    have fvl := fv_lt wl
    have fvm := fv_mul wl w0
    -- both sides are alike times the product
    have key : fm 285 (s ^^^ i) (fi 285 (fm 285 (wg k i) (s ^^^ i))) = fv (wg k i) := by
      have a : fm 285 (fv (wg k i)) (fm 285 (fm 285 (wg k i) (s ^^^ i)) (fi 285 (fm 285 (wg k i) (s ^^^ i)))) = fv (wg k i) := by rw [im, fld8.fm_one fvl]
      rw [← fld8.fm_assoc, ← fld8.fm_assoc, fvm, fld8.one_fm xl] at a
      exact a
    rw [fld8.fm_assoc, key]
/-- Cauchy's row s, times a factor. -/
theorem gen1_eq {k s i : Nat} (hs : s < 256) (hi : i < k) (hk : k ≤ 256) : fm 285 (wg k s) (gen11 1 k s i) = qq i k s := by
  unfold gen11
  by_cases hsk : s < k
  · rw [if_pos hsk]
    unfold idm
    by_cases e : s = i
    · subst e
      rw [if_pos rfl, fld8.fm_one (wg_lt _ _)]
      rfl
    · rw [if_neg e, fld8.fm_zero]
      exact (pr_zero k _ s hsk (by rw [if_neg e, Nat.xor_self])).symm
  · rw [if_neg hsk]
    have ks : k + (s - k) = s := by omega
    have e1 : par11 1 k (s - k) i = cau k (s - k) i := by unfold par11; rw [if_pos rfl]
    rw [e1]
    unfold cau
    rw [ks]
    have x0 : s ^^^ i ≠ 0 := xor_ne (by omega)
    have xl : s ^^^ i < 256 := xor_lt8 hs (by omega)
    have ws : wg k s = fm 285 (qq i k s) (s ^^^ i) := by
      unfold wg
      rw [pr_congr k (g := fun t => s ^^^ t) (fun t ht => if_neg (by omega)), pr_pull k _ i hi]
      rfl
    unfold ti
    rw [if_neg x0, ws, fld8.fm_assoc, fld8.fi_mul xl x0]
    exact fld8.fm_one (pr_lt _ _)
/-- any k rows have an inverse. -/
theorem any_rows {f : Int} {k n : Nat} {R : Nat → Nat} {T : Nat → Nat → Nat} (hT : ∀ i, i < n → ∀ j, j < k → gen11 f k i j = T i j) (hf : f = 0 ∨ f = 1) (hk : k ≤ 256) (hn : n ≤ 256) (hR : ∀ i, i < k → R i < n) (inj : ∀ i j, j < i → i < k → R i ≠ R j) (hlt : ∀ i j, T (R i) j < 256) :
    (elm k (fun i j => T (R i) j) k).t = k := by
  have r := red_elm (m := k) (M := fun i j => T (R i) j) hlt k
  apply Nat.le_antisymm r.tm
  apply Nat.le_of_not_lt
  intro hlt2
  obtain ⟨c, hc, hfree⟩ := r.free hlt2
  have nl := fun i hi => r.null0 hc hfree (i := i) hi
  have yl := nvs_lt (P := (elm k (fun i j => T (R i) j) k).P) r.lt c (elm k (fun i j => T (R i) j) k).t
  have y1 : nvs (elm k (fun i j => T (R i) j) k).P (elm k (fun i j => T (R i) j) k).M c (elm k (fun i j => T (R i) j) k).t c = 1 := by rw [nvs_else _ hfree, if_pos rfl]
  generalize nvs (elm k (fun i j => T (R i) j) k).P (elm k (fun i j => T (R i) j) k).M c (elm k (fun i j => T (R i) j) k).t = y at nl yl y1
  have hR2 : ∀ i, i < k → R i < 256 := fun i hi => Nat.lt_of_lt_of_le (hR i hi) hn
  rcases hf with rfl | rfl
  · have z := lag_kernel (y := fun i => fm 285 (fv (wg k i)) (y i)) hk hR2 inj (fun i => fld8.fm_lt _ _) (fun s hs => by
      refine Eq.trans (sx_congr (fun i hi => ?_)) (nl s hs)
      show fm 285 (qq i k (R s)) (fm 285 (fv (wg k i)) (y i)) = fm 285 (T (R s) i) (y i)
      rw [← hT _ (hR s hs) i hi, gen0_eq (hR2 s hs) hi hk, fld8.fm_assoc]) c hc
    have w0 : wg k c ≠ 0 := pr_ne k _ (fun t ht => by
      by_cases e : t = c
      · rw [if_pos e]; decide
      · rw [if_neg e]; exact ⟨xor_lt8 (by omega) (by omega), xor_ne (fun x => e x.symm)⟩)
    have z2 : fm 285 (fv (wg k c)) (y c) = 0 := z
    rw [y1, fld8.fm_one (fv_lt (wg_lt k c))] at z2
    have := fv_mul (wg_lt k c) w0
    rw [z2, fld8.zero_fm] at this
    exact absurd this (by decide)
  · have z := lag_kernel (y := y) hk hR2 inj yl (fun s hs => by
      have e : sx k (fun i => fm 285 (qq i k (R s)) (y i)) = fm 285 (wg k (R s)) (sx k (fun i => fm 285 (T (R s) i) (y i))) := by
        rw [fld8.fm_sx]
        exact sx_congr (fun i hi => by rw [← hT _ (hR s hs) i hi, ← gen1_eq (hR2 s hs) hi hk, fld8.fm_assoc])
      rw [e, show sx k (fun i => fm 285 (T (R s) i) (y i)) = 0 from nl s hs, fld8.fm_zero]) c hc
    rw [y1] at z
    exact absurd z (by decide)
end Go.Proofs.Ytgkpoidjiiinnaa
