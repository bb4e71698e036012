import Derived.Test.YtlblkckglelbdaaGreatMwbe
import Derived.Test.YtlblkckglelbdaaGreatMwbf
import Derived.Test.YtlblkckglelbdaaGreatMwae
import Derived.Test.YtlblkckglelbdaaGreatMwav
namespace Go.Proofs.YtlblkckglelbdaaGreat
open Go.RowKit Gf2
set_option linter.unusedVariables false

/-- the factors of the parity. -/
def par11 (f : Int) (k : Nat) : Nat → Nat → Nat := if f = 1 then cau k else lgr k
/-- all rows. -/
def gen11 (f : Int) (k : Nat) : Nat → Nat → Nat := fun i j => if i < k then idm i j else par11 f k (i - k) j
end Go.Proofs.YtlblkckglelbdaaGreat
namespace Go.Proofs.YtlblkckglelbdaaGreat
open Go.RowKit Gf2
set_option linter.unusedVariables false

theorem Qi.take {w : World} {a : Option Addr} {n cap k : Nat} {F : Nat → Int} (h : Qi w (.slice a n cap) n F) (hk : k ≤ n) : Qi w (.slice a k cap) k F := by
  obtain ⟨h1, -, a', cap', e, h5, h6, h4⟩ := h
  cases e
  refine ⟨by omega, trivial, _, _, rfl, by omega, h6, fun h0 => ?_⟩
  obtain ⟨b, o, e, hl, hc⟩ := h4 (by omega)
  exact ⟨b, o, e, hl, fun i hi => hc i (by omega)⟩
end Go.Proofs.YtlblkckglelbdaaGreat
namespace Go.Proofs.YtlblkckglelbdaaGreat
open Go.RowKit Gf2
set_option linter.unusedVariables false

/-- Vander's row s, by the products. -/
theorem gen0_eq {k s i : Nat} (hs : s < 256) (hi : i < k) (hk : k ≤ 256) : gen11 0 k s i = fm 285 (qq i k s) (fv (wg k i)) := by
  have wi : wg k i = qq i k i := rfl
  have wl : wg k i < 256 := wg_lt k i
  have w0 : wg k i ≠ 0 := pr_ne k _ (fun t ht => by
    by_cases e : t = i
    · rw [if_pos e]; decide
    · rw [if_neg e]; exact ⟨xor_lt8 (by omega) (by omega), xor_ne (fun x => e x.symm)⟩)
  unfold gen11
  by_cases hsk : s < k
  · rw [if_pos hsk]
    unfold idm
    by_cases e : s = i
    · subst e
      rw [if_pos rfl, ← wi, fm_comm, fv_mul wl w0]
    · rw [if_neg e, show qq i k s = 0 from pr_zero k _ s hsk (by rw [if_neg e, Nat.xor_self]), fld8.zero_fm]
  · rw [if_neg hsk]
    have ks : k + (s - k) = s := by omega
    have e1 : par11 0 k (s - k) i = lgr k (s - k) i := by unfold par11; rw [if_neg (by decide)]
    rw [e1]
    unfold lgr
    rw [ks]
    have x0 : s ^^^ i ≠ 0 := xor_ne (by omega)
    have xl : s ^^^ i < 256 := xor_lt8 hs (by omega)
    have m0 : fm 285 (wg k i) (s ^^^ i) ≠ 0 := fld8.fm_ne wl xl w0 x0
    have ml : fm 285 (wg k i) (s ^^^ i) < 256 := fld8.fm_lt _ _
    have ws : wg k s = fm 285 (qq i k s) (s ^^^ i) := by
      unfold wg
      rw [pr_congr k (g := fun t => s ^^^ t) (fun t ht => if_neg (by omega)), pr_pull k _ i hi]
      rfl
    unfold td
    rw [if_neg m0, ws]
    have il := fld8.fi_lt ml m0
    have im := fld8.fi_mul ml m0
    have fvl := fv_lt wl
    have fvm := fv_mul wl w0
    -- both sides are alike times the product
    have key : fm 285 (s ^^^ i) (fi 285 (fm 285 (wg k i) (s ^^^ i))) = fv (wg k i) := by
      have a : fm 285 (fv (wg k i)) (fm 285 (fm 285 (wg k i) (s ^^^ i)) (fi 285 (fm 285 (wg k i) (s ^^^ i)))) = fv (wg k i) := by rw [im, fld8.fm_one fvl]
      rw [← fld8.fm_assoc, ← fld8.fm_assoc, fvm, fld8.one_fm xl] at a
      exact a
    rw [fld8.fm_assoc, key]
/-- Cauchy's row s, times a factor. -/
theorem gen1_eq {k s i : Nat} (hs : s < 256) (hi : i < k) (hk : k ≤ 256) : fm 285 (wg k s) (gen11 1 k s i) = qq i k s := by
  unfold gen11
  by_cases hsk : s < k
  · rw [if_pos hsk]
    unfold idm
    by_cases e : s = i
    · subst e
      rw [if_pos rfl, fld8.fm_one (wg_lt _ _)]
      rfl
    · rw [if_neg e, fld8.fm_zero]
      exact (pr_zero k _ s hsk (by rw [if_neg e, Nat.xor_self])).symm
  · rw [if_neg hsk]
    have ks : k + (s - k) = s := by omega
    have e1 : par11 1 k (s - k) i = cau k (s - k) i := by unfold par11; rw [if_pos rfl]
    rw [e1]
    unfold cau
    rw [ks]
    have x0 : s ^^^ i ≠ 0 := xor_ne (by omega)
    have xl : s ^^^ i < 256 := xor_lt8 hs (by omega)
    have ws : wg k s = fm 285 (qq i k s) (s ^^^ i) := by
      unfold wg
      rw [pr_congr k (g := fun t => s ^^^ t) (fun t ht => if_neg (by omega)), pr_pull k _ i hi]
      rfl
    unfold ti
    rw [if_neg x0, ws, fld8.fm_assoc, fld8.fi_mul xl x0]
    exact fld8.fm_one (pr_lt _ _)
end Go.Proofs.YtlblkckglelbdaaGreat
namespace Go.Proofs.YtlblkckglelbdaaGreat
open Gf2
set_option linter.unusedVariables false

-- layer 11: Vander's generator by its polynomials
theorem gen_poly8 {k i : Nat} (hi : i < k) (hk : k ≤ 256) : ∃ a, Gf2.El 8 a ∧ Dg a k ∧ ∀ s, s < 256 → pe 285 s k a = gen11 0 k s i := by
  obtain ⟨a, h1, h2, h3⟩ := poly i k
  have e : dg i k = k := if_pos hi
  rw [e] at h2 h3
  refine ⟨pc 285 (fv (wg k i)) a, fld8.el_pc _ _, fun c hc => ?_, fun s hs => ?_⟩
  · show fm 285 _ (a c) = 0
    rw [h2 c hc, fld8.fm_zero]
  · rw [fld8.pe_pc, gen0_eq hs hi hk, h3 s hs, fm_comm]
    rfl
end Go.Proofs.YtlblkckglelbdaaGreat
namespace Go.Proofs.YtlblkckglelbdaaGreat
open Go.RowKit Gf2
set_option linter.unusedVariables false

theorem Qi.tail {w : World} {b o n n1 cap : Nat} {x : Option Addr} {F : Nat → Int} (h : Qi w (.slice (some ⟨b, o, none⟩) n1 cap) n1 F) (e1 : n1 = n + 1) (hx : 0 < n1 - 1 → x = some ⟨b, o + 1, none⟩) : Qi w (.slice x (n1 - 1) (cap - 1)) (n1 - 1) (fun i => F (i + 1)) := by
  subst e1
  obtain ⟨h1, -, a', cap', e, h5, h6, h4⟩ := h
  cases e
  refine ⟨by omega, trivial, _, _, rfl, by omega, by omega, fun h0 => ?_⟩
  obtain ⟨b, o, e, hl, hc⟩ := h4 (by omega)
  cases e
  exact ⟨_, _, hx h0, hl, fun i hi => by rw [show o + 1 + i = o + (i + 1) by omega]; exact hc _ (by omega)⟩
end Go.Proofs.YtlblkckglelbdaaGreat
