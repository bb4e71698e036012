import Derived.Test.YtlblkckglelbdaaGreatMwbd
import Derived.Test.YtlblkckglelbdaaGreatMwbg
namespace Go.Proofs.YtlblkckglelbdaaGreat
open Go.RowKit Gf2
set_option linter.unusedVariables false

-- layer 19: what a codeword's column is
theorem pv_wg19 {x : Nat} (hx : x < 256) : ∀ k, k ≤ x → pe 285 x (k + 1) (pv 285 (fun j => j) k) = wg k x
  | 0, _ => by
    show pe 285 x 1 po = 1
    show sx 1 _ = 1
    simp [sx, po, fld8.fp_zero, fld8.one_fm (show 1 < 2 ^ 8 by decide)]
  | k + 1, h => by
    rw [fld8.pe_pv_succ (pts := fun j => j) (n := k) (x := x) (by show k < 256; omega) hx, pv_wg19 hx k (by omega), wg_step (show k ≠ x by omega), Nat.xor_comm]
theorem pd_wg19 {x : Nat} (hx : x < 256) : ∀ k, k ≤ 256 → x < k → pe 285 x k (pd (pv 285 (fun j => j) k)) = wg k x
  | 0, _, h => absurd h (Nat.not_lt_zero _)
  | k + 1, hk, h => by
    rw [fld8.pe_pd_pv (pts := fun j => j) (n := k) (x := x) (by show k < 256; omega) hx]
    by_cases e : x = k
    · subst e
      rw [Nat.xor_self, fld8.fm_zero, Nat.zero_xor, pv_wg19 hx x (Nat.le_refl _), wg_skip]
    · have hr := fld8.pv_root (pts := fun j => j) (x := x) hx k (fun i hi => by show i < 256; omega)
      have hc := cnt_id19 x k
      rw [if_pos (show x < k by omega)] at hc
      rw [hr.2 (by omega), Nat.xor_zero, pd_wg19 hx k (by omega) (by omega), wg_step (show k ≠ x from fun h9 => e h9.symm), Nat.xor_comm]
theorem sc_wg19 {k x : Nat} (hx : x < 256) (hk : k ≤ 256) : sc19 1 k x = wg k x := by
  unfold sc19
  rw [if_neg (by decide)]
  by_cases h : x < k
  · rw [if_pos h, pd_wg19 hx k hk h]
  · rw [if_neg h, pv_wg19 hx k (by omega)]
theorem code_poly19 {f k i : Nat} (hf : f ≤ 1) (hi : i < k) (hk : k ≤ 256) : ∃ a, Gf2.El 8 a ∧ Dg a k ∧ ∀ s, s < 256 → pe 285 s k a = fm 285 (sc19 f k s) (gen11 f k s i) := by
  rcases (show f = 0 ∨ f = 1 by omega) with rfl | rfl
  · obtain ⟨a, h1, h2, h3⟩ := gen_poly8 hi hk
    refine ⟨a, h1, h2, fun s hs => ?_⟩
    have e : sc19 0 k s = 1 := rfl
    have h4 := h3 s hs
    have h5 : gen11 ((0 : Nat) : Int) k s i < 2 ^ 8 := by
      show gen11 0 k s i < 2 ^ 8
      rw [← h4]
      exact fld8.pe_lt _ _ _
    rw [e, fld8.one_fm h5]
    exact h4
  · obtain ⟨a, h1, h2, h3⟩ := poly i k
    have e : dg i k = k := if_pos hi
    rw [e] at h2 h3
    refine ⟨a, h1, h2, fun s hs => ?_⟩
    rw [sc_wg19 hs hk]
    have h4 := gen1_eq hs hi hk
    show _ = fm 285 (wg k s) (gen11 1 k s i)
    rw [h4, h3 s hs]
    rfl
/-- a codeword's column: each byte is the sum of the generator's row times the data. -/
def Cw19 (f k n : Nat) (c : Nat → Nat) : Prop := ∀ x, x < n → c x = sx k (fun i => fm 285 (gen11 f k x i) (c i))
theorem polys19 {f k : Nat} (hf : f ≤ 1) (hk : k ≤ 256) : ∃ a : Nat → Nat → Nat, ∀ i, i < k → Gf2.El 8 (a i) ∧ Dg (a i) k ∧ ∀ s, s < 256 → pe 285 s k (a i) = fm 285 (sc19 f k s) (gen11 f k s i) := by
  refine ⟨fun i => if h : i < k then Classical.choose (code_poly19 hf h hk) else fun _ => 0, fun i hi => ?_⟩
  simp only [dif_pos hi]
  exact Classical.choose_spec (code_poly19 hf hi hk)
theorem lag_code19 {f k s : Nat} {a : Nat → Nat → Nat} (hs : s < 256) (ha : ∀ i, i < k → Gf2.El 8 (a i) ∧ Dg (a i) k ∧ ∀ s, s < 256 → pe 285 s k (a i) = fm 285 (sc19 f k s) (gen11 f k s i)) (c : Nat → Nat) : pe 285 s k (lag 285 c a k) = fm 285 (sc19 f k s) (sx k (fun i => fm 285 (gen11 f k s i) (c i))) := by
  rw [fld8.pe_lag, fm_comm 285 (sc19 f k s), sx_fm]
  refine sx_congr (fun i hi => ?_)
  rw [(ha i hi).2.2 s hs, fm_comm 285 (c i), fm_comm 285 (sc19 f k s), fld8.fm_assoc, fld8.fm_assoc, fm_comm 285 (sc19 f k s)]
theorem cw_poly19 {f k n : Nat} {c : Nat → Nat} (hf : f ≤ 1) (hk : k ≤ n) (hn : n ≤ 256) (h : Cw19 f k n c) : ∃ F, Gf2.El 8 F ∧ Dg F k ∧ ∀ x, x < n → pe 285 x k F = fm 285 (sc19 f k x) (c x) := by
  obtain ⟨a, ha⟩ := polys19 (f := f) hf (Nat.le_trans hk hn)
  refine ⟨lag 285 c a k, fld8.el_lag _ _ _, fld8.lag_dg k (fun i hi => (ha i hi).2.1), fun x hx => ?_⟩
  rw [lag_code19 (by omega) ha c, ← h x hx]
theorem gen_top19 {f k x : Nat} {v : Nat → Nat} (hx : x < k) (hv : v x < 256) : sx k (fun i => fm 285 (gen11 f k x i) (v i)) = v x := by
  rw [sx_one hx (fun i hi hne => by
    unfold gen11 idm
    rw [if_pos hx, if_neg (fun e => hne e.symm), fld8.zero_fm])]
  unfold gen11 idm
  rw [if_pos hx, if_pos rfl, fld8.one_fm hv]
theorem poly_cw19 {f k n : Nat} {F v : Nat → Nat} (hf : f ≤ 1) (hk : k ≤ n) (hn : n ≤ 256) (eF : Gf2.El 8 F) (dF : Dg F k) (hv : ∀ x, v x = fm 285 (fi 285 (sc19 f k x)) (pe 285 x k F)) : Cw19 f k n v := by
  obtain ⟨a, ha⟩ := polys19 (f := f) hf (Nat.le_trans hk hn)
  have hl : ∀ x, v x < 256 := fun x => by rw [hv x]; exact fm8_lt _ _
  have key : ∀ x, x < 256 → fm 285 (sc19 f k x) (v x) = pe 285 x k F := fun x hx => by
    rw [hv x, ← fld8.fm_assoc, fld8.fi_mul (sc19_lt _ _ _) (sc19_ne hx (by omega)), fld8.one_fm (fld8.pe_lt _ _ _)]
  have eG : F = lag 285 v a k := fld8.through_only (n := k) (pts := fun t => t) eF (fld8.el_lag _ _ _) dF (fld8.lag_dg k (fun i hi => (ha i hi).2.1)) (fun t ht => by show t < 256; omega) (fun _ _ _ _ h => h) (fun t ht => by
    show pe 285 t k F = pe 285 t k (lag 285 v a k)
    rw [lag_code19 (by omega) ha v, gen_top19 ht (hl t), key t (by omega)])
  intro x hx
  have h1 : pe 285 x k F = fm 285 (sc19 f k x) (sx k (fun i => fm 285 (gen11 f k x i) (v i))) := by
    rw [← lag_code19 (s := x) (by omega) ha v, ← eG]
  rw [hv x, h1, ← fld8.fm_assoc, fm_comm 285 (fi 285 _), fld8.fi_mul (sc19_lt _ _ _) (sc19_ne (by omega) (by omega)), fld8.one_fm]
  exact sx_lt (d := 8) (fun _ _ => fld8.fm_lt _ _)
end Go.Proofs.YtlblkckglelbdaaGreat
