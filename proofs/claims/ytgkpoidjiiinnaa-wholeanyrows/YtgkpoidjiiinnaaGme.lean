import Derived.Test.YtgkpoidjiiinnaaMj8
import Derived.Test.YtgkpoidjiiinnaaGmd
namespace Go.Proofs.Ytgkpoidjiiinnaa
namespace Gf2
set_option linter.unusedVariables false

theorem pr_ne : ∀ n (f : Nat → Nat), (∀ i, i < n → f i < 256 ∧ f i ≠ 0) → pr n f ≠ 0
  | 0, _, _ => by unfold pr; decide
  | n + 1, f, h => fld8.fm_ne (pr_lt _ _) (h n (Nat.lt_succ_self n)).1 (pr_ne n f (fun i hi => h i (by omega))) (h n (Nat.lt_succ_self n)).2
theorem pr_zero : ∀ n (f : Nat → Nat) t, t < n → f t = 0 → pr n f = 0
  | 0, _, _, h, _ => absurd h (Nat.not_lt_zero _)
  | n + 1, f, t, h, h0 => by
    show fm 285 (pr n f) (f n) = 0
    by_cases e : t = n
    · subst e; rw [h0, fld8.fm_zero]
    · rw [pr_zero n f t (by omega) h0, fld8.zero_fm]
theorem pr_pull : ∀ n (f : Nat → Nat) i, i < n → pr n f = fm 285 (pr n (fun t => if t = i then 1 else f t)) (f i)
  | 0, _, _, h => absurd h (Nat.not_lt_zero _)
  | n + 1, f, i, h => by
    show fm 285 (pr n f) (f n) = fm 285 (fm 285 (pr n _) (if n = i then 1 else f n)) (f i)
    by_cases e : n = i
    · subst e
      rw [if_pos rfl, fld8.fm_one (pr_lt _ _), pr_congr n (g := fun t => if t = n then 1 else f t) (fun t ht => (if_neg (by omega)).symm)]
    · rw [if_neg e, pr_pull n f i (by omega), fld8.fm_assoc, fm_comm 285 (f i), ← fld8.fm_assoc]
theorem xor_ne {a b : Nat} (h : a ≠ b) : a ^^^ b ≠ 0 := fun e => h (by
  have : a ^^^ b ^^^ b = 0 ^^^ b := by rw [e]
  rwa [Nat.xor_assoc, Nat.xor_self, Nat.xor_zero, Nat.zero_xor] at this)
theorem full_kernel {n : Nat} {A : Nat → Nat → Nat} {y : Nat → Nat} (hA : ∀ i j, A i j < 256) (hy : ∀ j, y j < 256) (ht : (elm n A n).t = n) (h : ∀ i, i < n → sx n (fun j => fm 285 (A i j) (y j)) = 0) : ∀ j, j < n → y j = 0 := by
  intro j hj
  have r := red_elm (m := n) hA n
  have fu := r.full ht
  obtain ⟨P, Q, e1, e2⟩ := r.like
  have a : mm n idm (fun k _ => y k) j 0 = mm n (mm n P A) (fun k _ => y k) j 0 := mm_congr (fun k hk => by rw [← fu j k hj hk, e1 j hj]) (fun _ _ => rfl)
  rw [idm_mm hj (hy j), ← mm_assoc] at a
  rw [a]
  exact sx_zero (fun k hk => by
    have : mm n A (fun k _ => y k) k 0 = 0 := h k hk
    rw [this, fld8.fm_zero])
theorem van_full {n : Nat} {x : Nat → Nat} (hx : ∀ i, x i < 256) (inj : ∀ i j, j < i → i < n → x i ≠ x j) : (elm n (van x) n).t = n := by
  have r := red_elm (m := n) (van_lt x) n
  apply Nat.le_antisymm r.tm
  apply Nat.le_of_not_lt
  intro hlt
  have e := D_van n x hx
  rw [D_dt (van_lt x)] at e
  have z : pp n (fun i j => x i ^^^ x j) ≠ 0 := pr_ne n _ (fun i hi => ⟨pr_lt _ _, pr_ne i _ (fun j hj => ⟨xor_lt8 (hx i) (hx j), xor_ne (inj i j hj hi)⟩)⟩)
  apply z
  rw [← e]
  exact if_pos hlt
/-- the product of s + t over t below n but i. -/
def qq (i n s : Nat) : Nat := pr n (fun t => if t = i then 1 else s ^^^ t)
def dg (i n : Nat) : Nat := if i < n then n else n + 1
theorem poly (i : Nat) : ∀ n, ∃ a : Nat → Nat, (∀ c, a c < 256) ∧ (∀ c, dg i n ≤ c → a c = 0) ∧ ∀ s, s < 256 → qq i n s = sx (dg i n) (fun c => fm 285 (a c) (fp 285 s c))
  | 0 => ⟨fun c => if c = 0 then 1 else 0, fun c => by dsimp only; split <;> decide, fun c hc => by
      have hc : 1 ≤ c := hc
      exact if_neg (by omega), fun s hs => by
      show 1 = sx 1 (fun c => fm 285 (if c = 0 then 1 else 0) (fp 285 s c))
      rw [sx_one (k := 0) (by decide) (fun c h1 h2 => absurd h1 (by omega)), if_pos rfl, fld8.fp_zero]
      decide⟩
  | n + 1 => by
    obtain ⟨a, h1, h2, h3⟩ := poly i n
    by_cases e : n = i
    · subst e
      have d1 : dg n n = n + 1 := if_neg (Nat.lt_irrefl _)
      have d2 : dg n (n + 1) = n + 1 := if_pos (Nat.lt_succ_self _)
      refine ⟨a, h1, fun c hc => h2 c (by rw [d1]; rw [d2] at hc; exact hc), fun s hs => ?_⟩
      have e3 := h3 s hs
      rw [d1] at e3
      rw [d2, ← e3]
      show fm 285 (qq n n s) (if n = n then 1 else s ^^^ n) = qq n n s
      rw [if_pos rfl]
      exact fld8.fm_one (pr_lt _ _)
    · have d2 : dg i (n + 1) = dg i n + 1 := by
        unfold dg
        by_cases h : i < n
        · rw [if_pos h, if_pos (by omega)]
        · rw [if_neg h, if_neg (by omega)]
      refine ⟨fun c => (if c = 0 then 0 else a (c - 1)) ^^^ fm 285 (a c) n, fun c => xor_lt8 (by split; decide; exact h1 _) (fld8.fm_lt _ _), fun c hc => ?_, fun s hs => ?_⟩
      · rw [d2] at hc
        dsimp only
        rw [if_neg (by omega), h2 (c - 1) (by omega), h2 c (by omega), fld8.zero_fm]
        rfl
      · rw [d2]
        show fm 285 (qq i n s) (if n = i then 1 else s ^^^ n) = _
        rw [if_neg e, h3 s hs]
        have e1 : ∀ c, fm 285 ((if c = 0 then 0 else a (c - 1)) ^^^ fm 285 (a c) n) (fp 285 s c) = fm 285 (if c = 0 then 0 else a (c - 1)) (fp 285 s c) ^^^ fm 285 (fm 285 (a c) n) (fp 285 s c) := fun c => by rw [fm_comm 285 _ (fp 285 s c), fld8.fm_xor, fm_comm 285 (fp 285 s c), fm_comm 285 (fp 285 s c)]
        rw [sx_congr (fun c _ => e1 c), sx_xor, sx_first, if_pos rfl, fld8.zero_fm, Nat.zero_xor]
        have e2 : ∀ c, fm 285 (if c + 1 = 0 then 0 else a (c + 1 - 1)) (fp 285 s (c + 1)) = fm 285 (fm 285 (a c) (fp 285 s c)) s := fun c => by
          rw [if_neg (by omega), Nat.add_sub_cancel, fld8.fp_succ hs, fld8.fm_assoc]
        rw [sx_congr (fun c _ => e2 c), ← sx_fm]
        have e3 : sx (dg i n + 1) (fun c => fm 285 (fm 285 (a c) n) (fp 285 s c)) = fm 285 (sx (dg i n) (fun c => fm 285 (a c) (fp 285 s c))) n := by
          rw [sx_cut (m := dg i n) (Nat.le_succ _) (fun c hc _ => by rw [h2 c hc, fld8.zero_fm, fld8.zero_fm]), sx_fm]
          exact sx_congr (fun c _ => by rw [fld8.fm_assoc, fm_comm 285 n, ← fld8.fm_assoc])
        rw [e3, ← fld8.fm_xor]
/-- a sum of these products that is 0 at k points is 0. -/
theorem lag_kernel {k : Nat} {R y : Nat → Nat} (hk : k ≤ 256) (hR : ∀ i, i < k → R i < 256) (inj : ∀ i j, j < i → i < k → R i ≠ R j) (hy : ∀ i, y i < 256) (h : ∀ r, r < k → sx k (fun i => fm 285 (qq i k (R r)) (y i)) = 0) : ∀ i, i < k → y i = 0 := by
  obtain ⟨A, hA⟩ := Classical.skolem.1 (fun i => poly i k)
  have dk : ∀ i, i < k → dg i k = k := fun i hi => if_pos hi
  have ex : ∀ s, s < 256 → sx k (fun i => fm 285 (qq i k s) (y i)) = sx k (fun c => fm 285 (fp 285 s c) (sx k (fun i => fm 285 (A i c) (y i)))) := fun s hs => by
    have e1 : ∀ i, i < k → fm 285 (qq i k s) (y i) = sx k (fun c => fm 285 (fp 285 s c) (fm 285 (A i c) (y i))) := fun i hi => by
      rw [(hA i).2.2 s hs, dk i hi, sx_fm]
      exact sx_congr (fun c _ => by rw [fm_comm 285 (A i c), fld8.fm_assoc])
    rw [sx_congr e1, sx_swap]
    exact sx_congr (fun c _ => (fld8.fm_sx _ _ _).symm)
  have hx : ∀ i, (fun i => if i < k then R i else 0) i < 256 := fun i => by
    dsimp only
    split
    · next h => exact hR i h
    · decide
  have vf := van_full (n := k) hx (fun i j h1 h2 => by
    show (if i < k then R i else 0) ≠ (if j < k then R j else 0)
    rw [if_pos h2, if_pos (by omega)]; exact inj i j h1 h2)
  have B0 := full_kernel (y := fun c => sx k (fun i => fm 285 (A i c) (y i))) (van_lt _) (fun c => sx_lt (d := 8) (fun _ _ => fld8.fm_lt _ _)) vf (fun r hr => by
    have := h r hr
    rw [ex _ (hR r hr)] at this
    refine Eq.trans (sx_congr (fun c _ => ?_)) this
    show fm 285 (fp 285 (if r < k then R r else 0) c) _ = _
    rw [if_pos hr])
  intro i hi
  have z := (ex i (by omega)).trans (sx_zero (fun c hc => by
    have b : sx k (fun i => fm 285 (A i c) (y i)) = 0 := B0 c hc
    rw [b, fld8.fm_zero]))
  rw [sx_one hi (fun j hj hne => by
    rw [show qq j k i = 0 from pr_zero k _ i hi (by rw [if_neg (fun e => hne e.symm), Nat.xor_self]), fld8.zero_fm])] at z
  have q0 : qq i k i ≠ 0 := pr_ne k _ (fun t ht => by
    by_cases e : t = i
    · rw [if_pos e]; decide
    · rw [if_neg e]; exact ⟨xor_lt8 (by omega) (by omega), xor_ne (fun x => e x.symm)⟩)
  rcases (fld8.fm_eq_zero (pr_lt _ _) (hy i)).1 z with a | a
  · exact absurd a q0
  · exact a
end Gf2
end Go.Proofs.Ytgkpoidjiiinnaa
