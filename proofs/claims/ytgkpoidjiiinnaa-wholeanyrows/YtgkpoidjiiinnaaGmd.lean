import Derived.Test.YtgkpoidjiiinnaaMj1
namespace Go.Proofs.Ytgkpoidjiiinnaa
namespace Gf2
set_option linter.unusedVariables false

/-! null vectors of a reduced form, and the rank of the transposed. -/
/-- the vector that is 1 at f, behind r pivots. -/
def nvs (P : Nat → Nat) (M : Nat → Nat → Nat) (f : Nat) : Nat → Nat → Nat
  | 0 => fun j => if j = f then 1 else 0
  | r + 1 => fun j => if j = P r then M r f else nvs P M f r j
theorem nvs_lt {P : Nat → Nat} {M : Nat → Nat → Nat} (h : ∀ i j, M i j < 256) (f : Nat) : ∀ r j, nvs P M f r j < 256
  | 0, j => by unfold nvs; split <;> decide
  | r + 1, j => by
    unfold nvs
    split
    · exact h _ _
    · exact nvs_lt h f r j
theorem nvs_else {P : Nat → Nat} {M : Nat → Nat → Nat} {f j : Nat} : ∀ r, (∀ k, k < r → P k ≠ j) → nvs P M f r j = if j = f then 1 else 0
  | 0, _ => rfl
  | r + 1, h => by
    unfold nvs
    rw [if_neg (fun e => h r (Nat.lt_succ_self r) e.symm)]
    exact nvs_else r (fun k hk => h k (by omega))
theorem nvs_at {P : Nat → Nat} {M : Nat → Nat → Nat} {f k : Nat} : ∀ r, (∀ i, i < r → i ≠ k → P i ≠ P k) → k < r → nvs P M f r (P k) = M k f
  | 0, _, h => absurd h (Nat.not_lt_zero _)
  | r + 1, h, hk => by
    unfold nvs
    by_cases e : k = r
    · subst e; rw [if_pos rfl]
    · rw [if_neg (fun e' => h r (Nat.lt_succ_self r) (fun x => e x.symm) e'.symm)]
      exact nvs_at r (fun i hi => h i (by omega)) (by omega)
theorem Red.inj {m c : Nat} {M0 : Nat → Nat → Nat} {s : St} (h : Red m c M0 s) {i k : Nat} (hi : i < s.t) (hk : k < s.t) (e : i ≠ k) : s.P i ≠ s.P k := by
  rcases Nat.lt_or_gt_of_ne e with x | x
  · exact Nat.ne_of_lt (h.up i k x hk)
  · exact fun y => Nat.ne_of_lt (h.up k i x hi) y.symm
/-- a row of the reduced form times the vector. -/
theorem Red.null {m n f : Nat} {M0 : Nat → Nat → Nat} {s : St} (h : Red m n M0 s) (hf : f < n) (hn : ∀ k, k < s.t → s.P k ≠ f) {i : Nat} (hi : i < m) :
    sx n (fun j => fm 285 (s.M i j) (nvs s.P s.M f s.t j)) = 0 := by
  by_cases hit : i < s.t
  · have e : ∀ j, j < n → fm 285 (s.M i j) (nvs s.P s.M f s.t j) = (if j = f then s.M i f else 0) ^^^ (if j = s.P i then s.M i f else 0) := fun j hj => by
      by_cases hp : ∃ k, k < s.t ∧ s.P k = j
      · obtain ⟨k, hk, rfl⟩ := hp
        rw [nvs_at s.t (fun i' h1 h2 => h.inj h1 hk h2) hk, h.unit i k hi hk, if_neg (hn k hk), Nat.zero_xor]
        unfold idm
        by_cases e : i = k
        · subst e; rw [if_pos rfl, if_pos rfl, fld8.one_fm (h.lt _ _)]
        · rw [if_neg e, if_neg (fun x => h.inj hk hit (fun y => e y.symm) x), fld8.zero_fm]
      · have hq : ∀ k, k < s.t → s.P k ≠ j := fun k hk e => hp ⟨k, hk, e⟩
        rw [nvs_else s.t hq, if_neg (c := j = s.P i) (fun e => hq i hit e.symm), Nat.xor_zero]
        by_cases e : j = f
        · subst e; rw [if_pos rfl, if_pos rfl, fld8.fm_one (h.lt _ _)]
        · rw [if_neg e, if_neg e, fld8.fm_zero]
    rw [sx_congr e, sx_xor, sx_one hf (fun j _ hj => if_neg hj), sx_one (h.pc i hit) (fun j _ hj => if_neg hj), if_pos rfl, if_pos rfl, Nat.xor_self]
  · exact sx_zero (fun j hj => by rw [h.rest i j (by omega) hi hj, fld8.zero_fm])
/-- and a row of the matrix itself. -/
theorem Red.null0 {m n f : Nat} {M0 : Nat → Nat → Nat} {s : St} (h : Red m n M0 s) (hf : f < n) (hn : ∀ k, k < s.t → s.P k ≠ f) {i : Nat} (hi : i < m) :
    sx n (fun j => fm 285 (M0 i j) (nvs s.P s.M f s.t j)) = 0 := by
  obtain ⟨P, Q, e1, e2⟩ := h.like
  have a : sx n (fun j => fm 285 (M0 i j) (nvs s.P s.M f s.t j)) = mm n (mm m Q s.M) (fun j _ => nvs s.P s.M f s.t j) i 0 := sx_congr (fun j _ => by rw [e2 i hi j])
  rw [a, ← mm_assoc]
  exact sx_zero (fun k hk => by
    have : mm n s.M (fun j _ => nvs s.P s.M f s.t j) k 0 = 0 := h.null hf hn hk
    rw [this, fld8.fm_zero])
/-- fewer pivots than columns: a column is free. -/
theorem Red.free {m c : Nat} {M0 : Nat → Nat → Nat} {s : St} (h : Red m c M0 s) (ht : s.t < c) : ∃ f, f < c ∧ ∀ k, k < s.t → s.P k ≠ f := by
  apply Classical.byContradiction
  intro hno
  have all : ∀ f, f < c → ∃ k, k < s.t ∧ s.P k = f := fun f hf => Classical.byContradiction (fun hx => hno ⟨f, hf, fun k hk e => hx ⟨k, hk, e⟩⟩)
  have ge : ∀ f, f < c → ∃ k, f ≤ k ∧ k < s.t ∧ s.P k = f := by
    intro f
    induction f with
    | zero => intro hf; obtain ⟨k, a, b⟩ := all 0 hf; exact ⟨k, Nat.zero_le _, a, b⟩
    | succ f ih =>
      intro hf
      obtain ⟨k, a1, a2, a3⟩ := ih (by omega)
      obtain ⟨k', b1, b2⟩ := all (f + 1) hf
      refine ⟨k', ?_, b1, b2⟩
      rcases Nat.lt_trichotomy k' k with x | x | x
      · have := h.up k' k x a2; omega
      · subst x; omega
      · omega
  obtain ⟨k, a1, a2, a3⟩ := ge (c - 1) (by omega)
  omega
/-- fewer rows than columns: the columns hang together. -/
theorem kernel_ex {t n : Nat} {V : Nat → Nat → Nat} (hV : ∀ i j, V i j < 256) (h : t < n) : ∃ z : Nat → Nat, (∀ j, z j < 256) ∧ (∃ f, f < n ∧ z f ≠ 0) ∧ ∀ i, i < t → sx n (fun j => fm 285 (V i j) (z j)) = 0 := by
  have r := red_elm (m := t) hV n
  obtain ⟨f, hf, hn⟩ := r.free (Nat.lt_of_le_of_lt r.tm h)
  refine ⟨nvs (elm t V n).P (elm t V n).M f (elm t V n).t, nvs_lt r.lt f _, ⟨f, hf, ?_⟩, fun i hi => r.null0 hf hn hi⟩
  rw [nvs_else _ hn, if_pos rfl]
  decide
/-- a product through t has at most t pivots. -/
theorem rank_le {m n t : Nat} {B X Y : Nat → Nat → Nat} (hB : ∀ i j, B i j < 256) (hY : ∀ i j, Y i j < 256) (e : ∀ i j, i < m → j < n → B i j = mm t X Y i j) : (elm m B n).t ≤ t := by
  have r := red_elm (m := m) hB n
  generalize elm m B n = s at r
  apply Nat.le_of_not_lt
  intro hlt
  obtain ⟨z, z1, ⟨f, hf, z2⟩, z3⟩ := kernel_ex (V := fun a k => Y a (s.P k)) (fun i j => hY _ _) hlt
  obtain ⟨P, Q, e1, e2⟩ := r.like
  have u : ∀ i k, i < s.t → k < s.t → idm i k = mm t (mm m P X) (fun a k => Y a (s.P k)) i k := fun i k hi hk => by
    have im : i < m := Nat.lt_of_lt_of_le hi r.tm
    rw [← r.unit i k im hk, e1 i im]
    have a : mm m P B i (s.P k) = mm m P (mm t X Y) i (s.P k) := mm_congr (fun _ _ => rfl) (fun b hb => e b _ hb (r.pc k hk))
    rw [a, mm_assoc]
    rfl
  have q : mm s.t idm (fun k _ => z k) f 0 = mm s.t (mm t (mm m P X) (fun a k => Y a (s.P k))) (fun k _ => z k) f 0 := mm_congr (fun k hk => u f k hf hk) (fun _ _ => rfl)
  rw [idm_mm hf (z1 f), ← mm_assoc] at q
  apply z2
  rw [q]
  exact sx_zero (fun a ha => by
    have : mm s.t (fun a k => Y a (s.P k)) (fun k _ => z k) a 0 = 0 := z3 a ha
    rw [this, fld8.fm_zero])
theorem rank_trn_le {m n : Nat} {A B : Nat → Nat → Nat} (hA : ∀ i j, A i j < 256) (hB : ∀ i j, B i j < 256) (e : ∀ i j, i < n → j < m → B i j = A j i) : (elm n B m).t ≤ (elm m A n).t := by
  have r := red_elm (m := m) hA n
  generalize elm m A n = s at r
  obtain ⟨P, Q, e1, e2⟩ := r.like
  refine rank_le (X := fun j k => s.M k j) (Y := fun k i => fm 285 (Q i k) 1) hB (fun _ _ => fld8.fm_lt _ _) (fun i j hi hj => ?_)
  rw [e i j hi hj, e2 j hj]
  unfold mm
  rw [sx_cut r.tm (fun k h1 h2 => by rw [r.rest k i h1 h2 hi, fld8.fm_zero])]
  exact sx_congr (fun k _ => by rw [fm_comm 285 (s.M k i), fld8.fm_assoc, fld8.one_fm (r.lt _ _)])
theorem rank_trn {m n : Nat} {A : Nat → Nat → Nat} (hA : ∀ i j, A i j < 256) : (elm n (fun i j => A j i) m).t = (elm m A n).t :=
  Nat.le_antisymm (rank_trn_le hA (fun _ _ => hA _ _) (fun _ _ _ _ => rfl)) (rank_trn_le (A := fun i j => A j i) (fun _ _ => hA _ _) hA (fun _ _ _ _ => rfl))
end Gf2
end Go.Proofs.Ytgkpoidjiiinnaa
