import Derived.Test.YtefolifecbhgoaaGreatMbal
import Derived.Test.YtefolifecbhgoaaGreatMban
namespace Go.Proofs.YtefolifecbhgoaaGreat
open Go.RowKit Gf2
set_option linter.unusedVariables false

theorem Ke.drew {E : Nat → Prop} {a b : World} (h : Ke E a b) : Ke E a b.drew := ⟨h.1.drew, h.2⟩
theorem Cs.drew {lo hi m : Nat} {w : World} {v : Value} {n C B : Nat → Nat} {S : Nat → Nat → Nat} (h : Cs lo hi w v m n C B S) : Cs lo hi w.drew v m n C B S := h.keep (Ke.refl (fun _ => False) w).drew (fun _ _ _ e => e)
end Go.Proofs.YtefolifecbhgoaaGreat
namespace Go.Proofs.YtefolifecbhgoaaGreat
open Go.RowKit Gf2
set_option linter.unusedVariables false

theorem fit9_split {m k d : Nat} {nr ns nd : Nat → Nat} {fr to : Int} (hf : fit9 m k d nr ns nd fr to = 0) : FitL m k d nr ns nd ∧ FitR fr to (len9 k d ns nd) := by
  unfold fit9 at hf
  split at hf
  · next h1 =>
    split at hf
    · next h2 => exact ⟨h1, h2⟩
    · cases hf
  · cases hf
theorem Lb.form {E : Nat → Prop} {w : World} {v : Value} {m : Nat} {n : Nat → Nat} {S : Nat → Nat → Nat} (h : Ll E w v m n S) : ∃ x c, v = .slice x m c := by
  obtain ⟨V, ⟨_, a, c, e, _⟩, _⟩ := h
  exact ⟨a, c, e⟩
end Go.Proofs.YtefolifecbhgoaaGreat
namespace Go.Proofs.YtefolifecbhgoaaGreat
open Go.RowKit Gf2
set_option linter.unusedVariables false

def Eb (m : Nat) (B : Nat → Nat) (x : Nat) : Prop := ∃ r, r < m ∧ x = B r
structure Dl (w : World) (v : Value) (m L : Nat) (B o Nn : Nat → Nat) (G : Nat → Nat → Nat) : Prop where
  lv : ∃ (A : Nat → Option Addr) (C : Nat → Nat), Lv (Eb m B) w v m (fun r => .slice (A r) L (C r)) ∧ ∀ r, r < m → L ≤ C r ∧ C r ≤ big ∧ (0 < L → A r = some ⟨B r, o r, none⟩)
  row : ∀ r, r < m → Rw w (B r) (Nn (B r)) (G (B r)) ∧ o r + L ≤ Nn (B r)
  apart : ∀ r s, r < m → s < m → r ≠ s → B r ≠ B s ∨ o r + L ≤ o s ∨ o s + L ≤ o r
def apb (B o : Nat → Nat) (f t : Nat) (V : Nat → Nat → Nat) (G : Nat → Nat → Nat) : Nat → Nat → Nat → Nat
  | 0, b, p => G b p
  | m + 1, b, p => if b = B m ∧ o m + f ≤ p ∧ p < o m + t then V m (p - o m) else apb B o f t V G m b p
def spb (B o : Nat → Nat) (f t : Nat) (V : Nat → Nat → Nat) (G : Nat → Nat → Nat) : Nat → Nat → Nat → Nat
  | 0, b, p => G b p
  | m + 1, b, p => if b = B m ∧ o m + f ≤ p ∧ p < o m + t then spb B o f t V G m b p ^^^ V m (p - o m) else spb B o f t V G m b p

theorem apb_none {B o : Nat → Nat} {f t : Nat} {V G : Nat → Nat → Nat} {b p : Nat} : ∀ m, (∀ r, r < m → ¬ (b = B r ∧ o r + f ≤ p ∧ p < o r + t)) → apb B o f t V G m b p = G b p
  | 0, _ => rfl
  | m + 1, h => by unfold apb; rw [if_neg (h m (Nat.lt_succ_self _))]; exact apb_none m (fun r hr => h r (by omega))
theorem apb_at {B o : Nat → Nat} {f t : Nat} {V G : Nat → Nat → Nat} {b p r : Nat} : ∀ m, r < m → b = B r ∧ o r + f ≤ p ∧ p < o r + t → (∀ s, s < m → s ≠ r → ¬ (b = B s ∧ o s + f ≤ p ∧ p < o s + t)) → apb B o f t V G m b p = V r (p - o r)
  | 0, h, _, _ => absurd h (Nat.not_lt_zero _)
  | m + 1, h, hr, hs => by
    unfold apb
    by_cases e : r = m
    · subst e; rw [if_pos hr]
    · rw [if_neg (hs m (Nat.lt_succ_self _) (fun x => e x.symm))]
      exact apb_at m (by omega) hr (fun s hs' => hs s (by omega))
theorem spb_none {B o : Nat → Nat} {f t : Nat} {V G : Nat → Nat → Nat} {b p : Nat} : ∀ m, (∀ r, r < m → ¬ (b = B r ∧ o r + f ≤ p ∧ p < o r + t)) → spb B o f t V G m b p = G b p
  | 0, _ => rfl
  | m + 1, h => by unfold spb; rw [if_neg (h m (Nat.lt_succ_self _))]; exact spb_none m (fun r hr => h r (by omega))
theorem spb_at {B o : Nat → Nat} {f t : Nat} {V G : Nat → Nat → Nat} {b p r : Nat} : ∀ m, r < m → b = B r ∧ o r + f ≤ p ∧ p < o r + t → (∀ s, s < m → s ≠ r → ¬ (b = B s ∧ o s + f ≤ p ∧ p < o s + t)) → spb B o f t V G m b p = G b p ^^^ V r (p - o r)
  | 0, h, _, _ => absurd h (Nat.not_lt_zero _)
  | m + 1, h, hr, hs => by
    unfold spb
    by_cases e : r = m
    · subst e; rw [if_pos hr, spb_none r (fun s hs' => hs s (by omega) (by omega))]
    · rw [if_neg (hs m (Nat.lt_succ_self _) (fun x => e x.symm))]
      exact spb_at m (by omega) hr (fun s hs' => hs s (by omega))

def inv9 : Nat → (Nat → Nat) → Nat → Nat
  | 0, _, _ => 0
  | m + 1, B, b => if B m = b then m else inv9 m B b
theorem inv9_at {m : Nat} {B : Nat → Nat} (inj : ∀ i j, i < m → j < m → B i = B j → i = j) {r : Nat} (hr : r < m) : inv9 m B (B r) = r := by
  induction m with
  | zero => exact absurd hr (Nat.not_lt_zero _)
  | succ m ih =>
    unfold inv9
    by_cases e : B m = B r
    · rw [if_pos e]; exact inj m r (Nat.lt_succ_self _) hr e
    · rw [if_neg e]
      have hne : r ≠ m := fun x => e (by rw [x])
      exact ih (fun i j hi hj => inj i j (by omega) (by omega)) (by omega)
theorem Cs.dl {lo hi m L : Nat} {w : World} {v : Value} {n C B : Nat → Nat} {S : Nat → Nat → Nat} (h : Cs lo hi w v m n C B S) (hn : ∀ i, i < m → n i = L) : Dl w v m L B (fun _ => 0) (fun b => C (inv9 m B b)) (fun b => S (inv9 m B b)) := by
  refine ⟨⟨fun r => some ⟨B r, 0, none⟩, C, ⟨h.mb, ?_⟩, fun r hr => ?_⟩, fun r hr => ?_, fun r s hr hs hrs => .inl (fun e => hrs (h.inj r s hr hs e))⟩
  · obtain ⟨a, c, e, hc1, hc2, hf⟩ := h.form
    refine ⟨a, c, e, hc1, hc2, fun h0 => ?_⟩
    obtain ⟨g, e1, g1, g2, g3, g4⟩ := hf h0
    have hw := h.hw
    exact ⟨g, 0, e1, ⟨by omega, fun ⟨r, hr, e⟩ => g3 r hr e.symm⟩, fun i hi => by rw [Nat.zero_add, g4 i hi, hn i hi]⟩
  · obtain ⟨r1, r2, r3, r4⟩ := h.row r hr
    exact ⟨by rw [← hn r hr]; exact r3, r4.1, fun _ => rfl⟩
  · obtain ⟨r1, r2, r3, r4⟩ := h.row r hr
    rw [inv9_at h.inj hr]
    exact ⟨r4, by rw [← hn r hr]; omega⟩
theorem cs_apb {m : Nat} {B : Nat → Nat} (inj : ∀ i j, i < m → j < m → B i = B j → i = j) (f t : Nat) (V S : Nat → Nat → Nat) {r p : Nat} (hr : r < m) :
    apb B (fun _ => 0) f t V (fun b => S (inv9 m B b)) m (B r) p = if f ≤ p ∧ p < t then V r p else S r p := by
  by_cases e : f ≤ p ∧ p < t
  · rw [if_pos e, apb_at (r := r) m hr ⟨rfl, by omega, by omega⟩ (fun s hs hne h => hne (inj s r hs hr h.1.symm)), Nat.sub_zero]
  · rw [if_neg e, apb_none m (fun s hs h => e ⟨by omega, by omega⟩), inv9_at inj hr]
end Go.Proofs.YtefolifecbhgoaaGreat
