import Derived.Test.YtfhgamaakkoplaaMvax
import Derived.BigQuiet
import Derived.Test.YtfhgamaakkoplaaMval
import Derived.Test.YtfhgamaakkoplaaMvaw
import Derived.WalkMore
import Derived.Deep.LoopGhost
namespace Go.Proofs.Ytfhgamaakkoplaa
open Go.RowKit Gf2
set_option linter.unusedVariables false

/-- two rows change places. -/
theorem swp_inj {m t r : Nat} {B : Nat → Nat} (inj : ∀ i j, i < m → j < m → B i = B j → i = j) (ht : t < m) (hr : r < m) (i j : Nat) (hi : i < m) (hj : j < m) (e : swp B t r i = swp B t r j) : i = j := by
  unfold swp at e
  by_cases h1 : i = t
  · rw [if_pos h1] at e
    by_cases h2 : j = t
    · omega
    · rw [if_neg h2] at e
      by_cases h3 : j = r
      · rw [if_pos h3] at e; have := inj _ _ hr ht e; omega
      · rw [if_neg h3] at e; have := inj _ _ hr hj e; omega
  · rw [if_neg h1] at e
    by_cases h4 : i = r
    · rw [if_pos h4] at e
      by_cases h2 : j = t
      · rw [if_pos h2] at e; have := inj _ _ ht hr e; omega
      · rw [if_neg h2] at e
        by_cases h3 : j = r
        · omega
        · rw [if_neg h3] at e; have := inj _ _ ht hj e; omega
    · rw [if_neg h4] at e
      by_cases h2 : j = t
      · rw [if_pos h2] at e; have := inj _ _ hi hr e; omega
      · rw [if_neg h2] at e
        by_cases h3 : j = r
        · rw [if_pos h3] at e; have := inj _ _ hi ht e; omega
        · rw [if_neg h3] at e; exact inj _ _ hi hj e
theorem swp_prop {α : Type} {M : Nat → α} {p : α → Prop} {m t r : Nat} (h : ∀ i, i < m → p (M i)) (ht : t < m) (hr : r < m) (i : Nat) (hi : i < m) : p (swp M t r i) := by
  unfold swp
  split
  · exact h r hr
  · split
    · exact h t ht
    · exact h i hi
/-- what a swap leaves. -/
def swapped (w : World) (g t r k : Nat) (B : Nat → Nat) : World := (w.setCell ⟨g, t, none⟩ (.slice (some ⟨B r, 0, none⟩) k k)).setCell ⟨g, r, none⟩ (.slice (some ⟨B t, 0, none⟩) k k)
theorem Cs.swap {lo hi m k g t r : Nat} {w : World} {B : Nat → Nat} {S : Nat → Nat → Nat} (hC : Cs lo hi w (.slice (some ⟨g, 0, none⟩) m m) m (fun _ => k) (fun _ => k) B S) (hL : w.rowIs g 25 m (fun i => .slice (some ⟨B i, 0, none⟩) k k)) (ht : t < m) (hr : r < m) :
    Cs lo hi (swapped w g t r k B) (.slice (some ⟨g, 0, none⟩) m m) m (fun _ => k) (fun _ => k) (swp B t r) (swp S t r) ∧ (swapped w g t r k B).rowIs g 25 m (fun i => .slice (some ⟨swp B t r i, 0, none⟩) k k) ∧ Only g w (swapped w g t r k B) := by
  have ho : Only g w (swapped w g t r k B) := ((Only.refl g w).setCell t _).setCell r _
  have hL2 : (swapped w g t r k B).rowIs g 25 m (fun i => .slice (some ⟨swp B t r i, 0, none⟩) k k) := ((hL.set t _).set r _).congr (fun i hi' => by
    unfold swp
    by_cases h1 : i = t
    · by_cases h2 : i = r
      · rw [if_pos h2, if_pos h1, ← h1, ← h2]
      · rw [if_neg h2, if_pos h1, if_pos h1]
    · by_cases h2 : i = r
      · rw [if_pos h2, if_neg h1, if_pos h2]
      · rw [if_neg h2, if_neg h1, if_neg h1, if_neg h2])
  refine ⟨?_, hL2, ho⟩
  obtain ⟨mb, hw, ⟨a, c, e, hc1, hc2, hf⟩, row, inj⟩ := hC
  obtain ⟨g', e1, g1, g2, g3, g4⟩ := hf (by omega)
  have eg : a = some ⟨g, 0, none⟩ := by cases e; rfl
  have eg' : g' = g := by rw [eg] at e1; cases e1; rfl
  subst eg'
  refine ⟨mb, by rw [ho.2.1]; exact hw, ⟨a, c, e, hc1, hc2, fun _ => ⟨g', e1, g1, g2, fun i hi' => ?_, fun i hi' => ?_⟩⟩, fun i hi' => ?_, swp_inj inj ht hr⟩
  · exact swp_prop (M := B) (p := fun x => x ≠ g') g3 ht hr i hi'
  · rw [hL2.cell hi']
  · have rw2 : ∀ i, i < m → lo ≤ B i ∧ B i < hi ∧ k ≤ k ∧ Rw (swapped w g' t r k B) (B i) k (S i) := fun i hi' => ⟨(row i hi').1, (row i hi').2.1, Nat.le_refl _, ho.rw_ (row i hi').2.2.2 (g3 i hi')⟩
    show lo ≤ swp B t r i ∧ swp B t r i < hi ∧ k ≤ k ∧ Rw (swapped w g' t r k B) (swp B t r i) k (swp S t r i)
    unfold swp
    split
    · exact rw2 r hr
    · split
      · exact rw2 t ht
      · exact rw2 i hi'

/-- the state of an elimination. -/
structure El (lo hi m k gm : Nat) (w wr : World) (pv : Value) (s : St) : Prop where
  cs : ∃ B, Cs lo hi wr (.slice (some ⟨gm, 0, none⟩) m m) m (fun _ => k) (fun _ => k) B s.M ∧ wr.rowIs gm 25 m (fun i => .slice (some ⟨B i, 0, none⟩) k k)
  tab : Tab8 wr w.heap.size
  pv : Gj (w.heap.size + 1) wr pv s.t (fun i => (s.P i : Int))
  bel : Below lo w wr
  sz : w.heap.size + 1 ≤ wr.heap.size
theorem ke_of_below {L : Nat} {a b : World} (h : Below L a b) : Ke (fun x => L ≤ x) a b := ⟨h.mono (Nat.zero_le _), fun x _ hn => h.block x (by omega)⟩
theorem Tab8.ke {E : Nat → Prop} {w w' : World} {t : Nat} (h : Tab8 w t) (hk : Ke E w w') (hn : ¬ E t) : Tab8 w' t := h.of_heap (hk.2 t h.lt hn)
theorem rowIs_ke {E : Nat → Prop} {w w' : World} {g N : Nat} {T : TypeId} {F : Nat → Value} (h : w.rowIs g T N F) (hk : Ke E w w') (hn : ¬ E g) : w'.rowIs g T N F := h.of_block (hk.2 g h.lt hn)
end Go.Proofs.Ytfhgamaakkoplaa
namespace Go.Proofs.Ytfhgamaakkoplaa
open Go.RowKit Gf2
set_option linter.unusedVariables false

/-- a list of rows that can be read, its block. -/
theorem Lb.head {w : World} {u : Value} {m : Nat} {n : Nat → Nat} {S : Nat → Nat → Nat} (h : Lb w u m n S) (h0 : 0 < m) : ∃ b o cap, u = .slice (some ⟨b, o, none⟩) m cap := by
  obtain ⟨V, ⟨hnb, a, cap, rfl, -, -, h4⟩, hV⟩ := h
  obtain ⟨b, o, rfl, -⟩ := h4 h0
  exact ⟨b, o, cap, rfl⟩
theorem Lb.first {w : World} {b o m cap : Nat} {n : Nat → Nat} {S : Nat → Nat → Nat} (h : Lb w (.slice (some ⟨b, o, none⟩) m cap) m n S) (h0 : 0 < m) : ∃ x y, w.cell? ⟨b, o, none⟩ = some (.slice x (n 0) y) := by
  obtain ⟨V, ⟨hnb, a, cap', e, -, -, h4⟩, hV⟩ := h
  cases e
  obtain ⟨b', o', e, -, hc⟩ := h4 h0
  cases e
  obtain ⟨_, _, x, y, e, _⟩ := hV 0 h0
  have := hc 0 h0
  rw [Nat.add_zero] at this
  exact ⟨x, y, by rw [this, e]⟩
end Go.Proofs.Ytfhgamaakkoplaa
