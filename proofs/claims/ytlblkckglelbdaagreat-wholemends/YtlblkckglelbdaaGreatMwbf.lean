import Derived.Test.YtlblkckglelbdaaGreatMwal
import Derived.Deep.AppendLies
import Derived.Deep.OwnRows
import Derived.ArgAppend
import Derived.OwnWalk
import Derived.Deep.Onto
namespace Go.Proofs.YtlblkckglelbdaaGreat
open Go.RowKit Gf2
set_option linter.unusedVariables false

theorem info_l9 : ∃ i, Tryz.prog.info? 27 = some i ∧ i.zero = some (Value.slice none 0 0) ∧ i.size = 1 ∧ i.bytes = 24 := by
  have h : (Tryz.prog.info? 27).map (fun i => (i.zero, i.size, i.bytes)) = some (some (Value.slice none 0 0), 1, 24) := by kernel_rfl
  obtain ⟨i, hi, hz⟩ := Option.map_eq_some_iff.1 h
  simp only [Prod.mk.injEq] at hz
  exact ⟨i, hi, hz.1, hz.2.1, hz.2.2⟩

/-- the lists V r as cells. -/
def lv9 (V : Nat → Value) (m : Nat) : List Value := (List.range m).map V
theorem lv9_len (V : Nat → Value) (m : Nat) : (lv9 V m).length = m := by simp [lv9]
theorem lv9_get (V : Nat → Value) {m r : Nat} (h : r < m) : (lv9 V m)[r]? = some (V r) := by simp [lv9, h]
theorem lv9_snoc (V X : Nat → Value) (m k : Nat) : lv9 V m ++ lv9 X k = lv9 (fun r => if r < m then V r else X (r - m)) (m + k) := by
  apply List.ext_getElem?
  intro r
  by_cases h : r < m
  · rw [List.getElem?_append_left (by rw [lv9_len]; exact h), lv9_get _ h, lv9_get _ (by omega), if_pos h]
  · rw [List.getElem?_append_right (by rw [lv9_len]; omega), lv9_len]
    by_cases h2 : r < m + k
    · rw [lv9_get _ (by omega), lv9_get _ h2, if_neg h]
    · rw [List.getElem?_eq_none (by rw [lv9_len]; omega), List.getElem?_eq_none (by rw [lv9_len]; omega)]
theorem lv9_congr {V V' : Nat → Value} {m : Nat} (h : ∀ r, r < m → V r = V' r) : lv9 V m = lv9 V' m := by
  unfold lv9
  apply List.map_congr_left
  intro r hr
  exact h r (List.mem_range.1 hr)

/-- a list of lists that grows by append, in a block of its own not below base; its values V. -/
def Gl (w : World) (base : Nat) (av : Value) (m : Nat) (V : Nat → Value) : Prop := w.ownsRow base 27 1 av m (lv9 V m)
theorem Gl.zero (w : World) (base : Nat) (V : Nat → Value) : Gl w base (.slice none 0 0) 0 V := World.ownsRow_nil _ _ _ _
theorem Gl.congr {w : World} {base m : Nat} {av : Value} {V V' : Nat → Value} (h : Gl w base av m V) (e : ∀ r, r < m → V r = V' r) : Gl w base av m V' := by
  unfold Gl at h ⊢
  rw [← lv9_congr e]
  exact h
theorem Gl.below {w w' : World} {base m : Nat} {av : Value} {V : Nat → Value} (h : Gl w base av m V) (hb : Below w.heap.size w w') : Gl w' base av m V := by
  refine World.ownsRow.kept (row := Option.none) h ⟨hb.os, hb.tape, hb.output, hb.size, fun k hk _ => hb.block k hk⟩ ?_
  cases e : av.ownBlock with
  | none => exact .inl rfl
  | some k => exact .inr (by simp)
theorem Gl.form {w : World} {base m : Nat} {av : Value} {V : Nat → Value} (h : Gl w base av m V) : ∃ a c, av = .slice a m c ∧ m ≤ c ∧ c ≤ maxLen ∧ (0 < m → ∃ g, a = some ⟨g, 0, none⟩ ∧ base ≤ g ∧ g < w.heap.size ∧ av.ownBlock = some g ∧ ∀ i, i < m → w.cell? ⟨g, i, none⟩ = some (V i)) := by
  rcases h.2 with ⟨h1, h2⟩ | ⟨g, cap, cur, rfl, hb, hg, r1, r2, r3, r4⟩
  · subst h1 h2
    exact ⟨Option.none, 0, rfl, Nat.le_refl _, Nat.zero_le _, fun h0 => absurd h0 (Nat.lt_irrefl _)⟩
  · refine ⟨_, cap, rfl, r1, r2, fun h0 => ⟨g, rfl, hb, (Array.getElem?_eq_some_iff.1 hg).1, rfl, fun i hi => ?_⟩⟩
    have := World.ownsRow.cellAt (j := i) h (by omega)
    rw [this, lv9_get _ hi]
/-- lists that are made one by one, above w0. -/
structure Cg (w0 w : World) (av : Value) (m : Nat) (n C B : Nat → Nat) (S : Nat → Nat → Nat) : Prop where
  bel : Below w0.heap.size w0 w
  own : Gl w w0.heap.size av m (fun r => .slice (some ⟨B r, 0, none⟩) (n r) (C r))
  row : ∀ r, r < m → w0.heap.size ≤ B r ∧ B r < w.heap.size ∧ av.ownBlock ≠ some (B r) ∧ n r ≤ C r ∧ Rw w (B r) (C r) (S r)
  inj : ∀ i j, i < m → j < m → B i = B j → i = j
theorem Cg.start (w0 : World) (n C B : Nat → Nat) (S : Nat → Nat → Nat) : Cg w0 w0 (.slice none 0 0) 0 n C B S :=
  ⟨Below.refl _ _, Gl.zero _ _ _, fun r hr => absurd hr (Nat.not_lt_zero _), fun i j hi => absurd hi (Nat.not_lt_zero _)⟩
theorem Cg.cs {w0 w : World} {av : Value} {m : Nat} {n C B : Nat → Nat} {S : Nat → Nat → Nat} (h : Cg w0 w av m n C B S) : Cs w0.heap.size w.heap.size w av m n C B S := by
  obtain ⟨a, c, e, c1, c2, hf⟩ := h.own.form
  refine ⟨by unfold big; unfold maxLen at c2; omega, Nat.le_refl _, ⟨a, c, e, c1, by unfold big; unfold maxLen at c2; omega, fun h0 => ?_⟩, fun i hi => ?_, h.inj⟩
  · obtain ⟨g, e1, g1, g2, g3, g4⟩ := hf h0
    refine ⟨g, e1, g1, g2, fun i hi eb => ?_, g4⟩
    have := (h.row i hi).2.2.1
    rw [g3, eb] at this
    exact this rfl
  · obtain ⟨r1, r2, r3, r4, r5⟩ := h.row i hi
    exact ⟨r1, r2, r4, r5⟩
theorem Cg.form {w0 w : World} {av : Value} {m : Nat} {n C B : Nat → Nat} {S : Nat → Nat → Nat} (h : Cg w0 w av m n C B S) : ∃ a c, av = .slice a m c := by
  obtain ⟨a, c, e, _⟩ := h.own.form
  exact ⟨a, c, e⟩
theorem Cg.congr {w0 w : World} {av : Value} {m : Nat} {n C B n' C' B' : Nat → Nat} {S S' : Nat → Nat → Nat} (h : Cg w0 w av m n C B S) (e : ∀ r, r < m → n r = n' r ∧ C r = C' r ∧ B r = B' r ∧ S r = S' r) : Cg w0 w av m n' C' B' S' := by
  refine ⟨h.bel, h.own.congr (fun r hr => ?_), fun r hr => ?_, fun i j hi hj hij => ?_⟩
  · obtain ⟨e1, e2, e3, e4⟩ := e r hr
    rw [e1, e2, e3]
  · obtain ⟨e1, e2, e3, e4⟩ := e r hr
    rw [← e1, ← e2, ← e3, ← e4]
    exact h.row r hr
  · rw [← (e i hi).2.2.1, ← (e j hj).2.2.1] at hij
    exact h.inj i j hi hj hij
end Go.Proofs.YtlblkckglelbdaaGreat
