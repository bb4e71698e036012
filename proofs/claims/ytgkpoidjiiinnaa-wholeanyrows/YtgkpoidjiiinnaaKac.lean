import Derived.Test.YtgkpoidjiiinnaaKab
import Derived.Deep.AppendLies
import Derived.Deep.OwnRows
import Derived.ArgAppend
import Derived.OwnWalk
import Derived.Deep.Onto
namespace Go.Proofs.Ytgkpoidjiiinnaa
open Go.RowKit Gf2
set_option linter.unusedVariables false

theorem info_l9 : ∃ i, Try.prog.info? 31 = some i ∧ i.zero = some (Value.slice none 0 0) ∧ i.size = 1 ∧ i.bytes = 24 := by
  have h : (Try.prog.info? 31).map (fun i => (i.zero, i.size, i.bytes)) = some (some (Value.slice none 0 0), 1, 24) := by kernel_rfl
  obtain ⟨i, hi, hz⟩ := Option.map_eq_some_iff.1 h
  simp only [Prod.mk.injEq] at hz
  exact ⟨i, hi, hz.1, hz.2.1, hz.2.2⟩

/-- the lists V r as cells. -/
def lv9 (V : Nat → Value) (m : Nat) : List Value := (List.range m).map V
theorem lv9_len (V : Nat → Value) (m : Nat) : (lv9 V m).length = m := by simp [lv9]
theorem lv9_get (V : Nat → Value) {m r : Nat} (h : r < m) : (lv9 V m)[r]? = some (V r) := by simp [lv9, h]
theorem lv9_snoc (V X : Nat → Value) (m k : Nat) : lv9 V m ++ lv9 X k = lv9 (fun r => if r < m then V r else X (r - m)) (m + k) := by
  apply List.ext_getElem?
  intro r
  by_cases h : r < m
  · rw [List.getElem?_append_left (by rw [lv9_len]; exact h), lv9_get _ h, lv9_get _ (by omega), if_pos h]
  · rw [List.getElem?_append_right (by rw [lv9_len]; omega), lv9_len]
    by_cases h2 : r < m + k
    · rw [lv9_get _ (by omega), lv9_get _ h2, if_neg h]
    · rw [List.getElem?_eq_none (by rw [lv9_len]; omega), List.getElem?_eq_none (by rw [lv9_len]; omega)]
theorem lv9_congr {V V' : Nat → Value} {m : Nat} (h : ∀ r, r < m → V r = V' r) : lv9 V m = lv9 V' m := by
  unfold lv9
  apply List.map_congr_left
  intro r hr
  exact h r (List.mem_range.1 hr)

/-- a list of lists that grows by append, in a block of its own not below base; its values V. -/
def Gl (w : World) (base : Nat) (av : Value) (m : Nat) (V : Nat → Value) : Prop := w.ownsRow base 31 1 av m (lv9 V m)
theorem Gl.zero (w : World) (base : Nat) (V : Nat → Value) : Gl w base (.slice none 0 0) 0 V := World.ownsRow_nil _ _ _ _
theorem Gl.congr {w : World} {base m : Nat} {av : Value} {V V' : Nat → Value} (h : Gl w base av m V) (e : ∀ r, r < m → V r = V' r) : Gl w base av m V' := by
  unfold Gl at h ⊢
  rw [← lv9_congr e]
  exact h
theorem Gl.below {w w' : World} {base m : Nat} {av : Value} {V : Nat → Value} (h : Gl w base av m V) (hb : Below w.heap.size w w') : Gl w' base av m V := by
  refine World.ownsRow.kept (row := Option.none) h ⟨hb.os, hb.tape, hb.output, hb.size, fun k hk _ => hb.block k hk⟩ ?_
  cases e : av.ownBlock with
  | none => exact .inl rfl
  | some k => exact .inr (by simp)
theorem Gl.form {w : World} {base m : Nat} {av : Value} {V : Nat → Value} (h : Gl w base av m V) : ∃ a c, av = .slice a m c ∧ m ≤ c ∧ c ≤ maxLen ∧ (0 < m → ∃ g, a = some ⟨g, 0, none⟩ ∧ base ≤ g ∧ g < w.heap.size ∧ av.ownBlock = some g ∧ ∀ i, i < m → w.cell? ⟨g, i, none⟩ = some (V i)) := by
  rcases h.2 with ⟨h1, h2⟩ | ⟨g, cap, cur, rfl, hb, hg, r1, r2, r3, r4⟩
  · subst h1 h2
    exact ⟨Option.none, 0, rfl, Nat.le_refl _, Nat.zero_le _, fun h0 => absurd h0 (Nat.lt_irrefl _)⟩
  · refine ⟨_, cap, rfl, r1, r2, fun h0 => ⟨g, rfl, hb, (Array.getElem?_eq_some_iff.1 hg).1, rfl, fun i hi => ?_⟩⟩
    have := World.ownsRow.cellAt (j := i) h (by omega)
    rw [this, lv9_get _ hi]
/-- k lists more. -/
theorem gl_run {w w3 : World} {base m k : Nat} {av : Value} {V : Nat → Value} (h : Gl w base av m V) (hbase : base ≤ w.heap.size) (hb : Below w.heap.size w w3) (X : Nat → Value)
    (hX : ∀ j, j < k → (X j).oneCell' = true) (hk : 0 < k) (hm : (m + k) * 24 ≤ 140737488355328) :
    ∃ g cp w5, (Builtin.append_ #[25, 25] 25 #[av, .slice (some ⟨w3.heap.size, 0, none⟩) k k]).run Try.prog (w3.alloc (.cells (lv9 X k).toArray 31)) = .ok (.slice (some ⟨g, 0, none⟩) (m + k) cp) w5 ∧
      Gl w5 base (.slice (some ⟨g, 0, none⟩) (m + k) cp) (m + k) (fun r => if r < m then V r else X (r - m)) ∧ (av.ownBlock = some g ∨ g = w3.heap.size + 1) ∧
      (∀ x, x < w3.heap.size → av.ownBlock ≠ some x → w5.heap[x]? = w3.heap[x]?) ∧ Below base w w5 ∧ g < w5.heap.size ∧ w3.heap.size ≤ w5.heap.size := by
  obtain ⟨iL, k1, k2, k3, k4⟩ := info_l9
  have h3 := h.below hb
  have hs3 := hb.size
  obtain ⟨g, cp, w5, hrun, own, gr, lies, lt⟩ := run_append_lies (P := Try.prog) (w3.alloc (.cells (lv9 X k).toArray 31)) 25 25 base 31 iL (.slice Option.none 0 0) 1 24 Try.underlying25 k1 k2 k3 k4 rfl (by decide)
    av m (lv9 V m) (World.ownsRow.alloc h3 _) ⟨w3.heap.size, 0, Option.none⟩ k k (lv9 X k) (by rw [lv9_len, Nat.mul_one]) (fun j u hu => World.news_of_block (heap_alloc_new w3 _) j u (by simpa using hu))
    (fun u hu => by
      simp [lv9] at hu
      obtain ⟨r, hr, rfl⟩ := hu
      exact hX r hr) hk (by unfold maxLen; omega) (by omega) (by simp; omega) (w3.heap.size + 1) (by simp)
  have hsz : (w3.alloc (.cells (lv9 X k).toArray 31)).heap.size = w3.heap.size + 1 := by simp
  have hgs := gr.size
  have hblk : ∀ x, x < w3.heap.size → av.ownBlock ≠ some x → w5.heap[x]? = w3.heap[x]? := fun x hx hne => (gr.block x (by omega) (fun e => hne e.symm)).trans (Below.heap_alloc w3 _ x hx)
  refine ⟨g, cp, w5, hrun, by unfold Gl; rw [← lv9_snoc]; exact own, lies, hblk, ⟨gr.os.trans hb.os, gr.tape.trans hb.tape, gr.output.trans hb.output, by omega, fun x hx => (hblk x (by omega) (fun e => ?_)).trans (hb.block x (by omega))⟩, lt, by omega⟩
  have := (World.ownsRow.lt h x e).1
  omega

/-- lists that are made one by one, above w0. -/
structure Cg (w0 w : World) (av : Value) (m : Nat) (n C B : Nat → Nat) (S : Nat → Nat → Nat) : Prop where
  bel : Below w0.heap.size w0 w
  own : Gl w w0.heap.size av m (fun r => .slice (some ⟨B r, 0, none⟩) (n r) (C r))
  row : ∀ r, r < m → w0.heap.size ≤ B r ∧ B r < w.heap.size ∧ av.ownBlock ≠ some (B r) ∧ n r ≤ C r ∧ Rw w (B r) (C r) (S r)
  inj : ∀ i j, i < m → j < m → B i = B j → i = j
theorem Cg.start (w0 : World) (n C B : Nat → Nat) (S : Nat → Nat → Nat) : Cg w0 w0 (.slice none 0 0) 0 n C B S :=
  ⟨Below.refl _ _, Gl.zero _ _ _, fun r hr => absurd hr (Nat.not_lt_zero _), fun i j hi => absurd hi (Nat.not_lt_zero _)⟩
theorem Cg.cs {w0 w : World} {av : Value} {m : Nat} {n C B : Nat → Nat} {S : Nat → Nat → Nat} (h : Cg w0 w av m n C B S) : Cs w0.heap.size w.heap.size w av m n C B S := by
  obtain ⟨a, c, e, c1, c2, hf⟩ := h.own.form
  refine ⟨by unfold big; unfold maxLen at c2; omega, Nat.le_refl _, ⟨a, c, e, c1, by unfold big; unfold maxLen at c2; omega, fun h0 => ?_⟩, fun i hi => ?_, h.inj⟩
  · obtain ⟨g, e1, g1, g2, g3, g4⟩ := hf h0
    refine ⟨g, e1, g1, g2, fun i hi eb => ?_, g4⟩
    have := (h.row i hi).2.2.1
    rw [g3, eb] at this
    exact this rfl
  · obtain ⟨r1, r2, r3, r4, r5⟩ := h.row i hi
    exact ⟨r1, r2, r4, r5⟩
theorem Cg.form {w0 w : World} {av : Value} {m : Nat} {n C B : Nat → Nat} {S : Nat → Nat → Nat} (h : Cg w0 w av m n C B S) : ∃ a c, av = .slice a m c := by
  obtain ⟨a, c, e, _⟩ := h.own.form
  exact ⟨a, c, e⟩
theorem Cg.congr {w0 w : World} {av : Value} {m : Nat} {n C B n' C' B' : Nat → Nat} {S S' : Nat → Nat → Nat} (h : Cg w0 w av m n C B S) (e : ∀ r, r < m → n r = n' r ∧ C r = C' r ∧ B r = B' r ∧ S r = S' r) : Cg w0 w av m n' C' B' S' := by
  refine ⟨h.bel, h.own.congr (fun r hr => ?_), fun r hr => ?_, fun i j hi hj hij => ?_⟩
  · obtain ⟨e1, e2, e3, e4⟩ := e r hr
    rw [e1, e2, e3]
  · obtain ⟨e1, e2, e3, e4⟩ := e r hr
    rw [← e1, ← e2, ← e3, ← e4]
    exact h.row r hr
  · rw [← (e i hi).2.2.1, ← (e j hj).2.2.1] at hij
    exact h.inj i j hi hj hij
/-- one list more. -/
theorem cg_run {w0 w w3 : World} {av : Value} {m : Nat} {n C B : Nat → Nat} {S : Nat → Nat → Nat} (h : Cg w0 w av m n C B S) (hb : Below w.heap.size w w3) {b nb Cb : Nat} {F : Nat → Nat} (hlo : w.heap.size ≤ b) (hn : nb ≤ Cb) (hr : Rw w3 b Cb F) (hm : (m + 1) * 24 ≤ 140737488355328) :
    ∃ v5 w5, (Builtin.append_ #[25, 25] 25 #[av, .slice (some ⟨w3.heap.size, 0, none⟩) 1 1]).run Try.prog (w3.alloc (.cells #[.slice (some ⟨b, 0, none⟩) nb Cb] 31)) = .ok v5 w5 ∧
      Cg w0 w5 v5 (m + 1) (upn n m nb) (upn C m Cb) (upn B m b) (upn S m F) := by
  have hbs := h.bel.size
  have hs3 := hb.size
  obtain ⟨g, cp, w5, hrun, hG, lies, hblk, hb5, hg5, hs5⟩ := gl_run (k := 1) h.own hbs hb (fun _ => .slice (some ⟨b, 0, none⟩) nb Cb) (fun j hj => rfl) (by decide) hm
  have old : ∀ r, r < m → g ≠ B r ∧ Rw w5 (B r) (C r) (S r) := by
    intro r hr'
    obtain ⟨r1, r2, r3, r4, r5⟩ := h.row r hr'
    refine ⟨?_, (rw_below r5 hb).of_block (hblk _ (by omega) r3)⟩
    rcases lies with l | l
    · intro e; rw [l, e] at r3; exact r3 rfl
    · omega
  have hbl := hr.lt
  have new : g ≠ b ∧ Rw w5 b Cb F := by
    have hne : av.ownBlock ≠ some b := fun e => by
      have := (World.ownsRow.lt h.own b e).2
      omega
    refine ⟨?_, hr.of_block (hblk _ hbl hne)⟩
    rcases lies with l | l
    · intro e; rw [l, e] at hne; exact hne rfl
    · omega
  refine ⟨_, w5, hrun, h.bel.trans hb5, hG.congr (fun r hr' => ?_), fun r hr' => ?_, fun i j hi hj hij => ?_⟩
  · by_cases e : r = m
    · subst e; rw [if_neg (Nat.lt_irrefl _), upn_same, upn_same, upn_same]
    · rw [if_pos (by omega), upn_other _ _ e, upn_other _ _ e, upn_other _ _ e]
  · by_cases e : r = m
    · subst e
      rw [upn_same, upn_same, upn_same, upn_same]
      exact ⟨by omega, by omega, by simpa [Value.ownBlock] using new.1, hn, new.2⟩
    · rw [upn_other _ _ e, upn_other _ _ e, upn_other _ _ e, upn_other _ _ e]
      obtain ⟨r1, r2, r3, r4, r5⟩ := h.row r (by omega)
      exact ⟨r1, by omega, by simpa [Value.ownBlock] using (old r (by omega)).1, r4, (old r (by omega)).2⟩
  · by_cases e1 : i = m
    · subst e1
      rw [upn_same] at hij
      by_cases e2 : j = i
      · exact e2.symm
      · rw [upn_other _ _ e2] at hij
        have := (h.row j (by omega)).2.1
        omega
    · rw [upn_other _ _ e1] at hij
      by_cases e2 : j = m
      · subst e2
        rw [upn_same] at hij
        have := (h.row i (by omega)).2.1
        omega
      · rw [upn_other _ _ e2] at hij
        exact h.inj i j (by omega) (by omega) hij

end Go.Proofs.Ytgkpoidjiiinnaa
