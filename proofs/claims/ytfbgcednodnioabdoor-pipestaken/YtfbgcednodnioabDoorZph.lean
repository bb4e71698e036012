import Derived.Test.YtfbgcednodnioabDoorZpg
import Derived.Test.YtfbgcednodnioabDoorEsm
namespace Go.Proofs.YtfbgcednodnioabDoor
open Go.RowKit Gf2
set_option linter.unusedVariables false

-- layer 22: a sink in memory
/-- a list that grows, nil while it is empty or in block g. -/
def Tk (w : World) (v : Value) (g L : Nat) (T : Nat → Nat) : Prop := (L = 0 ∧ v = .slice none 0 0) ∨ ∃ C F, v = .slice (some ⟨g, 0, none⟩) L C ∧ L ≤ C ∧ Rw w g C F ∧ ∀ i, i < L → F i = T i
theorem Tk.rb {w : World} {v : Value} {g L : Nat} {T : Nat → Nat} (h : Tk w v g L T) : Rb w v L T := by
  rcases h with ⟨rfl, rfl⟩ | ⟨C, F, rfl, a2, a4, a5⟩
  · exact ⟨Nat.zero_le _, fun i hi => absurd hi (Nat.not_lt_zero _), _, _, rfl, Nat.le_refl _, Nat.zero_le _, fun h => absurd h (Nat.lt_irrefl _)⟩
  · exact (a4.rb (o := 0) (n := L) (cap := C) (by omega) a2 a4.1).congr (fun i hi => by rw [Nat.zero_add]; exact a5 i hi)
theorem Tk.ke {E : Nat → Prop} {w w' : World} {v : Value} {g L : Nat} {T : Nat → Nat} (h : Tk w v g L T) (hk : Ke E w w') (hE : ¬ E g) : Tk w' v g L T := by
  rcases h with h | ⟨C, F, a1, a2, a4, a5⟩
  · exact .inl h
  · exact .inr ⟨C, F, a1, a2, hk.rw_ a4 hE, a5⟩
theorem Tk.form {w : World} {v : Value} {g L : Nat} {T : Nat → Nat} (h : Tk w v g L T) : ∃ a c, v = .slice a L c := by
  rcases h with ⟨rfl, rfl⟩ | ⟨C, F, rfl, -⟩
  · exact ⟨_, _, rfl⟩
  · exact ⟨_, _, rfl⟩
/-- L bytes T, then n bytes S. -/
def aft (T : Nat → Nat) (L : Nat) (S : Nat → Nat) (i : Nat) : Nat := if i < L then T i else S (i - L)
/-- n bytes more. -/
theorem Tk.app {w : World} {v : Value} {g L : Nat} {T : Nat → Nat} (h : Tk w v g L T) {x : Option Addr} {n cx : Nat} {S : Nat → Nat} (hx : Rb w (.slice x n cx) n S) (hn : L + n ≤ 225000000000000) :
    ∃ w' v' g', (Builtin.append_ #[28, 28] 28 #[v, .slice x n cx]).run Tryd.prog w = .ok v' w' ∧ Tk w' v' g' (L + n) (aft T L S) ∧ (v' = .slice none 0 0 ∨ (v ≠ .slice none 0 0 ∧ g' = g) ∨ g' = w.heap.size ∧ w.heap.size < w'.heap.size) ∧ Ke (fun y => v ≠ .slice none 0 0 ∧ y = g) w w' ∧ (∃ a c, v' = .slice a (L + n) c) := by
  obtain ⟨h1, h2, a, c, e, h4, h5, h6⟩ := hx
  cases e
  rcases h with ⟨rfl, rfl⟩ | ⟨C, F, rfl, a2, a4, a5⟩
  · rcases Nat.eq_zero_or_pos n with h0 | h0
    · subst h0
      obtain ⟨ti, hi, hz, hs1, hb1⟩ := info_u8a
      refine ⟨w, _, g, ?_, .inl ⟨rfl, rfl⟩, .inl rfl, Ke.refl _ _, ⟨_, _, rfl⟩⟩
      cases x with
      | none => exact run_append_nothing w 28 28 28 5 ti Tryd.underlying28 hi none 0 0 (Nat.le_refl _) _ (Src.ofNil w Tryd.underlying28 cx)
      | some y => exact run_append_nothing w 28 28 28 5 ti Tryd.underlying28 hi none 0 0 (Nat.le_refl _) _ (Src.ofSlice w Tryd.underlying28 y 0 cx [] (by simp) (fun j u h => by simp at h) (fun u h => by cases h))
    · obtain ⟨b, o, e, -, hc⟩ := h6 h0
      obtain ⟨w', C', F', k1, k2, k3, k4, k5, k6⟩ := app8w_nil w (cx := cx) h2 h0 ⟨b, o, e, hc⟩ (by omega)
      refine ⟨w', _, w.heap.size, k1, ?_, .inr (.inr ⟨rfl, by omega⟩), ke_below k6 _, ⟨_, _, by rw [Nat.zero_add]⟩⟩
      rw [Nat.zero_add]
      exact .inr ⟨C', F', rfl, k2, k3, fun i hi => by rw [k4 i hi]; unfold aft; rw [if_neg (Nat.not_lt_zero _), Nat.sub_zero]⟩
  · obtain ⟨w', g', C', F', k1, k2, k3, k4, k5, k6⟩ := app8w w a4 a2 (cx := cx) h2 (fun h0 => by obtain ⟨b, o, e, -, hc⟩ := h6 h0; exact ⟨b, o, e, hc⟩) hn
    refine ⟨w', _, g', k1, .inr ⟨C', F', rfl, k2, k3, fun i hi => ?_⟩, ?_, ?_, ⟨_, _, rfl⟩⟩
    · unfold aft
      by_cases e : i < L
      · rw [if_pos e, k4 i e, a5 i e]
      · rw [if_neg e, ← k5 (i - L) (by omega), show L + (i - L) = i by omega]
    · rcases k6 with ⟨e, -⟩ | ⟨e, e2, -⟩
      · exact .inr (.inl ⟨fun e2 => (by cases e2), e⟩)
      · exact .inr (.inr ⟨e, by omega⟩)
    · rcases k6 with ⟨-, ho⟩ | ⟨-, -, hb⟩
      · exact ho.kp.ke.mono (fun y _ e => ⟨fun e2 => (by cases e2), e⟩)
      · exact ke_below hb _
/-- a sink in the blocks that Fp names: it has taken L bytes T. -/
structure Sk (Fp : Nat → Prop) (w : World) (b L : Nat) (T : Nat → Nat) (fa code : Int) (f : Nat) : Prop where
  bl : Fp b
  fl : ∀ x, Fp x → x < w.heap.size
  dat : ∃ v fv g, w.heap[b]? = some (.cells #[v, .int .i64 fa, fv] 54 (0, 0)) ∧ Tk w v g L T ∧ (v = .slice none 0 0 ∨ Fp g ∧ g ≠ b ∧ (0 ≤ fa → f ≠ g)) ∧ Fv w fa code fv f
  fb : 0 ≤ fa → Fp f ∧ f ≠ b
  lf : 0 ≤ fa → (L : Int) ≤ fa
  ff : I6x fa
section
variable {Fp E : Nat → Prop} {w w' : World} {b L f : Nat} {T : Nat → Nat} {fa code : Int}
theorem Tk.ke' {v : Value} {g : Nat} (h : Tk w v g L T) (hk : Ke E w w') (hE : v = .slice none 0 0 ∨ ¬ E g) : Tk w' v g L T := by
  rcases h with h | ⟨C, F, a1, a2, a4, a5⟩
  · exact .inl h
  · rcases hE with hE | hE
    · rw [a1] at hE; cases hE
    · exact .inr ⟨C, F, a1, a2, hk.rw_ a4 hE, a5⟩
theorem Sk.keep (h : Sk Fp w b L T fa code f) (hk : Ke E w w') (hE : ∀ x, Fp x → ¬ E x) : Sk Fp w' b L T fa code f := by
  obtain ⟨v, fv, g, h1, h2, h3, h4⟩ := h.dat
  exact ⟨h.bl, fun x hx => Nat.lt_of_lt_of_le (h.fl x hx) hk.size, ⟨v, fv, g, (hk.2 b (h.fl b h.bl) (hE b h.bl)).trans h1, h2.ke' hk (h3.imp id (fun e => hE g e.1)), h3, h4.ke hk (fun h0 => hE f (h.fb h0).1)⟩, h.fb, h.lf, h.ff⟩
theorem Sk.below (h : Sk Fp w b L T fa code f) (hb : Below w.heap.size w w') : Sk Fp w' b L T fa code f := h.keep (ke_below hb (fun _ => False)) (fun _ _ e => e)
theorem Sk.drewN (h : Sk Fp w b L T fa code f) (m : Nat) : Sk Fp (w.drewN m) b L T fa code f := h.keep ((Ke.refl (fun _ => False) w).drewN m) (fun _ _ e => e)
theorem Sk.congr {U : Nat → Nat} (h : Sk Fp w b L T fa code f) (e : ∀ i, i < L → T i = U i) : Sk Fp w b L U fa code f := by
  obtain ⟨v, fv, g, h1, h2, h3, h4⟩ := h.dat
  refine ⟨h.bl, h.fl, ⟨v, fv, g, h1, ?_, h3, h4⟩, h.fb, h.lf, h.ff⟩
  rcases h2 with h2 | ⟨C, F, a1, a2, a4, a5⟩
  · exact .inl h2
  · exact .inr ⟨C, F, a1, a2, a4, fun i hi => (a5 i hi).trans (e i hi)⟩
/-- what stands in a sink's block. -/
structure Sy (w : World) (b L : Nat) (fa : Int) (a : Option Addr) (c : Nat) (fv : Value) : Prop where
  blk : w.heap[b]? = some (.cells #[.slice a L c, .int .i64 fa, fv] 54 (0, 0))
variable {a : Option Addr} {c : Nat} {fv : Value}
theorem Sy.c0 (h : Sy w b L fa a c fv) : w.cell? ⟨b, 0, none⟩ = some (.slice a L c) := by rw [cell_of_row _ _ 0 _ _ _ h.blk]; rfl
theorem Sy.c1 (h : Sy w b L fa a c fv) : w.cell? ⟨b, 1, none⟩ = some (.int .i64 fa) := by rw [cell_of_row _ _ 1 _ _ _ h.blk]; rfl
theorem Sy.c2 (h : Sy w b L fa a c fv) : w.cell? ⟨b, 2, none⟩ = some fv := by rw [cell_of_row _ _ 2 _ _ _ h.blk]; rfl
theorem Sy.fz (h : Sy w b L fa a c fv) (i : Nat) : w.frozen? ⟨b, i, none⟩ = false := frozen_of_row _ _ i _ _ h.blk
/-- what a sink is, opened; and what an append of n bytes makes of it. -/
theorem Sk.open_ (h : Sk Fp w b L T fa code f) : ∃ a c fv, Sy w b L fa a c fv ∧ Fv w fa code fv f ∧ Rb w (.slice a L c) L T ∧
    ∀ (w1 : World) (m : Nat), w1 = w.drewN m → ∀ (x : Option Addr) (n cx : Nat) (S : Nat → Nat), Rb w1 (.slice x n cx) n S → L + n ≤ 225000000000000 → (0 ≤ fa → (L : Int) + n ≤ fa) →
      ∃ w2 a' c', (Builtin.append_ #[28, 28] 28 #[.slice a L c, .slice x n cx]).run Tryd.prog w1 = .ok (.slice a' (L + n) c') w2 ∧ w2.cell? ⟨b, 0, none⟩ = some (.slice a L c) ∧ w2.frozen? ⟨b, 0, none⟩ = false ∧
        Sk (fun y => Fp y ∨ w.heap.size ≤ y ∧ y < w2.heap.size) (w2.setCell ⟨b, 0, none⟩ (.slice a' (L + n) c')) b (L + n) (aft T L S) fa code f ∧ Ke Fp w (w2.setCell ⟨b, 0, none⟩ (.slice a' (L + n) c')) ∧
        (w2.setCell ⟨b, 0, none⟩ (.slice a' (L + n) c')).cell? ⟨b, 2, none⟩ = some fv := by
  obtain ⟨v, fv, g, h1, h2, h3, h4⟩ := h.dat
  have h2' := h2
  obtain ⟨a, c, rfl⟩ := h2'.form
  refine ⟨a, c, fv, ⟨h1⟩, h4, h2.rb, fun w1 m hw1 x n cx S hx hn hf => ?_⟩
  have k1 : Ke (fun _ => False) w w1 := by rw [hw1]; exact (Ke.refl _ w).drewN m
  have s1 : w1.heap.size = w.heap.size := by rw [hw1]; rfl
  obtain ⟨w2, v', g', hrun, hT, hg, hk, a', c', rfl⟩ := (h2.ke' k1 (.inr (fun e => e))).app hx hn
  have k2 : Ke (fun y => (.slice a L c : Value) ≠ .slice none 0 0 ∧ y = g) w w2 := (k1.mono (fun _ _ e => e.elim)).trans hk
  have hbw : ¬ ((.slice a L c : Value) ≠ .slice none 0 0 ∧ b = g) := fun ⟨e1, e2⟩ => by
    rcases h3 with e | ⟨-, e, -⟩
    · exact e1 e
    · exact e e2.symm
  have B2 : w2.heap[b]? = some (.cells #[.slice a L c, .int .i64 fa, fv] 54 (0, 0)) := (k2.2 b (h.fl b h.bl) hbw).trans h1
  have B3 := heap_setCell_same w2 b 0 _ _ (.slice a' (L + n) c') B2
  have k3 : Kp b w2 (w2.setCell ⟨b, 0, none⟩ (.slice a' (L + n) c')) := (Kp.refl b w2).setCell 0 _
  have K3 : Ke Fp w (w2.setCell ⟨b, 0, none⟩ (.slice a' (L + n) c')) := (k2.mono (fun y _ e => by
    rcases h3 with e1 | ⟨e1, -⟩
    · exact absurd e1 e.1
    · rw [e.2]; exact e1)).trans (k3.ke.mono (fun y _ e => by rw [e]; exact h.bl))
  have hg2 : (.slice a' (L + n) c' : Value) = .slice none 0 0 ∨ (Fp g' ∨ w.heap.size ≤ g' ∧ g' < w2.heap.size) ∧ g' ≠ b ∧ (0 ≤ fa → f ≠ g') := by
    rcases hg with e | ⟨e1, e2⟩ | ⟨e1, e2⟩
    · exact .inl e
    · rcases h3 with e3 | ⟨e3, e4, e5⟩
      · exact absurd e3 e1
      · rw [e2]; exact .inr ⟨.inl e3, e4, e5⟩
    · refine .inr ⟨.inr ⟨by omega, by omega⟩, fun e => ?_, fun h0 e => ?_⟩
      · have := h.fl b h.bl; omega
      · have := h.fl f (h.fb h0).1; omega
  refine ⟨w2, a', c', hrun, by rw [cell_of_row _ _ 0 _ _ _ B2]; rfl, frozen_of_row _ _ 0 _ _ B2, ⟨.inl h.bl, fun y hy => ?_, ⟨_, fv, g', B3, ?_, hg2, ?_⟩, fun h0 => ⟨.inl (h.fb h0).1, (h.fb h0).2⟩, fun h0 => by have := hf h0; omega, h.ff⟩, K3, by rw [cell_of_row _ _ 2 _ _ _ B3]; rfl⟩
  · have hz := K3.size
    rcases hy with e | e
    · exact Nat.lt_of_lt_of_le (h.fl y e) hz
    · exact Nat.lt_of_lt_of_le e.2 k3.size
  · exact hT.ke' k3.ke (hg2.imp id (fun e => e.2.1))
  · exact (h4.ke k2 (fun h0 e => by
      rcases h3 with e1 | ⟨-, -, e1⟩
      · exact e.1 e1
      · exact e1 h0 e.2)).ke k3.ke (fun h0 e => (h.fb h0).2 e)
end
end Go.Proofs.YtfbgcednodnioabDoor
