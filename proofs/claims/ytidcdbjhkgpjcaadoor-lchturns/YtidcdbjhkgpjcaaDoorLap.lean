import Derived.Test.YtidcdbjhkgpjcaaDoorTj5
import Derived.Lib.Slices
namespace Go.Proofs.YtidcdbjhkgpjcaaDoor
open Go.RowKit Gf2
set_option linter.unusedVariables false

/-- v lies in block b. -/
def In13 (v : Value) (b : Nat) : Prop := ∃ o L C, v = .slice (some ⟨b, o, none⟩) L C
theorem Gv.own {w0 W : World} {v : Value} {L : Nat} {S : Nat → Nat} (h : Gv w0 W v L S) {b : Nat} (hi : In13 v b) : ∃ C F, v = .slice (some ⟨b, 0, none⟩) L C ∧ L ≤ C ∧ w0.heap.size ≤ b ∧ R6 W b C F ∧ ∀ i, i < L → F i = S i := by
  obtain ⟨o, L', C', e⟩ := hi
  rcases h.2 with ⟨-, h2⟩ | ⟨g, C, F, a1, a2, a3, a4, a5⟩
  · rw [h2] at e; cases e
  · rw [a1] at e
    cases e
    exact ⟨_, F, a1, a2, a3, a4, a5⟩
theorem dif_of {v u : Value} (h : ∀ b, In13 v b → In13 u b → False) : Dif v u := fun b o o' L L' C C' e1 e2 => h b ⟨o, L, C, e1⟩ ⟨o', L', C', e2⟩
theorem dif_in {v u : Value} (h : Dif v u) {b : Nat} (h1 : In13 v b) (h2 : In13 u b) : False := by
  obtain ⟨o, L, C, e1⟩ := h1
  obtain ⟨o', L', C', e2⟩ := h2
  exact h b o o' L L' C C' e1 e2
/-- one word more: what stays. -/
theorem app_gh3 {w0 W : World} {v : Value} {L : Nat} {S : Nat → Nat} (h : Gv w0 W v L S) (t : Nat) (ht : t < 65536) (hL : (L + 1) * 2 ≤ 140737488355328) :
    ∃ w' v', (Builtin.append_ #[27, 27] 27 #[v, .slice (some ⟨W.heap.size, 0, none⟩) 1 1]).run Tryd.prog (W.alloc (.cells #[.int .u16 (t : Nat)] 26)) = .ok v' w' ∧ Gv w0 w' v' (L + 1) (fun i => if i < L then S i else t) ∧
      (∀ b, b < W.heap.size → ¬ In13 v b → w'.heap[b]? = W.heap[b]?) ∧ (∀ b j, b < W.heap.size → j < L → w'.cell? ⟨b, j, none⟩ = W.cell? ⟨b, j, none⟩) ∧ (∀ b, In13 v' b → In13 v b ∨ W.heap.size ≤ b) ∧ W.heap.size ≤ w'.heap.size := by
  have hb0 : Below W.heap.size W (W.alloc (.cells #[.int .u16 (t : Nat)] 26)) := (Below.refl _ _).alloc (Nat.le_refl _) _
  have hsz : (W.alloc (.cells #[.int .u16 (t : Nat)] 26)).heap.size = W.heap.size + 1 := by simp
  have hcell : ∀ i, i < 1 → (W.alloc (.cells #[.int .u16 (t : Nat)] 26)).cell? ⟨W.heap.size, 0 + i, none⟩ = some (.int .u16 ((fun _ => t) i : Nat)) := by
    intro i hi
    obtain rfl : i = 0 := by omega
    rw [cell_of_row _ W.heap.size (0 + 0) _ _ _ (heap_alloc_new _ _)]
    rfl
  have h1 := h.below hb0
  have cellOf : ∀ (a b : World) (k j : Nat), b.heap[k]? = a.heap[k]? → b.cell? ⟨k, j, none⟩ = a.cell? ⟨k, j, none⟩ := fun a b k j e => by unfold World.cell?; rw [e]
  rcases h1.2 with ⟨rfl, rfl⟩ | ⟨g, C, F, rfl, a2, a3, a4, a5⟩
  · obtain ⟨w', C', F', hrun, hC, hR, hF, hs, hb⟩ := app16_nil (W.alloc (.cells #[.int .u16 (t : Nat)] 26)) (x := some ⟨W.heap.size, 0, none⟩) (n := 1) (cx := 1) (S := fun _ => t) (fun _ _ => ht) (by decide) ⟨_, _, rfl, hcell⟩ (by omega)
    have hbb : Below W.heap.size W w' := hb0.trans (hb.mono hb0.size)
    refine ⟨w', _, hrun, ⟨h1.1.trans (hb.mono h1.1.size), .inr ⟨_, C', F', rfl, hC, h1.1.size, hR, fun i hi => ?_⟩⟩, fun b hb9 _ => hbb.block b hb9, fun b j hb9 hj => absurd hj (Nat.not_lt_zero _), fun b hi => ?_, hbb.size⟩
    · rw [hF i (by omega)]
      show t = if i < 0 then S i else t
      rw [if_neg (Nat.not_lt_zero _)]
    · obtain ⟨o, L', C9, e⟩ := hi
      cases e
      right
      omega
  · obtain ⟨w', g', C', F', hrun, hC, hR, hF1, hF2, hcase⟩ := app16 (W.alloc (.cells #[.int .u16 (t : Nat)] 26)) (g := g) (C := C) (L := L) a4 a2 (x := some ⟨W.heap.size, 0, none⟩) (n := 1) (cx := 1) (S := fun _ => t) (fun _ _ => ht) (fun _ => ⟨_, _, rfl, hcell⟩) hL
    have hgl : g < W.heap.size := h.blk rfl
    refine ⟨w', _, hrun, ⟨?_, .inr ⟨g', C', F', rfl, hC, ?_, hR, fun i hi => ?_⟩⟩, fun b hb9 hni => ?_, fun b j hb9 hj => ?_, fun b hi => ?_, ?_⟩
    · rcases hcase with ⟨rfl, ho⟩ | ⟨rfl, -, hb⟩
      · exact h1.1.trans (ho.below a3)
      · exact h1.1.trans (hb.mono h1.1.size)
    · rcases hcase with ⟨rfl, ho⟩ | ⟨rfl, -, hb⟩
      · exact a3
      · exact h1.1.size
    · dsimp only
      by_cases e : i < L
      · rw [if_pos e, hF1 i e]; exact a5 i e
      · rw [if_neg e, show i = L + 0 by omega]
        exact hF2 0 (by decide)
    · rcases hcase with ⟨rfl, ho⟩ | ⟨rfl, -, hb⟩
      · rw [ho.2.2 b (fun e => hni ⟨0, L, C, by rw [e]⟩)]
        exact hb0.block b hb9
      · rw [hb.block b (by rw [hsz]; omega)]
        exact hb0.block b hb9
    · rcases hcase with ⟨rfl, ho⟩ | ⟨rfl, -, hb⟩
      · by_cases e : b = g'
        · subst e
          rw [hR.2.2.cell (by omega), hF1 j hj, ← a4.2.2.cell (by omega)]
          exact cellOf _ _ _ _ (hb0.block b hb9)
        · rw [cellOf _ _ _ _ (ho.2.2 b e)]
          exact cellOf _ _ _ _ (hb0.block b hb9)
      · rw [cellOf _ _ _ _ (hb.block b (by rw [hsz]; omega))]
        exact cellOf _ _ _ _ (hb0.block b hb9)
    · obtain ⟨o, L', C9, e⟩ := hi
      cases e
      rcases hcase with ⟨rfl, ho⟩ | ⟨rfl, -, hb⟩
      · exact .inl ⟨0, L, C, rfl⟩
      · right
        omega
    · rcases hcase with ⟨rfl, ho⟩ | ⟨rfl, -, hb⟩
      · have := ho.2.1
        omega
      · have := hb.size
        omega
/-- one word is written. -/
theorem Gv.mark {w0 W : World} {g L C : Nat} {S : Nat → Nat} (h : Gv w0 W (.slice (some ⟨g, 0, none⟩) L C) L S) {j x : Nat} (hj : j < L) (hx : x < 65536) :
    Gv w0 (W.setCell ⟨g, j, none⟩ (.int .u16 ((x : Nat) : Int))) (.slice (some ⟨g, 0, none⟩) L C) L (fun i => if i = j then x else S i) ∧ W.cell? ⟨g, j, none⟩ = some (.int .u16 (S j : Nat)) ∧ W.frozen? ⟨g, j, none⟩ = false ∧ w0.heap.size ≤ g := by
  obtain ⟨C', F, e, a2, a3, a4, a5⟩ := h.own ⟨0, L, C, rfl⟩
  cases e
  refine ⟨⟨h.1.trans (((Only.refl g W).setCell j _).below a3), .inr ⟨g, C, _, rfl, a2, a3, a4.set j x hx, fun i hi => ?_⟩⟩, ?_, a4.2.2.frozen j, a3⟩
  · dsimp only
    by_cases e : i = j
    · rw [if_pos e, if_pos e]
    · rw [if_neg e, if_neg e]; exact a5 i hi
  · rw [a4.2.2.cell (by omega), a5 j hj]
theorem Gv.keep {w0 W W' : World} {v : Value} {L : Nat} {S : Nat → Nat} (h : Gv w0 W v L S) (hb : Below w0.heap.size w0 W') (hk : ∀ b, In13 v b → W'.heap[b]? = W.heap[b]?) : Gv w0 W' v L S := by
  refine ⟨hb, ?_⟩
  rcases h.2 with h2 | ⟨g, C, F, a1, a2, a3, a4, a5⟩
  · exact .inl h2
  · exact .inr ⟨g, C, F, a1, a2, a3, ⟨a4.1, a4.2.1, a4.2.2.of_block (hk g ⟨0, L, C, a1⟩)⟩, a5⟩
end Go.Proofs.YtidcdbjhkgpjcaaDoor
