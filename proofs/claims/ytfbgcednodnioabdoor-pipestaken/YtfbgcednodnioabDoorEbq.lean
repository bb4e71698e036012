import Derived.Test.YtfbgcednodnioabDoorEbp
import Derived.Test.YtfbgcednodnioabDoorEbd
import Derived.Lib.AppendZeros
namespace Go.Proofs.YtfbgcednodnioabDoor
open Go.RowKit Gf2
set_option linter.unusedVariables false

/-- append([]byte{}, x...). -/
theorem copy_app (w : World) {x : Option Addr} {n cx : Nat} {S : Nat → Nat} (h : Rb w (.slice x n cx) n S) (hn : n ≤ 140737488355328) :
    ∃ w' g C F, (Builtin.append_ #[28, 28] 28 #[.slice (some ⟨w.heap.size, 0, none⟩) 0 0, .slice x n cx]).run Tryd.prog (w.alloc (.cells #[] 5)) = .ok (.slice (some ⟨g, 0, none⟩) n C) w' ∧
      n ≤ C ∧ w.heap.size ≤ g ∧ g < w'.heap.size ∧ Rw w' g C F ∧ (∀ i, i < n → F i = S i) ∧ Below w.heap.size w w' := by
  obtain ⟨b1, b2, a, c', b3, b5, b6, b4⟩ := h
  cases b3
  have r0 := lit_rw [] w (fun x h => by cases h) (by decide)
  have hb0 : Below w.heap.size w (w.alloc (.cells #[] 5)) := (Below.refl _ _).alloc (Nat.le_refl _) _
  obtain ⟨w1, g, C, F, hrun, hC, hR, -, hF, hcase⟩ := app8 (w.alloc (.cells #[] 5)) (g := w.heap.size) (C := 0) (L := 0) r0 (Nat.le_refl _) (x := x) (n := n) (cx := cx) (S := S) b2 (fun h0 => by
    obtain ⟨b, o, e, hl, hcl⟩ := b4 h0
    exact ⟨b, o, e, fun i hi => (hb0.cell (p := ⟨b, o + i, none⟩) hl).trans (hcl i hi)⟩) (by omega)
  rw [Nat.zero_add] at hrun hC
  have hs : (w.alloc (.cells #[] 5)).heap.size = w.heap.size + 1 := by simp
  refine ⟨w1, g, C, F, hrun, hC, ?_, hR.lt, hR, fun i hi => by rw [← hF i hi, Nat.zero_add], ?_⟩
  · rcases hcase with ⟨e, -⟩ | ⟨e, -, -⟩
    · omega
    · rw [hs] at e; omega
  · rcases hcase with ⟨e, ho⟩ | ⟨e, -, hb⟩
    · exact hb0.trans (ho.below (Nat.le_refl _))
    · exact hb0.trans (hb.mono (by rw [hs]; omega))

/-- what a list is behind a call of the document's: n bytes in a row of its own. -/
def Own8 (w w' : World) (g C n : Nat) (S : Nat → Nat) : Prop := n ≤ C ∧ w.heap.size ≤ g ∧ Below w.heap.size w w' ∧ ∃ F, Rw w' g C F ∧ ∀ i, i < n → F i = S i

end Go.Proofs.YtfbgcednodnioabDoor
