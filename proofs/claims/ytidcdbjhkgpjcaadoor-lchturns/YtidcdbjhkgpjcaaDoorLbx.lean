import Derived.Test.YtidcdbjhkgpjcaaDoorLal
import Derived.Test.YtidcdbjhkgpjcaaDoorEsk
namespace Go.Proofs.YtidcdbjhkgpjcaaDoor
open Go.RowKit Gf2
set_option linter.unusedVariables false

/-- the box of a step. -/
def bx13 (w : World) (k i j : Int) (x : Nat) (v : Value) : World := w.alloc (.cells #[.int .i64 k, .int .i64 i, .int .i64 j, .int .u16 (x : Int), v] 29)
theorem bx13_b (w : World) (k i j : Int) (x : Nat) (v : Value) : Below w.heap.size w (bx13 w k i j x v) := below_alloc _ _
theorem bx13_cell (w : World) (k i j : Int) (x : Nat) (v : Value) {W : World} (h : Below (bx13 w k i j x v).heap.size (bx13 w k i j x v) W) : W.cell? ⟨w.heap.size, 0, none⟩ = some (.int .i64 k) ∧ W.cell? ⟨w.heap.size, 3, none⟩ = some (.int .u16 (x : Int)) ∧ W.cell? ⟨w.heap.size, 4, none⟩ = some v := by
  refine ⟨?_, ?_, ?_⟩
  · rw [h.cell (p := ⟨w.heap.size, 0, none⟩) (by simp [bx13])]; unfold bx13; rw [cell_of_row _ _ _ _ _ _ (heap_alloc_new _ _)]; rfl
  · rw [h.cell (p := ⟨w.heap.size, 3, none⟩) (by simp [bx13])]; unfold bx13; rw [cell_of_row _ _ _ _ _ _ (heap_alloc_new _ _)]; rfl
  · rw [h.cell (p := ⟨w.heap.size, 4, none⟩) (by simp [bx13])]; unfold bx13; rw [cell_of_row _ _ _ _ _ _ (heap_alloc_new _ _)]; rfl
theorem below_undraw {X W : World} (h : Below X.drew.heap.size X.drew W) : Below X.heap.size X W := ⟨h.os, h.tape, h.output, h.size, h.block⟩
theorem q6_nil' (w : World) : Q6 w (.slice none 0 0) 0 (fun _ => 0) := ⟨by decide, fun i hi => absurd hi (Nat.not_lt_zero _), none, 0, rfl, Nat.le_refl _, by decide, fun h => absurd h (Nat.lt_irrefl _)⟩
end Go.Proofs.YtidcdbjhkgpjcaaDoor
