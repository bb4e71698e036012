import Derived.Test.YtehbiccpbopkfaaDoorFfae
import Derived.StillTail
namespace Go.Proofs.YtehbiccpbopkfaaDoor
open Go.RowKit Gf2
set_option linter.unusedVariables false

theorem Rb.cut {w : World} {x : Option Addr} {n m cx : Nat} {S : Nat → Nat} (h : Rb w (.slice x m cx) m S) (hn : n ≤ m) (hc : n ≤ cx) : Rb w (.slice x n cx) n S := by
  obtain ⟨b1, b2, a, c', b3, b5, b6, b4⟩ := h
  cases b3
  refine ⟨by omega, fun i hi => b2 i (by omega), x, cx, rfl, hc, b6, fun h0 => ?_⟩
  obtain ⟨b, o, e, hl, hcl⟩ := b4 (by omega)
  exact ⟨b, o, e, hl, fun i hi => hcl i (by omega)⟩
theorem Rb.drop {w : World} {b o' n o cx : Nat} {S : Nat → Nat} (h : Rb w (.slice (some ⟨b, o', none⟩) n cx) n S) (ho : o ≤ n) : Rb w (.slice (some ⟨b, o' + o, none⟩) (n - o) (cx - o)) (n - o) (fun i => S (o + i)) := by
  obtain ⟨b1, b2, a, c', b3, b5, b6, b4⟩ := h
  cases b3
  refine ⟨by omega, fun i hi => b2 _ (by omega), _, _, rfl, by omega, by omega, fun h0 => ?_⟩
  obtain ⟨b', p', e, hl, hcl⟩ := b4 (by omega)
  cases e
  exact ⟨b, o' + o, rfl, hl, fun i hi => by rw [Nat.add_assoc]; exact hcl (o + i) (by omega)⟩
/-- a row that is written out. -/
theorem lit_rw (l : List Nat) (W : World) (hl : ∀ x ∈ l, x < 256) (hn : l.length ≤ 1000) : Rw (W.alloc (.cells (l.map (fun n : Nat => Value.int .u8 (n : Int))).toArray 5)) W.heap.size l.length (fun i => l.getD i 0) := by
  refine ⟨by unfold big; omega, fun i hi => ?_, _, heap_alloc_new _ _, by simp, fun i hi => ?_⟩
  · simp only [List.getD_eq_getElem?_getD, List.getElem?_eq_getElem hi, Option.getD_some]
    exact hl _ (List.getElem_mem _)
  · simp [List.getD_eq_getElem?_getD, hi]
theorem below_drewN {B : Nat} {W W' : World} (h : Below B W W') (m : Nat) : Below B W (W'.drewN m) := ⟨h.os, h.tape, h.output, h.size, h.block⟩

/-- the row behind the first k places. -/
def goes (f : Nat → Nat → Nat) (o : Nat) (rd : (Nat → Nat) → Nat → Nat) (F : Nat → Nat) : Nat → Nat → Nat
  | 0, i => F i
  | k + 1, i => if i = o + k then f (goes f o rd F k (o + k)) (rd (goes f o rd F k) k) else goes f o rd F k i
end Go.Proofs.YtehbiccpbopkfaaDoor
