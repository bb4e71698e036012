import Derived.Test.YtbcjpcdipcomiaaDoorDhel
import Derived.Deep.RegionLaw
namespace Go.Proofs.YtbcjpcdipcomiaaDoor
open Go.RowKit Gf2

theorem made_own (w : World) (C : Nat) (hC : 1 ≤ C) (hC2 : C ≤ 65536) (base : Nat) (hb : base ≤ w.heap.size) :
    (w.alloc (.cells (madeCells #[.int .u16 0] C) 26)).ownsRow base 26 1 (.slice (some ⟨w.heap.size, 0, none⟩) 1 C) 1 ((wes 1).map vU) := by
  refine ⟨rfl, .inr ⟨w.heap.size, C, madeCells #[.int .u16 0] C, rfl, hb, heap_alloc_new _ _, hC, by unfold maxLen; omega, by rw [size_madeCells, Nat.mul_one], ?_⟩⟩
  have h : (madeCells #[Value.int .u16 0] C).toList = List.replicate C (Value.int .u16 0) := by
    apply List.ext_getElem?
    intro i
    rw [Array.getElem?_toList]
    by_cases h : i < C
    · have hr := (World.rowIs_made w (.int .u16 0) C 26).cell h
      have hc := cell_of_row (w.alloc (.cells (madeCells #[.int .u16 0] C) 26)) w.heap.size i _ 26 (0, 0) (heap_alloc_new _ _)
      rw [hr] at hc
      rw [← hc, List.getElem?_replicate, if_pos h]
    · rw [Array.getElem?_eq_none (by rw [size_madeCells]; omega), List.getElem?_replicate, if_neg h]
  rw [h, List.take_replicate, Nat.min_eq_left (by omega)]
  rfl

theorem step_append_runH {P : Program} {ops : Array Oper} {o : Oper} {a : Act} {w : World} {K : Act → World → Prop} {Q : Exit → Act → World → Prop} {E : Prop} (hgd : o.guard = none) (s x : Operand) (t : TypeId)
    (ho : o.op = .call { callee := .builtin .append, args := #[s, x], argTypes := #[t, t] }) {v1 v2 v' : Value} {w' : World} (hs : a.eval s = v1) (hx : a.eval x = v2)
    (hrun : (Builtin.append_ #[t, t] o.type #[v1, v2]).run P w = .ok v' w') (h : K (a.put o.dst v') w') : if Region.wanted o (yielded ops a.tmps) = true then Oper.wp P o a w K Q else E := by
  have hw : Region.wanted o (yielded ops a.tmps) = true := by simp [Region.wanted, hgd]
  rw [if_pos hw]
  unfold Oper.wp execOp
  simp only [ho, resolve, invoke, builtin, Sem.run_bind, Sem.run_pure, Result.andThen_ok, List.map_toArray, List.map_cons, List.map_nil, hs, hx, hrun]
  exact h

end Go.Proofs.YtbcjpcdipcomiaaDoor
