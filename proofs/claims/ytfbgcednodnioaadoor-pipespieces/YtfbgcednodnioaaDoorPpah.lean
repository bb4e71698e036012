import Derived.Test.YtfbgcednodnioaaDoorPpag
import Derived.Defers
import Derived.Recover
namespace Go.Proofs.YtfbgcednodnioaaDoor
open Go.RowKit Gf2
set_option linter.unusedVariables false

-- layer 22: ask
theorem ask1_22 (p q : Addr) (w : World) :
    CallsD Tryd.prog 45 #[.pointer (some p), .pointer (some q)] .returning w fun e u' w' => e = .returned (.tuple #[]) ∧ u' = .returning ∧ w' = w := by
  refine callsD_of_wpS Tryd.func45 rfl fun c₀ cs hu => ?_
  apply wpS_seq
  apply wpS_region
  simp [wpOpsS, go_sem, recoverD, hu, Tryd.ntmps45, Exit.thenS]
  refine wpS_cond (t := false) (by simp [Act.eval, Array.replicate]) ?_
  simp only [Bool.false_eq_true, if_false]
  refine wpS_of_wp (wp_skip ?_)
  cases c₀
  simp_all [bodyPostS, results, Tryd.results45]
set_option maxHeartbeats 2000000 in
set_option maxRecDepth 100000 in
theorem askread22 (q : Option Addr) (p : Value) (w : World) (ev : Value) (hev : ev = .nilIface ∨ ∃ T v, ev = .iface T v) (R : Int → World → Prop)
    (c1 : Calls Tryd.prog 23 #[.pointer q, p] ((w.alloc (.cells #[.int .i64 0] 3)).alloc (.cells #[.nilIface] 35)) fun e w' => ∃ m, e = .returned (.tuple #[.int .i64 m, ev]) ∧
      w'.heap[w.heap.size]? = some (.cells #[.int .i64 0] 3 (0, 0)) ∧ w'.heap[w.heap.size + 1]? = some (.cells #[.nilIface] 35 (0, 0)) ∧ R m w') :
    Calls Tryd.prog 43 #[.func (.method "Read") #[.iface 25 (.pointer q)] #[], p] w fun e w' => ∃ m w2, e = .returned (.tuple #[.int .i64 m, ev]) ∧ R m w2 ∧
      w' = (w2.setCell ⟨w.heap.size, 0, none⟩ (.int .i64 m)).setCell ⟨w.heap.size + 1, 0, none⟩ ev := by
  have hmf : ∀ (fn : Fn) (first cap : Array Value) (w : World), (Instr.makeFunc fn first cap).run Tryd.prog w = .ok (.func fn first cap) w := fun _ _ _ _ => rfl
  have hm : ∀ W, Sem.run Tryd.prog (method 232 25 (.pointer q) "Read") W = .ok (23, .pointer q) W := fun _ => by kernel_rfl
  rcases hev with rfl | ⟨T, v, rfl⟩ <;>
  · go_enter_defers Tryd.func43, Tryd.ntmps43
    go_wp2_with (go_at_call 23; (with_reducible refine c1.mono ?_); rintro e w1 ⟨m, rfl, q0, q1, hR⟩; clear c1; have z0 := cell_of_row _ _ 0 _ _ _ q0; have z1 := cell_of_row _ _ 0 _ _ _ q1; simp only [List.getElem?_toArray, List.getElem?_cons_zero] at z0 z1; have f0 := fun i => frozen_of_row _ _ i _ _ q0; have f1 := fun i => frozen_of_row _ _ i _ _ q1; clear q0 q1)
    refine leaves_cons (f := 45) (args := #[.pointer (some ⟨w.heap.size, 0, none⟩), .pointer (some ⟨w.heap.size + 1, 0, none⟩)]) (by simp) (by simp [go_sem]) ?_
    refine (ask1_22 _ _ _).mono ?_
    rintro e u' w'' ⟨rfl, rfl, rfl⟩
    simp [Leaves, settle, results, Tryd.results43, go_sem, z0, z1]
    exact ⟨_, hR, rfl⟩
end Go.Proofs.YtfbgcednodnioaaDoor
