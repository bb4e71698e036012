import Derived.Test.YtfbgcednodnioabDoorZpj
namespace Go.Proofs.YtfbgcednodnioabDoor
open Go.RowKit Gf2
set_option linter.unusedVariables false

-- layer 22: Bytes, Failure, Taken
/-- a failure as an error. -/
def fe22 (fa : Int) (f : Nat) : Value := if fa < 0 then .nilIface else .iface 51 (.pointer (some ⟨f, 0, none⟩))
set_option maxHeartbeats 2000000 in
set_option maxRecDepth 100000 in
theorem bytes22 {Fp : Nat → Prop} {b L f : Nat} {T : Nat → Nat} {fa code : Int} (w : World) (h : Sk Fp w b L T fa code f) (hL : L ≤ 225000000000000) :
    Calls Tryd.prog 10 #[.pointer (some ⟨b, 0, none⟩)] w fun e w' => ∃ u, e = .returned u ∧ Nb w.heap.size w' u L T ∧ Below w.heap.size w w' := by
  obtain ⟨a, c, fv, hy, -, hB, -⟩ := h.open_
  have z0 := hy.c0
  have c1 := clone8_22 _ L T w hB hL
  clear h hy hB hL
  go_enter Tryd.func10, Tryd.ntmps10
  go_wp2_with (go_at_call 20; (with_reducible refine c1.mono ?_); rintro e w1 ⟨u, rfl, hN⟩; have HN : Hid _ := hN; clear c1 hN z0)
  go_ret
  exact ⟨u, rfl, HN.out⟩
set_option maxHeartbeats 2000000 in
set_option maxRecDepth 100000 in
theorem srcfail22 {lo hi b n k f p t : Nat} {D : Nat → Nat} {C : Nat → Int} {fa code : Int} (w : World) (h : So lo hi w b n D k C fa code f p t) :
    Calls Tryd.prog 16 #[.pointer (some ⟨b, 0, none⟩)] w fun e w' => e = .returned (fe22 fa f) ∧ w' = w := by
  obtain ⟨a, cap, c, ccap, fv, hx, hB, hI, hF⟩ := h.open_
  have z5 := hx.c5
  rcases hF with ⟨h0, rfl⟩ | ⟨h0, rfl, hfb⟩
  · have e1 : fe22 fa f = .nilIface := if_pos h0
    rw [e1]
    clear h hx hB hI e1 h0
    go_enter Tryd.func16, Tryd.ntmps16
    go_wp2
    go_ret
    exact ⟨rfl, rfl⟩
  · have e1 : fe22 fa f = .iface 51 (.pointer (some ⟨f, 0, none⟩)) := if_neg (by omega)
    rw [e1]
    have hnil : ∀ W : World, Sem.run Tryd.prog (binOp BinOp.eql 51 (Value.pointer (some ⟨f, 0, none⟩)) (Value.pointer none)) W = .ok (.bool false) W := fun W => by kernel_rfl
    clear h hx hB hI e1 h0 hfb
    go_enter Tryd.func16, Tryd.ntmps16
    go_wp2
    go_ret
    exact ⟨rfl, rfl⟩
set_option maxHeartbeats 2000000 in
set_option maxRecDepth 100000 in
theorem snkfail22 {Fp : Nat → Prop} {b L f : Nat} {T : Nat → Nat} {fa code : Int} (w : World) (h : Sk Fp w b L T fa code f) :
    Calls Tryd.prog 8 #[.pointer (some ⟨b, 0, none⟩)] w fun e w' => e = .returned (fe22 fa f) ∧ w' = w := by
  obtain ⟨a, c, fv, hy, hF, -, -⟩ := h.open_
  have z5 := hy.c2
  rcases hF with ⟨h0, rfl⟩ | ⟨h0, rfl, hfb⟩
  · have e1 : fe22 fa f = .nilIface := if_pos h0
    rw [e1]
    clear h hy e1 h0
    go_enter Tryd.func8, Tryd.ntmps8
    go_wp2
    go_ret
    exact ⟨rfl, rfl⟩
  · have e1 : fe22 fa f = .iface 51 (.pointer (some ⟨f, 0, none⟩)) := if_neg (by omega)
    rw [e1]
    have hnil : ∀ W : World, Sem.run Tryd.prog (binOp BinOp.eql 51 (Value.pointer (some ⟨f, 0, none⟩)) (Value.pointer none)) W = .ok (.bool false) W := fun W => by kernel_rfl
    clear h hy e1 h0 hfb
    go_enter Tryd.func8, Tryd.ntmps8
    go_wp2
    go_ret
    exact ⟨rfl, rfl⟩
end Go.Proofs.YtfbgcednodnioabDoor
