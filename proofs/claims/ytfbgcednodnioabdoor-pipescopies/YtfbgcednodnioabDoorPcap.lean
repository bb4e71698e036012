import Derived.Test.YtfbgcednodnioabDoorPcan
import Derived.LaidEql
namespace Go.Proofs.YtfbgcednodnioabDoor
open Go.RowKit Gf2
set_option linter.unusedVariables false

-- layer 22: failures held against one another; Put in all cases
theorem info_pb22 : ∃ i j, Tryd.prog.info? 51 = some i ∧ i.comparable = true ∧ Tryd.prog.info? 68 = some j ∧ j.size ≠ 0 := by
  have h1 : (Tryd.prog.info? 51).map (·.comparable) = some true := by kernel_rfl
  have h2 : (Tryd.prog.info? 68).map (·.size) = some 1 := by kernel_rfl
  cases hi : Tryd.prog.info? 51 with
  | none => rw [hi] at h1; cases h1
  | some i =>
    cases hj : Tryd.prog.info? 68 with
    | none => rw [hj] at h2; cases h2
    | some j =>
      rw [hi] at h1
      rw [hj] at h2
      simp at h1 h2
      exact ⟨i, j, rfl, h1, rfl, by omega⟩
theorem eqf22 (w : World) (f : Nat) : (binOp .eql 30 (.iface 51 (.pointer (some ⟨f, 0, none⟩))) (.iface 51 (.pointer (some ⟨f, 0, none⟩)))).run Tryd.prog w = .ok (.bool true) w := by
  obtain ⟨i, j, h1, h2, h3, -⟩ := info_pb22
  exact run_eql_iface_ptr_same w ⟨f, 0, none⟩ Tryd.underlying30 Tryd.underlying51 h1 h2 h3
end Go.Proofs.YtfbgcednodnioabDoor
