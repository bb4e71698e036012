import Derived.Test.YtfbgcednodnioaaDoorPpap
import Derived.Test.YtfbgcednodnioaaDoorPpao
import Derived.Deep.Cut
import Derived.Deep.DeepCutAuto
namespace Go.Proofs.YtfbgcednodnioaaDoor
open Go.RowKit Gf2
set_option linter.unusedVariables false

-- layer 22: the laws' model, is
theorem info_es22 : ∃ i j, Tryd.prog.info? 114 = some i ∧ i.comparable = true ∧ Tryd.prog.info? 129 = some j := by
  have h1 : (Tryd.prog.info? 114).map (·.comparable) = some true := by kernel_rfl
  have h2 : (Tryd.prog.info? 129).map (·.size) = some 1 := by kernel_rfl
  cases hi : Tryd.prog.info? 114 with
  | none => rw [hi] at h1; cases h1
  | some i =>
    cases hj : Tryd.prog.info? 129 with
    | none => rw [hj] at h2; cases h2
    | some j =>
      rw [hi] at h1
      simp at h1
      exact ⟨i, j, rfl, h1, rfl⟩
end Go.Proofs.YtfbgcednodnioaaDoor
