import Derived.Test.YtehbiccpbopkfaaDoorFnae
import Derived.Deep.Upon
namespace Go.Proofs.YtehbiccpbopkfaaDoor
open Go.RowKit Gf2
set_option linter.unusedVariables false

/-- S 0, .., S (n - 1) as cells. -/
def bs : Nat → (Nat → Nat) → List Value
  | 0, _ => []
  | n + 1, S => Value.int .u8 ((S 0 : Nat) : Int) :: bs n (fun i => S (i + 1))
theorem info_u8a : ∃ i, Tryd.prog.info? 5 = some i ∧ i.zero = some (Value.int .u8 0) ∧ i.size = 1 ∧ i.bytes = 1 := by
  have h := info_u8m
  cases hi : Tryd.prog.info? 5 with
  | none => rw [hi] at h; cases h
  | some i =>
    rw [hi] at h
    simp at h
    exact ⟨i, rfl, h.1, h.2.1, h.2.2⟩

end Go.Proofs.YtehbiccpbopkfaaDoor
