import Derived.Test.YtfbgcednodnioabDoorWalkb
import Derived.OpenShut
namespace Go.Proofs.YtfbgcednodnioabDoor
open Go.RowKit Gf2

theorem nat_u64 {a : Int} (h : (Lit.int .u64 a).wf = true) : ∃ n : Nat, a = n ∧ n < 18446744073709551616 := by
  have := bounds_u64 h
  exact ⟨a.toNat, by omega, by omega⟩
theorem nat_u32 {a : Int} (h : (Lit.int .u32 a).wf = true) : ∃ n : Nat, a = n ∧ n < 4294967296 := by
  have := bounds_u32 h
  exact ⟨a.toNat, by omega, by omega⟩


/-- a degree from 1 to g? -/
def isMod (p : Nat) (g : Nat) : Bool := decide (2 ≤ len p ∧ len p ≤ g + 1)

theorem isMod_true {p g : Nat} (h : isMod p g = true) : 2 ≤ len p ∧ len p ≤ g + 1 := by simpa [isMod] using h
theorem isMod_false {p g : Nat} (h : isMod p g = false) : ¬ (2 ≤ len p ∧ len p ≤ g + 1) := by simpa [isMod] using h
theorem isMod_mk {p g : Nat} (h : 2 ≤ len p ∧ len p ≤ g + 1) : isMod p g = true := by simpa [isMod] using h
theorem isMod_ne {p g : Nat} (h : isMod p g = true) : p ≠ 0 := by
  rintro rfl; have := isMod_true h; rw [len_zero] at this; omega

end Go.Proofs.YtfbgcednodnioabDoor
