import Derived.Test.YtfbgcednodnioabDoorEbb
namespace Go.Proofs.YtfbgcednodnioabDoor
open Go.RowKit Gf2
set_option linter.unusedVariables false

/-- the mark at place i. -/
def mk8 (M i : Nat) : Nat := (M + i) % 256
theorem mark_wrap (M k : Nat) : IntKind.u8.wrap ((M : Int) + IntKind.u8.wrap (k : Int)) = ((mk8 M k : Nat) : Int) := by unfold mk8; simp only [IntKind.wrap_u8]; omega
theorem mk8_lt (M i : Nat) : mk8 M i < 256 := Nat.mod_lt _ (by decide)

end Go.Proofs.YtfbgcednodnioabDoor
