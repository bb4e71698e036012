import Derived.Test.YthebaclellimaaaRDoorDoph
import Derived.Deep.QuietTactic
import Derived.BigQuiet
namespace Go.Proofs.YthebaclellimaaaRDoor
open Go.RowKit Gf2

theorem bdrew {N : Nat} {a w : World} (h : Below N a w) (n : Nat) : Below N a (w.drewN n) := ⟨h.os, h.tape, h.output, h.size, h.block⟩

end Go.Proofs.YthebaclellimaaaRDoor
