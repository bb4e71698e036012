import Derived.Test.YtfbgcednodnioabDoorWalkc
import Derived.Test.YtfbgcednodnioabDoorGfc
namespace Go.Proofs.YtfbgcednodnioabDoor
open Go.RowKit Gf2

theorem tm_lt (a b : Nat) {p : Nat} (hp0 : p ≠ 0) (hp : p < 18446744073709551616) : tm a b p < 18446744073709551616 := pmod_lt _ hp0 hp

end Go.Proofs.YtfbgcednodnioabDoor
