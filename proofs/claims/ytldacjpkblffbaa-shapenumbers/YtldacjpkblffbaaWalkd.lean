import Derived.Test.YtldacjpkblffbaaWalkc
import Derived.Test.YtldacjpkblffbaaGfc
namespace Go.Proofs.Ytldacjpkblffbaa
open Go.RowKit Gf2

theorem tm_lt (a b : Nat) {p : Nat} (hp0 : p ≠ 0) (hp : p < 18446744073709551616) : tm a b p < 18446744073709551616 := pmod_lt _ hp0 hp

end Go.Proofs.Ytldacjpkblffbaa
