import Derived.Test.YtdeophhcbkahgaaWalkc
import Derived.Test.YtdeophhcbkahgaaGfc
namespace Go.Proofs.Ytdeophhcbkahgaa
open Go.RowKit Gf2

theorem tm_lt (a b : Nat) {p : Nat} (hp0 : p ≠ 0) (hp : p < 18446744073709551616) : tm a b p < 18446744073709551616 := pmod_lt _ hp0 hp

theorem times_tm (a b p : Nat) (w : World) (ha : a < 18446744073709551616) (hb : b < 18446744073709551616) (hp : p < 18446744073709551616) (hp0 : p ≠ 0) :
    Calls Try.prog 51 #[.int .u64 (a : Int), .int .u64 (b : Int), .int .u64 (p : Int)] w fun e w' => e = .returned (.int .u64 (tm a b p : Nat)) ∧ w' = w := times_nat a b p w ha hb hp hp0

end Go.Proofs.Ytdeophhcbkahgaa
