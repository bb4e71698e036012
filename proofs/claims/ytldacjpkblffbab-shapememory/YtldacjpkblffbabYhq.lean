import Derived.Test.YtldacjpkblffbabYhp
namespace Go.Proofs.Ytldacjpkblffbab
open Go.RowKit Gf2
set_option linter.unusedVariables false

-- layer 16: all (laid by wip/genyhq.py)
/-- what is answered of every step of the kinds lo to hi, by the function g. -/
def Plays16 (g : Nat) (lo hi : Int) : Prop := ∀ (k f K m n : Int) (vS vF vD : Value) (W : World), lo ≤ k → k ≤ hi → In16 W k f K m n vS vF vD →
  Calls Try.prog g #[.agg #[.int .i64 k, .int .i64 f, .int .i64 K, .int .i64 m, .int .i64 n, vS, vF, vD]] W fun e w' => e = .returned (.bool true) ∧ Below W.heap.size W w'
end Go.Proofs.Ytldacjpkblffbab
