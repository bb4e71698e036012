import Derived.Test.YtdnhidachdjgaaaMya
namespace Go.Proofs.Ytdnhidachdjgaaa
open Go.RowKit Gf2
set_option linter.unusedVariables false

/-- what side answers. -/
def SdP (m : Nat) (n : Nat → Nat) (w : World) (e : Ending) (w' : World) : Prop := (∃ e0 : Nat, e = .returned (.int .i64 (e0 : Nat)) ∧ (e0 = m ∧ Fm m n ∨ e0 = 0 ∧ ¬ Fm m n)) ∧ ∃ q, w' = w.drewN q
end Go.Proofs.Ytdnhidachdjgaaa
