import Derived.Test.YtlblkckglelbdaaGreatMwap
import Derived.Deep.OwnRows
import Derived.Deep.RegionWith
namespace Go.Proofs.YtlblkckglelbdaaGreat
open Go.RowKit Gf2

/-- what Inv, Div and Log answer, 0 too. -/
def ti (a : Nat) : Nat := if a = 0 then 0 else fi 285 a
def te (a : Nat) : Nat := if a = 0 then 20 else 0
def td (a b : Nat) : Nat := if b = 0 then 0 else fm 285 a (fi 285 b)
def tl (a : Nat) : Nat := if a = 0 then 0 else l8 a
theorem new_tab (w : World) :
    Calls Tryz.prog 87 #[] w fun e w' => e = .returned (.pointer (some ⟨w.heap.size, 0, none⟩)) ∧ ∃ w0 : World, w' = w0.drewN 0 ∧ w0.heap.size = w.heap.size + 1 ∧ Tab8 w0 w.heap.size ∧ Below w.heap.size w w0 :=
  (new_any w).mono fun _ w' ⟨h1, h2, h3, h4⟩ => ⟨h1, w', rfl, h2, h3, h4⟩
end Go.Proofs.YtlblkckglelbdaaGreat
