import Derived.Test.YthofhphlfgmklaaGreatMzao
import Derived.Deep.OwnRows
import Derived.Deep.RegionWith
namespace Go.Proofs.YthofhphlfgmklaaGreat
open Go.RowKit Gf2

/-- what Inv, Div and Log answer, 0 too. -/
def ti (a : Nat) : Nat := if a = 0 then 0 else fi 285 a
def te (a : Nat) : Nat := if a = 0 then 20 else 0
def td (a b : Nat) : Nat := if b = 0 then 0 else fm 285 a (fi 285 b)
def tl (a : Nat) : Nat := if a = 0 then 0 else l8 a
theorem gdiv_all (a b : Nat) (w : World) (ha : a < 256) (hb : b < 256) :
    Calls Tryz.prog 37 #[.int .u8 (a : Int), .int .u8 (b : Int)] w fun e w' => e = .returned (.tuple #[.int .u8 (td a b : Nat), .int .i64 (te b : Nat)]) ∧ w' = w := by
  by_cases h : b = 0
  · subst h; exact gdiv_zero a w
  · unfold td te; rw [if_neg h, if_neg h]; exact gdiv_nat a b w ha hb h
theorem new_tab (w : World) :
    Calls Tryz.prog 64 #[] w fun e w' => e = .returned (.pointer (some ⟨w.heap.size, 0, none⟩)) ∧ ∃ w0 : World, w' = w0.drewN 0 ∧ w0.heap.size = w.heap.size + 1 ∧ Tab8 w0 w.heap.size ∧ Below w.heap.size w w0 :=
  (new_any w).mono fun _ w' ⟨h1, h2, h3, h4⟩ => ⟨h1, w', rfl, h2, h3, h4⟩
end Go.Proofs.YthofhphlfgmklaaGreat
