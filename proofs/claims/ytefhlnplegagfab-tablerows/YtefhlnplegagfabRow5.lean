import Derived.Test.YtefhlnplegagfabRob5
import Derived.Test.YtefhlnplegagfabRoc5
import Derived.Test.YtefhlnplegagfabEbo
namespace Go.Proofs.Ytefhlnplegagfab
open Go.RowKit Gf2
theorem rows5_any {w : World} (a : Option Addr) (n ca : Nat) (hu : Rbm w a n ca) :
    Calls Try.prog 3 #[.slice a n ca] w fun e w' => e = .returned (.bool true) ∧ Below w.heap.size w w' := by
  obtain ⟨hm, X, hX⟩ := hu
  by_cases h : n ≤ 40
  · exact rows5_few a n ca X w hX h
  · exact rows5_many a n ca X w hX (by omega)
end Go.Proofs.Ytefhlnplegagfab
