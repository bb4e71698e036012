import Derived.Test.YtfbgcednodnioaaDoorPpag
import Derived.Test.YtfbgcednodnioaaDoorPpau
namespace Go.Proofs.YtfbgcednodnioaaDoor
open Go.ChangeShapes Go.WideShapes Go.ChangeAt Go.RowKit Go.Deep
set_option linter.unusedVariables false

/-- bytes that came in. -/
def Bm9 (W : World) (v : Value) : Prop := ∃ n S, Rb W v n S ∧ n ≤ 140737488351232
theorem Bm9.below {W W' : World} {v : Value} (h : Bm9 W v) (hb : Below W.heap.size W W') : Bm9 W' v := by
  obtain ⟨n, S, h1, h2⟩ := h
  exact ⟨n, S, h1.below hb, h2⟩
theorem open_bytes9 {H : Type} {enc : TypeId × Value → H} {W : World} {base : Nat} {held : Bool} {fuel : Nat} {v : Value} {x : DataW H × List MemPlace}
    (h : DataW.trod enc Tryd.prog W base (fun _ => true) held fuel 41 [v] = some x) (hsz : ∀ n ∈ x.1.weights Tryd.prog 41, n ≤ reachBytes) : Bm9 W v := by
  obtain ⟨a, len, cap, rfl⟩ : ∃ a len cap, v = .slice a len cap := by
    rcases open_slice Tryd.underlying41 h with ⟨hcs, _⟩ | ⟨a', len', cap', m, n, D, Pl, hcs, _⟩
    · simp at hcs; exact ⟨_, _, _, hcs⟩
    · simp at hcs; exact ⟨_, _, _, hcs⟩
  have := open_bytes5 h (fun el sp he => by
    refine hsz _ ?_
    rw [he]
    simp [DataW.weights, Tryd.underlying41])
  obtain ⟨h1, F, h2⟩ := this
  exact ⟨len, F, h2, h1⟩
end Go.Proofs.YtfbgcednodnioaaDoor
