import Derived.Test.YtldacjpkblffbabYia
import Derived.Deep.CutRange
namespace Go.Proofs.Ytldacjpkblffbab
open Go.RowKit Gf2
set_option linter.unusedVariables false

-- layer 16: tables (laid by wip/genyib.py)
/-- what a step of tables holds: the lists, and their copies. -/
structure Tst (X0 X : World) (vS vF u u2 : Value) (c : Nat) (n : Nat → Nat) (S : Nat → Nat → Nat) (c2 : Nat) (n2 : Nat → Nat) (S2 : Nat → Nat → Nat) : Prop where
  bel : Below X0.heap.size X0 X
  s : Lb X vS c n S
  f : Lb X vF c2 n2 S2
  su : Lb X u c n S
  fu : Lb X u2 c2 n2 S2
  hc : c ≤ 4194304
  hc2 : c2 ≤ 4194304
theorem Tst.below {X0 X X' : World} {vS vF u u2 : Value} {c : Nat} {n : Nat → Nat} {S : Nat → Nat → Nat} {c2 : Nat} {n2 : Nat → Nat} {S2 : Nat → Nat → Nat} (h : Tst X0 X vS vF u u2 c n S c2 n2 S2) (hb : Below X.heap.size X X') : Tst X0 X' vS vF u u2 c n S c2 n2 S2 :=
  ⟨bthen16 h.bel hb, Lb.below h.s hb, Lb.below h.f hb, Lb.below h.su hb, Lb.below h.fu hb, h.hc, h.hc2⟩
theorem Tst.drewN {X0 X : World} {vS vF u u2 : Value} {c : Nat} {n : Nat → Nat} {S : Nat → Nat → Nat} {c2 : Nat} {n2 : Nat → Nat} {S2 : Nat → Nat → Nat} (h : Tst X0 X vS vF u u2 c n S c2 n2 S2) (q : Nat) : Tst X0 (X.drewN q) vS vF u u2 c n S c2 n2 S2 := h.below (below_drewN (Below.refl _ _) q)
theorem Tst.drewq {X0 X X' : World} {q : Nat} {vS vF u u2 : Value} {c : Nat} {n : Nat → Nat} {S : Nat → Nat → Nat} {c2 : Nat} {n2 : Nat → Nat} {S2 : Nat → Nat → Nat} (h : Tst X0 X vS vF u u2 c n S c2 n2 S2) (hq : X' = X.drewN q) : Tst X0 X' vS vF u u2 c n S c2 n2 S2 := by subst hq; exact h.drewN q
theorem lb_form {w : World} {v : Value} {m : Nat} {n : Nat → Nat} {S : Nat → Nat → Nat} (h : Lb w v m n S) : ∃ a c, v = .slice a m c := by
  obtain ⟨V, ⟨_, a, c, e, _⟩, _⟩ := h
  exact ⟨a, c, e⟩
end Go.Proofs.Ytldacjpkblffbab
