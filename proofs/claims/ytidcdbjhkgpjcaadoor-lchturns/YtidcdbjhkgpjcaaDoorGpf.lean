import Derived.Test.YtidcdbjhkgpjcaaDoorTj3
namespace Go.Proofs.YtidcdbjhkgpjcaaDoor
namespace Gf2
set_option linter.unusedVariables false
variable {p d : Nat}

/-! Euclid's way. -/
/-- from a and b, with their factors, to the first remainder of a degree below e. -/
inductive Eu (p d e : Nat) : (Nat → Nat) → (Nat → Nat) → (Nat → Nat) → (Nat → Nat) → (Nat → Nat) → (Nat → Nat) → (Nat → Nat) → (Nat → Nat) → (Nat → Nat) → Prop
  | stop {a ua va b ub vb : Nat → Nat} : Dg a e → Eu p d e a ua va b ub vb a ua va
  | last {a ua va ub vb : Nat → Nat} : ¬ Dg a e → Eu p d e a ua va pz ub vb pz ub vb
  | step {a ua va b ub vb q m x y z : Nat → Nat} {n : Nat} : ¬ Dg a e → Tp b n → Pol d q → Dg m n → a = pa (pm p q b) m → Eu p d e b ub vb m (pa ua (pm p q ub)) (pa va (pm p q vb)) x y z → Eu p d e a ua va b ub vb x y z
theorem Fld.eu_only (h : Fld p d) {e : Nat} {a ua va b ub vb x y z x' y' z' : Nat → Nat} (hb : El d b) (ha : El d a) (k : Eu p d e a ua va b ub vb x y z) (k' : Eu p d e a ua va b ub vb x' y' z') : x = x' ∧ y = y' ∧ z = z' := by
  induction k generalizing x' y' z' with
  | stop hd =>
    cases k' with
    | stop => exact ⟨rfl, rfl, rfl⟩
    | last hd' => exact absurd hd hd'
    | step hd' => exact absurd hd hd'
  | last hd =>
    cases k' with
    | stop hd' => exact absurd hd' hd
    | last => exact ⟨rfl, rfl, rfl⟩
    | step _ ht => exact absurd rfl ht.ne
  | step hd ht hq hm he _ ih =>
    cases k' with
    | stop hd' => exact absurd hd' hd
    | last => exact absurd rfl ht.ne
    | step hd' ht' hq' hm' he' hr =>
      have hn := ht'.only ht
      subst hn
      obtain ⟨rfl, rfl⟩ := h.div_only hb ht hq hq' hm hm' (he.symm.trans he')
      refine ih ?_ hb hr
      have := pa_move (he.trans (pa_comm _ _))
      rw [this]
      exact ha.pa (h.el_pm _ _)
end Gf2
end Go.Proofs.YtidcdbjhkgpjcaaDoor
