import Derived.StillTailTactics
import Derived.WalkKit
namespace Go.Proofs.YtehbiccpbopkfaaDoor
open Go.RowKit
set_option linter.unusedVariables false

section
variable {P : Program} {ops : Array Oper} {Q : Exit → Act → World → Prop} {md : Region.Mode}

/-- operations that look at their operands alone. -/
def calm : Op → Bool
  | .move _ | .assign _ | .pick _ _ _ | .binOp _ _ _ _ _ | .unOp _ _ _ | .convert _ _ _ | .slice _ _ _ _ _ | .indexAddr _ _ _ | .fieldAddr _ _ _ => true
  | _ => false

theorem run_v {α : Type} (s : Sem α) (g : α → Next) (w : World) {n : Next} {w' : World} (h : Sem.run P (do pure (g (← s))) w = .ok n w') : ∃ x, n = g x := by
  simp at h
  generalize hr : Sem.run P s w = r at h
  cases r with
  | ok x w1 => simp at h; exact ⟨x, h.1.symm⟩
  | halt x w1 => simp at h

theorem calm_value {o : Oper} {ρ : Operand → Value} (hc : calm o.op = true) {w : World} {n : Next} {w' : World} (h : (execOp ρ o).run P w = .ok n w') : ∃ v, n = .value v := by
  obtain ⟨dst, op, type, pos, after, guard⟩ := o
  cases op <;> simp only [calm] at hc <;> first | (cases hc; done) | skip
  all_goals simp only [execOp] at h
  case pick c x y =>
    obtain ⟨b, hb⟩ := run_v (asBool (ρ c)) (fun b => Next.value (if b = true then ρ x else ρ y)) w h
    exact ⟨_, hb⟩
  all_goals first | (simp at h; exact ⟨_, h.1.symm⟩) | exact run_v _ _ _ h

/-- the places that a list of operations writes. -/
def dsts (l : List Oper) : List Tmp := l.filterMap (·.dst)

theorem put_other (a : Act) (x : Option Tmp) (v : Value) {d : Tmp} (h : x ≠ some d) : (a.put x v).tmps[d]? = a.tmps[d]? := by
  cases x with
  | none => rfl
  | some e =>
    have hne : e ≠ d := fun he => h (he ▸ rfl)
    simp [Act.put, Array.getElem?_setIfInBounds_ne hne]
theorem dsts_cons {o : Oper} {rest : List Oper} {d : Tmp} (h : d ∉ dsts (o :: rest)) : o.dst ≠ some d ∧ d ∉ dsts rest := by
  unfold dsts at *
  cases ho : o.dst with
  | none => simp [ho] at h ⊢; exact h
  | some e =>
    simp [ho] at h ⊢
    exact ⟨fun he => h.1 he.symm, h.2⟩
theorem still_keeps {A : Act} {w : World} {d : Tmp} : ∀ (rest : List Oper) (b : Act), wpStill P ops w (fun a' => a' = A) rest b → d ∉ dsts rest → A.tmps[d]? = b.tmps[d]?
  | [], b, h, _ => by rw [show b = A from h]
  | o :: r, b, h, hd => by
    obtain ⟨h1, h2⟩ := dsts_cons hd
    unfold wpStill at h
    split at h
    · unfold Oper.still at h
      generalize (execOp b.eval o).run P w = x at h
      cases x with
      | ok n w' =>
        cases n <;> simp only [Oper.stillUpon] at h
        case value v => rw [still_keeps r _ h.2 h2]; exact put_other _ _ _ h1
        case skip => rw [still_keeps r _ h.2 h2]; exact put_other _ _ _ h1
        case enter f args =>
          obtain ⟨_, v, _, h3⟩ := h
          rw [still_keeps r _ h3 h2]; exact put_other _ _ _ h1
      | halt x w' => simp only [Oper.stillUpon] at h
    · rw [still_keeps r _ h h2]; exact put_other _ _ _ h1

/-- the list behind n more. -/
def past : Nat → Nat → Array Bool → Array Bool
  | 0, _, listed => listed
  | n + 1, k, listed => past n (k + 1) (listed.setIfInBounds k true)

theorem put_size (a : Act) (x : Option Tmp) (v : Value) : (a.put x v).tmps.size = a.tmps.size := by cases x <;> simp [Act.put]

end
end Go.Proofs.YtehbiccpbopkfaaDoor
