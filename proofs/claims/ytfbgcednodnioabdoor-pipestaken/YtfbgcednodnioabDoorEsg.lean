import Derived.StillTailTactics
import Derived.WalkKit
namespace Go.Proofs.YtfbgcednodnioabDoor
open Go.RowKit
set_option linter.unusedVariables false

section
variable {P : Program} {ops : Array Oper} {Q : Exit → Act → World → Prop} {md : Region.Mode}

/-- operations that look at their operands alone. -/
def calm : Op → Bool
  | .move _ | .assign _ | .pick _ _ _ | .binOp _ _ _ _ _ | .unOp _ _ _ | .convert _ _ _ | .slice _ _ _ _ _ | .indexAddr _ _ _ | .fieldAddr _ _ _ => true
  | _ => false

theorem run_v {α : Type} (s : Sem α) (g : α → Next) (w : World) {n : Next} {w' : World} (h : Sem.run P (do pure (g (← s))) w = .ok n w') : ∃ x, n = g x := by
  simp at h
  generalize hr : Sem.run P s w = r at h
  cases r with
  | ok x w1 => simp at h; exact ⟨x, h.1.symm⟩
  | halt x w1 => simp at h

theorem calm_value {o : Oper} {ρ : Operand → Value} (hc : calm o.op = true) {w : World} {n : Next} {w' : World} (h : (execOp ρ o).run P w = .ok n w') : ∃ v, n = .value v := by
  obtain ⟨dst, op, type, pos, after, guard⟩ := o
  cases op <;> simp only [calm] at hc <;> first | (cases hc; done) | skip
  all_goals simp only [execOp] at h
  case pick c x y =>
    obtain ⟨b, hb⟩ := run_v (asBool (ρ c)) (fun b => Next.value (if b = true then ρ x else ρ y)) w h
    exact ⟨_, hb⟩
  all_goals first | (simp at h; exact ⟨_, h.1.symm⟩) | exact run_v _ _ _ h

/-- the places that a list of operations writes. -/
def dsts (l : List Oper) : List Tmp := l.filterMap (·.dst)

theorem put_other (a : Act) (x : Option Tmp) (v : Value) {d : Tmp} (h : x ≠ some d) : (a.put x v).tmps[d]? = a.tmps[d]? := by
  cases x with
  | none => rfl
  | some e =>
    have hne : e ≠ d := fun he => h (he ▸ rfl)
    simp [Act.put, Array.getElem?_setIfInBounds_ne hne]
theorem dsts_cons {o : Oper} {rest : List Oper} {d : Tmp} (h : d ∉ dsts (o :: rest)) : o.dst ≠ some d ∧ d ∉ dsts rest := by
  unfold dsts at *
  cases ho : o.dst with
  | none => simp [ho] at h ⊢; exact h
  | some e =>
    simp [ho] at h ⊢
    exact ⟨fun he => h.1 he.symm, h.2⟩
theorem still_keeps {A : Act} {w : World} {d : Tmp} : ∀ (rest : List Oper) (b : Act), wpStill P ops w (fun a' => a' = A) rest b → d ∉ dsts rest → A.tmps[d]? = b.tmps[d]?
  | [], b, h, _ => by rw [show b = A from h]
  | o :: r, b, h, hd => by
    obtain ⟨h1, h2⟩ := dsts_cons hd
    unfold wpStill at h
    split at h
    · unfold Oper.still at h
      generalize (execOp b.eval o).run P w = x at h
      cases x with
      | ok n w' =>
        cases n <;> simp only [Oper.stillUpon] at h
        case value v => rw [still_keeps r _ h.2 h2]; exact put_other _ _ _ h1
        case skip => rw [still_keeps r _ h.2 h2]; exact put_other _ _ _ h1
        case enter f args =>
          obtain ⟨_, v, _, h3⟩ := h
          rw [still_keeps r _ h3 h2]; exact put_other _ _ _ h1
      | halt x w' => simp only [Oper.stillUpon] at h
    · rw [still_keeps r _ h h2]; exact put_other _ _ _ h1

theorem still_calm {o : Oper} {rest : List Oper} {a A : Act} {d : Tmp} (hc : calm o.op = true) (hd : o.dst = some d) (hsz : d < a.tmps.size) (hn : d ∉ dsts rest)
    (h : ∀ w, wpStill P ops w (fun a' => a' = A) (o :: rest) a) : ∃ v, Yields P ops o v a ∧ ∀ w, wpStill P ops w (fun a' => a' = A) rest (a.put o.dst v) := by
  by_cases hw : Region.wanted o (yielded ops a.tmps) = true
  · have each : ∀ w, (execOp a.eval o).run P w = .ok (.value (A.tmps.getD d undef)) w ∧ wpStill P ops w (fun a' => a' = A) rest (a.put o.dst (A.tmps.getD d undef)) := by
      intro w
      have h1 := h w
      unfold wpStill at h1
      rw [if_pos hw] at h1
      unfold Oper.still at h1
      generalize hr : (execOp a.eval o).run P w = x at h1 ⊢
      cases x with
      | ok n w' =>
        obtain ⟨v, rfl⟩ := calm_value hc hr
        simp only [Oper.stillUpon] at h1
        obtain ⟨rfl, h2⟩ := h1
        have e := still_keeps rest _ h2 hn
        rw [hd] at e
        have e2 : (a.put (some d) v).tmps[d]? = some v := by simp [Act.put, hsz]
        rw [e2] at e
        have e3 : A.tmps.getD d undef = v := by simp [Array.getD_eq_getD_getElem?, e]
        rw [e3]
        exact ⟨rfl, h2⟩
      | halt x w' => simp only [Oper.stillUpon] at h1
    exact ⟨_, .inl ⟨hw, fun w => (each w).1⟩, fun w => (each w).2⟩
  · refine ⟨undef, .inr ⟨by simpa using hw, rfl⟩, fun w => ?_⟩
    have h1 := h w
    unfold wpStill at h1
    rw [if_neg hw] at h1
    exact h1

/-- a segment of such operations, in the order of the text. -/
def segB (md : Region.Mode) (ops : Array Oper) (sz : Nat) : List Oper → Nat → Array Bool → Bool
  | [], _, _ => true
  | o :: l, k, listed => calm o.op && (match o.dst with | some d => decide (d < sz) && !(dsts l).contains d | none => false) &&
      (Region.ready md ops listed).contains k && Region.free md ops listed k && segB md ops sz l (k + 1) (listed.setIfInBounds k true)
/-- the list behind n more. -/
def past : Nat → Nat → Array Bool → Array Bool
  | 0, _, listed => listed
  | n + 1, k, listed => past n (k + 1) (listed.setIfInBounds k true)

theorem put_size (a : Act) (x : Option Tmp) (v : Value) : (a.put x v).tmps.size = a.tmps.size := by cases x <;> simp [Act.put]

theorem seg_take (hs : Region.noSelect ops = true) (hQ : ∀ c a d v w, Q (.panic c) (a.put d v) w → Q (.panic c) a w) {A : Act} {w : World} {fuel : Nat} :
    ∀ (l : List Oper) (k : Nat) (listed : Array Bool) (a : Act), (∀ j, j < l.length → l[j]? = ops[k + j]?) → segB md ops a.tmps.size l k listed = true →
      (∀ w', wpStill P ops w' (fun a' => a' = A) l a) → wpAny P md ops Q fuel (past l.length k listed) A w → wpAny P md ops Q (fuel + l.length) listed a w
  | [], _, _, a, _, _, h, H => by
    have : a = A := h w
    subst this
    exact H
  | o :: l, k, listed, a, hl, hB, h, H => by
    have h0 : ops[k]? = some o := by simpa using (hl 0 (by simp)).symm
    simp only [segB, Bool.and_eq_true] at hB
    obtain ⟨⟨⟨⟨hc, hd⟩, hr⟩, hf⟩, hB'⟩ := hB
    cases ho : o.dst with
    | none => rw [ho] at hd; cases hd
    | some d =>
      rw [ho] at hd
      simp only [Bool.and_eq_true, decide_eq_true_eq, Bool.not_eq_true', List.contains_eq_mem, decide_eq_false_iff_not] at hd
      obtain ⟨v, hy, h'⟩ := still_calm hc ho hd.1 hd.2 h
      refine wpAny_take h0 hs hf hr (fun c a w => hQ c a o.dst v w) hy ?_
      exact seg_take hs hQ l (k + 1) _ _ (fun j hj => by have := hl (j + 1) (by simp; omega); simpa [Nat.add_assoc, Nat.add_comm 1 j] using this) (by rw [put_size]; exact hB') h' H

/-- the walk of a region by a plan: so many operations that look at their operands alone, then one that waits for all of them; and so on. -/
def wpPlan (P : Program) (ops : Array Oper) (sz : Nat) (Q : Exit → Act → World → Prop) : List Nat → List Oper → Act → World → Prop
  | [], l, a, w => l = [] ∧ Q .normal a w
  | n :: pl, l, a, w => a.tmps.size = sz ∧ ∃ A, (∀ w', wpStill P ops w' (fun a' => a' = A) (l.take n) a) ∧
      match l.drop n with
      | [] => Q .normal A w
      | o :: r => if Region.wanted o (yielded ops A.tmps) = true then o.wp P A w (wpPlan P ops sz Q pl r) Q else wpPlan P ops sz Q pl r (A.put o.dst undef) w
/-- the plan fits. -/
def planB (md : Region.Mode) (ops : Array Oper) (sz : Nat) : List Nat → List Oper → Nat → Array Bool → Bool
  | [], l, _, listed => l.isEmpty && (Region.ready md ops listed).isEmpty
  | n :: pl, l, k, listed => decide (n ≤ l.length) && segB md ops sz (l.take n) k listed &&
      match l.drop n with
      | [] => (Region.ready md ops (past n k listed)).isEmpty
      | _ :: r => (Region.ready md ops (past n k listed) == [k + n]) && planB md ops sz pl r (k + n + 1) ((past n k listed).setIfInBounds (k + n) true)

theorem plan_any (hs : Region.noSelect ops = true) (hQ : ∀ c a d v w, Q (.panic c) (a.put d v) w → Q (.panic c) a w) {sz : Nat} :
    ∀ (pl : List Nat) (l : List Oper) (k : Nat) (listed : Array Bool) (a : Act) (w : World), (∀ j, l[j]? = ops[k + j]?) → planB md ops sz pl l k listed = true →
      wpPlan P ops sz Q pl l a w → wpAny P md ops Q l.length listed a w
  | [], l, k, listed, a, w, hl, hB, h => by
    obtain ⟨rfl, hq⟩ := h
    simp only [planB, Bool.and_eq_true, List.isEmpty_iff] at hB
    exact ⟨hB.2, hq⟩
  | n :: pl, l, k, listed, a, w, hl, hB, h => by
    obtain ⟨hsz, A, hst, h⟩ := h
    simp only [planB, Bool.and_eq_true, decide_eq_true_eq] at hB
    obtain ⟨⟨hn, hseg⟩, hB⟩ := hB
    have hlen : (l.take n).length = n := by simp; omega
    have el : l.length = (l.drop n).length + (l.take n).length := by simp; omega
    rw [el]
    refine seg_take hs hQ (l.take n) k listed a (fun j hj => ?_) (hsz ▸ hseg) hst ?_
    · rw [← hl j, List.getElem?_take_of_lt (by omega)]
    rw [hlen]
    cases hd : l.drop n with
    | nil =>
      rw [hd] at hB h
      simp only [List.isEmpty_iff] at hB
      exact ⟨hB, h⟩
    | cons o r =>
      rw [hd] at hB h
      simp only [Bool.and_eq_true, beq_iff_eq] at hB
      have ho : ops[k + n]? = some o := by
        rw [← hl n]
        have := List.getElem?_drop (xs := l) (i := n) (j := 0)
        rw [hd, Nat.add_zero] at this
        exact this.symm
      have hr : ∀ j, r[j]? = ops[k + n + 1 + j]? := fun j => by
        have := List.getElem?_drop (xs := l) (i := n) (j := j + 1)
        rw [hd, List.getElem?_cons_succ, hl] at this
        rw [this]
        congr 1
        omega
      refine wpAny_all hB.1 (by simp) (fun i hi => ?_)
      have hi : i = k + n := by simpa using hi
      subst hi
      have ih : ∀ a' w', wpPlan P ops sz Q pl r a' w' → wpAny P md ops Q r.length ((past n k listed).setIfInBounds (k + n) true) a' w' := fun a' w' h' => plan_any hs hQ pl r (k + n + 1) _ a' w' hr hB.2 h'
      unfold wpOp
      simp only [ho]
      split
      · rename_i hw
        simp only [hw, if_true] at h
        exact .inl (Oper.wp_mono ih h)
      · rename_i hw
        simp only [hw] at h
        exact ih _ _ h

/-- a region that draws its order, walked in the order of the text. -/
theorem region_plan {id : Nat} {a : Act} {w : World} {l : List Oper} (plan : List Nat) (sz : Nat) (hm : P.follows .mixedOrders = true) (hs : Region.noSelect l.toArray = true)
    (hB : planB .any l.toArray sz plan l 0 (Array.replicate l.length false) = true) (hQ : ∀ c a d v w, Q (.panic c) (a.put d v) w → Q (.panic c) a w)
    (h : wpPlan P l.toArray sz Q plan l a w.drew) : (Code.region id l.toArray true).wp P Q a w := by
  refine wp_region_any hm ?_
  have := plan_any (md := .any) hs hQ plan l 0 (Array.replicate l.length false) a w.drew (by simp) hB h
  simpa using this

theorem plan_step {n sz : Nat} {pl : List Nat} {l r : List Oper} {o : Oper} {a : Act} {w : World} (A : Act) (hsz : a.tmps.size = sz) (hseg : ∀ w', wpStill P ops w' (fun a' => a' = A) (l.take n) a) (hd : l.drop n = o :: r)
    (h : ∀ K : Act → World → Prop, (∀ a w, wpPlan P ops sz Q pl r a w → K a w) → if Region.wanted o (yielded ops A.tmps) = true then o.wp P A w K Q else K (A.put o.dst undef) w) : wpPlan P ops sz Q (n :: pl) l a w := by
  refine ⟨hsz, A, hseg, ?_⟩
  rw [hd]
  exact h _ (fun _ _ h => h)
theorem plan_last {n sz : Nat} {pl : List Nat} {l : List Oper} {a : Act} {w : World} (A : Act) (hsz : a.tmps.size = sz) (hseg : ∀ w', wpStill P ops w' (fun a' => a' = A) (l.take n) a) (hd : l.drop n = [])
    (h : Q .normal A w) : wpPlan P ops sz Q (n :: pl) l a w := by
  refine ⟨hsz, A, hseg, ?_⟩
  rw [hd]
  exact h
end
end Go.Proofs.YtfbgcednodnioabDoor
