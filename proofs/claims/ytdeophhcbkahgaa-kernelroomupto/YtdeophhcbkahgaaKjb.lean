import Derived.StillTailTactics
import Derived.WalkKit
import Derived.OrdersHeld
namespace Go.Proofs.Ytdeophhcbkahgaa
open Go.RowKit
set_option linter.unusedVariables false

section
variable {P : Program} {ops : Array Oper} {Q : Exit → Act → World → Prop} {md : Region.Mode}

/-- operations that look at their operands alone. -/
def calm : Op → Bool
  | .move _ | .assign _ | .pick _ _ _ | .binOp _ _ _ _ _ | .unOp _ _ _ | .convert _ _ _ | .slice _ _ _ _ _ | .indexAddr _ _ _ | .fieldAddr _ _ _ => true
  | _ => false

theorem run_v {α : Type} (s : Sem α) (g : α → Next) (w : World) {n : Next} {w' : World} (h : Sem.run P (do pure (g (← s))) w = .ok n w') : ∃ x, n = g x := by
  simp at h
  generalize hr : Sem.run P s w = r at h
  cases r with
  | ok x w1 => simp at h; exact ⟨x, h.1.symm⟩
  | halt x w1 => simp at h

theorem calm_value {o : Oper} {ρ : Operand → Value} (hc : calm o.op = true) {w : World} {n : Next} {w' : World} (h : (execOp ρ o).run P w = .ok n w') : ∃ v, n = .value v := by
  obtain ⟨dst, op, type, pos, after, guard⟩ := o
  cases op <;> simp only [calm] at hc <;> first | (cases hc; done) | skip
  all_goals simp only [execOp] at h
  case pick c x y =>
    obtain ⟨b, hb⟩ := run_v (asBool (ρ c)) (fun b => Next.value (if b = true then ρ x else ρ y)) w h
    exact ⟨_, hb⟩
  all_goals first | (simp at h; exact ⟨_, h.1.symm⟩) | exact run_v _ _ _ h

/-- the places that a list of operations writes. -/
def dsts (l : List Oper) : List Tmp := l.filterMap (·.dst)

theorem put_other (a : Act) (x : Option Tmp) (v : Value) {d : Tmp} (h : x ≠ some d) : (a.put x v).tmps[d]? = a.tmps[d]? := by
  cases x with
  | none => rfl
  | some e =>
    have hne : e ≠ d := fun he => h (he ▸ rfl)
    simp [Act.put, Array.getElem?_setIfInBounds_ne hne]
theorem dsts_cons {o : Oper} {rest : List Oper} {d : Tmp} (h : d ∉ dsts (o :: rest)) : o.dst ≠ some d ∧ d ∉ dsts rest := by
  unfold dsts at *
  cases ho : o.dst with
  | none => simp [ho] at h ⊢; exact h
  | some e =>
    simp [ho] at h ⊢
    exact ⟨fun he => h.1 he.symm, h.2⟩
theorem still_keeps {A : Act} {w : World} {d : Tmp} : ∀ (rest : List Oper) (b : Act), wpStill P ops w (fun a' => a' = A) rest b → d ∉ dsts rest → A.tmps[d]? = b.tmps[d]?
  | [], b, h, _ => by rw [show b = A from h]
  | o :: r, b, h, hd => by
    obtain ⟨h1, h2⟩ := dsts_cons hd
    unfold wpStill at h
    split at h
    · unfold Oper.still at h
      generalize (execOp b.eval o).run P w = x at h
      cases x with
      | ok n w' =>
        cases n <;> simp only [Oper.stillUpon] at h
        case value v => rw [still_keeps r _ h.2 h2]; exact put_other _ _ _ h1
        case skip => rw [still_keeps r _ h.2 h2]; exact put_other _ _ _ h1
        case enter f args =>
          obtain ⟨_, v, _, h3⟩ := h
          rw [still_keeps r _ h3 h2]; exact put_other _ _ _ h1
      | halt x w' => simp only [Oper.stillUpon] at h
    · rw [still_keeps r _ h h2]; exact put_other _ _ _ h1

theorem still_calm {o : Oper} {rest : List Oper} {a A : Act} {d : Tmp} (hc : calm o.op = true) (hd : o.dst = some d) (hsz : d < a.tmps.size) (hn : d ∉ dsts rest)
    (h : ∀ w, wpStill P ops w (fun a' => a' = A) (o :: rest) a) : ∃ v, Yields P ops o v a ∧ ∀ w, wpStill P ops w (fun a' => a' = A) rest (a.put o.dst v) := by
  by_cases hw : Region.wanted o (yielded ops a.tmps) = true
  · have each : ∀ w, (execOp a.eval o).run P w = .ok (.value (A.tmps.getD d undef)) w ∧ wpStill P ops w (fun a' => a' = A) rest (a.put o.dst (A.tmps.getD d undef)) := by
      intro w
      have h1 := h w
      unfold wpStill at h1
      rw [if_pos hw] at h1
      unfold Oper.still at h1
      generalize hr : (execOp a.eval o).run P w = x at h1 ⊢
      cases x with
      | ok n w' =>
        obtain ⟨v, rfl⟩ := calm_value hc hr
        simp only [Oper.stillUpon] at h1
        obtain ⟨rfl, h2⟩ := h1
        have e := still_keeps rest _ h2 hn
        rw [hd] at e
        have e2 : (a.put (some d) v).tmps[d]? = some v := by simp [Act.put, hsz]
        rw [e2] at e
        have e3 : A.tmps.getD d undef = v := by simp [Array.getD_eq_getD_getElem?, e]
        rw [e3]
        exact ⟨rfl, h2⟩
      | halt x w' => simp only [Oper.stillUpon] at h1
    exact ⟨_, .inl ⟨hw, fun w => (each w).1⟩, fun w => (each w).2⟩
  · refine ⟨undef, .inr ⟨by simpa using hw, rfl⟩, fun w => ?_⟩
    have h1 := h w
    unfold wpStill at h1
    rw [if_neg hw] at h1
    exact h1

/-- a segment of such operations, in the order of the text. -/
def segB (md : Region.Mode) (ops : Array Oper) (sz : Nat) : List Oper → Nat → Array Bool → Bool
  | [], _, _ => true
  | o :: l, k, listed => calm o.op && (match o.dst with | some d => decide (d < sz) && !(dsts l).contains d | none => false) &&
      (Region.ready md ops listed).contains k && Region.free md ops listed k && segB md ops sz l (k + 1) (listed.setIfInBounds k true)
/-- the list behind n more. -/
def past : Nat → Nat → Array Bool → Array Bool
  | 0, _, listed => listed
  | n + 1, k, listed => past n (k + 1) (listed.setIfInBounds k true)

theorem put_size (a : Act) (x : Option Tmp) (v : Value) : (a.put x v).tmps.size = a.tmps.size := by cases x <;> simp [Act.put]

theorem seg_take (hs : Region.noSelect ops = true) (hQ : ∀ c a d v w, Q (.panic c) (a.put d v) w → Q (.panic c) a w) {A : Act} {w : World} {fuel : Nat} :
    ∀ (l : List Oper) (k : Nat) (listed : Array Bool) (a : Act), (∀ j, j < l.length → l[j]? = ops[k + j]?) → segB md ops a.tmps.size l k listed = true →
      (∀ w', wpStill P ops w' (fun a' => a' = A) l a) → wpAny P md ops Q fuel (past l.length k listed) A w → wpAny P md ops Q (fuel + l.length) listed a w
  | [], _, _, a, _, _, h, H => by
    have : a = A := h w
    subst this
    exact H
  | o :: l, k, listed, a, hl, hB, h, H => by
    have h0 : ops[k]? = some o := by simpa using (hl 0 (by simp)).symm
    simp only [segB, Bool.and_eq_true] at hB
    obtain ⟨⟨⟨⟨hc, hd⟩, hr⟩, hf⟩, hB'⟩ := hB
    cases ho : o.dst with
    | none => rw [ho] at hd; cases hd
    | some d =>
      rw [ho] at hd
      simp only [Bool.and_eq_true, decide_eq_true_eq, Bool.not_eq_true', List.contains_eq_mem, decide_eq_false_iff_not] at hd
      obtain ⟨v, hy, h'⟩ := still_calm hc ho hd.1 hd.2 h
      refine wpAny_take h0 hs hf hr (fun c a w => hQ c a o.dst v w) hy ?_
      exact seg_take hs hQ l (k + 1) _ _ (fun j hj => by have := hl (j + 1) (by simp; omega); simpa [Nat.add_assoc, Nat.add_comm 1 j] using this) (by rw [put_size]; exact hB') h' H

/-- the walk of a region by a plan: so many operations that look at their operands alone, then one that waits for all of them; and so on. -/
def wpPlan (P : Program) (ops : Array Oper) (sz : Nat) (Q : Exit → Act → World → Prop) : List Nat → List Oper → Act → World → Prop
  | [], l, a, w => l = [] ∧ Q .normal a w
  | n :: pl, l, a, w => a.tmps.size = sz ∧ ∃ A, (∀ w', wpStill P ops w' (fun a' => a' = A) (l.take n) a) ∧
      match l.drop n with
      | [] => Q .normal A w
      | o :: r => if Region.wanted o (yielded ops A.tmps) = true then o.wp P A w (wpPlan P ops sz Q pl r) Q else wpPlan P ops sz Q pl r (A.put o.dst undef) w
/-- the plan fits. -/
def planB (md : Region.Mode) (ops : Array Oper) (sz : Nat) : List Nat → List Oper → Nat → Array Bool → Bool
  | [], l, _, listed => l.isEmpty && (Region.ready md ops listed).isEmpty
  | n :: pl, l, k, listed => decide (n ≤ l.length) && segB md ops sz (l.take n) k listed &&
      match l.drop n with
      | [] => (Region.ready md ops (past n k listed)).isEmpty
      | _ :: r => (Region.ready md ops (past n k listed) == [k + n]) && planB md ops sz pl r (k + n + 1) ((past n k listed).setIfInBounds (k + n) true)

theorem plan_any (hs : Region.noSelect ops = true) (hQ : ∀ c a d v w, Q (.panic c) (a.put d v) w → Q (.panic c) a w) {sz : Nat} :
    ∀ (pl : List Nat) (l : List Oper) (k : Nat) (listed : Array Bool) (a : Act) (w : World), (∀ j, l[j]? = ops[k + j]?) → planB md ops sz pl l k listed = true →
      wpPlan P ops sz Q pl l a w → wpAny P md ops Q l.length listed a w
  | [], l, k, listed, a, w, hl, hB, h => by
    obtain ⟨rfl, hq⟩ := h
    simp only [planB, Bool.and_eq_true, List.isEmpty_iff] at hB
    exact ⟨hB.2, hq⟩
  | n :: pl, l, k, listed, a, w, hl, hB, h => by
    obtain ⟨hsz, A, hst, h⟩ := h
    simp only [planB, Bool.and_eq_true, decide_eq_true_eq] at hB
    obtain ⟨⟨hn, hseg⟩, hB⟩ := hB
    have hlen : (l.take n).length = n := by simp; omega
    have el : l.length = (l.drop n).length + (l.take n).length := by simp; omega
    rw [el]
    refine seg_take hs hQ (l.take n) k listed a (fun j hj => ?_) (hsz ▸ hseg) hst ?_
    · rw [← hl j, List.getElem?_take_of_lt (by omega)]
    rw [hlen]
    cases hd : l.drop n with
    | nil =>
      rw [hd] at hB h
      simp only [List.isEmpty_iff] at hB
      exact ⟨hB, h⟩
    | cons o r =>
      rw [hd] at hB h
      simp only [Bool.and_eq_true, beq_iff_eq] at hB
      have ho : ops[k + n]? = some o := by
        rw [← hl n]
        have := List.getElem?_drop (xs := l) (i := n) (j := 0)
        rw [hd, Nat.add_zero] at this
        exact this.symm
      have hr : ∀ j, r[j]? = ops[k + n + 1 + j]? := fun j => by
        have := List.getElem?_drop (xs := l) (i := n) (j := j + 1)
        rw [hd, List.getElem?_cons_succ, hl] at this
        rw [this]
        congr 1
        omega
      refine wpAny_all hB.1 (by simp) (fun i hi => ?_)
      have hi : i = k + n := by simpa using hi
      subst hi
      have ih : ∀ a' w', wpPlan P ops sz Q pl r a' w' → wpAny P md ops Q r.length ((past n k listed).setIfInBounds (k + n) true) a' w' := fun a' w' h' => plan_any hs hQ pl r (k + n + 1) _ a' w' hr hB.2 h'
      unfold wpOp
      simp only [ho]
      split
      · rename_i hw
        simp only [hw, if_true] at h
        exact .inl (Oper.wp_mono ih h)
      · rename_i hw
        simp only [hw] at h
        exact ih _ _ h

/-- a region that draws its order, walked in the order of the text. -/
theorem region_plan {id : Nat} {a : Act} {w : World} {l : List Oper} (plan : List Nat) (sz : Nat) (hm : P.follows .mixedOrders = true) (hs : Region.noSelect l.toArray = true)
    (hB : planB .any l.toArray sz plan l 0 (Array.replicate l.length false) = true) (hQ : ∀ c a d v w, Q (.panic c) (a.put d v) w → Q (.panic c) a w)
    (h : wpPlan P l.toArray sz Q plan l a w.drew) : (Code.region id l.toArray true).wp P Q a w := by
  refine wp_region_any hm ?_
  have := plan_any (md := .any) hs hQ plan l 0 (Array.replicate l.length false) a w.drew (by simp) hB h
  simpa using this

theorem plan_step {n sz : Nat} {pl : List Nat} {l r : List Oper} {o : Oper} {a : Act} {w : World} (A : Act) (hsz : a.tmps.size = sz) (hseg : ∀ w', wpStill P ops w' (fun a' => a' = A) (l.take n) a) (hd : l.drop n = o :: r)
    (h : ∀ K : Act → World → Prop, (∀ a w, wpPlan P ops sz Q pl r a w → K a w) → if Region.wanted o (yielded ops A.tmps) = true then o.wp P A w K Q else K (A.put o.dst undef) w) : wpPlan P ops sz Q (n :: pl) l a w := by
  refine ⟨hsz, A, hseg, ?_⟩
  rw [hd]
  exact h _ (fun _ _ h => h)
theorem plan_last {n sz : Nat} {pl : List Nat} {l : List Oper} {a : Act} {w : World} (A : Act) (hsz : a.tmps.size = sz) (hseg : ∀ w', wpStill P ops w' (fun a' => a' = A) (l.take n) a) (hd : l.drop n = [])
    (h : Q .normal A w) : wpPlan P ops sz Q (n :: pl) l a w := by
  refine ⟨hsz, A, hseg, ?_⟩
  rw [hd]
  exact h
end
end Go.Proofs.Ytdeophhcbkahgaa
namespace Go.Proofs.Ytdeophhcbkahgaa
open Go.RowKit
set_option linter.unusedVariables false

section
variable {P : Program} {ops : Array Oper} {Q : Exit → Act → World → Prop} {md : Region.Mode} {S : World → Prop}

/-- operations that look at their operands and at memory, and leave it. -/
def calmH : Op → Bool
  | .load _ _ => true
  | .extract _ _ => true
  | o => calm o
theorem calmH_value {o : Oper} {ρ : Operand → Value} (hc : calmH o.op = true) {w : World} {n : Next} {w' : World} (h : (execOp ρ o).run P w = .ok n w') : ∃ v, n = .value v := by
  by_cases h1 : calm o.op = true
  · exact calm_value h1 h
  · obtain ⟨dst, op, type, pos, after, guard⟩ := o
    cases op <;> simp only [calmH] at hc <;> first | exact absurd hc h1 | skip
    all_goals simp only [execOp] at h
    all_goals first | exact run_v _ _ _ h | (simp at h; exact ⟨_, h.1.symm⟩)

theorem still_calmH {o : Oper} {rest : List Oper} {a A : Act} {d : Tmp} (hc : calmH o.op = true) (hd : o.dst = some d) (hsz : d < a.tmps.size) (hn : d ∉ dsts rest)
    (h : ∀ w, S w → wpStill P ops w (fun a' => a' = A) (o :: rest) a) : ∃ v, YieldsIf P ops S o v a ∧ ∀ w, S w → wpStill P ops w (fun a' => a' = A) rest (a.put o.dst v) := by
  by_cases hw : Region.wanted o (yielded ops a.tmps) = true
  · have each : ∀ w, S w → (execOp a.eval o).run P w = .ok (.value (A.tmps.getD d undef)) w ∧ wpStill P ops w (fun a' => a' = A) rest (a.put o.dst (A.tmps.getD d undef)) := by
      intro w hS
      have h1 := h w hS
      unfold wpStill at h1
      rw [if_pos hw] at h1
      unfold Oper.still at h1
      generalize hr : (execOp a.eval o).run P w = x at h1 ⊢
      cases x with
      | ok n w' =>
        obtain ⟨v, rfl⟩ := calmH_value hc hr
        simp only [Oper.stillUpon] at h1
        obtain ⟨rfl, h2⟩ := h1
        have e := still_keeps rest _ h2 hn
        rw [hd] at e
        have e2 : (a.put (some d) v).tmps[d]? = some v := by simp [Act.put, hsz]
        rw [e2] at e
        have e3 : A.tmps.getD d undef = v := by simp [Array.getD_eq_getD_getElem?, e]
        rw [e3]
        exact ⟨rfl, h2⟩
      | halt x w' => simp only [Oper.stillUpon] at h1
    exact ⟨_, .inl ⟨hw, fun w hS => (each w hS).1⟩, fun w hS => (each w hS).2⟩
  · refine ⟨undef, .inr ⟨by simpa using hw, rfl⟩, fun w hS => ?_⟩
    have h1 := h w hS
    unfold wpStill at h1
    rw [if_neg hw] at h1
    exact h1

def segBH (md : Region.Mode) (ops : Array Oper) (sz : Nat) : List Oper → Nat → Array Bool → Bool
  | [], _, _ => true
  | o :: l, k, listed => calmH o.op && (match o.dst with | some d => decide (d < sz) && !(dsts l).contains d | none => false) &&
      (Region.ready md ops listed).contains k && Region.free md ops listed k && segBH md ops sz l (k + 1) (listed.setIfInBounds k true)

theorem seg_takeH (hs : Region.noSelect ops = true) (hQ : ∀ c a d v w, Q (.panic c) (a.put d v) w → Q (.panic c) a w) {A : Act} {w : World} (hS : S w) {fuel : Nat} :
    ∀ (l : List Oper) (k : Nat) (listed : Array Bool) (a : Act), (∀ j, j < l.length → l[j]? = ops[k + j]?) → segBH md ops a.tmps.size l k listed = true →
      (∀ w', S w' → wpStill P ops w' (fun a' => a' = A) l a) → wpAnyH P md ops Q S fuel (past l.length k listed) A w → wpAnyH P md ops Q S (fuel + l.length) listed a w
  | [], _, _, a, _, _, h, H => by
    have : a = A := h w hS
    subst this
    exact H
  | o :: l, k, listed, a, hl, hB, h, H => by
    have h0 : ops[k]? = some o := by simpa using (hl 0 (by simp)).symm
    simp only [segBH, Bool.and_eq_true] at hB
    obtain ⟨⟨⟨⟨hc, hd⟩, hr⟩, hf⟩, hB'⟩ := hB
    cases ho : o.dst with
    | none => rw [ho] at hd; cases hd
    | some d =>
      rw [ho] at hd
      simp only [Bool.and_eq_true, decide_eq_true_eq, Bool.not_eq_true', List.contains_eq_mem, decide_eq_false_iff_not] at hd
      obtain ⟨v, hy, h'⟩ := still_calmH hc ho hd.1 hd.2 h
      refine wpAnyH_take h0 hs hf hr (fun c a w => hQ c a o.dst v w) hy hS ?_
      exact seg_takeH hs hQ hS l (k + 1) _ _ (fun j hj => by have := hl (j + 1) (by simp; omega); simpa [Nat.add_assoc, Nat.add_comm 1 j] using this) (by rw [put_size]; exact hB') h' H

def wpPlanH (P : Program) (ops : Array Oper) (sz : Nat) (Q : Exit → Act → World → Prop) (S : World → Prop) : List Nat → List Oper → Act → World → Prop
  | [], l, a, w => l = [] ∧ Q .normal a w
  | n :: pl, l, a, w => a.tmps.size = sz ∧ ∃ A, (∀ w', S w' → wpStill P ops w' (fun a' => a' = A) (l.take n) a) ∧
      match l.drop n with
      | [] => Q .normal A w
      | o :: r => if Region.wanted o (yielded ops A.tmps) = true then o.wp P A w (fun a' w' => S w' ∧ wpPlanH P ops sz Q S pl r a' w') Q else wpPlanH P ops sz Q S pl r (A.put o.dst undef) w
def planBH (md : Region.Mode) (ops : Array Oper) (sz : Nat) : List Nat → List Oper → Nat → Array Bool → Bool
  | [], l, _, listed => l.isEmpty && (Region.ready md ops listed).isEmpty
  | n :: pl, l, k, listed => decide (n ≤ l.length) && segBH md ops sz (l.take n) k listed &&
      match l.drop n with
      | [] => (Region.ready md ops (past n k listed)).isEmpty
      | _ :: r => (Region.ready md ops (past n k listed) == [k + n]) && planBH md ops sz pl r (k + n + 1) ((past n k listed).setIfInBounds (k + n) true)

theorem plan_anyH (hs : Region.noSelect ops = true) (hQ : ∀ c a d v w, Q (.panic c) (a.put d v) w → Q (.panic c) a w) {sz : Nat} :
    ∀ (pl : List Nat) (l : List Oper) (k : Nat) (listed : Array Bool) (a : Act) (w : World), S w → (∀ j, l[j]? = ops[k + j]?) → planBH md ops sz pl l k listed = true →
      wpPlanH P ops sz Q S pl l a w → wpAnyH P md ops Q S l.length listed a w
  | [], l, k, listed, a, w, hS, hl, hB, h => by
    obtain ⟨rfl, hq⟩ := h
    simp only [planBH, Bool.and_eq_true, List.isEmpty_iff] at hB
    exact ⟨hB.2, hq⟩
  | n :: pl, l, k, listed, a, w, hS, hl, hB, h => by
    obtain ⟨hsz, A, hst, h⟩ := h
    simp only [planBH, Bool.and_eq_true, decide_eq_true_eq] at hB
    obtain ⟨⟨hn, hseg⟩, hB⟩ := hB
    have hlen : (l.take n).length = n := by simp; omega
    have el : l.length = (l.drop n).length + (l.take n).length := by simp; omega
    rw [el]
    refine seg_takeH hs hQ hS (l.take n) k listed a (fun j hj => ?_) (hsz ▸ hseg) hst ?_
    · rw [← hl j, List.getElem?_take_of_lt (by omega)]
    rw [hlen]
    cases hd : l.drop n with
    | nil =>
      rw [hd] at hB h
      simp only [List.isEmpty_iff] at hB
      exact ⟨hB, h⟩
    | cons o r =>
      rw [hd] at hB h
      simp only [Bool.and_eq_true, beq_iff_eq] at hB
      have ho : ops[k + n]? = some o := by
        rw [← hl n]
        have := List.getElem?_drop (xs := l) (i := n) (j := 0)
        rw [hd, Nat.add_zero] at this
        exact this.symm
      have hr : ∀ j, r[j]? = ops[k + n + 1 + j]? := fun j => by
        have := List.getElem?_drop (xs := l) (i := n) (j := j + 1)
        rw [hd, List.getElem?_cons_succ, hl] at this
        rw [this]
        congr 1
        omega
      refine wpAnyH_all hB.1 (by simp) (fun i hi => ?_)
      have hi : i = k + n := by simpa using hi
      subst hi
      have ih : ∀ a' w', S w' → wpPlanH P ops sz Q S pl r a' w' → wpAnyH P md ops Q S r.length ((past n k listed).setIfInBounds (k + n) true) a' w' := fun a' w' hS' h' => plan_anyH hs hQ pl r (k + n + 1) _ a' w' hS' hr hB.2 h'
      unfold wpOp
      simp only [ho]
      split
      · rename_i hw
        simp only [hw, if_true] at h
        exact .inl (Oper.wp_mono (fun a' w' ⟨h1, h2⟩ => ⟨h1, ih a' w' h1 h2⟩) h)
      · rename_i hw
        simp only [hw] at h
        exact ⟨hS, ih _ _ hS h⟩

/-- a region that draws its order and loads what stays (S), walked in the order of the text. -/
theorem region_planH {id : Nat} {a : Act} {w : World} {l : List Oper} (S : World → Prop) (plan : List Nat) (sz : Nat) (hS : S w.drew) (hm : P.follows .mixedOrders = true) (hs : Region.noSelect l.toArray = true)
    (hB : planBH .any l.toArray sz plan l 0 (Array.replicate l.length false) = true) (hQ : ∀ c a d v w, Q (.panic c) (a.put d v) w → Q (.panic c) a w)
    (h : wpPlanH P l.toArray sz Q S plan l a w.drew) : (Code.region id l.toArray true).wp P Q a w := by
  refine wp_region_held (S := S) hm ?_
  have := plan_anyH (md := .any) hs hQ plan l 0 (Array.replicate l.length false) a w.drew hS (by simp) hB h
  simpa using this

theorem planH_step {n sz : Nat} {pl : List Nat} {l r : List Oper} {o : Oper} {a : Act} {w : World} (A : Act) (hsz : a.tmps.size = sz) (hseg : ∀ w', S w' → wpStill P ops w' (fun a' => a' = A) (l.take n) a) (hd : l.drop n = o :: r)
    (h : ∀ K : Act → World → Prop, (∀ a w, S w → wpPlanH P ops sz Q S pl r a w → K a w) → if Region.wanted o (yielded ops A.tmps) = true then o.wp P A w K Q else wpPlanH P ops sz Q S pl r (A.put o.dst undef) w) : wpPlanH P ops sz Q S (n :: pl) l a w := by
  refine ⟨hsz, A, hseg, ?_⟩
  rw [hd]
  exact h _ (fun _ _ h1 h2 => ⟨h1, h2⟩)
theorem planH_last {n sz : Nat} {pl : List Nat} {l : List Oper} {a : Act} {w : World} (A : Act) (hsz : a.tmps.size = sz) (hseg : ∀ w', S w' → wpStill P ops w' (fun a' => a' = A) (l.take n) a) (hd : l.drop n = [])
    (h : Q .normal A w) : wpPlanH P ops sz Q S (n :: pl) l a w := by
  refine ⟨hsz, A, hseg, ?_⟩
  rw [hd]
  exact h
end
end Go.Proofs.Ytdeophhcbkahgaa
namespace Go.Proofs.Ytdeophhcbkahgaa
open Go.RowKit
set_option linter.unusedVariables false

section
variable {P : Program} {ops : Array Oper} {Q : Exit → Act → World → Prop} {md : Region.Mode} {S : World → Prop}

/-- operations that look at their operands and at memory, and leave it; a result taken apart too. -/
def calmI : Op → Bool
  | .extract _ _ => true
  | .build _ _ => true
  | .nilCheck _ => true
  | o => calmH o
theorem no_panic {α : Type} {w : World} {n : α} {w' : World} (h : Sem.run P (runtimePanic .nilDeref) w = .ok n w') : False := by
  simp [runtimePanic, goPanic] at h
theorem calmI_value {o : Oper} {ρ : Operand → Value} (hc : calmI o.op = true) {w : World} {n : Next} {w' : World} (h : (execOp ρ o).run P w = .ok n w') : ∃ v, n = .value v := by
  by_cases h1 : calmH o.op = true
  · exact calmH_value h1 h
  · obtain ⟨dst, op, type, pos, after, guard⟩ := o
    cases op <;> simp only [calmI] at hc <;> first | exact absurd hc h1 | skip
    all_goals simp only [execOp] at h
    case nilCheck x =>
      split at h
      · exact (no_panic h).elim
      · exact (no_panic h).elim
      · exact (no_panic h).elim
      · split at h
        · exact (no_panic h).elim
        · simp at h
          generalize Sem.run P (nilAhead _ _ _ _) w = r at h
          cases r with
          | ok a w1 =>
            simp at h
            split at h
            · simp at h
              exact ⟨_, h.1.symm⟩
            · simp at h
          | halt x w1 => simp at h
        · simp at h
          exact ⟨_, h.1.symm⟩
      · simp at h
        exact ⟨_, h.1.symm⟩
    all_goals first | exact run_v _ _ _ h | (simp at h; exact ⟨_, h.1.symm⟩)
theorem still_calmI {o : Oper} {rest : List Oper} {a A : Act} {d : Tmp} (hc : calmI o.op = true) (hd : o.dst = some d) (hsz : d < a.tmps.size) (hn : d ∉ dsts rest)
    (h : ∀ w, S w → wpStill P ops w (fun a' => a' = A) (o :: rest) a) : ∃ v, YieldsIf P ops S o v a ∧ ∀ w, S w → wpStill P ops w (fun a' => a' = A) rest (a.put o.dst v) := by
  by_cases hw : Region.wanted o (yielded ops a.tmps) = true
  · have each : ∀ w, S w → (execOp a.eval o).run P w = .ok (.value (A.tmps.getD d undef)) w ∧ wpStill P ops w (fun a' => a' = A) rest (a.put o.dst (A.tmps.getD d undef)) := by
      intro w hS
      have h1 := h w hS
      unfold wpStill at h1
      rw [if_pos hw] at h1
      unfold Oper.still at h1
      generalize hr : (execOp a.eval o).run P w = x at h1 ⊢
      cases x with
      | ok n w' =>
        obtain ⟨v, rfl⟩ := calmI_value hc hr
        simp only [Oper.stillUpon] at h1
        obtain ⟨rfl, h2⟩ := h1
        have e := still_keeps rest _ h2 hn
        rw [hd] at e
        have e2 : (a.put (some d) v).tmps[d]? = some v := by simp [Act.put, hsz]
        rw [e2] at e
        have e3 : A.tmps.getD d undef = v := by simp [Array.getD_eq_getD_getElem?, e]
        rw [e3]
        exact ⟨rfl, h2⟩
      | halt x w' => simp only [Oper.stillUpon] at h1
    exact ⟨_, .inl ⟨hw, fun w hS => (each w hS).1⟩, fun w hS => (each w hS).2⟩
  · refine ⟨undef, .inr ⟨by simpa using hw, rfl⟩, fun w hS => ?_⟩
    have h1 := h w hS
    unfold wpStill at h1
    rw [if_neg hw] at h1
    exact h1

/-- a segment of operations that look and leave, in an order of ours: the operations and their places. -/
def segBI (md : Region.Mode) (ops : Array Oper) (sz : Nat) : List Oper → List Nat → Array Bool → Bool
  | [], _, _ => true
  | o :: l, k :: ks, listed => calmI o.op && (match o.dst with | some d => decide (d < sz) && !(dsts l).contains d | none => false) &&
      (Region.ready md ops listed).contains k && Region.free md ops listed k && segBI md ops sz l ks (listed.setIfInBounds k true)
  | _ :: _, [], _ => false
def pastI : List Nat → Array Bool → Array Bool
  | [], listed => listed
  | k :: ks, listed => pastI ks (listed.setIfInBounds k true)

theorem seg_takeI (hs : Region.noSelect ops = true) (hQ : ∀ c a d v w, Q (.panic c) (a.put d v) w → Q (.panic c) a w) {A : Act} {w : World} (hS : S w) {fuel : Nat} :
    ∀ (l : List Oper) (ks : List Nat) (listed : Array Bool) (a : Act), l.length = ks.length → (∀ (j : Nat) (o : Oper) (k : Nat), l[j]? = some o → ks[j]? = some k → ops[k]? = some o) → segBI md ops a.tmps.size l ks listed = true →
      (∀ w', S w' → wpStill P ops w' (fun a' => a' = A) l a) → wpAnyH P md ops Q S fuel (pastI ks listed) A w → wpAnyH P md ops Q S (fuel + l.length) listed a w
  | [], [], _, a, _, _, _, h, H => by
    have : a = A := h w hS
    subst this
    exact H
  | [], k :: ks, _, _, hn, _, _, _, _ => by cases hn
  | o :: l, [], _, _, hn, _, _, _, _ => by cases hn
  | o :: l, k :: ks, listed, a, hn, hl, hB, h, H => by
    have h0 : ops[k]? = some o := hl 0 o k rfl rfl
    simp only [segBI, Bool.and_eq_true] at hB
    obtain ⟨⟨⟨⟨hc, hd⟩, hr⟩, hf⟩, hB'⟩ := hB
    cases ho : o.dst with
    | none => rw [ho] at hd; cases hd
    | some d =>
      rw [ho] at hd
      simp only [Bool.and_eq_true, decide_eq_true_eq, Bool.not_eq_true', List.contains_eq_mem, decide_eq_false_iff_not] at hd
      obtain ⟨v, hy, h'⟩ := still_calmI hc ho hd.1 hd.2 h
      refine wpAnyH_take h0 hs hf hr (fun c a w => hQ c a o.dst v w) hy hS ?_
      exact seg_takeI hs hQ hS l ks _ _ (by simpa using hn) (fun j o' k' h1 h2 => hl (j + 1) o' k' (by simpa using h1) (by simpa using h2)) (by rw [put_size]; exact hB') h' H

def planBI (md : Region.Mode) (ops : Array Oper) (sz : Nat) : List Nat → List Oper → List Nat → Array Bool → Bool
  | [], l, _, listed => l.isEmpty && (Region.ready md ops listed).isEmpty
  | n :: pl, l, ks, listed => decide (n ≤ l.length) && segBI md ops sz (l.take n) (ks.take n) listed &&
      match l.drop n, ks.drop n with
      | [], _ => (Region.ready md ops (pastI (ks.take n) listed)).isEmpty
      | _ :: r, k :: ks' => (Region.ready md ops (pastI (ks.take n) listed) == [k]) && planBI md ops sz pl r ks' ((pastI (ks.take n) listed).setIfInBounds k true)
      | _ :: _, [] => false

theorem plan_anyI (hs : Region.noSelect ops = true) (hQ : ∀ c a d v w, Q (.panic c) (a.put d v) w → Q (.panic c) a w) {sz : Nat} :
    ∀ (pl : List Nat) (l : List Oper) (ks : List Nat) (listed : Array Bool) (a : Act) (w : World), S w → l.length = ks.length → (∀ (j : Nat) (o : Oper) (k : Nat), l[j]? = some o → ks[j]? = some k → ops[k]? = some o) → planBI md ops sz pl l ks listed = true →
      wpPlanH P ops sz Q S pl l a w → wpAnyH P md ops Q S l.length listed a w
  | [], l, ks, listed, a, w, hS, hn, hl, hB, h => by
    obtain ⟨rfl, hq⟩ := h
    simp only [planBI, Bool.and_eq_true, List.isEmpty_iff] at hB
    exact ⟨hB.2, hq⟩
  | n :: pl, l, ks, listed, a, w, hS, hkl, hl, hB, h => by
    obtain ⟨hsz, A, hst, h⟩ := h
    simp only [planBI, Bool.and_eq_true, decide_eq_true_eq] at hB
    obtain ⟨⟨hn, hseg⟩, hB⟩ := hB
    have hlen : (l.take n).length = n := by simp; omega
    have el : l.length = (l.drop n).length + (l.take n).length := by simp; omega
    rw [el]
    refine seg_takeI hs hQ hS (l.take n) (ks.take n) listed a (by simp; omega) (fun j o k h1 h2 => ?_) (hsz ▸ hseg) hst ?_
    · have hj : j < n := by
        rcases Nat.lt_or_ge j n with h' | h'
        · exact h'
        · rw [List.getElem?_eq_none (by rw [hlen]; exact h')] at h1; cases h1
      rw [List.getElem?_take_of_lt hj] at h1 h2
      exact hl j o k h1 h2
    cases hd : l.drop n with
    | nil =>
      rw [hd] at hB h
      simp only [List.isEmpty_iff] at hB
      exact ⟨hB, h⟩
    | cons o r =>
      have hdl : (l.drop n).length = r.length + 1 := by rw [hd]; rfl
      cases hk : ks.drop n with
      | nil =>
        rw [hd, hk] at hB
        cases hB
      | cons k ks' =>
        have hkk : (ks.drop n).length = ks'.length + 1 := by rw [hk]; rfl
        rw [hd, hk] at hB
        rw [hd] at h
        simp only [Bool.and_eq_true, beq_iff_eq] at hB
        have ol : ∀ j : Nat, r[j]? = l[n + (j + 1)]? := fun j => by
          have := List.getElem?_drop (xs := l) (i := n) (j := j + 1)
          rw [hd, List.getElem?_cons_succ] at this
          exact this
        have ok' : ∀ j : Nat, ks'[j]? = ks[n + (j + 1)]? := fun j => by
          have := List.getElem?_drop (xs := ks) (i := n) (j := j + 1)
          rw [hk, List.getElem?_cons_succ] at this
          exact this
        have ho : ops[k]? = some o := by
          refine hl n o k ?_ ?_
          · have := List.getElem?_drop (xs := l) (i := n) (j := 0)
            rw [hd, Nat.add_zero] at this
            exact this.symm
          · have := List.getElem?_drop (xs := ks) (i := n) (j := 0)
            rw [hk, Nat.add_zero] at this
            exact this.symm
        have hr : ∀ (j : Nat) (o' : Oper) (k' : Nat), r[j]? = some o' → ks'[j]? = some k' → ops[k']? = some o' := fun j o' k' h1 h2 => hl (n + (j + 1)) o' k' (by rw [← ol]; exact h1) (by rw [← ok']; exact h2)
        refine wpAnyH_all hB.1 (by simp) (fun i hi => ?_)
        have hi : i = k := by simpa using hi
        subst hi
        have hlr : r.length = ks'.length := by rw [List.length_drop] at hdl hkk; omega
        have ih : ∀ a' w', S w' → wpPlanH P ops sz Q S pl r a' w' → wpAnyH P md ops Q S r.length ((pastI (ks.take n) listed).setIfInBounds i true) a' w' := fun a' w' hS' h' => plan_anyI hs hQ pl r ks' _ a' w' hS' hlr hr hB.2 h'
        unfold wpOp
        simp only [ho]
        split
        · rename_i hw
          simp only [hw, if_true] at h
          exact .inl (Oper.wp_mono (fun a' w' ⟨h1, h2⟩ => ⟨h1, ih a' w' h1 h2⟩) h)
        · rename_i hw
          simp only [hw] at h
          exact ⟨hS, ih _ _ hS h⟩

/-- the operations at these places. -/
def atI (l : List Oper) : List Nat → List Oper
  | [] => []
  | k :: ks => match l[k]? with
    | some o => o :: atI l ks
    | none => []
theorem atI_get (l : List Oper) : ∀ (ks : List Nat) (j : Nat) (o : Oper) (k : Nat), (atI l ks)[j]? = some o → ks[j]? = some k → l[k]? = some o
  | [], j, o, k, h, _ => by simp [atI] at h
  | k0 :: ks, j, o, k, h, h2 => by
    unfold atI at h
    cases e : l[k0]? with
    | none => rw [e] at h; simp at h
    | some o0 =>
      rw [e] at h
      cases j with
      | zero =>
        simp at h h2
        subst h h2
        exact e
      | succ j =>
        simp at h h2
        exact atI_get l ks j o k h h2
def orderB (md : Region.Mode) (l : List Oper) (sz : Nat) (ks plan : List Nat) : Bool :=
  Region.noSelect l.toArray && decide ((atI l ks).length = l.length) && decide (ks.length = l.length) && planBI md l.toArray sz plan (atI l ks) ks (Array.replicate l.length false)
/-- a region that draws its order and loads what stays (S), walked in an order of ours. -/
theorem region_planI {id : Nat} {a : Act} {w : World} {l : List Oper} (S : World → Prop) (ks plan : List Nat) (sz : Nat) (hS : S w.drew) (hm : P.follows .mixedOrders = true)
    (hB : orderB .any l sz ks plan = true) (hQ : ∀ c a d v w, Q (.panic c) (a.put d v) w → Q (.panic c) a w)
    (h : wpPlanH P l.toArray sz Q S plan (atI l ks) a w.drew) : (Code.region id l.toArray true).wp P Q a w := by
  simp only [orderB, Bool.and_eq_true, decide_eq_true_eq] at hB
  obtain ⟨⟨⟨hs, h1⟩, h2⟩, hB⟩ := hB
  refine wp_region_held (S := S) hm ?_
  have := plan_anyI (md := .any) hs hQ plan (atI l ks) ks (Array.replicate l.length false) a w.drew hS (by omega) (fun j o k e1 e2 => by simpa using atI_get l ks j o k e1 e2) hB h
  rw [h1] at this
  simpa using this
end
end Go.Proofs.Ytdeophhcbkahgaa
