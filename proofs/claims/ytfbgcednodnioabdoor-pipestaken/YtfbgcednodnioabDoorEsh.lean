import Derived.Test.YtfbgcednodnioabDoorEsg
import Derived.OrdersHeld
namespace Go.Proofs.YtfbgcednodnioabDoor
open Go.RowKit
set_option linter.unusedVariables false

section
variable {P : Program} {ops : Array Oper} {Q : Exit → Act → World → Prop} {md : Region.Mode} {S : World → Prop}

/-- operations that look at their operands and at memory, and leave it. -/
def calmH : Op → Bool
  | .load _ _ => true
  | .extract _ _ => true
  | o => calm o
theorem calmH_value {o : Oper} {ρ : Operand → Value} (hc : calmH o.op = true) {w : World} {n : Next} {w' : World} (h : (execOp ρ o).run P w = .ok n w') : ∃ v, n = .value v := by
  by_cases h1 : calm o.op = true
  · exact calm_value h1 h
  · obtain ⟨dst, op, type, pos, after, guard⟩ := o
    cases op <;> simp only [calmH] at hc <;> first | exact absurd hc h1 | skip
    all_goals simp only [execOp] at h
    all_goals first | exact run_v _ _ _ h | (simp at h; exact ⟨_, h.1.symm⟩)

theorem still_calmH {o : Oper} {rest : List Oper} {a A : Act} {d : Tmp} (hc : calmH o.op = true) (hd : o.dst = some d) (hsz : d < a.tmps.size) (hn : d ∉ dsts rest)
    (h : ∀ w, S w → wpStill P ops w (fun a' => a' = A) (o :: rest) a) : ∃ v, YieldsIf P ops S o v a ∧ ∀ w, S w → wpStill P ops w (fun a' => a' = A) rest (a.put o.dst v) := by
  by_cases hw : Region.wanted o (yielded ops a.tmps) = true
  · have each : ∀ w, S w → (execOp a.eval o).run P w = .ok (.value (A.tmps.getD d undef)) w ∧ wpStill P ops w (fun a' => a' = A) rest (a.put o.dst (A.tmps.getD d undef)) := by
      intro w hS
      have h1 := h w hS
      unfold wpStill at h1
      rw [if_pos hw] at h1
      unfold Oper.still at h1
      generalize hr : (execOp a.eval o).run P w = x at h1 ⊢
      cases x with
      | ok n w' =>
        obtain ⟨v, rfl⟩ := calmH_value hc hr
        simp only [Oper.stillUpon] at h1
        obtain ⟨rfl, h2⟩ := h1
        have e := still_keeps rest _ h2 hn
        rw [hd] at e
        have e2 : (a.put (some d) v).tmps[d]? = some v := by simp [Act.put, hsz]
        rw [e2] at e
        have e3 : A.tmps.getD d undef = v := by simp [Array.getD_eq_getD_getElem?, e]
        rw [e3]
        exact ⟨rfl, h2⟩
      | halt x w' => simp only [Oper.stillUpon] at h1
    exact ⟨_, .inl ⟨hw, fun w hS => (each w hS).1⟩, fun w hS => (each w hS).2⟩
  · refine ⟨undef, .inr ⟨by simpa using hw, rfl⟩, fun w hS => ?_⟩
    have h1 := h w hS
    unfold wpStill at h1
    rw [if_neg hw] at h1
    exact h1

def segBH (md : Region.Mode) (ops : Array Oper) (sz : Nat) : List Oper → Nat → Array Bool → Bool
  | [], _, _ => true
  | o :: l, k, listed => calmH o.op && (match o.dst with | some d => decide (d < sz) && !(dsts l).contains d | none => false) &&
      (Region.ready md ops listed).contains k && Region.free md ops listed k && segBH md ops sz l (k + 1) (listed.setIfInBounds k true)

theorem seg_takeH (hs : Region.noSelect ops = true) (hQ : ∀ c a d v w, Q (.panic c) (a.put d v) w → Q (.panic c) a w) {A : Act} {w : World} (hS : S w) {fuel : Nat} :
    ∀ (l : List Oper) (k : Nat) (listed : Array Bool) (a : Act), (∀ j, j < l.length → l[j]? = ops[k + j]?) → segBH md ops a.tmps.size l k listed = true →
      (∀ w', S w' → wpStill P ops w' (fun a' => a' = A) l a) → wpAnyH P md ops Q S fuel (past l.length k listed) A w → wpAnyH P md ops Q S (fuel + l.length) listed a w
  | [], _, _, a, _, _, h, H => by
    have : a = A := h w hS
    subst this
    exact H
  | o :: l, k, listed, a, hl, hB, h, H => by
    have h0 : ops[k]? = some o := by simpa using (hl 0 (by simp)).symm
    simp only [segBH, Bool.and_eq_true] at hB
    obtain ⟨⟨⟨⟨hc, hd⟩, hr⟩, hf⟩, hB'⟩ := hB
    cases ho : o.dst with
    | none => rw [ho] at hd; cases hd
    | some d =>
      rw [ho] at hd
      simp only [Bool.and_eq_true, decide_eq_true_eq, Bool.not_eq_true', List.contains_eq_mem, decide_eq_false_iff_not] at hd
      obtain ⟨v, hy, h'⟩ := still_calmH hc ho hd.1 hd.2 h
      refine wpAnyH_take h0 hs hf hr (fun c a w => hQ c a o.dst v w) hy hS ?_
      exact seg_takeH hs hQ hS l (k + 1) _ _ (fun j hj => by have := hl (j + 1) (by simp; omega); simpa [Nat.add_assoc, Nat.add_comm 1 j] using this) (by rw [put_size]; exact hB') h' H

def wpPlanH (P : Program) (ops : Array Oper) (sz : Nat) (Q : Exit → Act → World → Prop) (S : World → Prop) : List Nat → List Oper → Act → World → Prop
  | [], l, a, w => l = [] ∧ Q .normal a w
  | n :: pl, l, a, w => a.tmps.size = sz ∧ ∃ A, (∀ w', S w' → wpStill P ops w' (fun a' => a' = A) (l.take n) a) ∧
      match l.drop n with
      | [] => Q .normal A w
      | o :: r => if Region.wanted o (yielded ops A.tmps) = true then o.wp P A w (fun a' w' => S w' ∧ wpPlanH P ops sz Q S pl r a' w') Q else wpPlanH P ops sz Q S pl r (A.put o.dst undef) w
def planBH (md : Region.Mode) (ops : Array Oper) (sz : Nat) : List Nat → List Oper → Nat → Array Bool → Bool
  | [], l, _, listed => l.isEmpty && (Region.ready md ops listed).isEmpty
  | n :: pl, l, k, listed => decide (n ≤ l.length) && segBH md ops sz (l.take n) k listed &&
      match l.drop n with
      | [] => (Region.ready md ops (past n k listed)).isEmpty
      | _ :: r => (Region.ready md ops (past n k listed) == [k + n]) && planBH md ops sz pl r (k + n + 1) ((past n k listed).setIfInBounds (k + n) true)

theorem plan_anyH (hs : Region.noSelect ops = true) (hQ : ∀ c a d v w, Q (.panic c) (a.put d v) w → Q (.panic c) a w) {sz : Nat} :
    ∀ (pl : List Nat) (l : List Oper) (k : Nat) (listed : Array Bool) (a : Act) (w : World), S w → (∀ j, l[j]? = ops[k + j]?) → planBH md ops sz pl l k listed = true →
      wpPlanH P ops sz Q S pl l a w → wpAnyH P md ops Q S l.length listed a w
  | [], l, k, listed, a, w, hS, hl, hB, h => by
    obtain ⟨rfl, hq⟩ := h
    simp only [planBH, Bool.and_eq_true, List.isEmpty_iff] at hB
    exact ⟨hB.2, hq⟩
  | n :: pl, l, k, listed, a, w, hS, hl, hB, h => by
    obtain ⟨hsz, A, hst, h⟩ := h
    simp only [planBH, Bool.and_eq_true, decide_eq_true_eq] at hB
    obtain ⟨⟨hn, hseg⟩, hB⟩ := hB
    have hlen : (l.take n).length = n := by simp; omega
    have el : l.length = (l.drop n).length + (l.take n).length := by simp; omega
    rw [el]
    refine seg_takeH hs hQ hS (l.take n) k listed a (fun j hj => ?_) (hsz ▸ hseg) hst ?_
    · rw [← hl j, List.getElem?_take_of_lt (by omega)]
    rw [hlen]
    cases hd : l.drop n with
    | nil =>
      rw [hd] at hB h
      simp only [List.isEmpty_iff] at hB
      exact ⟨hB, h⟩
    | cons o r =>
      rw [hd] at hB h
      simp only [Bool.and_eq_true, beq_iff_eq] at hB
      have ho : ops[k + n]? = some o := by
        rw [← hl n]
        have := List.getElem?_drop (xs := l) (i := n) (j := 0)
        rw [hd, Nat.add_zero] at this
        exact this.symm
      have hr : ∀ j, r[j]? = ops[k + n + 1 + j]? := fun j => by
        have := List.getElem?_drop (xs := l) (i := n) (j := j + 1)
        rw [hd, List.getElem?_cons_succ, hl] at this
        rw [this]
        congr 1
        omega
      refine wpAnyH_all hB.1 (by simp) (fun i hi => ?_)
      have hi : i = k + n := by simpa using hi
      subst hi
      have ih : ∀ a' w', S w' → wpPlanH P ops sz Q S pl r a' w' → wpAnyH P md ops Q S r.length ((past n k listed).setIfInBounds (k + n) true) a' w' := fun a' w' hS' h' => plan_anyH hs hQ pl r (k + n + 1) _ a' w' hS' hr hB.2 h'
      unfold wpOp
      simp only [ho]
      split
      · rename_i hw
        simp only [hw, if_true] at h
        exact .inl (Oper.wp_mono (fun a' w' ⟨h1, h2⟩ => ⟨h1, ih a' w' h1 h2⟩) h)
      · rename_i hw
        simp only [hw] at h
        exact ⟨hS, ih _ _ hS h⟩

/-- a region that draws its order and loads what stays (S), walked in the order of the text. -/
theorem region_planH {id : Nat} {a : Act} {w : World} {l : List Oper} (S : World → Prop) (plan : List Nat) (sz : Nat) (hS : S w.drew) (hm : P.follows .mixedOrders = true) (hs : Region.noSelect l.toArray = true)
    (hB : planBH .any l.toArray sz plan l 0 (Array.replicate l.length false) = true) (hQ : ∀ c a d v w, Q (.panic c) (a.put d v) w → Q (.panic c) a w)
    (h : wpPlanH P l.toArray sz Q S plan l a w.drew) : (Code.region id l.toArray true).wp P Q a w := by
  refine wp_region_held (S := S) hm ?_
  have := plan_anyH (md := .any) hs hQ plan l 0 (Array.replicate l.length false) a w.drew hS (by simp) hB h
  simpa using this

theorem planH_step {n sz : Nat} {pl : List Nat} {l r : List Oper} {o : Oper} {a : Act} {w : World} (A : Act) (hsz : a.tmps.size = sz) (hseg : ∀ w', S w' → wpStill P ops w' (fun a' => a' = A) (l.take n) a) (hd : l.drop n = o :: r)
    (h : ∀ K : Act → World → Prop, (∀ a w, S w → wpPlanH P ops sz Q S pl r a w → K a w) → if Region.wanted o (yielded ops A.tmps) = true then o.wp P A w K Q else wpPlanH P ops sz Q S pl r (A.put o.dst undef) w) : wpPlanH P ops sz Q S (n :: pl) l a w := by
  refine ⟨hsz, A, hseg, ?_⟩
  rw [hd]
  exact h _ (fun _ _ h1 h2 => ⟨h1, h2⟩)
theorem planH_last {n sz : Nat} {pl : List Nat} {l : List Oper} {a : Act} {w : World} (A : Act) (hsz : a.tmps.size = sz) (hseg : ∀ w', S w' → wpStill P ops w' (fun a' => a' = A) (l.take n) a) (hd : l.drop n = [])
    (h : Q .normal A w) : wpPlanH P ops sz Q S (n :: pl) l a w := by
  refine ⟨hsz, A, hseg, ?_⟩
  rw [hd]
  exact h
end
end Go.Proofs.YtfbgcednodnioabDoor
