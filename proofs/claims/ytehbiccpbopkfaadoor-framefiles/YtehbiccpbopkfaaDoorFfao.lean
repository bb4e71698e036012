import Derived.Test.YtehbiccpbopkfaaDoorFfan
import Derived.OrdersHeld
namespace Go.Proofs.YtehbiccpbopkfaaDoor
open Go.RowKit
set_option linter.unusedVariables false

section
variable {P : Program} {ops : Array Oper} {Q : Exit → Act → World → Prop} {md : Region.Mode} {S : World → Prop}

/-- operations that look at their operands and at memory, and leave it. -/
def calmH : Op → Bool
  | .load _ _ => true
  | .extract _ _ => true
  | o => calm o
theorem calmH_value {o : Oper} {ρ : Operand → Value} (hc : calmH o.op = true) {w : World} {n : Next} {w' : World} (h : (execOp ρ o).run P w = .ok n w') : ∃ v, n = .value v := by
  by_cases h1 : calm o.op = true
  · exact calm_value h1 h
  · obtain ⟨dst, op, type, pos, after, guard⟩ := o
    cases op <;> simp only [calmH] at hc <;> first | exact absurd hc h1 | skip
    all_goals simp only [execOp] at h
    all_goals first | exact run_v _ _ _ h | (simp at h; exact ⟨_, h.1.symm⟩)

theorem still_calmH {o : Oper} {rest : List Oper} {a A : Act} {d : Tmp} (hc : calmH o.op = true) (hd : o.dst = some d) (hsz : d < a.tmps.size) (hn : d ∉ dsts rest)
    (h : ∀ w, S w → wpStill P ops w (fun a' => a' = A) (o :: rest) a) : ∃ v, YieldsIf P ops S o v a ∧ ∀ w, S w → wpStill P ops w (fun a' => a' = A) rest (a.put o.dst v) := by
  by_cases hw : Region.wanted o (yielded ops a.tmps) = true
  · have each : ∀ w, S w → (execOp a.eval o).run P w = .ok (.value (A.tmps.getD d undef)) w ∧ wpStill P ops w (fun a' => a' = A) rest (a.put o.dst (A.tmps.getD d undef)) := by
      intro w hS
      have h1 := h w hS
      unfold wpStill at h1
      rw [if_pos hw] at h1
      unfold Oper.still at h1
      generalize hr : (execOp a.eval o).run P w = x at h1 ⊢
      cases x with
      | ok n w' =>
        obtain ⟨v, rfl⟩ := calmH_value hc hr
        simp only [Oper.stillUpon] at h1
        obtain ⟨rfl, h2⟩ := h1
        have e := still_keeps rest _ h2 hn
        rw [hd] at e
        have e2 : (a.put (some d) v).tmps[d]? = some v := by simp [Act.put, hsz]
        rw [e2] at e
        have e3 : A.tmps.getD d undef = v := by simp [Array.getD_eq_getD_getElem?, e]
        rw [e3]
        exact ⟨rfl, h2⟩
      | halt x w' => simp only [Oper.stillUpon] at h1
    exact ⟨_, .inl ⟨hw, fun w hS => (each w hS).1⟩, fun w hS => (each w hS).2⟩
  · refine ⟨undef, .inr ⟨by simpa using hw, rfl⟩, fun w hS => ?_⟩
    have h1 := h w hS
    unfold wpStill at h1
    rw [if_neg hw] at h1
    exact h1

def segBH (md : Region.Mode) (ops : Array Oper) (sz : Nat) : List Oper → Nat → Array Bool → Bool
  | [], _, _ => true
  | o :: l, k, listed => calmH o.op && (match o.dst with | some d => decide (d < sz) && !(dsts l).contains d | none => false) &&
      (Region.ready md ops listed).contains k && Region.free md ops listed k && segBH md ops sz l (k + 1) (listed.setIfInBounds k true)

def wpPlanH (P : Program) (ops : Array Oper) (sz : Nat) (Q : Exit → Act → World → Prop) (S : World → Prop) : List Nat → List Oper → Act → World → Prop
  | [], l, a, w => l = [] ∧ Q .normal a w
  | n :: pl, l, a, w => a.tmps.size = sz ∧ ∃ A, (∀ w', S w' → wpStill P ops w' (fun a' => a' = A) (l.take n) a) ∧
      match l.drop n with
      | [] => Q .normal A w
      | o :: r => if Region.wanted o (yielded ops A.tmps) = true then o.wp P A w (fun a' w' => S w' ∧ wpPlanH P ops sz Q S pl r a' w') Q else wpPlanH P ops sz Q S pl r (A.put o.dst undef) w
theorem planH_step {n sz : Nat} {pl : List Nat} {l r : List Oper} {o : Oper} {a : Act} {w : World} (A : Act) (hsz : a.tmps.size = sz) (hseg : ∀ w', S w' → wpStill P ops w' (fun a' => a' = A) (l.take n) a) (hd : l.drop n = o :: r)
    (h : ∀ K : Act → World → Prop, (∀ a w, S w → wpPlanH P ops sz Q S pl r a w → K a w) → if Region.wanted o (yielded ops A.tmps) = true then o.wp P A w K Q else wpPlanH P ops sz Q S pl r (A.put o.dst undef) w) : wpPlanH P ops sz Q S (n :: pl) l a w := by
  refine ⟨hsz, A, hseg, ?_⟩
  rw [hd]
  exact h _ (fun _ _ h1 h2 => ⟨h1, h2⟩)
theorem planH_last {n sz : Nat} {pl : List Nat} {l : List Oper} {a : Act} {w : World} (A : Act) (hsz : a.tmps.size = sz) (hseg : ∀ w', S w' → wpStill P ops w' (fun a' => a' = A) (l.take n) a) (hd : l.drop n = [])
    (h : Q .normal A w) : wpPlanH P ops sz Q S (n :: pl) l a w := by
  refine ⟨hsz, A, hseg, ?_⟩
  rw [hd]
  exact h
end
end Go.Proofs.YtehbiccpbopkfaaDoor
namespace Go.Proofs.YtehbiccpbopkfaaDoor
open Go.RowKit
set_option linter.unusedVariables false

section
variable {P : Program} {ops : Array Oper} {Q : Exit → Act → World → Prop} {md : Region.Mode} {S : World → Prop}

/-- whatever order is picked; S holds behind each of the first n operations, the others wait for them. -/
def wpAnyT (P : Program) (md : Region.Mode) (ops : Array Oper) (Q : Exit → Act → World → Prop) (S : World → Prop) (n : Nat) : Nat → Array Bool → Act → World → Prop
  | 0, listed, a, w => Region.ready md ops listed = [] ∧ Q .normal a w
  | fuel + 1, listed, a, w => (Region.ready md ops listed = [] → Q .normal a w) ∧
      ∀ i ∈ Region.ready md ops listed, wpOp P ops Q i (fun a' w' => (i < n → S w') ∧ wpAnyT P md ops Q S n fuel (listed.setIfInBounds i true) a' w') a w

theorem any_of_T {n : Nat} : ∀ (fuel : Nat) (listed : Array Bool) (a : Act) (w : World), wpAnyT P md ops Q S n fuel listed a w → wpAny P md ops Q fuel listed a w
  | 0, _, _, _, h => h
  | fuel + 1, _, _, _, h => ⟨h.1, fun i hi => wpOp_mono (fun a' w' h' => any_of_T fuel _ a' w' h'.2) (h.2 i hi)⟩

theorem anyT_first {n i : Nat} {oi : Oper} {v : Value} (hi : ops[i]? = some oi) (hsel : ∀ (j : Nat) (o : Oper) cs b, ops[j]? = some o → o.op ≠ .select cs b)
    (hQ : ∀ c a w, Q (.panic c) (a.put oi.dst v) w → Q (.panic c) a w) (hsk : Region.sinkB md ops n = true) (hch : Region.chainB md ops n = true) (hn : n < ops.size) (hin : i < n) :
    ∀ (fuel : Nat) (listed : Array Bool) (a : Act) (w : World), HeadInv md ops n listed →
      (∀ j oj, ops[j]? = some oj → j ≠ i → listed.getD j true = false → (∀ e ∈ oj.after, Region.binds md e = true → e.on ≠ i) → oi.apart ops oj = true) →
      i ∈ Region.ready md ops listed → YieldsIf P ops S oi v a → S w →
      wpAnyT P md ops Q S n fuel (listed.setIfInBounds i true) (a.put oi.dst v) w → wpAnyT P md ops Q S n (fuel + 1) listed a w := by
  intro fuel
  induction fuel with
  | zero =>
    intro listed a w inv _ hr hy hS H
    refine ⟨fun h => (by rw [h] at hr; cases hr), fun j hj => ?_⟩
    by_cases hji : j = i
    · subst hji; exact hy.wpOp hi hS ⟨fun _ => hS, H⟩
    · have := ready_mono hj hji
      rw [H.1] at this
      cases this
  | succ fuel ih =>
    intro listed a w inv hfree hr hy hS H
    have hun := (mem_ready.1 hr).1
    refine ⟨fun h => (by rw [h] at hr; cases hr), fun j hj => ?_⟩
    by_cases hji : j = i
    · subst hji; exact hy.wpOp hi hS ⟨fun _ => hS, H⟩
    · have h1 := H.2 j (ready_mono hj hji)
      have hjn : j < n := by
        rcases Nat.lt_or_ge j n with h | h
        · exact h
        · exact absurd hj (tail_waits hsk hch hn inv _ i rfl hin hun j h)
      obtain ⟨hjun, oj, hoj, hall⟩ := mem_ready.1 hj
      have hnot : ∀ e ∈ oj.after, Region.binds md e = true → e.on ≠ i := fun e he hb heq => by
        have h1 := hall e he hb
        rw [heq, getD_both hun] at h1
        cases h1
      have h2 := wpOp_putIf hoj (hfree j oj hoj hji hjun hnot) (fun cs b => hsel i oi cs b hi) (fun cs b => hsel j oj cs b hoj) hQ hy h1
      have hfree' : ∀ k ok, ops[k]? = some ok → k ≠ i → (listed.setIfInBounds j true).getD k true = false →
          (∀ e ∈ ok.after, Region.binds md e = true → e.on ≠ i) → oi.apart ops ok = true := fun k ok hk hki hun hno => by
        refine hfree k ok hk hki ?_ hno
        by_cases hjk : j = k
        · subst hjk; exact hjun
        · rw [getD_set_ne true hjk] at hun; exact hun
      refine wpOp_mono (fun a' w' h3 => ⟨fun _ => h3.2.1 hjn, ih (listed.setIfInBounds j true) a' w' (inv.set hj hjn) hfree' (ready_mono hr (Ne.symm hji)) h3.1 (h3.2.1 hjn) ?_⟩) h2
      rw [Array.setIfInBounds_comm _ _ hji]
      exact h3.2.2

theorem anyT_of_seq {n : Nat} : ∀ (l : List Oper) (k : Nat) (listed : Array Bool) (a : Act) (w : World), n ≤ k → (∀ j, l[j]? = ops[k + j]?) →
    Region.seqB md ops l.length k listed = true → wpList P ops Q l a w → wpAnyT P md ops Q S n l.length listed a w
  | [], _, _, _, _, _, _, hB, h => ⟨by simpa [Region.seqB] using hB, h⟩
  | o :: l, k, listed, a, w, hk, hl, hB, h => by
    have h0 : ops[k]? = some o := by simpa using (hl 0).symm
    simp only [List.length_cons, Region.seqB, Bool.and_eq_true, decide_eq_true_eq] at hB
    refine ⟨fun h1 => (by rw [hB.1] at h1; cases h1), fun i hi => ?_⟩
    rw [hB.1] at hi
    have hik : i = k := by simpa using hi
    subst hik
    have hw : wpOp P ops Q i (wpList P ops Q l) a w := by unfold wpOp; simp only [h0]; exact h
    exact wpOp_mono (fun a' w' h' => ⟨fun h => absurd h (by omega), anyT_of_seq l (i + 1) _ a' w' (by omega) (fun j => by have := hl (j + 1); simpa [Nat.add_assoc, Nat.add_comm 1 j] using this) hB.2 h'⟩) hw

theorem seg_inv {sz n : Nat} : ∀ (l : List Oper) (k : Nat) (listed : Array Bool), k + l.length ≤ n → HeadInv md ops n listed → segBH md ops sz l k listed = true → HeadInv md ops n (past l.length k listed)
  | [], _, _, _, inv, _ => inv
  | o :: l, k, listed, hk, inv, hB => by
    simp only [segBH, Bool.and_eq_true] at hB
    simp only [List.length_cons] at hk
    have hr : k ∈ Region.ready md ops listed := by simpa using hB.1.1.2
    exact seg_inv l (k + 1) _ (by omega) (inv.set hr (by omega)) hB.2

theorem seg_takeT (hs : Region.noSelect ops = true) (hQ : ∀ c a d v w, Q (.panic c) (a.put d v) w → Q (.panic c) a w) {n : Nat} (hsk : Region.sinkB md ops n = true) (hch : Region.chainB md ops n = true) (hn : n < ops.size)
    {A : Act} {w : World} (hS : S w) {fuel : Nat} :
    ∀ (l : List Oper) (k : Nat) (listed : Array Bool) (a : Act), k + l.length ≤ n → HeadInv md ops n listed → (∀ j, j < l.length → l[j]? = ops[k + j]?) → segBH md ops a.tmps.size l k listed = true →
      (∀ w', S w' → wpStill P ops w' (fun a' => a' = A) l a) → wpAnyT P md ops Q S n fuel (past l.length k listed) A w → wpAnyT P md ops Q S n (fuel + l.length) listed a w
  | [], _, _, a, _, _, _, _, h, H => by
    have : a = A := h w hS
    subst this
    exact H
  | o :: l, k, listed, a, hk, inv, hl, hB, h, H => by
    have h0 : ops[k]? = some o := by simpa using (hl 0 (by simp)).symm
    simp only [segBH, Bool.and_eq_true] at hB
    obtain ⟨⟨⟨⟨hc, hd⟩, hr⟩, hf⟩, hB'⟩ := hB
    simp only [List.length_cons] at hk
    have hr' : k ∈ Region.ready md ops listed := by simpa using hr
    cases ho : o.dst with
    | none => rw [ho] at hd; cases hd
    | some d =>
      rw [ho] at hd
      simp only [Bool.and_eq_true, decide_eq_true_eq, Bool.not_eq_true', List.contains_eq_mem, decide_eq_false_iff_not] at hd
      obtain ⟨v, hy, h'⟩ := still_calmH hc ho hd.1 hd.2 h
      refine anyT_first h0 (Region.noSelect_spec hs) (fun c a w => hQ c a o.dst v w) hsk hch hn (by omega) _ listed a w inv (Region.free_spec h0 hf) hr' hy hS ?_
      exact seg_takeT hs hQ hsk hch hn hS l (k + 1) _ _ (by omega) (inv.set hr' (by omega)) (fun j hj => by have := hl (j + 1) (by simp; omega); simpa [Nat.add_assoc, Nat.add_comm 1 j] using this) (by rw [put_size]; exact hB') h' H

/-- the walk by a plan, and the operations behind it in their order. -/
def wpPlanT (P : Program) (ops : Array Oper) (sz : Nat) (Q : Exit → Act → World → Prop) (S : World → Prop) (tl : List Oper) : List Nat → List Oper → Act → World → Prop
  | [], l, a, w => l = [] ∧ wpList P ops Q tl a w
  | m :: pl, l, a, w => a.tmps.size = sz ∧ ∃ A, (∀ w', S w' → wpStill P ops w' (fun a' => a' = A) (l.take m) a) ∧
      match l.drop m with
      | [] => wpList P ops Q tl A w
      | o :: r => if Region.wanted o (yielded ops A.tmps) = true then o.wp P A w (fun a' w' => S w' ∧ wpPlanT P ops sz Q S tl pl r a' w') Q else wpPlanT P ops sz Q S tl pl r (A.put o.dst undef) w
def planBT (md : Region.Mode) (ops : Array Oper) (sz n g : Nat) : List Nat → List Oper → Nat → Array Bool → Bool
  | [], l, k, listed => l.isEmpty && decide (k = n) && Region.seqB md ops g n listed
  | m :: pl, l, k, listed => decide (m ≤ l.length) && decide (k + m ≤ n) && segBH md ops sz (l.take m) k listed &&
      match l.drop m with
      | [] => decide (k + m = n) && Region.seqB md ops g n (past m k listed)
      | _ :: r => decide (k + m < n) && (Region.ready md ops (past m k listed) == [k + m]) && planBT md ops sz n g pl r (k + m + 1) ((past m k listed).setIfInBounds (k + m) true)

theorem plan_anyT (hs : Region.noSelect ops = true) (hQ : ∀ c a d v w, Q (.panic c) (a.put d v) w → Q (.panic c) a w) {sz n : Nat} (hsk : Region.sinkB md ops n = true) (hch : Region.chainB md ops n = true) (hn : n < ops.size)
    {tl : List Oper} (htl : ∀ j, tl[j]? = ops[n + j]?) :
    ∀ (pl : List Nat) (l : List Oper) (k : Nat) (listed : Array Bool) (a : Act) (w : World), HeadInv md ops n listed → S w → (∀ j, j < l.length → l[j]? = ops[k + j]?) → planBT md ops sz n tl.length pl l k listed = true →
      wpPlanT P ops sz Q S tl pl l a w → wpAnyT P md ops Q S n (tl.length + l.length) listed a w
  | [], l, k, listed, a, w, inv, hS, hl, hB, h => by
    obtain ⟨rfl, hq⟩ := h
    simp only [planBT, Bool.and_eq_true] at hB
    exact anyT_of_seq tl n listed a w (Nat.le_refl _) htl hB.2 hq
  | m :: pl, l, k, listed, a, w, inv, hS, hl, hB, h => by
    obtain ⟨hsz, A, hst, h⟩ := h
    simp only [planBT, Bool.and_eq_true, decide_eq_true_eq] at hB
    obtain ⟨⟨⟨hm, hkm⟩, hseg⟩, hB⟩ := hB
    have hlen : (l.take m).length = m := by simp; omega
    have el : tl.length + l.length = (tl.length + (l.drop m).length) + (l.take m).length := by simp; omega
    rw [el]
    refine seg_takeT hs hQ hsk hch hn hS (l.take m) k listed a (by omega) inv (fun j hj => ?_) (hsz ▸ hseg) hst ?_
    · rw [← hl j (by omega), List.getElem?_take_of_lt (by omega)]
    have inv' := seg_inv (l.take m) k listed (by omega) inv hseg
    rw [hlen] at inv' ⊢
    cases hd : l.drop m with
    | nil =>
      rw [hd] at hB h
      simp only [Bool.and_eq_true, decide_eq_true_eq] at hB
      exact anyT_of_seq tl n _ A w (Nat.le_refl _) htl hB.2 h
    | cons o r =>
      rw [hd] at hB h
      simp only [Bool.and_eq_true, beq_iff_eq, decide_eq_true_eq] at hB
      obtain ⟨⟨hkn, hrd⟩, hB⟩ := hB
      have hlm : m < l.length := by
        rcases Nat.lt_or_ge m l.length with h' | h'
        · exact h'
        · rw [List.drop_eq_nil_of_le h'] at hd; cases hd
      have hdl : (l.drop m).length = r.length + 1 := by rw [hd]; rfl
      have ho : ops[k + m]? = some o := by
        rw [← hl m hlm]
        have := List.getElem?_drop (xs := l) (i := m) (j := 0)
        rw [hd, Nat.add_zero] at this
        exact this.symm
      have hr : ∀ j, j < r.length → r[j]? = ops[k + m + 1 + j]? := fun j hj => by
        have := List.getElem?_drop (xs := l) (i := m) (j := j + 1)
        rw [hd, List.getElem?_cons_succ, hl _ (by rw [List.length_drop] at hdl; omega)] at this
        rw [this]
        congr 1
        omega
      have hrm : k + m ∈ Region.ready md ops (past m k listed) := by rw [hrd]; simp
      rw [List.length_cons, ← Nat.add_assoc]
      refine ⟨fun h0 => (by rw [h0] at hrd; cases hrd), fun i hi => ?_⟩
      have hi : i = k + m := by rw [hrd] at hi; simpa using hi
      subst hi
      have ih : ∀ a' w', S w' → wpPlanT P ops sz Q S tl pl r a' w' → wpAnyT P md ops Q S n (tl.length + r.length) ((past m k listed).setIfInBounds (k + m) true) a' w' := fun a' w' hS' h' =>
        plan_anyT hs hQ hsk hch hn htl pl r (k + m + 1) _ a' w' (inv'.set hrm hkn) hS' hr hB h'
      unfold wpOp
      simp only [ho]
      split
      · rename_i hw
        simp only [hw, if_true] at h
        exact .inl (Oper.wp_mono (fun a' w' ⟨h1, h2⟩ => ⟨fun _ => h1, ih a' w' h1 h2⟩) h)
      · rename_i hw
        simp only [hw] at h
        exact ⟨fun _ => hS, ih _ _ hS h⟩

def tailB (md : Region.Mode) (l : List Oper) (sz n : Nat) (plan : List Nat) : Bool :=
  Region.noSelect l.toArray && decide (n < l.length) && Region.sinkB md l.toArray n && Region.chainB md l.toArray n && planBT md l.toArray sz n (l.length - n) plan (l.take n) 0 (Array.replicate l.length false)
/-- a region that draws its order: the first n operations read and call, what they read stays (S); the others wait for all of them, and stand in one order. -/
theorem region_planT {id : Nat} {a : Act} {w : World} {l : List Oper} (S : World → Prop) (n : Nat) (plan : List Nat) (sz : Nat) (hS : S w.drew) (hm : P.follows .mixedOrders = true)
    (hB : tailB .any l sz n plan = true) (hQ : ∀ c a d v w, Q (.panic c) (a.put d v) w → Q (.panic c) a w)
    (h : wpPlanT P l.toArray sz Q S (l.drop n) plan (l.take n) a w.drew) : (Code.region id l.toArray true).wp P Q a w := by
  simp only [tailB, Bool.and_eq_true, decide_eq_true_eq] at hB
  obtain ⟨⟨⟨⟨hsel, hn⟩, hsk⟩, hch⟩, hB⟩ := hB
  have htl : (l.take n).length = n := by simp; omega
  have hdl : (l.drop n).length = l.length - n := by simp
  have inv0 : HeadInv .any l.toArray n (Array.replicate l.length false) :=
    ⟨by simp, fun j oj _ hl => (by rw [getD_replicate_false] at hl; cases hl), fun t _ ht => getD_in (by simpa using ht) (getD_replicate_false _ _)⟩
  have H := plan_anyT (md := .any) (S := S) hsel hQ hsk hch (by simpa using hn) (tl := l.drop n) (fun j => by simp [List.getElem?_drop]) plan (l.take n) 0 (Array.replicate l.length false) a w.drew inv0 hS
    (fun j hj => by have hj' : j < n := by rw [htl] at hj; exact hj
                    simp [hj']) (by rw [hdl]; exact hB) h
  refine wp_region_any hm ?_
  have := any_of_T _ _ _ _ H
  rw [htl, hdl, show l.length - n + n = l.length by omega] at this
  simpa using this

theorem planT_step {m sz : Nat} {tl : List Oper} {pl : List Nat} {l r : List Oper} {o : Oper} {a : Act} {w : World} (A : Act) (hsz : a.tmps.size = sz) (hseg : ∀ w', S w' → wpStill P ops w' (fun a' => a' = A) (l.take m) a) (hd : l.drop m = o :: r)
    (h : ∀ K : Act → World → Prop, (∀ a w, S w → wpPlanT P ops sz Q S tl pl r a w → K a w) → if Region.wanted o (yielded ops A.tmps) = true then o.wp P A w K Q else wpPlanT P ops sz Q S tl pl r (A.put o.dst undef) w) : wpPlanT P ops sz Q S tl (m :: pl) l a w := by
  refine ⟨hsz, A, hseg, ?_⟩
  rw [hd]
  exact h _ (fun _ _ h1 h2 => ⟨h1, h2⟩)
theorem planT_last {m sz : Nat} {tl : List Oper} {pl : List Nat} {l : List Oper} {a : Act} {w : World} (A : Act) (hsz : a.tmps.size = sz) (hseg : ∀ w', S w' → wpStill P ops w' (fun a' => a' = A) (l.take m) a) (hd : l.drop m = [])
    (h : wpList P ops Q tl A w) : wpPlanT P ops sz Q S tl (m :: pl) l a w := by
  refine ⟨hsz, A, hseg, ?_⟩
  rw [hd]
  exact h
end
end Go.Proofs.YtehbiccpbopkfaaDoor
namespace Go.Proofs.YtehbiccpbopkfaaDoor
open Go.RowKit
set_option linter.unusedVariables false

section
variable {P : Program} {ops : Array Oper} {Q : Exit → Act → World → Prop} {md : Region.Mode} {S : World → Prop}

/-- operations that look at their operands and at memory, and leave it; a result taken apart too. -/
def calmI : Op → Bool
  | .extract _ _ => true
  | .build _ _ => true
  | .nilCheck _ => true
  | o => calmH o
theorem no_panic {α : Type} {w : World} {n : α} {w' : World} (h : Sem.run P (runtimePanic .nilDeref) w = .ok n w') : False := by
  simp [runtimePanic, goPanic] at h
theorem calmI_value {o : Oper} {ρ : Operand → Value} (hc : calmI o.op = true) {w : World} {n : Next} {w' : World} (h : (execOp ρ o).run P w = .ok n w') : ∃ v, n = .value v := by
  by_cases h1 : calmH o.op = true
  · exact calmH_value h1 h
  · obtain ⟨dst, op, type, pos, after, guard⟩ := o
    cases op <;> simp only [calmI] at hc <;> first | exact absurd hc h1 | skip
    all_goals simp only [execOp] at h
    case nilCheck x =>
      split at h
      · exact (no_panic h).elim
      · exact (no_panic h).elim
      · exact (no_panic h).elim
      · split at h
        · exact (no_panic h).elim
        · simp at h
          generalize Sem.run P (nilAhead _ _ _ _) w = r at h
          cases r with
          | ok a w1 =>
            simp at h
            split at h
            · simp at h
              exact ⟨_, h.1.symm⟩
            · simp at h
          | halt x w1 => simp at h
        · simp at h
          exact ⟨_, h.1.symm⟩
      · simp at h
        exact ⟨_, h.1.symm⟩
    all_goals first | exact run_v _ _ _ h | (simp at h; exact ⟨_, h.1.symm⟩)
theorem still_calmI {o : Oper} {rest : List Oper} {a A : Act} {d : Tmp} (hc : calmI o.op = true) (hd : o.dst = some d) (hsz : d < a.tmps.size) (hn : d ∉ dsts rest)
    (h : ∀ w, S w → wpStill P ops w (fun a' => a' = A) (o :: rest) a) : ∃ v, YieldsIf P ops S o v a ∧ ∀ w, S w → wpStill P ops w (fun a' => a' = A) rest (a.put o.dst v) := by
  by_cases hw : Region.wanted o (yielded ops a.tmps) = true
  · have each : ∀ w, S w → (execOp a.eval o).run P w = .ok (.value (A.tmps.getD d undef)) w ∧ wpStill P ops w (fun a' => a' = A) rest (a.put o.dst (A.tmps.getD d undef)) := by
      intro w hS
      have h1 := h w hS
      unfold wpStill at h1
      rw [if_pos hw] at h1
      unfold Oper.still at h1
      generalize hr : (execOp a.eval o).run P w = x at h1 ⊢
      cases x with
      | ok n w' =>
        obtain ⟨v, rfl⟩ := calmI_value hc hr
        simp only [Oper.stillUpon] at h1
        obtain ⟨rfl, h2⟩ := h1
        have e := still_keeps rest _ h2 hn
        rw [hd] at e
        have e2 : (a.put (some d) v).tmps[d]? = some v := by simp [Act.put, hsz]
        rw [e2] at e
        have e3 : A.tmps.getD d undef = v := by simp [Array.getD_eq_getD_getElem?, e]
        rw [e3]
        exact ⟨rfl, h2⟩
      | halt x w' => simp only [Oper.stillUpon] at h1
    exact ⟨_, .inl ⟨hw, fun w hS => (each w hS).1⟩, fun w hS => (each w hS).2⟩
  · refine ⟨undef, .inr ⟨by simpa using hw, rfl⟩, fun w hS => ?_⟩
    have h1 := h w hS
    unfold wpStill at h1
    rw [if_neg hw] at h1
    exact h1

/-- a segment of operations that look and leave, in an order of ours: the operations and their places. -/
def segBI (md : Region.Mode) (ops : Array Oper) (sz : Nat) : List Oper → List Nat → Array Bool → Bool
  | [], _, _ => true
  | o :: l, k :: ks, listed => calmI o.op && (match o.dst with | some d => decide (d < sz) && !(dsts l).contains d | none => false) &&
      (Region.ready md ops listed).contains k && Region.free md ops listed k && segBI md ops sz l ks (listed.setIfInBounds k true)
  | _ :: _, [], _ => false
def pastI : List Nat → Array Bool → Array Bool
  | [], listed => listed
  | k :: ks, listed => pastI ks (listed.setIfInBounds k true)

theorem seg_takeI (hs : Region.noSelect ops = true) (hQ : ∀ c a d v w, Q (.panic c) (a.put d v) w → Q (.panic c) a w) {A : Act} {w : World} (hS : S w) {fuel : Nat} :
    ∀ (l : List Oper) (ks : List Nat) (listed : Array Bool) (a : Act), l.length = ks.length → (∀ (j : Nat) (o : Oper) (k : Nat), l[j]? = some o → ks[j]? = some k → ops[k]? = some o) → segBI md ops a.tmps.size l ks listed = true →
      (∀ w', S w' → wpStill P ops w' (fun a' => a' = A) l a) → wpAnyH P md ops Q S fuel (pastI ks listed) A w → wpAnyH P md ops Q S (fuel + l.length) listed a w
  | [], [], _, a, _, _, _, h, H => by
    have : a = A := h w hS
    subst this
    exact H
  | [], k :: ks, _, _, hn, _, _, _, _ => by cases hn
  | o :: l, [], _, _, hn, _, _, _, _ => by cases hn
  | o :: l, k :: ks, listed, a, hn, hl, hB, h, H => by
    have h0 : ops[k]? = some o := hl 0 o k rfl rfl
    simp only [segBI, Bool.and_eq_true] at hB
    obtain ⟨⟨⟨⟨hc, hd⟩, hr⟩, hf⟩, hB'⟩ := hB
    cases ho : o.dst with
    | none => rw [ho] at hd; cases hd
    | some d =>
      rw [ho] at hd
      simp only [Bool.and_eq_true, decide_eq_true_eq, Bool.not_eq_true', List.contains_eq_mem, decide_eq_false_iff_not] at hd
      obtain ⟨v, hy, h'⟩ := still_calmI hc ho hd.1 hd.2 h
      refine wpAnyH_take h0 hs hf hr (fun c a w => hQ c a o.dst v w) hy hS ?_
      exact seg_takeI hs hQ hS l ks _ _ (by simpa using hn) (fun j o' k' h1 h2 => hl (j + 1) o' k' (by simpa using h1) (by simpa using h2)) (by rw [put_size]; exact hB') h' H

def planBI (md : Region.Mode) (ops : Array Oper) (sz : Nat) : List Nat → List Oper → List Nat → Array Bool → Bool
  | [], l, _, listed => l.isEmpty && (Region.ready md ops listed).isEmpty
  | n :: pl, l, ks, listed => decide (n ≤ l.length) && segBI md ops sz (l.take n) (ks.take n) listed &&
      match l.drop n, ks.drop n with
      | [], _ => (Region.ready md ops (pastI (ks.take n) listed)).isEmpty
      | _ :: r, k :: ks' => (Region.ready md ops (pastI (ks.take n) listed) == [k]) && planBI md ops sz pl r ks' ((pastI (ks.take n) listed).setIfInBounds k true)
      | _ :: _, [] => false

theorem plan_anyI (hs : Region.noSelect ops = true) (hQ : ∀ c a d v w, Q (.panic c) (a.put d v) w → Q (.panic c) a w) {sz : Nat} :
    ∀ (pl : List Nat) (l : List Oper) (ks : List Nat) (listed : Array Bool) (a : Act) (w : World), S w → l.length = ks.length → (∀ (j : Nat) (o : Oper) (k : Nat), l[j]? = some o → ks[j]? = some k → ops[k]? = some o) → planBI md ops sz pl l ks listed = true →
      wpPlanH P ops sz Q S pl l a w → wpAnyH P md ops Q S l.length listed a w
  | [], l, ks, listed, a, w, hS, hn, hl, hB, h => by
    obtain ⟨rfl, hq⟩ := h
    simp only [planBI, Bool.and_eq_true, List.isEmpty_iff] at hB
    exact ⟨hB.2, hq⟩
  | n :: pl, l, ks, listed, a, w, hS, hkl, hl, hB, h => by
    obtain ⟨hsz, A, hst, h⟩ := h
    simp only [planBI, Bool.and_eq_true, decide_eq_true_eq] at hB
    obtain ⟨⟨hn, hseg⟩, hB⟩ := hB
    have hlen : (l.take n).length = n := by simp; omega
    have el : l.length = (l.drop n).length + (l.take n).length := by simp; omega
    rw [el]
    refine seg_takeI hs hQ hS (l.take n) (ks.take n) listed a (by simp; omega) (fun j o k h1 h2 => ?_) (hsz ▸ hseg) hst ?_
    · have hj : j < n := by
        rcases Nat.lt_or_ge j n with h' | h'
        · exact h'
        · rw [List.getElem?_eq_none (by rw [hlen]; exact h')] at h1; cases h1
      rw [List.getElem?_take_of_lt hj] at h1 h2
      exact hl j o k h1 h2
    cases hd : l.drop n with
    | nil =>
      rw [hd] at hB h
      simp only [List.isEmpty_iff] at hB
      exact ⟨hB, h⟩
    | cons o r =>
      have hdl : (l.drop n).length = r.length + 1 := by rw [hd]; rfl
      cases hk : ks.drop n with
      | nil =>
        rw [hd, hk] at hB
        cases hB
      | cons k ks' =>
        have hkk : (ks.drop n).length = ks'.length + 1 := by rw [hk]; rfl
        rw [hd, hk] at hB
        rw [hd] at h
        simp only [Bool.and_eq_true, beq_iff_eq] at hB
        have ol : ∀ j : Nat, r[j]? = l[n + (j + 1)]? := fun j => by
          have := List.getElem?_drop (xs := l) (i := n) (j := j + 1)
          rw [hd, List.getElem?_cons_succ] at this
          exact this
        have ok' : ∀ j : Nat, ks'[j]? = ks[n + (j + 1)]? := fun j => by
          have := List.getElem?_drop (xs := ks) (i := n) (j := j + 1)
          rw [hk, List.getElem?_cons_succ] at this
          exact this
        have ho : ops[k]? = some o := by
          refine hl n o k ?_ ?_
          · have := List.getElem?_drop (xs := l) (i := n) (j := 0)
            rw [hd, Nat.add_zero] at this
            exact this.symm
          · have := List.getElem?_drop (xs := ks) (i := n) (j := 0)
            rw [hk, Nat.add_zero] at this
            exact this.symm
        have hr : ∀ (j : Nat) (o' : Oper) (k' : Nat), r[j]? = some o' → ks'[j]? = some k' → ops[k']? = some o' := fun j o' k' h1 h2 => hl (n + (j + 1)) o' k' (by rw [← ol]; exact h1) (by rw [← ok']; exact h2)
        refine wpAnyH_all hB.1 (by simp) (fun i hi => ?_)
        have hi : i = k := by simpa using hi
        subst hi
        have hlr : r.length = ks'.length := by rw [List.length_drop] at hdl hkk; omega
        have ih : ∀ a' w', S w' → wpPlanH P ops sz Q S pl r a' w' → wpAnyH P md ops Q S r.length ((pastI (ks.take n) listed).setIfInBounds i true) a' w' := fun a' w' hS' h' => plan_anyI hs hQ pl r ks' _ a' w' hS' hlr hr hB.2 h'
        unfold wpOp
        simp only [ho]
        split
        · rename_i hw
          simp only [hw, if_true] at h
          exact .inl (Oper.wp_mono (fun a' w' ⟨h1, h2⟩ => ⟨h1, ih a' w' h1 h2⟩) h)
        · rename_i hw
          simp only [hw] at h
          exact ⟨hS, ih _ _ hS h⟩

/-- the operations at these places. -/
def atI (l : List Oper) : List Nat → List Oper
  | [] => []
  | k :: ks => match l[k]? with
    | some o => o :: atI l ks
    | none => []
theorem atI_get (l : List Oper) : ∀ (ks : List Nat) (j : Nat) (o : Oper) (k : Nat), (atI l ks)[j]? = some o → ks[j]? = some k → l[k]? = some o
  | [], j, o, k, h, _ => by simp [atI] at h
  | k0 :: ks, j, o, k, h, h2 => by
    unfold atI at h
    cases e : l[k0]? with
    | none => rw [e] at h; simp at h
    | some o0 =>
      rw [e] at h
      cases j with
      | zero =>
        simp at h h2
        subst h h2
        exact e
      | succ j =>
        simp at h h2
        exact atI_get l ks j o k h h2
def orderB (md : Region.Mode) (l : List Oper) (sz : Nat) (ks plan : List Nat) : Bool :=
  Region.noSelect l.toArray && decide ((atI l ks).length = l.length) && decide (ks.length = l.length) && planBI md l.toArray sz plan (atI l ks) ks (Array.replicate l.length false)
/-- a region that draws its order and loads what stays (S), walked in an order of ours. -/
theorem region_planI {id : Nat} {a : Act} {w : World} {l : List Oper} (S : World → Prop) (ks plan : List Nat) (sz : Nat) (hS : S w.drew) (hm : P.follows .mixedOrders = true)
    (hB : orderB .any l sz ks plan = true) (hQ : ∀ c a d v w, Q (.panic c) (a.put d v) w → Q (.panic c) a w)
    (h : wpPlanH P l.toArray sz Q S plan (atI l ks) a w.drew) : (Code.region id l.toArray true).wp P Q a w := by
  simp only [orderB, Bool.and_eq_true, decide_eq_true_eq] at hB
  obtain ⟨⟨⟨hs, h1⟩, h2⟩, hB⟩ := hB
  refine wp_region_held (S := S) hm ?_
  have := plan_anyI (md := .any) hs hQ plan (atI l ks) ks (Array.replicate l.length false) a w.drew hS (by omega) (fun j o k e1 e2 => by simpa using atI_get l ks j o k e1 e2) hB h
  rw [h1] at this
  simpa using this
end
end Go.Proofs.YtehbiccpbopkfaaDoor
namespace Go.Proofs.YtehbiccpbopkfaaDoor
open Go.RowKit
set_option linter.unusedVariables false

section
variable {P : Program} {ops : Array Oper} {Q : Exit → Act → World → Prop} {md : Region.Mode} {S : World → Prop}

/-- a step whose outcome is v in every world of S, and which leaves that world: calm ones, and calls that only read. -/
def Sure (P : Program) (ops : Array Oper) (Q : Exit → Act → World → Prop) (S : World → Prop) (o : Oper) (v : Value) (a : Act) : Prop :=
  (Region.wanted o (yielded ops a.tmps) = true ∧ ∀ b : Act, execOp b.eval o = execOp a.eval o → ∀ (K : Act → World → Prop) (w : World), S w → K (b.put o.dst v) w → o.wp P b w K Q) ∨
  (Region.wanted o (yielded ops a.tmps) = false ∧ v = undef)
theorem Sure.same {o : Oper} {v : Value} {a b : Act} (h : Sure P ops Q S o v a) (he : execOp b.eval o = execOp a.eval o) (hw : Region.wanted o (yielded ops b.tmps) = Region.wanted o (yielded ops a.tmps)) : Sure P ops Q S o v b := by
  rcases h with ⟨h1, h2⟩ | ⟨h1, h2⟩
  · exact .inl ⟨hw.trans h1, fun c hc => h2 c (hc.trans he)⟩
  · exact .inr ⟨hw.trans h1, h2⟩
theorem Sure.step {i : Nat} {o : Oper} {v : Value} {a : Act} (hi : ops[i]? = some o) (h : Sure P ops Q S o v a) {K : Act → World → Prop} {w : World} (hS : S w) (hK : K (a.put o.dst v) w) : wpOp P ops Q i K a w := by
  unfold wpOp
  simp only [hi]
  rcases h with ⟨h1, h2⟩ | ⟨h1, rfl⟩
  · rw [if_pos h1]
    exact .inl (h2 a rfl K w hS hK)
  · rw [if_neg (by rw [h1]; decide)]
    exact hK
theorem Sure.calm {o : Oper} {v : Value} {a : Act} (h : YieldsIf P ops S o v a) : Sure P ops Q S o v a := by
  rcases h with ⟨h1, h2⟩ | h
  · refine .inl ⟨h1, fun b hb K w hS hK => ?_⟩
    unfold Oper.wp
    rw [hb, h2 w hS]
    exact hK
  · exact .inr h
/-- a step j that stands apart of a sure one: it goes on as if that one had been done. -/
theorem sure_swap {j : Nat} {oi oj : Oper} {v : Value} (hj : ops[j]? = some oj) (hap : oi.apart ops oj = true) (hsi : ∀ cs b, oi.op ≠ .select cs b) (hsj : ∀ cs b, oj.op ≠ .select cs b)
    (hQ : ∀ c a w, Q (.panic c) (a.put oi.dst v) w → Q (.panic c) a w) {K : Act → World → Prop} {a : Act} {w : World} (hy : Sure P ops Q S oi v a) (h : wpOp P ops Q j K (a.put oi.dst v) w) :
    wpOp P ops Q j (fun b w' => Sure P ops Q S oi v b ∧ K (b.put oi.dst v) w') a w := by
  obtain ⟨p1, p2, p3⟩ := Oper.apart_spec hap
  have kp : ∀ (b : Act), Sure P ops Q S oi v b → ∀ u, Sure P ops Q S oi v (b.put oj.dst u) := fun b hb u => hb.same (execOp_put oi hsi b oj.dst u p3) (wanted_put oi b oj.dst u p3)
  have goal : ∀ u w', K ((a.put oi.dst v).put oj.dst u) w' → Sure P ops Q S oi v (a.put oj.dst u) ∧ K ((a.put oj.dst u).put oi.dst v) w' := fun u w' hk => ⟨kp a hy u, by rw [← Act.put_comm a v u p2]; exact hk⟩
  unfold wpOp at *
  simp only [hj] at *
  rw [wanted_put oj a oi.dst v p1] at h
  by_cases hw : Region.wanted oj (yielded ops a.tmps) = true
  · rw [if_pos hw] at h ⊢
    rcases h with h | ⟨g1, g2⟩
    · left
      unfold Oper.wp at *
      rw [execOp_put oj hsj a oi.dst v p1] at h
      cases hr : (execOp a.eval oj).run P w with
      | ok n w' =>
        rw [hr] at h
        cases n with
        | value u => exact goal u w' h
        | skip => exact goal undef w' h
        | defer d =>
          refine ⟨kp { a with defers := d :: a.defers } (hy.same rfl rfl) undef, ?_⟩
          rw [← Act.put_comm _ v undef p2, ← Act.put_defers]
          exact h
        | enter f args =>
          refine Calls.mono (show Calls P f args w' _ from h) fun e w2 he => ?_
          cases e with
          | returned u => exact goal u w2 he
          | panicked c => exact hQ _ _ _ he
          | outgrown => exact he
        | row r args => exact Rows.mono h fun u w2 he => goal u w2 he
        | _ => exact h
      | halt x w' =>
        rw [hr] at h
        cases x with
        | panic u => exact hQ _ _ _ h
        | _ => exact h
    · right
      exact ⟨by unfold Oper.asks at *; rw [execOp_put oj hsj a oi.dst v p1] at g1; exact g1, g2⟩
  · rw [if_neg hw] at h ⊢
    exact goal undef w h
/-- a sure step that may come up may be taken first. -/
theorem sure_first {i : Nat} {oi : Oper} {v : Value} (hi : ops[i]? = some oi) (hsel : ∀ (j : Nat) (o : Oper) cs b, ops[j]? = some o → o.op ≠ .select cs b) (hQ : ∀ c a w, Q (.panic c) (a.put oi.dst v) w → Q (.panic c) a w) :
    ∀ (fuel : Nat) (listed : Array Bool) (a : Act) (w : World), (∀ j oj, ops[j]? = some oj → j ≠ i → listed.getD j true = false → (∀ e ∈ oj.after, Region.binds md e = true → e.on ≠ i) → oi.apart ops oj = true) →
      i ∈ Region.ready md ops listed → Sure P ops Q S oi v a → S w → wpAnyH P md ops Q S fuel (listed.setIfInBounds i true) (a.put oi.dst v) w → wpAnyH P md ops Q S (fuel + 1) listed a w
  | 0, listed, a, w, _, hr, hy, hS, H => by
    refine ⟨fun h => (by rw [h] at hr; cases hr), fun j hj => ?_⟩
    rcases Nat.decEq j i with hne | rfl
    · have hx := ready_mono hj hne
      rw [H.1] at hx
      cases hx
    · exact hy.step hi hS ⟨hS, H⟩
  | fuel + 1, listed, a, w, hfree, hr, hy, hS, H => by
    have hun := (mem_ready.1 hr).1
    refine ⟨fun h => (by rw [h] at hr; cases hr), fun j hj => ?_⟩
    rcases Nat.decEq j i with hne | rfl
    · obtain ⟨hju, oj, hoj, hall⟩ := mem_ready.1 hj
      have hno : ∀ e ∈ oj.after, Region.binds md e = true → e.on ≠ i := fun e he hb hq => by
        have hx := hall e he hb
        rw [hq, getD_both hun] at hx
        cases hx
      refine wpOp_mono (fun b w' h3 => ⟨h3.2.1, sure_first hi hsel hQ fuel (listed.setIfInBounds j true) b w' (fun k ok hk hki hu hn => ?_) (ready_mono hr (Ne.symm hne)) h3.1 h3.2.1 ?_⟩)
        (sure_swap hoj (hfree j oj hoj hne hju hno) (fun cs b => hsel i oi cs b hi) (fun cs b => hsel j oj cs b hoj) hQ hy (H.2 j (ready_mono hj hne)))
      · refine hfree k ok hk hki ?_ hn
        by_cases hjk : j = k
        · rw [← hjk]; exact hju
        · rw [getD_set_ne true hjk] at hu; exact hu
      · rw [Array.setIfInBounds_comm _ _ hne]
        exact h3.2.2
    · exact hy.step hi hS ⟨hS, H⟩
def segBU (md : Region.Mode) (ops : Array Oper) (sz : Nat) : List Oper → Nat → Array Bool → Bool
  | [], _, _ => true
  | o :: l, k, listed => calmI o.op && (match o.dst with | some d => decide (d < sz) && !(dsts l).contains d | none => false) &&
      (Region.ready md ops listed).contains k && Region.free md ops listed k && segBU md ops sz l (k + 1) (listed.setIfInBounds k true)
theorem seg_takeU (hs : Region.noSelect ops = true) (hQ : ∀ c a d v w, Q (.panic c) (a.put d v) w → Q (.panic c) a w) {A : Act} {w : World} (hS : S w) {fuel : Nat} :
    ∀ (l : List Oper) (k : Nat) (listed : Array Bool) (a : Act), (∀ j, j < l.length → l[j]? = ops[k + j]?) → segBU md ops a.tmps.size l k listed = true →
      (∀ w', S w' → wpStill P ops w' (fun a' => a' = A) l a) → wpAnyH P md ops Q S fuel (past l.length k listed) A w → wpAnyH P md ops Q S (fuel + l.length) listed a w
  | [], _, _, a, _, _, h, H => by
    have : a = A := h w hS
    subst this
    exact H
  | o :: l, k, listed, a, hl, hB, h, H => by
    have h0 : ops[k]? = some o := by simpa using (hl 0 (by simp)).symm
    simp only [segBU, Bool.and_eq_true] at hB
    obtain ⟨⟨⟨⟨hc, hd⟩, hr⟩, hf⟩, hB'⟩ := hB
    cases ho : o.dst with
    | none => rw [ho] at hd; cases hd
    | some d =>
      rw [ho] at hd
      simp only [Bool.and_eq_true, decide_eq_true_eq, Bool.not_eq_true', List.contains_eq_mem, decide_eq_false_iff_not] at hd
      obtain ⟨v, hy, h'⟩ := still_calmI hc ho hd.1 hd.2 h
      refine wpAnyH_take h0 hs hf hr (fun c a w => hQ c a o.dst v w) hy hS ?_
      exact seg_takeU hs hQ hS l (k + 1) _ _ (fun j hj => by have := hl (j + 1) (by simp; omega); simpa [Nat.add_assoc, Nat.add_comm 1 j] using this) (by rw [put_size]; exact hB') h' H
/-- all steps of a list but the last d are sure ones, taken in their order: calm ones by segments, calls between them. -/
def wpSure (P : Program) (ops : Array Oper) (sz : Nat) (Q : Exit → Act → World → Prop) (S : World → Prop) (K : Act → Prop) : List Nat → List Oper → Act → Prop
  | [], _, a => K a
  | m :: pl, l, a => a.tmps.size = sz ∧ ∃ A, (∀ w', S w' → wpStill P ops w' (fun a' => a' = A) (l.take m) a) ∧
      match l.drop m with
      | [] => K A
      | o :: r => ∃ v, Sure P ops Q S o v A ∧ wpSure P ops sz Q S K pl r (A.put o.dst v)
def sureB (md : Region.Mode) (ops : Array Oper) (sz : Nat) : List Nat → List Oper → Nat → Array Bool → Bool
  | [], l, _, _ => l.isEmpty
  | m :: pl, l, k, listed => decide (m ≤ l.length) && segBU md ops sz (l.take m) k listed &&
      match l.drop m with
      | [] => true
      | _ :: r => (Region.ready md ops (past m k listed)).contains (k + m) && Region.free md ops (past m k listed) (k + m) && sureB md ops sz pl r (k + m + 1) ((past m k listed).setIfInBounds (k + m) true)
def passed : List Nat → List Oper → Nat → Array Bool → Array Bool
  | [], _, _, listed => listed
  | m :: pl, l, k, listed => match l.drop m with
    | [] => past m k listed
    | _ :: r => passed pl r (k + m + 1) ((past m k listed).setIfInBounds (k + m) true)
theorem sure_all (hs : Region.noSelect ops = true) (hQ : ∀ c a d v w, Q (.panic c) (a.put d v) w → Q (.panic c) a w) {sz : Nat} {w : World} (hS : S w) {K : Act → Prop} {fuel : Nat} :
    ∀ (pl : List Nat) (l : List Oper) (k : Nat) (listed : Array Bool) (a : Act), (∀ j, j < l.length → l[j]? = ops[k + j]?) → sureB md ops sz pl l k listed = true → wpSure P ops sz Q S K pl l a →
      (∀ A, K A → wpAnyH P md ops Q S fuel (passed pl l k listed) A w) → wpAnyH P md ops Q S (fuel + l.length) listed a w
  | [], l, k, listed, a, hl, hB, h, H => by
    simp only [sureB, List.isEmpty_iff] at hB
    subst hB
    exact H a h
  | m :: pl, l, k, listed, a, hl, hB, h, H => by
    obtain ⟨hsz, A, hst, h⟩ := h
    simp only [sureB, Bool.and_eq_true, decide_eq_true_eq] at hB
    obtain ⟨⟨hm, hseg⟩, hB⟩ := hB
    have hlen : (l.take m).length = m := by simp; omega
    have el : fuel + l.length = (fuel + (l.drop m).length) + (l.take m).length := by simp; omega
    rw [el]
    refine seg_takeU hs hQ hS (l.take m) k listed a (fun j hj => ?_) (hsz ▸ hseg) hst ?_
    · rw [← hl j (by simp at hj; omega), List.getElem?_take_of_lt (by omega)]
    rw [hlen]
    unfold passed at H
    cases hd : l.drop m with
    | nil =>
      rw [hd] at h H
      exact H A h
    | cons o r =>
      rw [hd] at hB h H
      simp only [Bool.and_eq_true] at hB
      obtain ⟨⟨hr, hf⟩, hB⟩ := hB
      obtain ⟨v, hv, h⟩ := h
      have hml : m < l.length := by
        rcases Nat.lt_or_ge m l.length with h9 | h9
        · exact h9
        · rw [List.drop_eq_nil_of_le h9] at hd; cases hd
      have hrl : r.length = l.length - m - 1 := by
        have := congrArg List.length hd
        simp at this
        omega
      have ho : ops[k + m]? = some o := by
        rw [← hl m hml]
        have := List.getElem?_drop (xs := l) (i := m) (j := 0)
        rw [hd, Nat.add_zero] at this
        exact this.symm
      refine sure_first ho (Region.noSelect_spec hs) (fun c a w => hQ c a o.dst v w) _ _ _ _ (Region.free_spec ho hf) (by simpa using hr) hv hS ?_
      refine sure_all hs hQ hS pl r (k + m + 1) _ _ (fun j hj => ?_) hB h H
      have := List.getElem?_drop (xs := l) (i := m) (j := j + 1)
      rw [hd, List.getElem?_cons_succ, hl _ (by omega)] at this
      rw [this]
      congr 1
      omega
/-- a region that draws its order: all but the last two steps are sure ones; of these two the first may come at any time. -/
theorem region_sure {id : Nat} {a : Act} {w : World} {l : List Oper} (S : World → Prop) (n sz : Nat) (plan : List Nat) (oa os : Oper) (hS : S w.drew) (hm : P.follows .mixedOrders = true) (hs : Region.noSelect l.toArray = true)
    (hl : l.drop n = [oa, os]) (hB : sureB .any l.toArray sz plan (l.take n) 0 (Array.replicate l.length false) = true)
    (h1 : Region.ready .any l.toArray (passed plan (l.take n) 0 (Array.replicate l.length false)) = [n])
    (h2 : Region.ready .any l.toArray ((passed plan (l.take n) 0 (Array.replicate l.length false)).setIfInBounds n true) = [n + 1])
    (h3 : Region.ready .any l.toArray (((passed plan (l.take n) 0 (Array.replicate l.length false)).setIfInBounds n true).setIfInBounds (n + 1) true) = [])
    (hQ : ∀ c a d v w, Q (.panic c) (a.put d v) w → Q (.panic c) a w)
    (h : wpSure P l.toArray sz Q S (fun A => wpOp P l.toArray Q n (fun b w1 => S w1 ∧ wpOp P l.toArray Q (n + 1) (fun c w2 => S w2 ∧ Q .normal c w2) b w1) A w.drew) plan (l.take n) a) : (Code.region id l.toArray true).wp P Q a w := by
  have hln : l.length = n + 2 := by
    have := congrArg List.length hl
    simp at this
    omega
  have H := sure_all (md := .any) (S := S) (fuel := 2) hs hQ hS plan (l.take n) 0 (Array.replicate l.length false) a (fun j hj => by
    have hj' : j < n := by simp at hj; omega
    simp [hj']) hB h (fun A hA => wpAnyH_all h1 (by simp) (fun i hi => by
      have hi : i = n := by simpa using hi
      subst hi
      refine wpOp_mono (fun b w1 g => ⟨g.1, wpAnyH_all h2 (by simp) (fun i2 hi2 => by
        have hi2 : i2 = i + 1 := by simpa using hi2
        subst hi2
        exact wpOp_mono (fun c w2 g2 => ⟨g2.1, wpAnyH_done h3 g2.2 _⟩) g.2)⟩) hA))
  refine wp_region_held (S := S) hm ?_
  have e : 2 + (l.take n).length = l.toArray.size := by simp; omega
  rw [e] at H
  simpa using H
theorem wpOp_of25 {i : Nat} {o : Oper} {a : Act} {w : World} {K : Act → World → Prop} (hi : ops[i]? = some o) (h : if Region.wanted o (yielded ops a.tmps) = true then o.wp P a w K Q else K (a.put o.dst undef) w) : wpOp P ops Q i K a w := by
  unfold wpOp
  simp only [hi]
  by_cases hw : Region.wanted o (yielded ops a.tmps) = true
  · rw [if_pos hw] at h ⊢
    exact .inl h
  · rw [if_neg hw] at h ⊢
    exact h
/-- the same, the last two steps handed over one by one. -/
theorem region_sure2 {id : Nat} {a : Act} {w : World} {l : List Oper} (S : World → Prop) (n sz : Nat) (plan : List Nat) (oa os : Oper) (hS : S w.drew) (hm : P.follows .mixedOrders = true) (hs : Region.noSelect l.toArray = true)
    (hl : l.drop n = [oa, os]) (hB : sureB .any l.toArray sz plan (l.take n) 0 (Array.replicate l.length false) = true)
    (h1 : Region.ready .any l.toArray (passed plan (l.take n) 0 (Array.replicate l.length false)) = [n])
    (h2 : Region.ready .any l.toArray ((passed plan (l.take n) 0 (Array.replicate l.length false)).setIfInBounds n true) = [n + 1])
    (h3 : Region.ready .any l.toArray (((passed plan (l.take n) 0 (Array.replicate l.length false)).setIfInBounds n true).setIfInBounds (n + 1) true) = [])
    (hQ : ∀ c a d v w, Q (.panic c) (a.put d v) w → Q (.panic c) a w)
    (h : wpSure P l.toArray sz Q S (fun A => ∀ K1 : Act → World → Prop, (∀ b w1, S w1 → (∀ K2 : Act → World → Prop, (∀ c w2, S w2 → Q .normal c w2 → K2 c w2) → if Region.wanted os (yielded l.toArray b.tmps) = true then os.wp P b w1 K2 Q else K2 (b.put os.dst undef) w1) → K1 b w1) →
      if Region.wanted oa (yielded l.toArray A.tmps) = true then oa.wp P A w.drew K1 Q else K1 (A.put oa.dst undef) w.drew) plan (l.take n) a) : (Code.region id l.toArray true).wp P Q a w := by
  have e1 : l.toArray[n]? = some oa := by
    have := List.getElem?_drop (xs := l) (i := n) (j := 0)
    rw [hl, Nat.add_zero] at this
    simpa using this.symm
  have e2 : l.toArray[n + 1]? = some os := by
    have := List.getElem?_drop (xs := l) (i := n) (j := 1)
    rw [hl] at this
    simpa using this.symm
  refine region_sure S n sz plan oa os hS hm hs hl hB h1 h2 h3 hQ ?_
  have mono : ∀ (K K' : Act → Prop), (∀ A, K A → K' A) → ∀ (pl : List Nat) (l' : List Oper) (a : Act), wpSure P l.toArray sz Q S K pl l' a → wpSure P l.toArray sz Q S K' pl l' a := by
    intro K K' hK pl
    induction pl with
    | nil => exact fun l' a h => hK a h
    | cons m pl ih =>
      rintro l' a ⟨g1, A, g2, g3⟩
      refine ⟨g1, A, g2, ?_⟩
      cases hd : l'.drop m with
      | nil => rw [hd] at g3; exact hK A g3
      | cons o r =>
        rw [hd] at g3
        obtain ⟨v, g4, g5⟩ := g3
        exact ⟨v, g4, ih r _ g5⟩
  refine mono _ _ (fun A hA => ?_) plan _ a h
  exact wpOp_of25 e1 (hA _ (fun b w1 hS1 hb => ⟨hS1, wpOp_of25 e2 (hb _ (fun c w2 hS2 hq => ⟨hS2, hq⟩))⟩))
theorem sure_last {m sz : Nat} {K : Act → Prop} {pl : List Nat} {l : List Oper} {a : Act} (A : Act) (hsz : a.tmps.size = sz) (hseg : ∀ w', S w' → wpStill P ops w' (fun a' => a' = A) (l.take m) a) (hd : l.drop m = []) (h : K A) : wpSure P ops sz Q S K (m :: pl) l a := by
  refine ⟨hsz, A, hseg, ?_⟩
  rw [hd]
  exact h
theorem sure_step {m sz : Nat} {K : Act → Prop} {pl : List Nat} {l r : List Oper} {o : Oper} {a : Act} (A : Act) (v : Value) (hsz : a.tmps.size = sz) (hseg : ∀ w', S w' → wpStill P ops w' (fun a' => a' = A) (l.take m) a) (hd : l.drop m = o :: r)
    (hv : Sure P ops Q S o v A) (h : wpSure P ops sz Q S K pl r (A.put o.dst v)) : wpSure P ops sz Q S K (m :: pl) l a := by
  refine ⟨hsz, A, hseg, ?_⟩
  rw [hd]
  exact ⟨v, hv, h⟩
theorem Sure.call {o : Oper} {a : Act} {f : FuncId} {args : Array Value} {v : Value} (hg : o.guard = none) (he : ∀ w, (execOp a.eval o).run P w = .ok (.enter f args) w) (hc : ∀ w, S w → Calls P f args w fun e w' => e = .returned v ∧ w' = w) : Sure P ops Q S o v a :=
  .inl ⟨by simp [Region.wanted, hg], fun b hb K w hS hK => by
    unfold Oper.wp
    rw [hb, he w]
    refine Calls.mono (hc w hS) ?_
    rintro e w' ⟨rfl, rfl⟩
    exact hK⟩
end
end Go.Proofs.YtehbiccpbopkfaaDoor
