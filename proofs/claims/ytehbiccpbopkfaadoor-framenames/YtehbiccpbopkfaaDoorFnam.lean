import Derived.Test.YtehbiccpbopkfaaDoorFnal
import Derived.OrdersHeld
namespace Go.Proofs.YtehbiccpbopkfaaDoor
open Go.RowKit
set_option linter.unusedVariables false

section
variable {P : Program} {ops : Array Oper} {Q : Exit → Act → World → Prop} {md : Region.Mode} {S : World → Prop}

/-- operations that look at their operands and at memory, and leave it. -/
def calmH : Op → Bool
  | .load _ _ => true
  | .extract _ _ => true
  | o => calm o
theorem calmH_value {o : Oper} {ρ : Operand → Value} (hc : calmH o.op = true) {w : World} {n : Next} {w' : World} (h : (execOp ρ o).run P w = .ok n w') : ∃ v, n = .value v := by
  by_cases h1 : calm o.op = true
  · exact calm_value h1 h
  · obtain ⟨dst, op, type, pos, after, guard⟩ := o
    cases op <;> simp only [calmH] at hc <;> first | exact absurd hc h1 | skip
    all_goals simp only [execOp] at h
    all_goals first | exact run_v _ _ _ h | (simp at h; exact ⟨_, h.1.symm⟩)

theorem still_calmH {o : Oper} {rest : List Oper} {a A : Act} {d : Tmp} (hc : calmH o.op = true) (hd : o.dst = some d) (hsz : d < a.tmps.size) (hn : d ∉ dsts rest)
    (h : ∀ w, S w → wpStill P ops w (fun a' => a' = A) (o :: rest) a) : ∃ v, YieldsIf P ops S o v a ∧ ∀ w, S w → wpStill P ops w (fun a' => a' = A) rest (a.put o.dst v) := by
  by_cases hw : Region.wanted o (yielded ops a.tmps) = true
  · have each : ∀ w, S w → (execOp a.eval o).run P w = .ok (.value (A.tmps.getD d undef)) w ∧ wpStill P ops w (fun a' => a' = A) rest (a.put o.dst (A.tmps.getD d undef)) := by
      intro w hS
      have h1 := h w hS
      unfold wpStill at h1
      rw [if_pos hw] at h1
      unfold Oper.still at h1
      generalize hr : (execOp a.eval o).run P w = x at h1 ⊢
      cases x with
      | ok n w' =>
        obtain ⟨v, rfl⟩ := calmH_value hc hr
        simp only [Oper.stillUpon] at h1
        obtain ⟨rfl, h2⟩ := h1
        have e := still_keeps rest _ h2 hn
        rw [hd] at e
        have e2 : (a.put (some d) v).tmps[d]? = some v := by simp [Act.put, hsz]
        rw [e2] at e
        have e3 : A.tmps.getD d undef = v := by simp [Array.getD_eq_getD_getElem?, e]
        rw [e3]
        exact ⟨rfl, h2⟩
      | halt x w' => simp only [Oper.stillUpon] at h1
    exact ⟨_, .inl ⟨hw, fun w hS => (each w hS).1⟩, fun w hS => (each w hS).2⟩
  · refine ⟨undef, .inr ⟨by simpa using hw, rfl⟩, fun w hS => ?_⟩
    have h1 := h w hS
    unfold wpStill at h1
    rw [if_neg hw] at h1
    exact h1

def segBH (md : Region.Mode) (ops : Array Oper) (sz : Nat) : List Oper → Nat → Array Bool → Bool
  | [], _, _ => true
  | o :: l, k, listed => calmH o.op && (match o.dst with | some d => decide (d < sz) && !(dsts l).contains d | none => false) &&
      (Region.ready md ops listed).contains k && Region.free md ops listed k && segBH md ops sz l (k + 1) (listed.setIfInBounds k true)

end
end Go.Proofs.YtehbiccpbopkfaaDoor
namespace Go.Proofs.YtehbiccpbopkfaaDoor
open Go.RowKit
set_option linter.unusedVariables false

section
variable {P : Program} {ops : Array Oper} {Q : Exit → Act → World → Prop} {md : Region.Mode} {S : World → Prop}

/-- whatever order is picked; S holds behind each of the first n operations, the others wait for them. -/
def wpAnyT (P : Program) (md : Region.Mode) (ops : Array Oper) (Q : Exit → Act → World → Prop) (S : World → Prop) (n : Nat) : Nat → Array Bool → Act → World → Prop
  | 0, listed, a, w => Region.ready md ops listed = [] ∧ Q .normal a w
  | fuel + 1, listed, a, w => (Region.ready md ops listed = [] → Q .normal a w) ∧
      ∀ i ∈ Region.ready md ops listed, wpOp P ops Q i (fun a' w' => (i < n → S w') ∧ wpAnyT P md ops Q S n fuel (listed.setIfInBounds i true) a' w') a w

theorem any_of_T {n : Nat} : ∀ (fuel : Nat) (listed : Array Bool) (a : Act) (w : World), wpAnyT P md ops Q S n fuel listed a w → wpAny P md ops Q fuel listed a w
  | 0, _, _, _, h => h
  | fuel + 1, _, _, _, h => ⟨h.1, fun i hi => wpOp_mono (fun a' w' h' => any_of_T fuel _ a' w' h'.2) (h.2 i hi)⟩

theorem anyT_first {n i : Nat} {oi : Oper} {v : Value} (hi : ops[i]? = some oi) (hsel : ∀ (j : Nat) (o : Oper) cs b, ops[j]? = some o → o.op ≠ .select cs b)
    (hQ : ∀ c a w, Q (.panic c) (a.put oi.dst v) w → Q (.panic c) a w) (hsk : Region.sinkB md ops n = true) (hch : Region.chainB md ops n = true) (hn : n < ops.size) (hin : i < n) :
    ∀ (fuel : Nat) (listed : Array Bool) (a : Act) (w : World), HeadInv md ops n listed →
      (∀ j oj, ops[j]? = some oj → j ≠ i → listed.getD j true = false → (∀ e ∈ oj.after, Region.binds md e = true → e.on ≠ i) → oi.apart ops oj = true) →
      i ∈ Region.ready md ops listed → YieldsIf P ops S oi v a → S w →
      wpAnyT P md ops Q S n fuel (listed.setIfInBounds i true) (a.put oi.dst v) w → wpAnyT P md ops Q S n (fuel + 1) listed a w := by
  intro fuel
  induction fuel with
  | zero =>
    intro listed a w inv _ hr hy hS H
    refine ⟨fun h => (by rw [h] at hr; cases hr), fun j hj => ?_⟩
    by_cases hji : j = i
    · subst hji; exact hy.wpOp hi hS ⟨fun _ => hS, H⟩
    · have := ready_mono hj hji
      rw [H.1] at this
      cases this
  | succ fuel ih =>
    intro listed a w inv hfree hr hy hS H
    have hun := (mem_ready.1 hr).1
    refine ⟨fun h => (by rw [h] at hr; cases hr), fun j hj => ?_⟩
    by_cases hji : j = i
    · subst hji; exact hy.wpOp hi hS ⟨fun _ => hS, H⟩
    · have h1 := H.2 j (ready_mono hj hji)
      have hjn : j < n := by
        rcases Nat.lt_or_ge j n with h | h
        · exact h
        · exact absurd hj (tail_waits hsk hch hn inv _ i rfl hin hun j h)
      obtain ⟨hjun, oj, hoj, hall⟩ := mem_ready.1 hj
      have hnot : ∀ e ∈ oj.after, Region.binds md e = true → e.on ≠ i := fun e he hb heq => by
        have h1 := hall e he hb
        rw [heq, getD_both hun] at h1
        cases h1
      have h2 := wpOp_putIf hoj (hfree j oj hoj hji hjun hnot) (fun cs b => hsel i oi cs b hi) (fun cs b => hsel j oj cs b hoj) hQ hy h1
      have hfree' : ∀ k ok, ops[k]? = some ok → k ≠ i → (listed.setIfInBounds j true).getD k true = false →
          (∀ e ∈ ok.after, Region.binds md e = true → e.on ≠ i) → oi.apart ops ok = true := fun k ok hk hki hun hno => by
        refine hfree k ok hk hki ?_ hno
        by_cases hjk : j = k
        · subst hjk; exact hjun
        · rw [getD_set_ne true hjk] at hun; exact hun
      refine wpOp_mono (fun a' w' h3 => ⟨fun _ => h3.2.1 hjn, ih (listed.setIfInBounds j true) a' w' (inv.set hj hjn) hfree' (ready_mono hr (Ne.symm hji)) h3.1 (h3.2.1 hjn) ?_⟩) h2
      rw [Array.setIfInBounds_comm _ _ hji]
      exact h3.2.2

theorem anyT_of_seq {n : Nat} : ∀ (l : List Oper) (k : Nat) (listed : Array Bool) (a : Act) (w : World), n ≤ k → (∀ j, l[j]? = ops[k + j]?) →
    Region.seqB md ops l.length k listed = true → wpList P ops Q l a w → wpAnyT P md ops Q S n l.length listed a w
  | [], _, _, _, _, _, _, hB, h => ⟨by simpa [Region.seqB] using hB, h⟩
  | o :: l, k, listed, a, w, hk, hl, hB, h => by
    have h0 : ops[k]? = some o := by simpa using (hl 0).symm
    simp only [List.length_cons, Region.seqB, Bool.and_eq_true, decide_eq_true_eq] at hB
    refine ⟨fun h1 => (by rw [hB.1] at h1; cases h1), fun i hi => ?_⟩
    rw [hB.1] at hi
    have hik : i = k := by simpa using hi
    subst hik
    have hw : wpOp P ops Q i (wpList P ops Q l) a w := by unfold wpOp; simp only [h0]; exact h
    exact wpOp_mono (fun a' w' h' => ⟨fun h => absurd h (by omega), anyT_of_seq l (i + 1) _ a' w' (by omega) (fun j => by have := hl (j + 1); simpa [Nat.add_assoc, Nat.add_comm 1 j] using this) hB.2 h'⟩) hw

theorem seg_inv {sz n : Nat} : ∀ (l : List Oper) (k : Nat) (listed : Array Bool), k + l.length ≤ n → HeadInv md ops n listed → segBH md ops sz l k listed = true → HeadInv md ops n (past l.length k listed)
  | [], _, _, _, inv, _ => inv
  | o :: l, k, listed, hk, inv, hB => by
    simp only [segBH, Bool.and_eq_true] at hB
    simp only [List.length_cons] at hk
    have hr : k ∈ Region.ready md ops listed := by simpa using hB.1.1.2
    exact seg_inv l (k + 1) _ (by omega) (inv.set hr (by omega)) hB.2

theorem seg_takeT (hs : Region.noSelect ops = true) (hQ : ∀ c a d v w, Q (.panic c) (a.put d v) w → Q (.panic c) a w) {n : Nat} (hsk : Region.sinkB md ops n = true) (hch : Region.chainB md ops n = true) (hn : n < ops.size)
    {A : Act} {w : World} (hS : S w) {fuel : Nat} :
    ∀ (l : List Oper) (k : Nat) (listed : Array Bool) (a : Act), k + l.length ≤ n → HeadInv md ops n listed → (∀ j, j < l.length → l[j]? = ops[k + j]?) → segBH md ops a.tmps.size l k listed = true →
      (∀ w', S w' → wpStill P ops w' (fun a' => a' = A) l a) → wpAnyT P md ops Q S n fuel (past l.length k listed) A w → wpAnyT P md ops Q S n (fuel + l.length) listed a w
  | [], _, _, a, _, _, _, _, h, H => by
    have : a = A := h w hS
    subst this
    exact H
  | o :: l, k, listed, a, hk, inv, hl, hB, h, H => by
    have h0 : ops[k]? = some o := by simpa using (hl 0 (by simp)).symm
    simp only [segBH, Bool.and_eq_true] at hB
    obtain ⟨⟨⟨⟨hc, hd⟩, hr⟩, hf⟩, hB'⟩ := hB
    simp only [List.length_cons] at hk
    have hr' : k ∈ Region.ready md ops listed := by simpa using hr
    cases ho : o.dst with
    | none => rw [ho] at hd; cases hd
    | some d =>
      rw [ho] at hd
      simp only [Bool.and_eq_true, decide_eq_true_eq, Bool.not_eq_true', List.contains_eq_mem, decide_eq_false_iff_not] at hd
      obtain ⟨v, hy, h'⟩ := still_calmH hc ho hd.1 hd.2 h
      refine anyT_first h0 (Region.noSelect_spec hs) (fun c a w => hQ c a o.dst v w) hsk hch hn (by omega) _ listed a w inv (Region.free_spec h0 hf) hr' hy hS ?_
      exact seg_takeT hs hQ hsk hch hn hS l (k + 1) _ _ (by omega) (inv.set hr' (by omega)) (fun j hj => by have := hl (j + 1) (by simp; omega); simpa [Nat.add_assoc, Nat.add_comm 1 j] using this) (by rw [put_size]; exact hB') h' H

/-- the walk by a plan, and the operations behind it in their order. -/
def wpPlanT (P : Program) (ops : Array Oper) (sz : Nat) (Q : Exit → Act → World → Prop) (S : World → Prop) (tl : List Oper) : List Nat → List Oper → Act → World → Prop
  | [], l, a, w => l = [] ∧ wpList P ops Q tl a w
  | m :: pl, l, a, w => a.tmps.size = sz ∧ ∃ A, (∀ w', S w' → wpStill P ops w' (fun a' => a' = A) (l.take m) a) ∧
      match l.drop m with
      | [] => wpList P ops Q tl A w
      | o :: r => if Region.wanted o (yielded ops A.tmps) = true then o.wp P A w (fun a' w' => S w' ∧ wpPlanT P ops sz Q S tl pl r a' w') Q else wpPlanT P ops sz Q S tl pl r (A.put o.dst undef) w
def planBT (md : Region.Mode) (ops : Array Oper) (sz n g : Nat) : List Nat → List Oper → Nat → Array Bool → Bool
  | [], l, k, listed => l.isEmpty && decide (k = n) && Region.seqB md ops g n listed
  | m :: pl, l, k, listed => decide (m ≤ l.length) && decide (k + m ≤ n) && segBH md ops sz (l.take m) k listed &&
      match l.drop m with
      | [] => decide (k + m = n) && Region.seqB md ops g n (past m k listed)
      | _ :: r => decide (k + m < n) && (Region.ready md ops (past m k listed) == [k + m]) && planBT md ops sz n g pl r (k + m + 1) ((past m k listed).setIfInBounds (k + m) true)

theorem plan_anyT (hs : Region.noSelect ops = true) (hQ : ∀ c a d v w, Q (.panic c) (a.put d v) w → Q (.panic c) a w) {sz n : Nat} (hsk : Region.sinkB md ops n = true) (hch : Region.chainB md ops n = true) (hn : n < ops.size)
    {tl : List Oper} (htl : ∀ j, tl[j]? = ops[n + j]?) :
    ∀ (pl : List Nat) (l : List Oper) (k : Nat) (listed : Array Bool) (a : Act) (w : World), HeadInv md ops n listed → S w → (∀ j, j < l.length → l[j]? = ops[k + j]?) → planBT md ops sz n tl.length pl l k listed = true →
      wpPlanT P ops sz Q S tl pl l a w → wpAnyT P md ops Q S n (tl.length + l.length) listed a w
  | [], l, k, listed, a, w, inv, hS, hl, hB, h => by
    obtain ⟨rfl, hq⟩ := h
    simp only [planBT, Bool.and_eq_true] at hB
    exact anyT_of_seq tl n listed a w (Nat.le_refl _) htl hB.2 hq
  | m :: pl, l, k, listed, a, w, inv, hS, hl, hB, h => by
    obtain ⟨hsz, A, hst, h⟩ := h
    simp only [planBT, Bool.and_eq_true, decide_eq_true_eq] at hB
    obtain ⟨⟨⟨hm, hkm⟩, hseg⟩, hB⟩ := hB
    have hlen : (l.take m).length = m := by simp; omega
    have el : tl.length + l.length = (tl.length + (l.drop m).length) + (l.take m).length := by simp; omega
    rw [el]
    refine seg_takeT hs hQ hsk hch hn hS (l.take m) k listed a (by omega) inv (fun j hj => ?_) (hsz ▸ hseg) hst ?_
    · rw [← hl j (by omega), List.getElem?_take_of_lt (by omega)]
    have inv' := seg_inv (l.take m) k listed (by omega) inv hseg
    rw [hlen] at inv' ⊢
    cases hd : l.drop m with
    | nil =>
      rw [hd] at hB h
      simp only [Bool.and_eq_true, decide_eq_true_eq] at hB
      exact anyT_of_seq tl n _ A w (Nat.le_refl _) htl hB.2 h
    | cons o r =>
      rw [hd] at hB h
      simp only [Bool.and_eq_true, beq_iff_eq, decide_eq_true_eq] at hB
      obtain ⟨⟨hkn, hrd⟩, hB⟩ := hB
      have hlm : m < l.length := by
        rcases Nat.lt_or_ge m l.length with h' | h'
        · exact h'
        · rw [List.drop_eq_nil_of_le h'] at hd; cases hd
      have hdl : (l.drop m).length = r.length + 1 := by rw [hd]; rfl
      have ho : ops[k + m]? = some o := by
        rw [← hl m hlm]
        have := List.getElem?_drop (xs := l) (i := m) (j := 0)
        rw [hd, Nat.add_zero] at this
        exact this.symm
      have hr : ∀ j, j < r.length → r[j]? = ops[k + m + 1 + j]? := fun j hj => by
        have := List.getElem?_drop (xs := l) (i := m) (j := j + 1)
        rw [hd, List.getElem?_cons_succ, hl _ (by rw [List.length_drop] at hdl; omega)] at this
        rw [this]
        congr 1
        omega
      have hrm : k + m ∈ Region.ready md ops (past m k listed) := by rw [hrd]; simp
      rw [List.length_cons, ← Nat.add_assoc]
      refine ⟨fun h0 => (by rw [h0] at hrd; cases hrd), fun i hi => ?_⟩
      have hi : i = k + m := by rw [hrd] at hi; simpa using hi
      subst hi
      have ih : ∀ a' w', S w' → wpPlanT P ops sz Q S tl pl r a' w' → wpAnyT P md ops Q S n (tl.length + r.length) ((past m k listed).setIfInBounds (k + m) true) a' w' := fun a' w' hS' h' =>
        plan_anyT hs hQ hsk hch hn htl pl r (k + m + 1) _ a' w' (inv'.set hrm hkn) hS' hr hB h'
      unfold wpOp
      simp only [ho]
      split
      · rename_i hw
        simp only [hw, if_true] at h
        exact .inl (Oper.wp_mono (fun a' w' ⟨h1, h2⟩ => ⟨fun _ => h1, ih a' w' h1 h2⟩) h)
      · rename_i hw
        simp only [hw] at h
        exact ⟨fun _ => hS, ih _ _ hS h⟩

def tailB (md : Region.Mode) (l : List Oper) (sz n : Nat) (plan : List Nat) : Bool :=
  Region.noSelect l.toArray && decide (n < l.length) && Region.sinkB md l.toArray n && Region.chainB md l.toArray n && planBT md l.toArray sz n (l.length - n) plan (l.take n) 0 (Array.replicate l.length false)
/-- a region that draws its order: the first n operations read and call, what they read stays (S); the others wait for all of them, and stand in one order. -/
theorem region_planT {id : Nat} {a : Act} {w : World} {l : List Oper} (S : World → Prop) (n : Nat) (plan : List Nat) (sz : Nat) (hS : S w.drew) (hm : P.follows .mixedOrders = true)
    (hB : tailB .any l sz n plan = true) (hQ : ∀ c a d v w, Q (.panic c) (a.put d v) w → Q (.panic c) a w)
    (h : wpPlanT P l.toArray sz Q S (l.drop n) plan (l.take n) a w.drew) : (Code.region id l.toArray true).wp P Q a w := by
  simp only [tailB, Bool.and_eq_true, decide_eq_true_eq] at hB
  obtain ⟨⟨⟨⟨hsel, hn⟩, hsk⟩, hch⟩, hB⟩ := hB
  have htl : (l.take n).length = n := by simp; omega
  have hdl : (l.drop n).length = l.length - n := by simp
  have inv0 : HeadInv .any l.toArray n (Array.replicate l.length false) :=
    ⟨by simp, fun j oj _ hl => (by rw [getD_replicate_false] at hl; cases hl), fun t _ ht => getD_in (by simpa using ht) (getD_replicate_false _ _)⟩
  have H := plan_anyT (md := .any) (S := S) hsel hQ hsk hch (by simpa using hn) (tl := l.drop n) (fun j => by simp [List.getElem?_drop]) plan (l.take n) 0 (Array.replicate l.length false) a w.drew inv0 hS
    (fun j hj => by have hj' : j < n := by rw [htl] at hj; exact hj
                    simp [hj']) (by rw [hdl]; exact hB) h
  refine wp_region_any hm ?_
  have := any_of_T _ _ _ _ H
  rw [htl, hdl, show l.length - n + n = l.length by omega] at this
  simpa using this

theorem planT_step {m sz : Nat} {tl : List Oper} {pl : List Nat} {l r : List Oper} {o : Oper} {a : Act} {w : World} (A : Act) (hsz : a.tmps.size = sz) (hseg : ∀ w', S w' → wpStill P ops w' (fun a' => a' = A) (l.take m) a) (hd : l.drop m = o :: r)
    (h : ∀ K : Act → World → Prop, (∀ a w, S w → wpPlanT P ops sz Q S tl pl r a w → K a w) → if Region.wanted o (yielded ops A.tmps) = true then o.wp P A w K Q else wpPlanT P ops sz Q S tl pl r (A.put o.dst undef) w) : wpPlanT P ops sz Q S tl (m :: pl) l a w := by
  refine ⟨hsz, A, hseg, ?_⟩
  rw [hd]
  exact h _ (fun _ _ h1 h2 => ⟨h1, h2⟩)
theorem planT_last {m sz : Nat} {tl : List Oper} {pl : List Nat} {l : List Oper} {a : Act} {w : World} (A : Act) (hsz : a.tmps.size = sz) (hseg : ∀ w', S w' → wpStill P ops w' (fun a' => a' = A) (l.take m) a) (hd : l.drop m = [])
    (h : wpList P ops Q tl A w) : wpPlanT P ops sz Q S tl (m :: pl) l a w := by
  refine ⟨hsz, A, hseg, ?_⟩
  rw [hd]
  exact h
end
end Go.Proofs.YtehbiccpbopkfaaDoor
