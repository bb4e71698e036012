import Derived.Test.YtfbgcednodnioabDoorEsj
namespace Go.Proofs.YtfbgcednodnioabDoor
open Go.RowKit
set_option linter.unusedVariables false

section
variable {P : Program} {ops : Array Oper} {Q : Exit → Act → World → Prop} {md : Region.Mode} {S : World → Prop}

def moveB : Op → Bool
  | .move _ => true
  | .extract _ _ => true
  | _ => false
/-- a move looks at nothing but its operand. -/
theorem yields_move {o : Oper} {v : Value} {a : Act} {w : World} (hm : moveB o.op = true) (hS : S w) (hy : YieldsIf P ops S o v a) : YieldsIf P ops (fun _ => True) o v a := by
  rcases hy with ⟨hw, hv⟩ | h
  · refine .inl ⟨hw, fun w' _ => ?_⟩
    have h1 := hv w hS
    obtain ⟨dst, op, ty, pos, af, gd⟩ := o
    cases op with
    | move x =>
      simp only [execOp] at h1 ⊢
      cases h1
      rfl
    | extract x i =>
      simp only [execOp, Instr.extract] at h1 ⊢
      cases hx : a.eval x with
      | tuple vs =>
        simp only [hx] at h1 ⊢
        first
          | (cases h1; rfl)
          | (cases hv : vs[i]? with
             | some y => simp [hv] at h1 ⊢; exact h1
             | none => simp [hv] at h1)
      | _ => simp [hx] at h1
    | _ => cases hm
  · exact .inr h
/-- each of the first n operations but those of ps is waited for, on the way to n, by operations outside of ps. -/
def sinkX (md : Region.Mode) (ops : Array Oper) (ps : List Nat) (n : Nat) : Bool :=
  (List.range n).all fun i => ps.contains i || (List.range (n + 1)).any fun j => decide (i < j) && !ps.contains j && Region.waitsFor md ops j i
def pureB (ops : Array Oper) (ps : List Nat) : Bool := ps.all fun i => match ops[i]? with
  | some o => moveB o.op
  | none => false
theorem tail_waitsX {ps : List Nat} {n : Nat} {listed : Array Bool} (hs : sinkX md ops ps n = true) (hc : Region.chainB md ops n = true) (hn : n < ops.size) (inv : HeadInv md ops n listed) :
    ∀ (d i : Nat), n - i = d → i < n → i ∉ ps → listed.getD i true = false → ∀ t, n ≤ t → t ∉ Region.ready md ops listed := by
  intro d
  induction d using Nat.strongRecOn with
  | _ d ih =>
    intro i hd hi hip hun t ht hr
    obtain ⟨_, ot, hot, hall⟩ := mem_ready.1 hr
    have htlt : t < ops.size := (Array.getElem?_eq_some_iff.1 hot).1
    by_cases htn : t = n
    · subst htn
      have h1 := List.all_eq_true.1 hs i (List.mem_range.2 hi)
      simp only [Bool.or_eq_true, List.contains_eq_mem, decide_eq_true_eq] at h1
      have h1 := h1.resolve_left hip
      obtain ⟨j, hj, hj2⟩ := List.any_eq_true.1 h1
      simp only [Bool.and_eq_true, decide_eq_true_eq, Bool.not_eq_true', decide_eq_false_iff_not] at hj2
      obtain ⟨oj, hoj, e, he, hb, hon⟩ := Region.waitsFor_spec hj2.2
      have hjle : j ≤ t := by have := List.mem_range.1 hj; omega
      by_cases hjt : j = t
      · subst hjt
        have : oj = ot := Option.some.inj (hoj.symm.trans hot)
        subst this
        have h2 := hall e he hb
        rw [hon, getD_both hun] at h2
        cases h2
      · cases hl : listed.getD j false with
        | true =>
          have h2 := inv.closed j oj hoj hl e he hb
          rw [hon, getD_both hun] at h2
          cases h2
        | false =>
          have hjs : j < listed.size := by rw [inv.size]; omega
          exact ih (t - j) (by omega) j rfl (by omega) hj2.1.2 (getD_in hjs hl) t (Nat.le_refl _) hr
    · have h1 := List.all_eq_true.1 hc t (List.mem_range.2 htlt)
      simp only [Bool.or_eq_true, decide_eq_true_eq] at h1
      rcases h1 with h1 | h1
      · omega
      · obtain ⟨o', ho', e, he, hb, hon⟩ := Region.waitsFor_spec h1
        have : o' = ot := Option.some.inj (ho'.symm.trans hot)
        subst this
        have h2 := hall e he hb
        rw [hon, getD_both (inv.tail (t - 1) (by omega) (by omega))] at h2
        cases h2
/-- no operation from n on is through. -/
def noTail (ops : Array Oper) (n : Nat) (listed : Array Bool) : Prop := ∀ t, n ≤ t → t < ops.size → listed.getD t true = false
theorem noTail_set {n i : Nat} {listed : Array Bool} (hi : i < n) : noTail ops n (listed.setIfInBounds i true) ↔ noTail ops n listed :=
  ⟨fun h t h1 h2 => by have := h t h1 h2; rwa [getD_set_ne true (by omega)] at this, fun h t h1 h2 => by rw [getD_set_ne true (by omega)]; exact h t h1 h2⟩
/-- whatever order is picked; S holds while no operation from n on is through. -/
def wpAnyX (P : Program) (md : Region.Mode) (ops : Array Oper) (Q : Exit → Act → World → Prop) (S : World → Prop) (n : Nat) : Nat → Array Bool → Act → World → Prop
  | 0, listed, a, w => Region.ready md ops listed = [] ∧ Q .normal a w
  | fuel + 1, listed, a, w => (Region.ready md ops listed = [] → Q .normal a w) ∧
      ∀ i ∈ Region.ready md ops listed, wpOp P ops Q i (fun a' w' => (noTail ops n (listed.setIfInBounds i true) → S w') ∧ wpAnyX P md ops Q S n fuel (listed.setIfInBounds i true) a' w') a w
theorem any_of_X {n : Nat} : ∀ (fuel : Nat) (listed : Array Bool) (a : Act) (w : World), wpAnyX P md ops Q S n fuel listed a w → wpAny P md ops Q fuel listed a w
  | 0, _, _, _, h => h
  | fuel + 1, _, _, _, h => ⟨h.1, fun i hi => wpOp_mono (fun a' w' h' => any_of_X fuel _ a' w' h'.2) (h.2 i hi)⟩
/-- an operation that looks at its operand alone may be taken first, whatever may come ahead of it. -/
theorem anyX_pure {n i : Nat} {oi : Oper} {v : Value} (hi : ops[i]? = some oi) (hsel : ∀ (j : Nat) (o : Oper) cs b, ops[j]? = some o → o.op ≠ .select cs b)
    (hQ : ∀ c a w, Q (.panic c) (a.put oi.dst v) w → Q (.panic c) a w) (hin : i < n) :
    ∀ (fuel : Nat) (listed : Array Bool) (a : Act) (w : World),
      (∀ j oj, ops[j]? = some oj → j ≠ i → listed.getD j true = false → (∀ e ∈ oj.after, Region.binds md e = true → e.on ≠ i) → oi.apart ops oj = true) →
      i ∈ Region.ready md ops listed → YieldsIf P ops (fun _ => True) oi v a → (noTail ops n listed → S w) →
      wpAnyX P md ops Q S n fuel (listed.setIfInBounds i true) (a.put oi.dst v) w → wpAnyX P md ops Q S n (fuel + 1) listed a w := by
  intro fuel
  induction fuel with
  | zero =>
    intro listed a w _ hr hy hS H
    refine ⟨fun h => (by rw [h] at hr; cases hr), fun j hj => ?_⟩
    by_cases hji : j = i
    · subst hji; exact hy.wpOp hi trivial ⟨fun h => hS ((noTail_set hin).1 h), H⟩
    · have := ready_mono hj hji
      rw [H.1] at this
      cases this
  | succ fuel ih =>
    intro listed a w hfree hr hy hS H
    have hun := (mem_ready.1 hr).1
    refine ⟨fun h => (by rw [h] at hr; cases hr), fun j hj => ?_⟩
    by_cases hji : j = i
    · subst hji; exact hy.wpOp hi trivial ⟨fun h => hS ((noTail_set hin).1 h), H⟩
    · have h1 := H.2 j (ready_mono hj hji)
      obtain ⟨hjun, oj, hoj, hall⟩ := mem_ready.1 hj
      have hnot : ∀ e ∈ oj.after, Region.binds md e = true → e.on ≠ i := fun e he hb heq => by
        have h1 := hall e he hb
        rw [heq, getD_both hun] at h1
        cases h1
      have h2 := wpOp_putIf hoj (hfree j oj hoj hji hjun hnot) (fun cs b => hsel i oi cs b hi) (fun cs b => hsel j oj cs b hoj) hQ hy h1
      have hfree' : ∀ k ok, ops[k]? = some ok → k ≠ i → (listed.setIfInBounds j true).getD k true = false →
          (∀ e ∈ ok.after, Region.binds md e = true → e.on ≠ i) → oi.apart ops ok = true := fun k ok hk hki hun hno => by
        refine hfree k ok hk hki ?_ hno
        by_cases hjk : j = k
        · subst hjk; exact hjun
        · rw [getD_set_ne true hjk] at hun; exact hun
      refine wpOp_mono (fun a' w' h3 => ?_) h2
      obtain ⟨h3, h4, h5⟩ := h3
      rw [Array.setIfInBounds_comm _ _ (Ne.symm hji)] at h4 h5
      have h4' : noTail ops n (listed.setIfInBounds j true) → S w' := fun h => h4 ((noTail_set hin).2 h)
      exact ⟨h4', ih (listed.setIfInBounds j true) a' w' hfree' (ready_mono hr (Ne.symm hji)) h3 h4' h5⟩
theorem anyX_first {n i : Nat} {oi : Oper} {v : Value} (hi : ops[i]? = some oi) (hsel : ∀ (j : Nat) (o : Oper) cs b, ops[j]? = some o → o.op ≠ .select cs b)
    (hQ : ∀ c a w, Q (.panic c) (a.put oi.dst v) w → Q (.panic c) a w) {ps : List Nat} (hsk : sinkX md ops ps n = true) (hch : Region.chainB md ops n = true) (hn : n < ops.size) (hin : i < n) (hip : i ∉ ps) :
    ∀ (fuel : Nat) (listed : Array Bool) (a : Act) (w : World), HeadInv md ops n listed →
      (∀ j oj, ops[j]? = some oj → j ≠ i → listed.getD j true = false → (∀ e ∈ oj.after, Region.binds md e = true → e.on ≠ i) → oi.apart ops oj = true) →
      i ∈ Region.ready md ops listed → YieldsIf P ops S oi v a → S w →
      wpAnyX P md ops Q S n fuel (listed.setIfInBounds i true) (a.put oi.dst v) w → wpAnyX P md ops Q S n (fuel + 1) listed a w := by
  intro fuel
  induction fuel with
  | zero =>
    intro listed a w inv _ hr hy hS H
    refine ⟨fun h => (by rw [h] at hr; cases hr), fun j hj => ?_⟩
    by_cases hji : j = i
    · subst hji; exact hy.wpOp hi hS ⟨fun _ => hS, H⟩
    · have := ready_mono hj hji
      rw [H.1] at this
      cases this
  | succ fuel ih =>
    intro listed a w inv hfree hr hy hS H
    have hun := (mem_ready.1 hr).1
    refine ⟨fun h => (by rw [h] at hr; cases hr), fun j hj => ?_⟩
    by_cases hji : j = i
    · subst hji; exact hy.wpOp hi hS ⟨fun _ => hS, H⟩
    · have h1 := H.2 j (ready_mono hj hji)
      have hjn : j < n := by
        rcases Nat.lt_or_ge j n with h | h
        · exact h
        · exact absurd hj (tail_waitsX hsk hch hn inv _ i rfl hin hip hun j h)
      obtain ⟨hjun, oj, hoj, hall⟩ := mem_ready.1 hj
      have hnot : ∀ e ∈ oj.after, Region.binds md e = true → e.on ≠ i := fun e he hb heq => by
        have h1 := hall e he hb
        rw [heq, getD_both hun] at h1
        cases h1
      have h2 := wpOp_putIf hoj (hfree j oj hoj hji hjun hnot) (fun cs b => hsel i oi cs b hi) (fun cs b => hsel j oj cs b hoj) hQ hy h1
      have hfree' : ∀ k ok, ops[k]? = some ok → k ≠ i → (listed.setIfInBounds j true).getD k true = false →
          (∀ e ∈ ok.after, Region.binds md e = true → e.on ≠ i) → oi.apart ops ok = true := fun k ok hk hki hun hno => by
        refine hfree k ok hk hki ?_ hno
        by_cases hjk : j = k
        · subst hjk; exact hjun
        · rw [getD_set_ne true hjk] at hun; exact hun
      refine wpOp_mono (fun a' w' h3 => ?_) h2
      obtain ⟨h3, h4, h5⟩ := h3
      rw [Array.setIfInBounds_comm _ _ (Ne.symm hji)] at h4 h5
      have inv' := inv.set hj hjn
      have h4' : S w' := h4 ((noTail_set hin).2 inv'.tail)
      exact ⟨fun _ => h4', ih (listed.setIfInBounds j true) a' w' inv' hfree' (ready_mono hr (Ne.symm hji)) h3 h4' h5⟩

theorem anyX_of_seq {n : Nat} : ∀ (l : List Oper) (k : Nat) (listed : Array Bool) (a : Act) (w : World), n ≤ k → (∀ j, l[j]? = ops[k + j]?) →
    Region.seqB md ops l.length k listed = true → wpList P ops Q l a w → wpAnyX P md ops Q S n l.length listed a w
  | [], _, _, _, _, _, _, hB, h => ⟨by simpa [Region.seqB] using hB, h⟩
  | o :: l, k, listed, a, w, hk, hl, hB, h => by
    have h0 : ops[k]? = some o := by simpa using (hl 0).symm
    simp only [List.length_cons, Region.seqB, Bool.and_eq_true, decide_eq_true_eq] at hB
    refine ⟨fun h1 => (by rw [hB.1] at h1; cases h1), fun i hi => ?_⟩
    rw [hB.1] at hi
    have hik : i = k := by simpa using hi
    subst hik
    have hw : wpOp P ops Q i (wpList P ops Q l) a w := by unfold wpOp; simp only [h0]; exact h
    have hlt : i < ops.size := (Array.getElem?_eq_some_iff.1 h0).1
    refine wpOp_mono (fun a' w' h' => ⟨fun h => ?_, anyX_of_seq l (i + 1) _ a' w' (by omega) (fun j => by have := hl (j + 1); simpa [Nat.add_assoc, Nat.add_comm 1 j] using this) hB.2 h'⟩) hw
    have h1 := h i hk hlt
    rcases Nat.lt_or_ge i listed.size with h9 | h9
    · simp [h9] at h1
    · simp [h9] at h1

theorem seg_takeX (hs : Region.noSelect ops = true) (hQ : ∀ c a d v w, Q (.panic c) (a.put d v) w → Q (.panic c) a w) {n : Nat} {ps : List Nat} (hps : pureB ops ps = true) (hsk : sinkX md ops ps n = true) (hch : Region.chainB md ops n = true) (hn : n < ops.size)
    {A : Act} {w : World} (hS : S w) {fuel : Nat} :
    ∀ (l : List Oper) (k : Nat) (listed : Array Bool) (a : Act), k + l.length ≤ n → HeadInv md ops n listed → (∀ j, j < l.length → l[j]? = ops[k + j]?) → segBH md ops a.tmps.size l k listed = true →
      (∀ w', S w' → wpStill P ops w' (fun a' => a' = A) l a) → wpAnyX P md ops Q S n fuel (past l.length k listed) A w → wpAnyX P md ops Q S n (fuel + l.length) listed a w
  | [], _, _, a, _, _, _, _, h, H => by
    have : a = A := h w hS
    subst this
    exact H
  | o :: l, k, listed, a, hk, inv, hl, hB, h, H => by
    have h0 : ops[k]? = some o := by simpa using (hl 0 (by simp)).symm
    simp only [segBH, Bool.and_eq_true] at hB
    obtain ⟨⟨⟨⟨hc, hd⟩, hr⟩, hf⟩, hB'⟩ := hB
    simp only [List.length_cons] at hk
    have hr' : k ∈ Region.ready md ops listed := by simpa using hr
    cases ho : o.dst with
    | none => rw [ho] at hd; cases hd
    | some d =>
      rw [ho] at hd
      simp only [Bool.and_eq_true, decide_eq_true_eq, Bool.not_eq_true', List.contains_eq_mem, decide_eq_false_iff_not] at hd
      obtain ⟨v, hy, h'⟩ := still_calmH hc ho hd.1 hd.2 h
      have H' := seg_takeX hs hQ hps hsk hch hn hS l (k + 1) _ _ (by omega) (inv.set hr' (by omega)) (fun j hj => by have := hl (j + 1) (by simp; omega); simpa [Nat.add_assoc, Nat.add_comm 1 j] using this) (by rw [put_size]; exact hB') h' H
      by_cases hkp : k ∈ ps
      · have hm : moveB o.op = true := by
          have := List.all_eq_true.1 hps k hkp
          rw [h0] at this
          exact this
        exact anyX_pure h0 (Region.noSelect_spec hs) (fun c a w => hQ c a o.dst v w) (by omega) _ listed a w (Region.free_spec h0 hf) hr' (yields_move hm hS hy) (fun _ => hS) H'
      · exact anyX_first h0 (Region.noSelect_spec hs) (fun c a w => hQ c a o.dst v w) hsk hch hn (by omega) hkp _ listed a w inv (Region.free_spec h0 hf) hr' hy hS H'

theorem plan_anyX (hs : Region.noSelect ops = true) (hQ : ∀ c a d v w, Q (.panic c) (a.put d v) w → Q (.panic c) a w) {sz n : Nat} {ps : List Nat} (hps : pureB ops ps = true) (hsk : sinkX md ops ps n = true) (hch : Region.chainB md ops n = true) (hn : n < ops.size)
    {tl : List Oper} (htl : ∀ j, tl[j]? = ops[n + j]?) :
    ∀ (pl : List Nat) (l : List Oper) (k : Nat) (listed : Array Bool) (a : Act) (w : World), HeadInv md ops n listed → S w → (∀ j, j < l.length → l[j]? = ops[k + j]?) → planBT md ops sz n tl.length pl l k listed = true →
      wpPlanT P ops sz Q S tl pl l a w → wpAnyX P md ops Q S n (tl.length + l.length) listed a w
  | [], l, k, listed, a, w, inv, hS, hl, hB, h => by
    obtain ⟨rfl, hq⟩ := h
    simp only [planBT, Bool.and_eq_true] at hB
    exact anyX_of_seq tl n listed a w (Nat.le_refl _) htl hB.2 hq
  | m :: pl, l, k, listed, a, w, inv, hS, hl, hB, h => by
    obtain ⟨hsz, A, hst, h⟩ := h
    simp only [planBT, Bool.and_eq_true, decide_eq_true_eq] at hB
    obtain ⟨⟨⟨hm, hkm⟩, hseg⟩, hB⟩ := hB
    have hlen : (l.take m).length = m := by simp; omega
    have el : tl.length + l.length = (tl.length + (l.drop m).length) + (l.take m).length := by simp; omega
    rw [el]
    refine seg_takeX hs hQ hps hsk hch hn hS (l.take m) k listed a (by omega) inv (fun j hj => ?_) (hsz ▸ hseg) hst ?_
    · rw [← hl j (by omega), List.getElem?_take_of_lt (by omega)]
    have inv' := seg_inv (l.take m) k listed (by omega) inv hseg
    rw [hlen] at inv' ⊢
    cases hd : l.drop m with
    | nil =>
      rw [hd] at hB h
      simp only [Bool.and_eq_true, decide_eq_true_eq] at hB
      exact anyX_of_seq tl n _ A w (Nat.le_refl _) htl hB.2 h
    | cons o r =>
      rw [hd] at hB h
      simp only [Bool.and_eq_true, beq_iff_eq, decide_eq_true_eq] at hB
      obtain ⟨⟨hkn, hrd⟩, hB⟩ := hB
      have hlm : m < l.length := by
        rcases Nat.lt_or_ge m l.length with h' | h'
        · exact h'
        · rw [List.drop_eq_nil_of_le h'] at hd; cases hd
      have hdl : (l.drop m).length = r.length + 1 := by rw [hd]; rfl
      have ho : ops[k + m]? = some o := by
        rw [← hl m hlm]
        have := List.getElem?_drop (xs := l) (i := m) (j := 0)
        rw [hd, Nat.add_zero] at this
        exact this.symm
      have hr : ∀ j, j < r.length → r[j]? = ops[k + m + 1 + j]? := fun j hj => by
        have := List.getElem?_drop (xs := l) (i := m) (j := j + 1)
        rw [hd, List.getElem?_cons_succ, hl _ (by rw [List.length_drop] at hdl; omega)] at this
        rw [this]
        congr 1
        omega
      have hrm : k + m ∈ Region.ready md ops (past m k listed) := by rw [hrd]; simp
      rw [List.length_cons, ← Nat.add_assoc]
      refine ⟨fun h0 => (by rw [h0] at hrd; cases hrd), fun i hi => ?_⟩
      have hi : i = k + m := by rw [hrd] at hi; simpa using hi
      subst hi
      have ih : ∀ a' w', S w' → wpPlanT P ops sz Q S tl pl r a' w' → wpAnyX P md ops Q S n (tl.length + r.length) ((past m k listed).setIfInBounds (k + m) true) a' w' := fun a' w' hS' h' =>
        plan_anyX hs hQ hps hsk hch hn htl pl r (k + m + 1) _ a' w' (inv'.set hrm hkn) hS' hr hB h'
      unfold wpOp
      simp only [ho]
      split
      · rename_i hw
        simp only [hw, if_true] at h
        exact .inl (Oper.wp_mono (fun a' w' ⟨h1, h2⟩ => ⟨fun _ => h1, ih a' w' h1 h2⟩) h)
      · rename_i hw
        simp only [hw] at h
        exact ⟨fun _ => hS, ih _ _ hS h⟩

def tailBX (md : Region.Mode) (l : List Oper) (sz n : Nat) (ps : List Nat) (plan : List Nat) : Bool :=
  Region.noSelect l.toArray && decide (n < l.length) && pureB l.toArray ps && sinkX md l.toArray ps n && Region.chainB md l.toArray n && planBT md l.toArray sz n (l.length - n) plan (l.take n) 0 (Array.replicate l.length false)
/-- a region that draws its order: the first n operations read and call, what they read stays (S); the others wait for all of them, and stand in one order. -/
theorem region_planX {id : Nat} {a : Act} {w : World} {l : List Oper} (S : World → Prop) (n : Nat) (ps plan : List Nat) (sz : Nat) (hS : S w.drew) (hm : P.follows .mixedOrders = true)
    (hB : tailBX .any l sz n ps plan = true) (hQ : ∀ c a d v w, Q (.panic c) (a.put d v) w → Q (.panic c) a w)
    (h : wpPlanT P l.toArray sz Q S (l.drop n) plan (l.take n) a w.drew) : (Code.region id l.toArray true).wp P Q a w := by
  simp only [tailBX, Bool.and_eq_true, decide_eq_true_eq] at hB
  obtain ⟨⟨⟨⟨⟨hsel, hn⟩, hps⟩, hsk⟩, hch⟩, hB⟩ := hB
  have htl : (l.take n).length = n := by simp; omega
  have hdl : (l.drop n).length = l.length - n := by simp
  have inv0 : HeadInv .any l.toArray n (Array.replicate l.length false) :=
    ⟨by simp, fun j oj _ hl => (by rw [getD_replicate_false] at hl; cases hl), fun t _ ht => getD_in (by simpa using ht) (getD_replicate_false _ _)⟩
  have H := plan_anyX (md := .any) (S := S) hsel hQ hps hsk hch (by simpa using hn) (tl := l.drop n) (fun j => by simp [List.getElem?_drop]) plan (l.take n) 0 (Array.replicate l.length false) a w.drew inv0 hS
    (fun j hj => by have hj' : j < n := by rw [htl] at hj; exact hj
                    simp [hj']) (by rw [hdl]; exact hB) h
  refine wp_region_any hm ?_
  have := any_of_X _ _ _ _ H
  rw [htl, hdl, show l.length - n + n = l.length by omega] at this
  simpa using this
end
end Go.Proofs.YtfbgcednodnioabDoor
