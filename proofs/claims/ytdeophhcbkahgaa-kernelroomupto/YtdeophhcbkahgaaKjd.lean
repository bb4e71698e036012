import Derived.Test.YtdeophhcbkahgaaEsj
import Derived.Test.YtdeophhcbkahgaaKjc
import Derived.Test.YtdeophhcbkahgaaEbo
namespace Go.Proofs.Ytdeophhcbkahgaa
open Go.RowKit
set_option linter.unusedVariables false

section
variable {P : Program} {ops : Array Oper} {Q : Exit → Act → World → Prop} {md : Region.Mode} {S : World → Prop}

def moveB : Op → Bool
  | .move _ => true
  | .extract _ _ => true
  | _ => false
/-- a move looks at nothing but its operand. -/
theorem yields_move {o : Oper} {v : Value} {a : Act} {w : World} (hm : moveB o.op = true) (hS : S w) (hy : YieldsIf P ops S o v a) : YieldsIf P ops (fun _ => True) o v a := by
  rcases hy with ⟨hw, hv⟩ | h
  · refine .inl ⟨hw, fun w' _ => ?_⟩
    have h1 := hv w hS
    obtain ⟨dst, op, ty, pos, af, gd⟩ := o
    cases op with
    | move x =>
      simp only [execOp] at h1 ⊢
      cases h1
      rfl
    | extract x i =>
      simp only [execOp, Instr.extract] at h1 ⊢
      cases hx : a.eval x with
      | tuple vs =>
        simp only [hx] at h1 ⊢
        first
          | (cases h1; rfl)
          | (cases hv : vs[i]? with
             | some y => simp [hv] at h1 ⊢; exact h1
             | none => simp [hv] at h1)
      | _ => simp [hx] at h1
    | _ => cases hm
  · exact .inr h
/-- each of the first n operations but those of ps is waited for, on the way to n, by operations outside of ps. -/
def sinkX (md : Region.Mode) (ops : Array Oper) (ps : List Nat) (n : Nat) : Bool :=
  (List.range n).all fun i => ps.contains i || (List.range (n + 1)).any fun j => decide (i < j) && !ps.contains j && Region.waitsFor md ops j i
def pureB (ops : Array Oper) (ps : List Nat) : Bool := ps.all fun i => match ops[i]? with
  | some o => moveB o.op
  | none => false
theorem tail_waitsX {ps : List Nat} {n : Nat} {listed : Array Bool} (hs : sinkX md ops ps n = true) (hc : Region.chainB md ops n = true) (hn : n < ops.size) (inv : HeadInv md ops n listed) :
    ∀ (d i : Nat), n - i = d → i < n → i ∉ ps → listed.getD i true = false → ∀ t, n ≤ t → t ∉ Region.ready md ops listed := by
  intro d
  induction d using Nat.strongRecOn with
  | _ d ih =>
    intro i hd hi hip hun t ht hr
    obtain ⟨_, ot, hot, hall⟩ := mem_ready.1 hr
    have htlt : t < ops.size := (Array.getElem?_eq_some_iff.1 hot).1
    by_cases htn : t = n
    · subst htn
      have h1 := List.all_eq_true.1 hs i (List.mem_range.2 hi)
      simp only [Bool.or_eq_true, List.contains_eq_mem, decide_eq_true_eq] at h1
      have h1 := h1.resolve_left hip
      obtain ⟨j, hj, hj2⟩ := List.any_eq_true.1 h1
      simp only [Bool.and_eq_true, decide_eq_true_eq, Bool.not_eq_true', decide_eq_false_iff_not] at hj2
      obtain ⟨oj, hoj, e, he, hb, hon⟩ := Region.waitsFor_spec hj2.2
      have hjle : j ≤ t := by have := List.mem_range.1 hj; omega
      by_cases hjt : j = t
      · subst hjt
        have : oj = ot := Option.some.inj (hoj.symm.trans hot)
        subst this
        have h2 := hall e he hb
        rw [hon, getD_both hun] at h2
        cases h2
      · cases hl : listed.getD j false with
        | true =>
          have h2 := inv.closed j oj hoj hl e he hb
          rw [hon, getD_both hun] at h2
          cases h2
        | false =>
          have hjs : j < listed.size := by rw [inv.size]; omega
          exact ih (t - j) (by omega) j rfl (by omega) hj2.1.2 (getD_in hjs hl) t (Nat.le_refl _) hr
    · have h1 := List.all_eq_true.1 hc t (List.mem_range.2 htlt)
      simp only [Bool.or_eq_true, decide_eq_true_eq] at h1
      rcases h1 with h1 | h1
      · omega
      · obtain ⟨o', ho', e, he, hb, hon⟩ := Region.waitsFor_spec h1
        have : o' = ot := Option.some.inj (ho'.symm.trans hot)
        subst this
        have h2 := hall e he hb
        rw [hon, getD_both (inv.tail (t - 1) (by omega) (by omega))] at h2
        cases h2
/-- no operation from n on is through. -/
def noTail (ops : Array Oper) (n : Nat) (listed : Array Bool) : Prop := ∀ t, n ≤ t → t < ops.size → listed.getD t true = false
theorem noTail_set {n i : Nat} {listed : Array Bool} (hi : i < n) : noTail ops n (listed.setIfInBounds i true) ↔ noTail ops n listed :=
  ⟨fun h t h1 h2 => by have := h t h1 h2; rwa [getD_set_ne true (by omega)] at this, fun h t h1 h2 => by rw [getD_set_ne true (by omega)]; exact h t h1 h2⟩
/-- whatever order is picked; S holds while no operation from n on is through. -/
def wpAnyX (P : Program) (md : Region.Mode) (ops : Array Oper) (Q : Exit → Act → World → Prop) (S : World → Prop) (n : Nat) : Nat → Array Bool → Act → World → Prop
  | 0, listed, a, w => Region.ready md ops listed = [] ∧ Q .normal a w
  | fuel + 1, listed, a, w => (Region.ready md ops listed = [] → Q .normal a w) ∧
      ∀ i ∈ Region.ready md ops listed, wpOp P ops Q i (fun a' w' => (noTail ops n (listed.setIfInBounds i true) → S w') ∧ wpAnyX P md ops Q S n fuel (listed.setIfInBounds i true) a' w') a w
theorem any_of_X {n : Nat} : ∀ (fuel : Nat) (listed : Array Bool) (a : Act) (w : World), wpAnyX P md ops Q S n fuel listed a w → wpAny P md ops Q fuel listed a w
  | 0, _, _, _, h => h
  | fuel + 1, _, _, _, h => ⟨h.1, fun i hi => wpOp_mono (fun a' w' h' => any_of_X fuel _ a' w' h'.2) (h.2 i hi)⟩
/-- an operation that looks at its operand alone may be taken first, whatever may come ahead of it. -/
theorem anyX_pure {n i : Nat} {oi : Oper} {v : Value} (hi : ops[i]? = some oi) (hsel : ∀ (j : Nat) (o : Oper) cs b, ops[j]? = some o → o.op ≠ .select cs b)
    (hQ : ∀ c a w, Q (.panic c) (a.put oi.dst v) w → Q (.panic c) a w) (hin : i < n) :
    ∀ (fuel : Nat) (listed : Array Bool) (a : Act) (w : World),
      (∀ j oj, ops[j]? = some oj → j ≠ i → listed.getD j true = false → (∀ e ∈ oj.after, Region.binds md e = true → e.on ≠ i) → oi.apart ops oj = true) →
      i ∈ Region.ready md ops listed → YieldsIf P ops (fun _ => True) oi v a → (noTail ops n listed → S w) →
      wpAnyX P md ops Q S n fuel (listed.setIfInBounds i true) (a.put oi.dst v) w → wpAnyX P md ops Q S n (fuel + 1) listed a w := by
  intro fuel
  induction fuel with
  | zero =>
    intro listed a w _ hr hy hS H
    refine ⟨fun h => (by rw [h] at hr; cases hr), fun j hj => ?_⟩
    by_cases hji : j = i
    · subst hji; exact hy.wpOp hi trivial ⟨fun h => hS ((noTail_set hin).1 h), H⟩
    · have := ready_mono hj hji
      rw [H.1] at this
      cases this
  | succ fuel ih =>
    intro listed a w hfree hr hy hS H
    have hun := (mem_ready.1 hr).1
    refine ⟨fun h => (by rw [h] at hr; cases hr), fun j hj => ?_⟩
    by_cases hji : j = i
    · subst hji; exact hy.wpOp hi trivial ⟨fun h => hS ((noTail_set hin).1 h), H⟩
    · have h1 := H.2 j (ready_mono hj hji)
      obtain ⟨hjun, oj, hoj, hall⟩ := mem_ready.1 hj
      have hnot : ∀ e ∈ oj.after, Region.binds md e = true → e.on ≠ i := fun e he hb heq => by
        have h1 := hall e he hb
        rw [heq, getD_both hun] at h1
        cases h1
      have h2 := wpOp_putIf hoj (hfree j oj hoj hji hjun hnot) (fun cs b => hsel i oi cs b hi) (fun cs b => hsel j oj cs b hoj) hQ hy h1
      have hfree' : ∀ k ok, ops[k]? = some ok → k ≠ i → (listed.setIfInBounds j true).getD k true = false →
          (∀ e ∈ ok.after, Region.binds md e = true → e.on ≠ i) → oi.apart ops ok = true := fun k ok hk hki hun hno => by
        refine hfree k ok hk hki ?_ hno
        by_cases hjk : j = k
        · subst hjk; exact hjun
        · rw [getD_set_ne true hjk] at hun; exact hun
      refine wpOp_mono (fun a' w' h3 => ?_) h2
      obtain ⟨h3, h4, h5⟩ := h3
      rw [Array.setIfInBounds_comm _ _ (Ne.symm hji)] at h4 h5
      have h4' : noTail ops n (listed.setIfInBounds j true) → S w' := fun h => h4 ((noTail_set hin).2 h)
      exact ⟨h4', ih (listed.setIfInBounds j true) a' w' hfree' (ready_mono hr (Ne.symm hji)) h3 h4' h5⟩
theorem anyX_first {n i : Nat} {oi : Oper} {v : Value} (hi : ops[i]? = some oi) (hsel : ∀ (j : Nat) (o : Oper) cs b, ops[j]? = some o → o.op ≠ .select cs b)
    (hQ : ∀ c a w, Q (.panic c) (a.put oi.dst v) w → Q (.panic c) a w) {ps : List Nat} (hsk : sinkX md ops ps n = true) (hch : Region.chainB md ops n = true) (hn : n < ops.size) (hin : i < n) (hip : i ∉ ps) :
    ∀ (fuel : Nat) (listed : Array Bool) (a : Act) (w : World), HeadInv md ops n listed →
      (∀ j oj, ops[j]? = some oj → j ≠ i → listed.getD j true = false → (∀ e ∈ oj.after, Region.binds md e = true → e.on ≠ i) → oi.apart ops oj = true) →
      i ∈ Region.ready md ops listed → YieldsIf P ops S oi v a → S w →
      wpAnyX P md ops Q S n fuel (listed.setIfInBounds i true) (a.put oi.dst v) w → wpAnyX P md ops Q S n (fuel + 1) listed a w := by
  intro fuel
  induction fuel with
  | zero =>
    intro listed a w inv _ hr hy hS H
    refine ⟨fun h => (by rw [h] at hr; cases hr), fun j hj => ?_⟩
    by_cases hji : j = i
    · subst hji; exact hy.wpOp hi hS ⟨fun _ => hS, H⟩
    · have := ready_mono hj hji
      rw [H.1] at this
      cases this
  | succ fuel ih =>
    intro listed a w inv hfree hr hy hS H
    have hun := (mem_ready.1 hr).1
    refine ⟨fun h => (by rw [h] at hr; cases hr), fun j hj => ?_⟩
    by_cases hji : j = i
    · subst hji; exact hy.wpOp hi hS ⟨fun _ => hS, H⟩
    · have h1 := H.2 j (ready_mono hj hji)
      have hjn : j < n := by
        rcases Nat.lt_or_ge j n with h | h
        · exact h
        · exact absurd hj (tail_waitsX hsk hch hn inv _ i rfl hin hip hun j h)
      obtain ⟨hjun, oj, hoj, hall⟩ := mem_ready.1 hj
      have hnot : ∀ e ∈ oj.after, Region.binds md e = true → e.on ≠ i := fun e he hb heq => by
        have h1 := hall e he hb
        rw [heq, getD_both hun] at h1
        cases h1
      have h2 := wpOp_putIf hoj (hfree j oj hoj hji hjun hnot) (fun cs b => hsel i oi cs b hi) (fun cs b => hsel j oj cs b hoj) hQ hy h1
      have hfree' : ∀ k ok, ops[k]? = some ok → k ≠ i → (listed.setIfInBounds j true).getD k true = false →
          (∀ e ∈ ok.after, Region.binds md e = true → e.on ≠ i) → oi.apart ops ok = true := fun k ok hk hki hun hno => by
        refine hfree k ok hk hki ?_ hno
        by_cases hjk : j = k
        · subst hjk; exact hjun
        · rw [getD_set_ne true hjk] at hun; exact hun
      refine wpOp_mono (fun a' w' h3 => ?_) h2
      obtain ⟨h3, h4, h5⟩ := h3
      rw [Array.setIfInBounds_comm _ _ (Ne.symm hji)] at h4 h5
      have inv' := inv.set hj hjn
      have h4' : S w' := h4 ((noTail_set hin).2 inv'.tail)
      exact ⟨fun _ => h4', ih (listed.setIfInBounds j true) a' w' inv' hfree' (ready_mono hr (Ne.symm hji)) h3 h4' h5⟩

theorem anyX_of_seq {n : Nat} : ∀ (l : List Oper) (k : Nat) (listed : Array Bool) (a : Act) (w : World), n ≤ k → (∀ j, l[j]? = ops[k + j]?) →
    Region.seqB md ops l.length k listed = true → wpList P ops Q l a w → wpAnyX P md ops Q S n l.length listed a w
  | [], _, _, _, _, _, _, hB, h => ⟨by simpa [Region.seqB] using hB, h⟩
  | o :: l, k, listed, a, w, hk, hl, hB, h => by
    have h0 : ops[k]? = some o := by simpa using (hl 0).symm
    simp only [List.length_cons, Region.seqB, Bool.and_eq_true, decide_eq_true_eq] at hB
    refine ⟨fun h1 => (by rw [hB.1] at h1; cases h1), fun i hi => ?_⟩
    rw [hB.1] at hi
    have hik : i = k := by simpa using hi
    subst hik
    have hw : wpOp P ops Q i (wpList P ops Q l) a w := by unfold wpOp; simp only [h0]; exact h
    have hlt : i < ops.size := (Array.getElem?_eq_some_iff.1 h0).1
    refine wpOp_mono (fun a' w' h' => ⟨fun h => ?_, anyX_of_seq l (i + 1) _ a' w' (by omega) (fun j => by have := hl (j + 1); simpa [Nat.add_assoc, Nat.add_comm 1 j] using this) hB.2 h'⟩) hw
    have h1 := h i hk hlt
    rcases Nat.lt_or_ge i listed.size with h9 | h9
    · simp [h9] at h1
    · simp [h9] at h1

theorem seg_takeX (hs : Region.noSelect ops = true) (hQ : ∀ c a d v w, Q (.panic c) (a.put d v) w → Q (.panic c) a w) {n : Nat} {ps : List Nat} (hps : pureB ops ps = true) (hsk : sinkX md ops ps n = true) (hch : Region.chainB md ops n = true) (hn : n < ops.size)
    {A : Act} {w : World} (hS : S w) {fuel : Nat} :
    ∀ (l : List Oper) (k : Nat) (listed : Array Bool) (a : Act), k + l.length ≤ n → HeadInv md ops n listed → (∀ j, j < l.length → l[j]? = ops[k + j]?) → segBH md ops a.tmps.size l k listed = true →
      (∀ w', S w' → wpStill P ops w' (fun a' => a' = A) l a) → wpAnyX P md ops Q S n fuel (past l.length k listed) A w → wpAnyX P md ops Q S n (fuel + l.length) listed a w
  | [], _, _, a, _, _, _, _, h, H => by
    have : a = A := h w hS
    subst this
    exact H
  | o :: l, k, listed, a, hk, inv, hl, hB, h, H => by
    have h0 : ops[k]? = some o := by simpa using (hl 0 (by simp)).symm
    simp only [segBH, Bool.and_eq_true] at hB
    obtain ⟨⟨⟨⟨hc, hd⟩, hr⟩, hf⟩, hB'⟩ := hB
    simp only [List.length_cons] at hk
    have hr' : k ∈ Region.ready md ops listed := by simpa using hr
    cases ho : o.dst with
    | none => rw [ho] at hd; cases hd
    | some d =>
      rw [ho] at hd
      simp only [Bool.and_eq_true, decide_eq_true_eq, Bool.not_eq_true', List.contains_eq_mem, decide_eq_false_iff_not] at hd
      obtain ⟨v, hy, h'⟩ := still_calmH hc ho hd.1 hd.2 h
      have H' := seg_takeX hs hQ hps hsk hch hn hS l (k + 1) _ _ (by omega) (inv.set hr' (by omega)) (fun j hj => by have := hl (j + 1) (by simp; omega); simpa [Nat.add_assoc, Nat.add_comm 1 j] using this) (by rw [put_size]; exact hB') h' H
      by_cases hkp : k ∈ ps
      · have hm : moveB o.op = true := by
          have := List.all_eq_true.1 hps k hkp
          rw [h0] at this
          exact this
        exact anyX_pure h0 (Region.noSelect_spec hs) (fun c a w => hQ c a o.dst v w) (by omega) _ listed a w (Region.free_spec h0 hf) hr' (yields_move hm hS hy) (fun _ => hS) H'
      · exact anyX_first h0 (Region.noSelect_spec hs) (fun c a w => hQ c a o.dst v w) hsk hch hn (by omega) hkp _ listed a w inv (Region.free_spec h0 hf) hr' hy hS H'

theorem plan_anyX (hs : Region.noSelect ops = true) (hQ : ∀ c a d v w, Q (.panic c) (a.put d v) w → Q (.panic c) a w) {sz n : Nat} {ps : List Nat} (hps : pureB ops ps = true) (hsk : sinkX md ops ps n = true) (hch : Region.chainB md ops n = true) (hn : n < ops.size)
    {tl : List Oper} (htl : ∀ j, tl[j]? = ops[n + j]?) :
    ∀ (pl : List Nat) (l : List Oper) (k : Nat) (listed : Array Bool) (a : Act) (w : World), HeadInv md ops n listed → S w → (∀ j, j < l.length → l[j]? = ops[k + j]?) → planBT md ops sz n tl.length pl l k listed = true →
      wpPlanT P ops sz Q S tl pl l a w → wpAnyX P md ops Q S n (tl.length + l.length) listed a w
  | [], l, k, listed, a, w, inv, hS, hl, hB, h => by
    obtain ⟨rfl, hq⟩ := h
    simp only [planBT, Bool.and_eq_true] at hB
    exact anyX_of_seq tl n listed a w (Nat.le_refl _) htl hB.2 hq
  | m :: pl, l, k, listed, a, w, inv, hS, hl, hB, h => by
    obtain ⟨hsz, A, hst, h⟩ := h
    simp only [planBT, Bool.and_eq_true, decide_eq_true_eq] at hB
    obtain ⟨⟨⟨hm, hkm⟩, hseg⟩, hB⟩ := hB
    have hlen : (l.take m).length = m := by simp; omega
    have el : tl.length + l.length = (tl.length + (l.drop m).length) + (l.take m).length := by simp; omega
    rw [el]
    refine seg_takeX hs hQ hps hsk hch hn hS (l.take m) k listed a (by omega) inv (fun j hj => ?_) (hsz ▸ hseg) hst ?_
    · rw [← hl j (by omega), List.getElem?_take_of_lt (by omega)]
    have inv' := seg_inv (l.take m) k listed (by omega) inv hseg
    rw [hlen] at inv' ⊢
    cases hd : l.drop m with
    | nil =>
      rw [hd] at hB h
      simp only [Bool.and_eq_true, decide_eq_true_eq] at hB
      exact anyX_of_seq tl n _ A w (Nat.le_refl _) htl hB.2 h
    | cons o r =>
      rw [hd] at hB h
      simp only [Bool.and_eq_true, beq_iff_eq, decide_eq_true_eq] at hB
      obtain ⟨⟨hkn, hrd⟩, hB⟩ := hB
      have hlm : m < l.length := by
        rcases Nat.lt_or_ge m l.length with h' | h'
        · exact h'
        · rw [List.drop_eq_nil_of_le h'] at hd; cases hd
      have hdl : (l.drop m).length = r.length + 1 := by rw [hd]; rfl
      have ho : ops[k + m]? = some o := by
        rw [← hl m hlm]
        have := List.getElem?_drop (xs := l) (i := m) (j := 0)
        rw [hd, Nat.add_zero] at this
        exact this.symm
      have hr : ∀ j, j < r.length → r[j]? = ops[k + m + 1 + j]? := fun j hj => by
        have := List.getElem?_drop (xs := l) (i := m) (j := j + 1)
        rw [hd, List.getElem?_cons_succ, hl _ (by rw [List.length_drop] at hdl; omega)] at this
        rw [this]
        congr 1
        omega
      have hrm : k + m ∈ Region.ready md ops (past m k listed) := by rw [hrd]; simp
      rw [List.length_cons, ← Nat.add_assoc]
      refine ⟨fun h0 => (by rw [h0] at hrd; cases hrd), fun i hi => ?_⟩
      have hi : i = k + m := by rw [hrd] at hi; simpa using hi
      subst hi
      have ih : ∀ a' w', S w' → wpPlanT P ops sz Q S tl pl r a' w' → wpAnyX P md ops Q S n (tl.length + r.length) ((past m k listed).setIfInBounds (k + m) true) a' w' := fun a' w' hS' h' =>
        plan_anyX hs hQ hps hsk hch hn htl pl r (k + m + 1) _ a' w' (inv'.set hrm hkn) hS' hr hB h'
      unfold wpOp
      simp only [ho]
      split
      · rename_i hw
        simp only [hw, if_true] at h
        exact .inl (Oper.wp_mono (fun a' w' ⟨h1, h2⟩ => ⟨fun _ => h1, ih a' w' h1 h2⟩) h)
      · rename_i hw
        simp only [hw] at h
        exact ⟨fun _ => hS, ih _ _ hS h⟩

def tailBX (md : Region.Mode) (l : List Oper) (sz n : Nat) (ps : List Nat) (plan : List Nat) : Bool :=
  Region.noSelect l.toArray && decide (n < l.length) && pureB l.toArray ps && sinkX md l.toArray ps n && Region.chainB md l.toArray n && planBT md l.toArray sz n (l.length - n) plan (l.take n) 0 (Array.replicate l.length false)
/-- a region that draws its order: the first n operations read and call, what they read stays (S); the others wait for all of them, and stand in one order. -/
theorem region_planX {id : Nat} {a : Act} {w : World} {l : List Oper} (S : World → Prop) (n : Nat) (ps plan : List Nat) (sz : Nat) (hS : S w.drew) (hm : P.follows .mixedOrders = true)
    (hB : tailBX .any l sz n ps plan = true) (hQ : ∀ c a d v w, Q (.panic c) (a.put d v) w → Q (.panic c) a w)
    (h : wpPlanT P l.toArray sz Q S (l.drop n) plan (l.take n) a w.drew) : (Code.region id l.toArray true).wp P Q a w := by
  simp only [tailBX, Bool.and_eq_true, decide_eq_true_eq] at hB
  obtain ⟨⟨⟨⟨⟨hsel, hn⟩, hps⟩, hsk⟩, hch⟩, hB⟩ := hB
  have htl : (l.take n).length = n := by simp; omega
  have hdl : (l.drop n).length = l.length - n := by simp
  have inv0 : HeadInv .any l.toArray n (Array.replicate l.length false) :=
    ⟨by simp, fun j oj _ hl => (by rw [getD_replicate_false] at hl; cases hl), fun t _ ht => getD_in (by simpa using ht) (getD_replicate_false _ _)⟩
  have H := plan_anyX (md := .any) (S := S) hsel hQ hps hsk hch (by simpa using hn) (tl := l.drop n) (fun j => by simp [List.getElem?_drop]) plan (l.take n) 0 (Array.replicate l.length false) a w.drew inv0 hS
    (fun j hj => by have hj' : j < n := by rw [htl] at hj; exact hj
                    simp [hj']) (by rw [hdl]; exact hB) h
  refine wp_region_any hm ?_
  have := any_of_X _ _ _ _ H
  rw [htl, hdl, show l.length - n + n = l.length by omega] at this
  simpa using this
end
end Go.Proofs.Ytdeophhcbkahgaa
namespace Go.Proofs.Ytdeophhcbkahgaa
open Go.RowKit Gf2
set_option linter.unusedVariables false

-- layer 9: KernelLives: told (laid by wip/genkvc.py)
/-- lists that are told: the list of them in block gw, not among the blocks from l up to h; each of them outside of both. -/
structure Wt9 (l h : Nat) (w : World) (gw m : Nat) (n : Nat → Nat) (V : Nat → Value) (T : Nat → Nat → Nat) : Prop where
  row : ∃ N F, w.rowIs gw 22 N F ∧ m ≤ N ∧ ∀ i, i < m → F i = V i
  out : ¬ In l h gw
  re : ∀ i, i < m → Re (fun b => In l h b ∨ b = gw) w (V i) (n i) (T i)
section
variable {l h gw m : Nat} {w w' : World} {n : Nat → Nat} {V : Nat → Value} {T : Nat → Nat → Nat}
theorem Wt9.keep (hd : Wt9 l h w gw m n V T) (hk : Ke (In l h) w w') : Wt9 l h w' gw m n V T := by
  obtain ⟨N, F, r1, r2, r3⟩ := hd.row
  exact ⟨⟨N, F, r1.of_block (hk.2 gw r1.lt hd.out), r2, r3⟩, hd.out, fun i hi => (hd.re i hi).ke (hk.mono (fun x _ e => .inl e))⟩
theorem Wt9.below (hd : Wt9 l h w gw m n V T) (hb : Below w.heap.size w w') : Wt9 l h w' gw m n V T := hd.keep (ke_below hb _)
theorem Wt9.cell (hd : Wt9 l h w gw m n V T) {i : Nat} (hi : i < m) : w.cell? ⟨gw, i, none⟩ = some (V i) := by
  obtain ⟨N, F, r1, r2, r3⟩ := hd.row
  rw [r1.cell (by omega), r3 i hi]
theorem Wt9.frozen (hd : Wt9 l h w gw m n V T) (i : Nat) : w.frozen? ⟨gw, i, none⟩ = false := by
  obtain ⟨N, F, r1, r2, r3⟩ := hd.row
  exact r1.frozen i
theorem Wt9.lt (hd : Wt9 l h w gw m n V T) : gw < w.heap.size := by
  obtain ⟨N, F, r1, r2, r3⟩ := hd.row
  exact r1.lt
theorem Wt9.form (hd : Wt9 l h w gw m n V T) {i : Nat} (hi : i < m) : ∃ x c, V i = .slice x (n i) c := by
  obtain ⟨-, -, a, cap, e, -⟩ := hd.re i hi
  exact ⟨a, cap, e⟩
theorem Wt9.set (hd : Wt9 l h w gw m n V T) (t : Nat) {v : Value} {F : Nat → Nat} (hv : Re (fun b => In l h b ∨ b = gw) w v (n t) F) : Wt9 l h (w.setCell ⟨gw, t, none⟩ v) gw m n (upn V t v) (upn T t F) := by
  obtain ⟨N, G, r1, r2, r3⟩ := hd.row
  have k : Ke (fun b => In l h b ∨ b = gw) w (w.setCell ⟨gw, t, none⟩ v) := ((Kp.refl gw w).setCell t v).ke.mono (fun x _ e => .inr e)
  refine ⟨⟨N, _, r1.set t v, r2, fun i hi => ?_⟩, hd.out, fun i hi => ?_⟩
  · unfold upn
    split
    · rfl
    · exact r3 i hi
  · by_cases e : i = t
    · subst e; rw [upn_same, upn_same]; exact hv.ke k
    · rw [upn_other _ _ e, upn_other _ _ e]; exact (hd.re i hi).ke k
theorem Wt9.congr (hd : Wt9 l h w gw m n V T) {T' : Nat → Nat → Nat} (e : ∀ i, i < m → ∀ j, j < n i → T i j = T' i j) : Wt9 l h w gw m n V T' := ⟨hd.row, hd.out, fun i hi => (hd.re i hi).congr (e i hi)⟩
theorem Wt9.lb (hd : Wt9 l h w gw m n V T) (h0 : 0 < m) {c : Nat} (h1 : m ≤ c) (h2 : c ≤ big) : Lb w (.slice (some ⟨gw, 0, none⟩) m c) m n T :=
  ⟨V, ⟨by omega, _, _, rfl, h1, h2, fun _ => ⟨gw, 0, rfl, ⟨hd.lt, fun e => e⟩, fun i hi => by rw [Nat.zero_add]; exact hd.cell hi⟩⟩, fun i hi => (hd.re i hi).mono (fun _ _ e => e.elim)⟩
theorem own8_re {g C k : Nat} {F : Nat → Nat} (h : Own8 w w' g C k F) {E : Nat → Prop} (hE : ¬ E g) : Re E w' (.slice (some ⟨g, 0, none⟩) k C) k F := by
  obtain ⟨h1, h2, h3, G, h4, h5⟩ := h
  exact (h4.re h1 h1 h4.1 hE).congr h5
theorem refMul9_all (c n m : Nat) (add : Bool) (u v : Value) (D S : Nat → Nat) (w : World) (hc : c < 256) (hu : Rb w u n D) (hv : Rb w v m S) (hn : n ≤ 140737488351232) :
    Calls Try.prog 37 #[.int .u8 (c : Int), u, v, .bool add] w fun e w' => ∃ g C, e = .returned (.tuple #[.slice (some ⟨g, 0, none⟩) n C, .int .i64 (er9 n m : Nat)]) ∧ Own8 w w' g C n (vl9 n m D (mz add c D S)) := by
  by_cases e : n = m
  · subst e
    refine (refMul9_any c n add u v D S w hc hu hv hn).mono ?_
    rintro e w' ⟨g, C, rfl, h⟩
    refine ⟨g, C, by unfold er9; rw [if_pos rfl]; rfl, ?_⟩
    have e : vl9 n n D (mz add c D S) = mz add c D S := by funext j; unfold vl9; rw [if_pos rfl]
    rw [e]; exact h
  · refine (refMul9_lens c n m add u v D S w hu hv hn e).mono ?_
    rintro e' w' ⟨g, C, rfl, h⟩
    refine ⟨g, C, by unfold er9; rw [if_neg e]; rfl, ?_⟩
    have e : vl9 n m D (mz add c D S) = D := by funext j; unfold vl9; rw [if_neg e]
    rw [e]; exact h
theorem refDot9_all (row srcs dst : Value) (k L : Nat) (n : Nat → Nat) (R D : Nat → Nat) (S : Nat → Nat → Nat) (w : World) (h : Rb w row k R) (hs : Lb w srcs k n S) (hd : Rb w dst L D) (hL : L ≤ 140737488351232) (hk : k ≤ 140737488351232) :
    Calls Try.prog 38 #[row, srcs, dst] w fun e w' => ∃ g C, e = .returned (.tuple #[.slice (some ⟨g, 0, none⟩) L C, .int .i64 (de9 k k L n : Nat)]) ∧ Own8 w w' g C L (dv9 k k L n R D S) := by
  refine (refDot9_any row srcs dst k L n R D S w h hs hd hL hk).mono ?_
  rintro e w' ⟨h1, h2⟩
  by_cases e : ∀ i, i < k → n i = L
  · obtain ⟨g, C, rfl, ho⟩ := h1 e
    have e0 : de9 k k L n = 0 := by unfold de9; rw [if_pos ⟨rfl, e⟩]
    have e1 : dv9 k k L n R D S = ks R S k := by funext j; unfold dv9; rw [if_pos e0]
    exact ⟨g, C, by rw [e0]; rfl, by rw [e1]; exact ho⟩
  · obtain ⟨g, C, rfl, ho⟩ := h2 e
    have e0 : de9 k k L n = 6 := by unfold de9; rw [if_neg (fun h => e h.2)]
    have e1 : dv9 k k L n R D S = D := by funext j; unfold dv9; rw [if_neg (by rw [e0]; decide)]
    exact ⟨g, C, by rw [e0]; rfl, by rw [e1]; exact ho⟩
end

theorem fm_one8 {x : Nat} (h : x < 256) : fm 285 1 x = x := by
  have h2 : ∀ y : Fin 256, fm 285 1 y.1 = y.1 := by decide +kernel
  exact h2 ⟨x, h⟩

set_option maxHeartbeats 4000000 in
set_option maxRecDepth 100000 in
theorem told9_0 (l h m gw cw : Nat) (n : Nat → Nat) (V : Nat → Value) (T : Nat → Nat → Nat) (c : Nat) (kto kfo : Int) (vr : Value) (nr : Nat) (R : Nat → Nat) (fr tt : Int) (to fo : Nat) (w : World) (hd : Wt9 l h w gw m n V T) (hh : h ≤ w.heap.size) (hr : Rb w vr nr R) (hc : c < 256) (ht : to < m) (hf : fo < m) (hnr : nr ≤ 140737488351232) (hm : 24 * m ≤ 140737488351232) (hn : ∀ i, i < m → n i ≤ 140737488351232) (hcw : m ≤ cw ∧ cw ≤ big) :
    Calls Try.prog 21 #[.agg (cz9 0 c kto kfo vr fr tt), .slice (some ⟨gw, 0, none⟩) m cw, .int .i64 (to : Int), .int .i64 (fo : Int)] w fun e w' => e = .returned (.int .i64 (er9 (n to) (n fo) : Nat)) ∧ Ke (fun b => b = gw) w w' ∧ ∃ V', Wt9 l h w' gw m n V' (upn T to (vl9 (n to) (n fo) (T to) (fun j => fm 285 c (T fo j)))) := by
  have bX : Below w.heap.size w (w.alloc (.cells (cz9 0 c kto kfo vr fr tt) 55)) := (Below.refl _ _).alloc (Nat.le_refl _) _
  have hX : Box9 (w.alloc (.cells (cz9 0 c kto kfo vr fr tt) 55)) w.heap.size (cz9 0 c kto kfo vr fr tt) 55 := Box9.new _ _ _
  have y0 := hX.cell (i := 0) (v := .int .i64 (0)) rfl
  have y1 := hX.cell (i := 1) (v := .int .u8 (c : Int)) rfl
  have y4 := hX.cell (i := 4) (v := vr) rfl
  have y5 := hX.cell (i := 5) (v := .int .i64 fr) rfl
  have y6 := hX.cell (i := 6) (v := .int .i64 tt) rfl
  generalize cz9 0 c kto kfo vr fr tt = A at bX hX y0 y1 y4 y5 y6 ⊢
  have HX : Hid (Below w.heap.size w (w.alloc (.cells A 55)) ∧ Box9 (w.alloc (.cells A 55)) w.heap.size A 55) := ⟨bX, hX⟩
  have itm : ((to : Nat) : Int) < (m : Int) := by omega
  have ifm : ((fo : Nat) : Int) < (m : Int) := by omega
  obtain ⟨xt, ct, et⟩ := hd.form ht
  obtain ⟨xf, cf, ef⟩ := hd.form hf

  have cC := refMul9_all c (n to) (n fo) false (V to) (V fo) (T to) (T fo) (w.alloc (.cells A 55)).drew hc ((hd.below bX.drew).re to ht).rb ((hd.below bX.drew).re fo hf).rb (hn to ht)
  have HL : Hid (∀ j, j < n fo → T fo j < 256) := (hd.re fo hf).2.1
  have z1 := (hd.below bX).cell ht
  have z2 := (hd.below bX).cell hf
  have HD : Hid (Wt9 l h (w.alloc (.cells A 55)).drew gw m n V T) := hd.below bX.drew
  have HH : Hid (h ≤ w.heap.size ∧ gw < w.heap.size) := ⟨hh, hd.lt⟩
  rw [et] at z1
  rw [ef] at z2
  rw [et, ef] at cC
  clear hd hr bX hX y4 y5 y6 et ef
  go_enter Try.func21, Try.ntmps21
  go_wp2
  generalize w.alloc (.cells A 55) = x0 at HX y0 y1 z1 z2 cC HD ⊢
  have HY1 : Hid (x0.cell? ⟨w.heap.size, 1, none⟩ = some (.int .u8 (c : Int)) ∧ x0.cell? ⟨gw, to, none⟩ = some (.slice xt (n to) ct) ∧ x0.cell? ⟨gw, fo, none⟩ = some (.slice xf (n fo) cf)) := ⟨y1, z1, z2⟩
  refine region_planX (fun w' => w'.cell? ⟨gw, to, none⟩ = some (.slice xt (n to) ct) ∧ w'.cell? ⟨gw, fo, none⟩ = some (.slice xf (n fo) cf) ∧ w'.cell? ⟨w.heap.size, 1, none⟩ = some (.int .u8 (c : Int))) 17 [15] [12, 4] 144 ⟨z1, z2, y1⟩ (by kernel_rfl) (by kernel_rfl) (fun _ a d v _ h => by cases d <;> exact h) ?_
  clear y0 y1 z1 z2
  refine planT_step ?A1 rfl (fun w' hS => ?s1) rfl (fun K hK => ?n1)
  case s1 =>
    obtain ⟨z1, z2, y1⟩ := hS
    simp only [List.take_succ_cons, List.take_zero]
    repeat still_step
    exact rfl
  case n1 =>
  go_simp
  go_wp2_with (go_at_call 37; (with_reducible refine cC.mono ?_); rintro e x1 ⟨g1, C1, rfl, ho⟩)
  clear cC
  have b1 : Below x0.heap.size x0 x1 := ho.2.2.1.undraw
  have hg1 : x0.heap.size ≤ g1 := ho.2.1
  have hxs := HX.out.1.size
  have hW := (HD.out.below ho.2.2.1).set to (v := .slice (some ⟨g1, 0, none⟩) (n to) C1) (own8_re ho (fun e => by
    have h1 := HH.out.1
    have h2 := HH.out.2
    rcases e with e | e
    · have := e.2; omega
    · omega))
  have HW : Hid (Ke (fun b => b = gw) w (x1.setCell ⟨gw, to, none⟩ (.slice (some ⟨g1, 0, none⟩) (n to) C1)) ∧ Wt9 l h (x1.setCell ⟨gw, to, none⟩ (.slice (some ⟨g1, 0, none⟩) (n to) C1)) gw m n (upn V to (.slice (some ⟨g1, 0, none⟩) (n to) C1)) (upn T to (vl9 (n to) (n fo) (T to) (fun j => fm 285 c (T fo j))))) := by
    refine ⟨((ke_below HX.out.1 _).trans (ke_below b1 _)).trans ((Kp.refl gw x1).setCell to _).ke, hW.congr (fun i hi j hj => ?_)⟩
    by_cases e : i = to
    · subst e
      rw [upn_same, upn_same]
      unfold vl9
      split
      · next e2 =>
        unfold mz
        rfl
      · rfl
    · rw [upn_other _ _ e, upn_other _ _ e]
  have q1 := (b1.cell (p := ⟨w.heap.size, 1, none⟩) HX.out.2.lt).trans HY1.out.1
  have q2 := (b1.cell (p := ⟨gw, to, none⟩) (Nat.lt_of_lt_of_le HH.out.2 hxs)).trans HY1.out.2.1
  have q3 := (b1.cell (p := ⟨gw, fo, none⟩) (Nat.lt_of_lt_of_le HH.out.2 hxs)).trans HY1.out.2.2
  have z1 : x1.cell? ⟨gw, to, none⟩ = some (.slice xt (n to) ct) := q2
  have f1 := (HD.out.below ho.2.2.1).frozen to
  refine hK _ _ ⟨q2, q3, q1⟩ ?_
  clear hK K ho b1 hg1 hxs hW q1 q2 q3 HD HY1
  refine planT_last ?A2 rfl (fun w' hS => ?s2) rfl ?n2
  case s2 =>
    simp only [List.take_succ_cons, List.take_zero]
    repeat still_step
    exact rfl
  case n2 =>
  simp only [List.drop_succ_cons, List.drop_zero]
  go_wp2
  go_ret
  exact ⟨rfl, HW.out.1, _, HW.out.2⟩
set_option maxHeartbeats 4000000 in
set_option maxRecDepth 100000 in
theorem told9_1 (l h m gw cw : Nat) (n : Nat → Nat) (V : Nat → Value) (T : Nat → Nat → Nat) (c : Nat) (kto kfo : Int) (vr : Value) (nr : Nat) (R : Nat → Nat) (fr tt : Int) (to fo : Nat) (w : World) (hd : Wt9 l h w gw m n V T) (hh : h ≤ w.heap.size) (hr : Rb w vr nr R) (hc : c < 256) (ht : to < m) (hf : fo < m) (hnr : nr ≤ 140737488351232) (hm : 24 * m ≤ 140737488351232) (hn : ∀ i, i < m → n i ≤ 140737488351232) (hcw : m ≤ cw ∧ cw ≤ big) :
    Calls Try.prog 21 #[.agg (cz9 1 c kto kfo vr fr tt), .slice (some ⟨gw, 0, none⟩) m cw, .int .i64 (to : Int), .int .i64 (fo : Int)] w fun e w' => e = .returned (.int .i64 (er9 (n to) (n fo) : Nat)) ∧ Ke (fun b => b = gw) w w' ∧ ∃ V', Wt9 l h w' gw m n V' (upn T to (vl9 (n to) (n fo) (T to) (fun j => fm 285 c (T fo j) ^^^ T to j))) := by
  have bX : Below w.heap.size w (w.alloc (.cells (cz9 1 c kto kfo vr fr tt) 55)) := (Below.refl _ _).alloc (Nat.le_refl _) _
  have hX : Box9 (w.alloc (.cells (cz9 1 c kto kfo vr fr tt) 55)) w.heap.size (cz9 1 c kto kfo vr fr tt) 55 := Box9.new _ _ _
  have y0 := hX.cell (i := 0) (v := .int .i64 (1)) rfl
  have y1 := hX.cell (i := 1) (v := .int .u8 (c : Int)) rfl
  have y4 := hX.cell (i := 4) (v := vr) rfl
  have y5 := hX.cell (i := 5) (v := .int .i64 fr) rfl
  have y6 := hX.cell (i := 6) (v := .int .i64 tt) rfl
  generalize cz9 1 c kto kfo vr fr tt = A at bX hX y0 y1 y4 y5 y6 ⊢
  have HX : Hid (Below w.heap.size w (w.alloc (.cells A 55)) ∧ Box9 (w.alloc (.cells A 55)) w.heap.size A 55) := ⟨bX, hX⟩
  have itm : ((to : Nat) : Int) < (m : Int) := by omega
  have ifm : ((fo : Nat) : Int) < (m : Int) := by omega
  obtain ⟨xt, ct, et⟩ := hd.form ht
  obtain ⟨xf, cf, ef⟩ := hd.form hf

  have cC := refMul9_all c (n to) (n fo) true (V to) (V fo) (T to) (T fo) (w.alloc (.cells A 55)).drew hc ((hd.below bX.drew).re to ht).rb ((hd.below bX.drew).re fo hf).rb (hn to ht)
  have HL : Hid (∀ j, j < n fo → T fo j < 256) := (hd.re fo hf).2.1
  have z1 := (hd.below bX).cell ht
  have z2 := (hd.below bX).cell hf
  have HD : Hid (Wt9 l h (w.alloc (.cells A 55)).drew gw m n V T) := hd.below bX.drew
  have HH : Hid (h ≤ w.heap.size ∧ gw < w.heap.size) := ⟨hh, hd.lt⟩
  rw [et] at z1
  rw [ef] at z2
  rw [et, ef] at cC
  clear hd hr bX hX y4 y5 y6 et ef
  go_enter Try.func21, Try.ntmps21
  go_wp2
  generalize w.alloc (.cells A 55) = x0 at HX y0 y1 z1 z2 cC HD ⊢
  have HY1 : Hid (x0.cell? ⟨w.heap.size, 1, none⟩ = some (.int .u8 (c : Int)) ∧ x0.cell? ⟨gw, to, none⟩ = some (.slice xt (n to) ct) ∧ x0.cell? ⟨gw, fo, none⟩ = some (.slice xf (n fo) cf)) := ⟨y1, z1, z2⟩
  refine region_planX (fun w' => w'.cell? ⟨gw, to, none⟩ = some (.slice xt (n to) ct) ∧ w'.cell? ⟨gw, fo, none⟩ = some (.slice xf (n fo) cf) ∧ w'.cell? ⟨w.heap.size, 1, none⟩ = some (.int .u8 (c : Int))) 17 [15] [12, 4] 144 ⟨z1, z2, y1⟩ (by kernel_rfl) (by kernel_rfl) (fun _ a d v _ h => by cases d <;> exact h) ?_
  clear y0 y1 z1 z2
  refine planT_step ?A1 rfl (fun w' hS => ?s1) rfl (fun K hK => ?n1)
  case s1 =>
    obtain ⟨z1, z2, y1⟩ := hS
    simp only [List.take_succ_cons, List.take_zero]
    repeat still_step
    exact rfl
  case n1 =>
  go_simp
  go_wp2_with (go_at_call 37; (with_reducible refine cC.mono ?_); rintro e x1 ⟨g1, C1, rfl, ho⟩)
  clear cC
  have b1 : Below x0.heap.size x0 x1 := ho.2.2.1.undraw
  have hg1 : x0.heap.size ≤ g1 := ho.2.1
  have hxs := HX.out.1.size
  have hW := (HD.out.below ho.2.2.1).set to (v := .slice (some ⟨g1, 0, none⟩) (n to) C1) (own8_re ho (fun e => by
    have h1 := HH.out.1
    have h2 := HH.out.2
    rcases e with e | e
    · have := e.2; omega
    · omega))
  have HW : Hid (Ke (fun b => b = gw) w (x1.setCell ⟨gw, to, none⟩ (.slice (some ⟨g1, 0, none⟩) (n to) C1)) ∧ Wt9 l h (x1.setCell ⟨gw, to, none⟩ (.slice (some ⟨g1, 0, none⟩) (n to) C1)) gw m n (upn V to (.slice (some ⟨g1, 0, none⟩) (n to) C1)) (upn T to (vl9 (n to) (n fo) (T to) (fun j => fm 285 c (T fo j) ^^^ T to j)))) := by
    refine ⟨((ke_below HX.out.1 _).trans (ke_below b1 _)).trans ((Kp.refl gw x1).setCell to _).ke, hW.congr (fun i hi j hj => ?_)⟩
    by_cases e : i = to
    · subst e
      rw [upn_same, upn_same]
      unfold vl9
      split
      · next e2 =>
        unfold mz
        rfl
      · rfl
    · rw [upn_other _ _ e, upn_other _ _ e]
  have q1 := (b1.cell (p := ⟨w.heap.size, 1, none⟩) HX.out.2.lt).trans HY1.out.1
  have q2 := (b1.cell (p := ⟨gw, to, none⟩) (Nat.lt_of_lt_of_le HH.out.2 hxs)).trans HY1.out.2.1
  have q3 := (b1.cell (p := ⟨gw, fo, none⟩) (Nat.lt_of_lt_of_le HH.out.2 hxs)).trans HY1.out.2.2
  have z1 : x1.cell? ⟨gw, to, none⟩ = some (.slice xt (n to) ct) := q2
  have f1 := (HD.out.below ho.2.2.1).frozen to
  refine hK _ _ ⟨q2, q3, q1⟩ ?_
  clear hK K ho b1 hg1 hxs hW q1 q2 q3 HD HY1
  refine planT_last ?A2 rfl (fun w' hS => ?s2) rfl ?n2
  case s2 =>
    simp only [List.take_succ_cons, List.take_zero]
    repeat still_step
    exact rfl
  case n2 =>
  simp only [List.drop_succ_cons, List.drop_zero]
  go_wp2
  go_ret
  exact ⟨rfl, HW.out.1, _, HW.out.2⟩
set_option maxHeartbeats 4000000 in
set_option maxRecDepth 100000 in
theorem told9_2 (l h m gw cw : Nat) (n : Nat → Nat) (V : Nat → Value) (T : Nat → Nat → Nat) (c : Nat) (kto kfo : Int) (vr : Value) (nr : Nat) (R : Nat → Nat) (fr tt : Int) (to fo : Nat) (w : World) (hd : Wt9 l h w gw m n V T) (hh : h ≤ w.heap.size) (hr : Rb w vr nr R) (hc : c < 256) (ht : to < m) (hf : fo < m) (hnr : nr ≤ 140737488351232) (hm : 24 * m ≤ 140737488351232) (hn : ∀ i, i < m → n i ≤ 140737488351232) (hcw : m ≤ cw ∧ cw ≤ big) :
    Calls Try.prog 21 #[.agg (cz9 2 c kto kfo vr fr tt), .slice (some ⟨gw, 0, none⟩) m cw, .int .i64 (to : Int), .int .i64 (fo : Int)] w fun e w' => e = .returned (.int .i64 (er9 (n to) (n fo) : Nat)) ∧ Ke (fun b => b = gw) w w' ∧ ∃ V', Wt9 l h w' gw m n V' (upn T to (vl9 (n to) (n fo) (T to) (fun j => T fo j ^^^ T to j))) := by
  have bX : Below w.heap.size w (w.alloc (.cells (cz9 2 c kto kfo vr fr tt) 55)) := (Below.refl _ _).alloc (Nat.le_refl _) _
  have hX : Box9 (w.alloc (.cells (cz9 2 c kto kfo vr fr tt) 55)) w.heap.size (cz9 2 c kto kfo vr fr tt) 55 := Box9.new _ _ _
  have y0 := hX.cell (i := 0) (v := .int .i64 (2)) rfl
  have y1 := hX.cell (i := 1) (v := .int .u8 (c : Int)) rfl
  have y4 := hX.cell (i := 4) (v := vr) rfl
  have y5 := hX.cell (i := 5) (v := .int .i64 fr) rfl
  have y6 := hX.cell (i := 6) (v := .int .i64 tt) rfl
  generalize cz9 2 c kto kfo vr fr tt = A at bX hX y0 y1 y4 y5 y6 ⊢
  have HX : Hid (Below w.heap.size w (w.alloc (.cells A 55)) ∧ Box9 (w.alloc (.cells A 55)) w.heap.size A 55) := ⟨bX, hX⟩
  have itm : ((to : Nat) : Int) < (m : Int) := by omega
  have ifm : ((fo : Nat) : Int) < (m : Int) := by omega
  obtain ⟨xt, ct, et⟩ := hd.form ht
  obtain ⟨xf, cf, ef⟩ := hd.form hf

  have cC := refMul9_all 1 (n to) (n fo) true (V to) (V fo) (T to) (T fo) (w.alloc (.cells A 55)).drew (by decide) ((hd.below bX.drew).re to ht).rb ((hd.below bX.drew).re fo hf).rb (hn to ht)
  have HL : Hid (∀ j, j < n fo → T fo j < 256) := (hd.re fo hf).2.1
  have z1 := (hd.below bX).cell ht
  have z2 := (hd.below bX).cell hf
  have HD : Hid (Wt9 l h (w.alloc (.cells A 55)).drew gw m n V T) := hd.below bX.drew
  have HH : Hid (h ≤ w.heap.size ∧ gw < w.heap.size) := ⟨hh, hd.lt⟩
  rw [et] at z1
  rw [ef] at z2
  rw [et, ef] at cC
  clear hd hr bX hX y4 y5 y6 et ef
  rw [show ((1 : Nat) : Int) = 1 from rfl] at cC
  go_enter Try.func21, Try.ntmps21
  go_wp2
  generalize w.alloc (.cells A 55) = x0 at HX y0 y1 z1 z2 cC HD ⊢
  have HY1 : Hid (x0.cell? ⟨w.heap.size, 1, none⟩ = some (.int .u8 (c : Int)) ∧ x0.cell? ⟨gw, to, none⟩ = some (.slice xt (n to) ct) ∧ x0.cell? ⟨gw, fo, none⟩ = some (.slice xf (n fo) cf)) := ⟨y1, z1, z2⟩
  refine region_planX (fun w' => w'.cell? ⟨gw, to, none⟩ = some (.slice xt (n to) ct) ∧ w'.cell? ⟨gw, fo, none⟩ = some (.slice xf (n fo) cf) ∧ w'.cell? ⟨w.heap.size, 1, none⟩ = some (.int .u8 (c : Int))) 15 [13] [10, 4] 144 ⟨z1, z2, y1⟩ (by kernel_rfl) (by kernel_rfl) (fun _ a d v _ h => by cases d <;> exact h) ?_
  clear y0 y1 z1 z2
  refine planT_step ?A1 rfl (fun w' hS => ?s1) rfl (fun K hK => ?n1)
  case s1 =>
    obtain ⟨z1, z2, y1⟩ := hS
    simp only [List.take_succ_cons, List.take_zero]
    repeat still_step
    exact rfl
  case n1 =>
  go_simp
  go_wp2_with (go_at_call 37; (with_reducible refine cC.mono ?_); rintro e x1 ⟨g1, C1, rfl, ho⟩)
  clear cC
  have b1 : Below x0.heap.size x0 x1 := ho.2.2.1.undraw
  have hg1 : x0.heap.size ≤ g1 := ho.2.1
  have hxs := HX.out.1.size
  have hW := (HD.out.below ho.2.2.1).set to (v := .slice (some ⟨g1, 0, none⟩) (n to) C1) (own8_re ho (fun e => by
    have h1 := HH.out.1
    have h2 := HH.out.2
    rcases e with e | e
    · have := e.2; omega
    · omega))
  have HW : Hid (Ke (fun b => b = gw) w (x1.setCell ⟨gw, to, none⟩ (.slice (some ⟨g1, 0, none⟩) (n to) C1)) ∧ Wt9 l h (x1.setCell ⟨gw, to, none⟩ (.slice (some ⟨g1, 0, none⟩) (n to) C1)) gw m n (upn V to (.slice (some ⟨g1, 0, none⟩) (n to) C1)) (upn T to (vl9 (n to) (n fo) (T to) (fun j => T fo j ^^^ T to j)))) := by
    refine ⟨((ke_below HX.out.1 _).trans (ke_below b1 _)).trans ((Kp.refl gw x1).setCell to _).ke, hW.congr (fun i hi j hj => ?_)⟩
    by_cases e : i = to
    · subst e
      rw [upn_same, upn_same]
      unfold vl9
      split
      · next e2 =>
        unfold mz
        show fm 285 1 (T fo j) ^^^ T i j = _; rw [fm_one8 (HL.out j (e2 ▸ hj))]
      · rfl
    · rw [upn_other _ _ e, upn_other _ _ e]
  have q1 := (b1.cell (p := ⟨w.heap.size, 1, none⟩) HX.out.2.lt).trans HY1.out.1
  have q2 := (b1.cell (p := ⟨gw, to, none⟩) (Nat.lt_of_lt_of_le HH.out.2 hxs)).trans HY1.out.2.1
  have q3 := (b1.cell (p := ⟨gw, fo, none⟩) (Nat.lt_of_lt_of_le HH.out.2 hxs)).trans HY1.out.2.2
  have z1 : x1.cell? ⟨gw, to, none⟩ = some (.slice xt (n to) ct) := q2
  have f1 := (HD.out.below ho.2.2.1).frozen to
  refine hK _ _ ⟨q2, q3, q1⟩ ?_
  clear hK K ho b1 hg1 hxs hW q1 q2 q3 HD HY1
  refine planT_last ?A2 rfl (fun w' hS => ?s2) rfl ?n2
  case s2 =>
    simp only [List.take_succ_cons, List.take_zero]
    repeat still_step
    exact rfl
  case n2 =>
  simp only [List.drop_succ_cons, List.drop_zero]
  go_wp2
  go_ret
  exact ⟨rfl, HW.out.1, _, HW.out.2⟩
set_option maxHeartbeats 4000000 in
set_option maxRecDepth 100000 in
theorem told9_3 (l h m gw cw : Nat) (n : Nat → Nat) (V : Nat → Value) (T : Nat → Nat → Nat) (c : Nat) (kto kfo : Int) (vr : Value) (nr : Nat) (R : Nat → Nat) (fr tt : Int) (to fo : Nat) (w : World) (hd : Wt9 l h w gw m n V T) (hh : h ≤ w.heap.size) (hr : Rb w vr nr R) (hc : c < 256) (ht : to < m) (hf : fo < m) (hnr : nr ≤ 140737488351232) (hm : 24 * m ≤ 140737488351232) (hn : ∀ i, i < m → n i ≤ 140737488351232) (hcw : m ≤ cw ∧ cw ≤ big) :
    Calls Try.prog 21 #[.agg (cz9 3 c kto kfo vr fr tt), .slice (some ⟨gw, 0, none⟩) m cw, .int .i64 (to : Int), .int .i64 (fo : Int)] w fun e w' => e = .returned (.int .i64 (de9 (m - 1) (m - 1) (n to) (fun i => n (oth to i)) : Nat)) ∧ Ke (fun b => b = gw) w w' ∧ ∃ V', Wt9 l h w' gw m n V' (upn T to (dv9 (m - 1) (m - 1) (n to) (fun i => n (oth to i)) (fun i => at9 nr R (oth to i)) (T to) (fun i => T (oth to i)))) := by
  have bX : Below w.heap.size w (w.alloc (.cells (cz9 3 c kto kfo vr fr tt) 55)) := (Below.refl _ _).alloc (Nat.le_refl _) _
  have hX : Box9 (w.alloc (.cells (cz9 3 c kto kfo vr fr tt) 55)) w.heap.size (cz9 3 c kto kfo vr fr tt) 55 := Box9.new _ _ _
  have y0 := hX.cell (i := 0) (v := .int .i64 (3)) rfl
  have y1 := hX.cell (i := 1) (v := .int .u8 (c : Int)) rfl
  have y4 := hX.cell (i := 4) (v := vr) rfl
  have y5 := hX.cell (i := 5) (v := .int .i64 fr) rfl
  have y6 := hX.cell (i := 6) (v := .int .i64 tt) rfl
  generalize cz9 3 c kto kfo vr fr tt = A at bX hX y0 y1 y4 y5 y6 ⊢
  have HX : Hid (Below w.heap.size w (w.alloc (.cells A 55)) ∧ Box9 (w.alloc (.cells A 55)) w.heap.size A 55) := ⟨bX, hX⟩
  have itm : ((to : Nat) : Int) < (m : Int) := by omega
  have ifm : ((fo : Nat) : Int) < (m : Int) := by omega
  obtain ⟨xt, ct, et⟩ := hd.form ht
  obtain ⟨xf, cf, ef⟩ := hd.form hf

  have HD : Hid (Wt9 l h (w.alloc (.cells A 55)) gw m n V T ∧ (∀ i, i < nr → R i < 256) ∧ 24 * m ≤ 140737488351232 ∧ h ≤ w.heap.size ∧ gw < w.heap.size ∧ (∀ i, i < m → n i ≤ 140737488351232)) := ⟨hd.below bX, hr.2.1, hm, hh, hd.lt, hn⟩
  have cO := others9 (.slice (some ⟨gw, 0, none⟩) m cw) vr m nr to V R (w.alloc (.cells A 55)) ⟨by unfold big; omega, _, _, rfl, hcw.1, hcw.2, fun _ => ⟨gw, 0, rfl, ⟨HD.out.1.lt, fun e => e⟩, fun i hi => by rw [Nat.zero_add]; exact HD.out.1.cell hi⟩⟩ (fun i hi => by obtain ⟨x, c, e⟩ := HD.out.1.form hi; exact ⟨x, _, c, e⟩) (hr.below bX) ht hm
  have HE : Hid (V to = .slice xt (n to) ct) := et
  clear hd hr hm hh hn bX hX y5 y6 y1 et ef
  go_enter Try.func21, Try.ntmps21
  go_wp2_with (first
    | (go_at_call 36; (with_reducible refine cO.mono ?_); rintro e w1 ⟨av, bv, rfl, ho⟩; clear cO; have hd1 := HD.out.1.below ho.bel; have z1 := hd1.cell ht; rw [HE.out] at z1; have f1 := hd1.frozen to; have cD := refDot9_all bv av (.slice xt (n to) ct) (m - 1) (n to) (fun i => n (oth to i)) (fun i => at9 nr R (oth to i)) (T to) (fun i => T (oth to i)) w1 (ho.re (E := fun _ => False) (fun i _ => at9_lt HD.out.2.1 _) (fun x e => e.elim)).rb ⟨_, ho.ll (fun x e => e.elim), fun i hi => ((hd1.re _ (oth_lt ht hi)).mono (fun _ _ e => e.elim))⟩ (by rw [← HE.out]; exact (hd1.re to ht).rb) (HD.out.2.2.2.2.2 to ht) (by have := HD.out.2.2.1; omega); have HB : Hid (Below w.heap.size w w1 ∧ Wt9 l h w1 gw m n V T) := ⟨bta9 HX.out.1 ho.bel, hd1⟩; clear ho hd1 y0 y4)
    | (go_at_call 38; (with_reducible refine cD.mono ?_); rintro e w2 ⟨g2, C2, rfl, ho⟩; clear cD; have hW := (HB.out.2.below ho.2.2.1).set to (v := .slice (some ⟨g2, 0, none⟩) (n to) C2) (own8_re ho (fun e => (by have h1 := HD.out.2.2.2.1; have h2 := HD.out.2.2.2.2.1; have h3 := HB.out.1.size; have h4 := ho.2.1; rcases e with e | e; (have := e.2; omega); omega))); have HW : Hid (Ke (fun b => b = gw) w (w2.setCell ⟨gw, to, none⟩ (.slice (some ⟨g2, 0, none⟩) (n to) C2)) ∧ _) := ⟨((ke_below HB.out.1 _).trans (ke_below ho.2.2.1 _)).trans ((Kp.refl gw w2).setCell to _).ke, hW⟩; have z1 := (HB.out.2.below ho.2.2.1).cell ht; rw [HE.out] at z1; have f1 := (HB.out.2.below ho.2.2.1).frozen to; clear hW ho))
  go_ret
  exact ⟨rfl, HW.out.1, _, HW.out.2⟩
/-- what is told of the first k. -/
def sk9 (m : Nat) (n : Nat → Nat) (nr : Nat) (R : Nat → Nat) (T : Nat → Nat → Nat) (fr tt : Int) (fo k i : Nat) : Nat → Nat := if i < k then sq9 m n nr R T fr tt fo i else T i
theorem sk9_none {m : Nat} {n : Nat → Nat} {nr : Nat} {R : Nat → Nat} {T : Nat → Nat → Nat} {fr tt : Int} {fo i : Nat} : sk9 m n nr R T fr tt fo 0 i = T i := if_neg (Nat.not_lt_zero _)
theorem sk9_all {m : Nat} {n : Nat → Nat} {nr : Nat} {R : Nat → Nat} {T : Nat → Nat → Nat} {fr tt : Int} {fo i : Nat} (h : i < m) : sk9 m n nr R T fr tt fo m i = sq9 m n nr R T fr tt fo i := if_pos h
theorem sk9_fo {m : Nat} {n : Nat → Nat} {nr : Nat} {R : Nat → Nat} {T : Nat → Nat → Nat} {fr tt : Int} {fo i : Nat} : sk9 m n nr R T fr tt fo fo i = sk9 m n nr R T fr tt fo (fo + 1) i := by
  unfold sk9
  by_cases e : i = fo
  · subst e
    rw [if_neg (Nat.lt_irrefl _), if_pos (Nat.lt_succ_self _)]
    unfold sq9
    rw [if_pos rfl]
  · by_cases e2 : i < fo
    · rw [if_pos e2, if_pos (by omega)]
    · rw [if_neg e2, if_neg (by omega)]
set_option maxHeartbeats 4000000 in
set_option maxRecDepth 100000 in
theorem told9_4 (l h m gw cw : Nat) (n : Nat → Nat) (V : Nat → Value) (T : Nat → Nat → Nat) (c : Nat) (kto kfo : Int) (vr : Value) (nr : Nat) (R : Nat → Nat) (fr tt : Int) (to fo : Nat) (w : World) (hd : Wt9 l h w gw m n V T) (hh : h ≤ w.heap.size) (hr : Rb w vr nr R) (hc : c < 256) (ht : to < m) (hf : fo < m) (hnr : nr ≤ 140737488351232) (hm : 24 * m ≤ 140737488351232) (hn : ∀ i, i < m → n i ≤ 140737488351232) (hcw : m ≤ cw ∧ cw ≤ big) :
    Calls Try.prog 21 #[.agg (cz9 4 c kto kfo vr fr tt), .slice (some ⟨gw, 0, none⟩) m cw, .int .i64 (to : Int), .int .i64 (fo : Int)] w fun e w' => e = .returned (.int .i64 (sf9 (m - 1) (m - 1) (n fo) (fun i => n (oth fo i)) fr tt : Nat)) ∧ Ke (fun b => b = gw) w w' ∧ ∃ V', Wt9 l h w' gw m n V' (sq9 m n nr R T fr tt fo) := by
  have bX : Below w.heap.size w (w.alloc (.cells (cz9 4 c kto kfo vr fr tt) 55)) := (Below.refl _ _).alloc (Nat.le_refl _) _
  have hX : Box9 (w.alloc (.cells (cz9 4 c kto kfo vr fr tt) 55)) w.heap.size (cz9 4 c kto kfo vr fr tt) 55 := Box9.new _ _ _
  have y0 := hX.cell (i := 0) (v := .int .i64 (4)) rfl
  have y1 := hX.cell (i := 1) (v := .int .u8 (c : Int)) rfl
  have y4 := hX.cell (i := 4) (v := vr) rfl
  have y5 := hX.cell (i := 5) (v := .int .i64 fr) rfl
  have y6 := hX.cell (i := 6) (v := .int .i64 tt) rfl
  generalize cz9 4 c kto kfo vr fr tt = A at bX hX y0 y1 y4 y5 y6 ⊢
  have HX : Hid (Below w.heap.size w (w.alloc (.cells A 55)) ∧ Box9 (w.alloc (.cells A 55)) w.heap.size A 55) := ⟨bX, hX⟩
  have itm : ((to : Nat) : Int) < (m : Int) := by omega
  have ifm : ((fo : Nat) : Int) < (m : Int) := by omega
  obtain ⟨xt, ct, et⟩ := hd.form ht
  obtain ⟨xf, cf, ef⟩ := hd.form hf

  have HY : Hid ((w.alloc (.cells A 55)).cell? ⟨w.heap.size, 5, none⟩ = some (.int .i64 fr) ∧ (w.alloc (.cells A 55)).cell? ⟨w.heap.size, 6, none⟩ = some (.int .i64 tt)) := ⟨y5, y6⟩
  have HD : Hid (Wt9 l h (w.alloc (.cells A 55)) gw m n V T ∧ (∀ i, i < nr → R i < 256) ∧ 24 * m ≤ 140737488351232 ∧ h ≤ w.heap.size ∧ gw < w.heap.size ∧ (∀ i, i < m → n i ≤ 140737488351232)) := ⟨hd.below bX, hr.2.1, hm, hh, hd.lt, hn⟩
  have cO := others9 (.slice (some ⟨gw, 0, none⟩) m cw) vr m nr fo V R (w.alloc (.cells A 55)) ⟨by unfold big; omega, _, _, rfl, hcw.1, hcw.2, fun _ => ⟨gw, 0, rfl, ⟨HD.out.1.lt, fun e => e⟩, fun i hi => by rw [Nat.zero_add]; exact HD.out.1.cell hi⟩⟩ (fun i hi => by obtain ⟨x, c, e⟩ := HD.out.1.form hi; exact ⟨x, _, c, e⟩) (hr.below bX) hf hm
  have HE : Hid (V fo = .slice xf (n fo) cf) := ef
  clear hd hr hm hh hn bX hX y5 y6 y1 et ef
  go_enter Try.func21, Try.ntmps21
  go_wp2_with (go_at_call 36; (with_reducible refine cO.mono ?_); rintro e w1 ⟨av, bv, rfl, ho⟩; clear cO)
  have hd1 := HD.out.1.below ho.bel
  have z1 := hd1.cell hf
  rw [HE.out] at z1
  have cD := refSpread9_any bv (.slice xf (n fo) cf) av (m - 1) (n fo) (m - 1) (fun i => n (oth fo i)) (fun i => at9 nr R (oth fo i)) (T fo) (fun i => T (oth fo i)) fr tt w1.drew (ho.re (E := fun _ => False) (fun i _ => at9_lt HD.out.2.1 _) (fun x e => e.elim)).rb (by rw [← HE.out]; exact (hd1.re fo hf).rb) ⟨_, ho.ll (fun x e => e.elim), fun i hi => ((hd1.re _ (oth_lt hf hi)).mono (fun _ _ e => e.elim))⟩ (by have := HD.out.2.2.1; omega) (HD.out.2.2.2.2.2 fo hf) (by have := HD.out.2.2.1; omega) (fun i hi => HD.out.2.2.2.2.2 _ (oth_lt hf hi))
  have HB : Hid (Below w.heap.size w w1 ∧ Wt9 l h w1 gw m n V T ∧ Below (w.alloc (.cells A 55)).heap.size (w.alloc (.cells A 55)) w1) := ⟨bta9 HX.out.1 ho.bel, hd1, ho.bel⟩
  have z5 := (ho.bel.cell (p := ⟨w.heap.size, 5, none⟩) HX.out.2.lt).trans HY.out.1
  have z6 := (ho.bel.cell (p := ⟨w.heap.size, 6, none⟩) HX.out.2.lt).trans HY.out.2
  have HZ : Hid (w1.cell? ⟨w.heap.size, 5, none⟩ = some (.int .i64 fr) ∧ w1.cell? ⟨w.heap.size, 6, none⟩ = some (.int .i64 tt) ∧ w1.cell? ⟨gw, fo, none⟩ = some (.slice xf (n fo) cf)) := ⟨z5, z6, z1⟩
  clear ho hd1 y0 y4
  refine region_planI (fun w' => w'.cell? ⟨gw, fo, none⟩ = some (.slice xf (n fo) cf) ∧ w'.cell? ⟨w.heap.size, 5, none⟩ = some (.int .i64 fr) ∧ w'.cell? ⟨w.heap.size, 6, none⟩ = some (.int .i64 tt)) [0, 1, 2, 3, 4, 5, 6, 7, 8, 9, 10, 11, 12, 13, 14, 15, 16, 17] [12, 5] 144 ⟨z1, z5, z6⟩ (by kernel_rfl) (by kernel_rfl) (fun _ a d v _ h => by cases d <;> exact h) ?_
  simp only [atI, List.getElem?_cons_zero, List.getElem?_cons_succ]
  clear z1 z5 z6
  refine planH_step ?A1 rfl (fun w' hS => ?s1) rfl (fun K hK => ?n1)
  case s1 =>
    obtain ⟨z1, z5, z6⟩ := hS
    simp only [List.take_succ_cons, List.take_zero]
    repeat still_step
    exact rfl
  case n1 =>
  go_simp
  go_wp2_with (go_at_call 19; (with_reducible refine cD.mono ?_); rintro e w2 ⟨vN, BN, CN, TN, rfl, hN, hb, hT⟩)
  clear cD
  have b2 : Below w1.heap.size w1 w2 := hb.undraw
  have hl : w.heap.size < w1.heap.size := Nat.lt_of_lt_of_le HX.out.2.lt HB.out.2.2.size
  refine hK _ _ ⟨(b2.cell (p := ⟨gw, fo, none⟩) HB.out.2.1.lt).trans HZ.out.2.2, (b2.cell (p := ⟨w.heap.size, 5, none⟩) hl).trans HZ.out.1, (b2.cell (p := ⟨w.heap.size, 6, none⟩) hl).trans HZ.out.2.1⟩ ?_
  clear hK K hl
  have H2 : Hid (Below w.heap.size w w2 ∧ Wt9 l h w2 gw m n V T ∧ w.heap.size ≤ w1.heap.size) := ⟨bta9 HB.out.1 b2, HB.out.2.1.below b2, HB.out.1.size⟩
  have hN' : Cs w1.heap.size w2.heap.size w2 vN (m - 1) (fun i => n (oth fo i)) CN BN TN := hN
  obtain ⟨aN, cN, eN, c1, c2, hfN⟩ := hN'.form
  subst eN
  have HN : Hid (Cs w1.heap.size w2.heap.size w2 (.slice aN (m - 1) cN) (m - 1) (fun i => n (oth fo i)) CN BN TN) := hN'
  have HF : Hid (0 < m - 1 → ∃ g, aN = some ⟨g, 0, none⟩ ∧ w1.heap.size ≤ g ∧ g < w2.heap.size ∧ (∀ i, i < m - 1 → BN i ≠ g) ∧ ∀ i, i < m - 1 → w2.cell? ⟨g, i, none⟩ = some (.slice (some ⟨BN i, 0, none⟩) (n (oth fo i)) (CN i))) := hfN
  have HT : Hid (∀ i, i < m - 1 → ∀ j, j < n (oth fo i) → TN i j = sp9 (m - 1) (m - 1) (n fo) (fun i => n (oth fo i)) fr tt (fun i => at9 nr R (oth fo i)) (T fo) (fun i => T (oth fo i)) i j) := hT
  clear hN hb hT b2 hN' hfN c1 c2 HB HZ HX HY
  refine planH_last ?A2 rfl (fun w' hS => ?s2) rfl ?n2
  case s2 =>
    simp only [List.take_succ_cons, List.take_zero]
    repeat still_step
    exact rfl
  case n2 =>
  go_wp2
  go_loopw [16, 127] (fun nv iv wr => ∃ k : Nat, k ≤ m ∧ iv = .int .i64 (k : Nat) ∧ nv = .int .i64 (cn fo k : Nat) ∧ Kp gw w2 wr ∧ ∃ V', Wt9 l h wr gw m n V' (sk9 m n nr R T fr tt fo k)) (fun _ iv _ => m - (intOf iv).toNat)
  case atStart => exact ⟨0, Nat.zero_le _, rfl, by have e : cn fo 0 = 0 := (by unfold cn; rw [if_pos (Nat.zero_le _)]); rw [e]; rfl, Kp.refl _ _, V, H2.out.2.1.congr (fun i _ j _ => by rw [sk9_none])⟩
  case round =>
    obtain ⟨k, hk, rfl, rfl, hkp, V', hV⟩ := hrel
    by_cases hlt : k < m
    case neg =>
      obtain rfl : k = m := by omega
      have ib : ¬ ((k : Nat) : Int) < (k : Int) := Int.lt_irrefl _
      have HV : Hid (Ke (fun b => b = gw) w wr ∧ Wt9 l h wr gw k n V' (sq9 k n nr R T fr tt fo)) := ⟨(ke_below H2.out.1 _).trans hkp.ke, hV.congr (fun i hi j _ => by rw [sk9_all hi])⟩
      clear hV hkp
      go_wp2
      go_ret
      exact ⟨rfl, HV.out.1, _, HV.out.2⟩
    case pos =>
    have ib : ((k : Nat) : Int) < (m : Int) := by omega
    have hmm := HD.out.2.2.1
    have W1 := wrap_succ8 (j := k) (by unfold big; omega)
    by_cases hkn : k = fo
    case pos =>
      subst hkn
      have HV : Hid (Kp gw w2 wr ∧ Wt9 l h wr gw m n V' (sk9 m n nr R T fr tt k (k + 1))) := ⟨hkp, hV.congr (fun i _ j _ => by rw [sk9_fo])⟩
      clear hV hkp hmm
      go_wp2
      go_roundw
      case rel => exact ⟨k + 1, hlt, by first | rfl | (rw [W1]; rfl), by rw [cn_same], HV.out.1, _, HV.out.2⟩
      case measure => first | exact meas_lt8 hlt | (rw [W1]; exact meas_lt8 hlt)
    case neg =>
    have hkI : ¬ ((k : Nat) : Int) = (fo : Int) := by omega
    have hcl := cn_lt hf hlt hkn
    have hcI : ((cn fo k : Nat) : Int) < ((m - 1 : Nat) : Int) := by omega
    have hcs := cn_succ hkn
    have hoc := oth_cn hkn
    obtain ⟨gN, rfl, g1, g2, g3, g4⟩ := HF.out (by omega)
    have hh := HD.out.2.2.2.1
    have hgw := HD.out.2.2.2.2.1
    have hw1 := H2.out.2.2
    have p1 : wr.cell? ⟨gN, cn fo k, none⟩ = some (.slice (some ⟨BN (cn fo k), 0, none⟩) (n k) (CN (cn fo k))) := by
      have := (hkp.ke.cell (q := cn fo k) g2 (by omega)).trans (g4 (cn fo k) hcl)
      rw [hoc] at this
      exact this
    have p2 := hV.cell hlt
    have p3 := hV.frozen k
    obtain ⟨r1, r2, r3, r4⟩ := HN.out.row (cn fo k) hcl
    rw [hoc] at r3
    have r5 := hkp.ke.rw_ r4 (by omega)
    have hS := hV.set k (v := .slice (some ⟨BN (cn fo k), 0, none⟩) (n k) (CN (cn fo k))) (r5.re r3 r3 r5.1 (fun e => by
      rcases e with e | e
      · have := e.2; omega
      · omega))
    have HV : Hid (Kp gw w2 (wr.setCell ⟨gw, k, none⟩ (.slice (some ⟨BN (cn fo k), 0, none⟩) (n k) (CN (cn fo k)))) ∧ Wt9 l h (wr.setCell ⟨gw, k, none⟩ (.slice (some ⟨BN (cn fo k), 0, none⟩) (n k) (CN (cn fo k)))) gw m n (upn V' k (.slice (some ⟨BN (cn fo k), 0, none⟩) (n k) (CN (cn fo k)))) (sk9 m n nr R T fr tt fo (k + 1))) := by
      refine ⟨hkp.setCell k _, hS.congr (fun i hi j hj => ?_)⟩
      by_cases e : i = k
      · subst e
        rw [upn_same]
        unfold sk9 sq9
        rw [if_pos (Nat.lt_succ_self _), if_neg hkn]
        exact HT.out _ hcl j (by rw [hoc]; exact hj)
      · rw [upn_other _ _ e]
        unfold sk9
        by_cases e2 : i < k
        · rw [if_pos e2, if_pos (by omega)]
        · rw [if_neg e2, if_neg (by omega)]
    obtain ⟨xk, ck, ek⟩ := hV.form hlt
    rw [ek] at p2
    have W2 := wrap_succ8 (j := cn fo k) (by unfold big; omega)
    generalize hcn : cn fo k = q at *
    clear hV hkp hmm hS r1 r2 r3 r4 r5 ek hcl g1 g2 g3 g4 hh hgw hw1 hoc
    go_wp2
    go_roundw
    case rel => exact ⟨k + 1, hlt, by first | rfl | (rw [W1]; rfl), by rw [hcs]; first | rfl | (rw [W2]; rfl), HV.out.1, _, HV.out.2⟩
    case measure => first | exact meas_lt8 hlt | (rw [W1]; exact meas_lt8 hlt)
set_option maxHeartbeats 4000000 in
set_option maxRecDepth 100000 in
theorem told9_e (kind : Int) (hk0 : kind ≠ 0) (hk1 : kind ≠ 1) (hk2 : kind ≠ 2) (hk3 : kind ≠ 3) (hk4 : kind ≠ 4) (l h m gw cw : Nat) (n : Nat → Nat) (V : Nat → Value) (T : Nat → Nat → Nat) (c : Nat) (kto kfo : Int) (vr : Value) (nr : Nat) (R : Nat → Nat) (fr tt : Int) (to fo : Nat) (w : World) (hd : Wt9 l h w gw m n V T) (hh : h ≤ w.heap.size) (hr : Rb w vr nr R) (hc : c < 256) (ht : to < m) (hf : fo < m) (hnr : nr ≤ 140737488351232) (hm : 24 * m ≤ 140737488351232) (hn : ∀ i, i < m → n i ≤ 140737488351232) (hcw : m ≤ cw ∧ cw ≤ big) :
    Calls Try.prog 21 #[.agg (cz9 kind c kto kfo vr fr tt), .slice (some ⟨gw, 0, none⟩) m cw, .int .i64 (to : Int), .int .i64 (fo : Int)] w fun e w' => e = .returned (.int .i64 (0 : Nat)) ∧ Ke (fun b => b = gw) w w' ∧ ∃ V', Wt9 l h w' gw m n V' (T) := by
  have bX : Below w.heap.size w (w.alloc (.cells (cz9 kind c kto kfo vr fr tt) 55)) := (Below.refl _ _).alloc (Nat.le_refl _) _
  have hX : Box9 (w.alloc (.cells (cz9 kind c kto kfo vr fr tt) 55)) w.heap.size (cz9 kind c kto kfo vr fr tt) 55 := Box9.new _ _ _
  have y0 := hX.cell (i := 0) (v := .int .i64 (kind)) rfl
  have y1 := hX.cell (i := 1) (v := .int .u8 (c : Int)) rfl
  have y4 := hX.cell (i := 4) (v := vr) rfl
  have y5 := hX.cell (i := 5) (v := .int .i64 fr) rfl
  have y6 := hX.cell (i := 6) (v := .int .i64 tt) rfl
  generalize cz9 kind c kto kfo vr fr tt = A at bX hX y0 y1 y4 y5 y6 ⊢
  have HX : Hid (Below w.heap.size w (w.alloc (.cells A 55)) ∧ Box9 (w.alloc (.cells A 55)) w.heap.size A 55) := ⟨bX, hX⟩
  have itm : ((to : Nat) : Int) < (m : Int) := by omega
  have ifm : ((fo : Nat) : Int) < (m : Int) := by omega
  obtain ⟨xt, ct, et⟩ := hd.form ht
  obtain ⟨xf, cf, ef⟩ := hd.form hf

  have D0 : (kind == 0) = false := by simpa using hk0
  have D1 : (kind == 1) = false := by simpa using hk1
  have D2 : (kind == 2) = false := by simpa using hk2
  have D3 : (kind == 3) = false := by simpa using hk3
  have D4 : (kind == 4) = false := by simpa using hk4
  have HC : Hid (Ke (fun b => b = gw) w (w.alloc (.cells A 55)) ∧ Wt9 l h (w.alloc (.cells A 55)) gw m n V T) := ⟨ke_below bX _, hd.below bX⟩
  clear hd hr bX hX y4 y5 y6 y1 et ef
  go_enter Try.func21, Try.ntmps21
  go_wp2
  go_ret
  exact ⟨rfl, HC.out.1, _, HC.out.2⟩
end Go.Proofs.Ytdeophhcbkahgaa
namespace Go.Proofs.Ytdeophhcbkahgaa
open Go.RowKit Gf2
set_option linter.unusedVariables false

-- layer 9: KernelLives: one step, of both (laid by wip/genkvw.py)
theorem step9_any (kind : Int) (c : Nat) (kto kfo : Int) (vr : Value) (nr : Nat) (R : Nat → Nat) (fr tt : Int) (to fo m l h gh ch gw cw : Nat) (n B : Nat → Nat) (T : Nat → Nat → Nat) (hc : c < 256) (ht : to < m) (hf : fo < m) (hnr : nr ≤ 140737488351232) (hm : 24 * m ≤ 140737488351232) (hn : ∀ i, i < m → n i ≤ 140737488351232) (hcw : m ≤ cw ∧ cw ≤ big) :
    ∃ (E : Nat) (T' : Nat → Nat → Nat),
      (∀ (p : Addr) (bk klo khi : Nat) (w : World), Cs l h w (.slice (some ⟨gh, 0, none⟩) m ch) m n n B T → Ks w p bk klo khi → khi ≤ l → Rb w vr nr R →
        Calls Try.prog 20 #[.pointer (some p), .agg (cz9 kind c kto kfo vr fr tt), .slice (some ⟨gh, 0, none⟩) m ch, .int .i64 (to : Int), .int .i64 (fo : Int)] w fun e w' => e = .returned (.int .i64 (E : Nat)) ∧ Ke (In l h) w w' ∧ Cs l h w' (.slice (some ⟨gh, 0, none⟩) m ch) m n n B T') ∧
      (∀ (V : Nat → Value) (w : World), Wt9 l h w gw m n V T → h ≤ w.heap.size → Rb w vr nr R →
        Calls Try.prog 21 #[.agg (cz9 kind c kto kfo vr fr tt), .slice (some ⟨gw, 0, none⟩) m cw, .int .i64 (to : Int), .int .i64 (fo : Int)] w fun e w' => e = .returned (.int .i64 (E : Nat)) ∧ Ke (fun b => b = gw) w w' ∧ ∃ V', Wt9 l h w' gw m n V' T') := by
  by_cases k0 : kind = 0
  · subst k0
    exact ⟨_, _, fun p bk klo khi w h1 h2 h3 h4 => played9_0 p bk klo khi l h m gh ch n B T c kto kfo vr nr R fr tt to fo w h1 h2 h3 h4 hc ht hf hnr hm, fun V w h1 h2 h3 => told9_0 l h m gw cw n V T c kto kfo vr nr R fr tt to fo w h1 h2 h3 hc ht hf hnr hm hn hcw⟩
  by_cases k1 : kind = 1
  · subst k1
    exact ⟨_, _, fun p bk klo khi w h1 h2 h3 h4 => played9_1 p bk klo khi l h m gh ch n B T c kto kfo vr nr R fr tt to fo w h1 h2 h3 h4 hc ht hf hnr hm, fun V w h1 h2 h3 => told9_1 l h m gw cw n V T c kto kfo vr nr R fr tt to fo w h1 h2 h3 hc ht hf hnr hm hn hcw⟩
  by_cases k2 : kind = 2
  · subst k2
    exact ⟨_, _, fun p bk klo khi w h1 h2 h3 h4 => played9_2 p bk klo khi l h m gh ch n B T c kto kfo vr nr R fr tt to fo w h1 h2 h3 h4 hc ht hf hnr hm, fun V w h1 h2 h3 => told9_2 l h m gw cw n V T c kto kfo vr nr R fr tt to fo w h1 h2 h3 hc ht hf hnr hm hn hcw⟩
  by_cases k3 : kind = 3
  · subst k3
    exact ⟨_, _, fun p bk klo khi w h1 h2 h3 h4 => played9_3 p bk klo khi l h m gh ch n B T c kto kfo vr nr R fr tt to fo w h1 h2 h3 h4 hc ht hf hnr hm, fun V w h1 h2 h3 => told9_3 l h m gw cw n V T c kto kfo vr nr R fr tt to fo w h1 h2 h3 hc ht hf hnr hm hn hcw⟩
  by_cases k4 : kind = 4
  · subst k4
    exact ⟨_, _, fun p bk klo khi w h1 h2 h3 h4 => played9_4 p bk klo khi l h m gh ch n B T c kto kfo vr nr R fr tt to fo w h1 h2 h3 h4 hc ht hf hnr hm, fun V w h1 h2 h3 => told9_4 l h m gw cw n V T c kto kfo vr nr R fr tt to fo w h1 h2 h3 hc ht hf hnr hm hn hcw⟩
  exact ⟨_, _, fun p bk klo khi w h1 h2 h3 h4 => played9_e kind k0 k1 k2 k3 k4 p bk klo khi l h m gh ch n B T c kto kfo vr nr R fr tt to fo w h1 h2 h3 h4 hc ht hf hnr hm, fun V w h1 h2 h3 => told9_e kind k0 k1 k2 k3 k4 l h m gw cw n V T c kto kfo vr nr R fr tt to fo w h1 h2 h3 hc ht hf hnr hm hn hcw⟩
/-- the lists that copies makes, as what is told. -/
theorem Cg.wt9 {w0 w : World} {v : Value} {m : Nat} {n B : Nat → Nat} {S : Nat → Nat → Nat} (h : Cg w0 w v m n n B S) (h0 : 0 < m) {l hh : Nat} (hl : hh ≤ w0.heap.size) : ∃ gw cw, v = .slice (some ⟨gw, 0, none⟩) m cw ∧ m ≤ cw ∧ cw ≤ big ∧ w0.heap.size ≤ gw ∧ ∃ V, Wt9 l hh w gw m n V S := by
  rcases h.own.2 with ⟨h1, h2⟩ | ⟨g, cap, cur, rfl, hb, hg, r1, r2, r3, r4⟩
  · omega
  · rw [Nat.mul_one] at r3
    have hcell : ∀ i, i < m → cur[i]? = some (.slice (some ⟨B i, 0, none⟩) (n i) (n i)) := fun i hi => by
      have := World.ownsRow.cellAt (j := i) h.own (by omega)
      rw [lv9_get _ hi] at this
      rw [← this, cell_of_row _ _ _ _ _ _ hg]
    refine ⟨g, cap, rfl, r1, by unfold big; unfold maxLen at r2; omega, hb, fun i => cur.getD i undef, ⟨cap, fun i => cur.getD i undef, ⟨cur, hg, r3, fun i hi => ?_⟩, r1, fun i _ => rfl⟩, fun e => ?_, fun i hi => ?_⟩
    · show cur[i]? = some (cur.getD i undef)
      rw [Array.getD_eq_getD_getElem?, Array.getElem?_eq_getElem (by omega)]
      rfl
    · have := e.2; omega
    · show Re _ w (cur.getD i undef) (n i) (S i)
      rw [Array.getD_eq_getD_getElem?, hcell i hi]
      show Re _ w (.slice (some ⟨B i, 0, none⟩) (n i) (n i)) (n i) (S i)
      obtain ⟨q1, q2, q3, q4, q5⟩ := h.row i hi
      refine q5.re q4 q4 q5.1 (fun e => ?_)
      rcases e with e | e
      · have := e.2; omega
      · exact q3 (by rw [e]; rfl)
/-- a place among m. -/
def pm9 (k : Int) (m : Nat) : Nat := ((k.tmod m + m).tmod m).toNat
theorem pm9_facts {k : Int} {m : Nat} (h0 : 0 < m) (hm : m ≤ 140737488351232) : pm9 k m < m ∧ IntKind.i64.wrap (k.tmod m) = k.tmod m ∧ IntKind.i64.wrap (k.tmod m + m) = k.tmod m + m ∧ (k.tmod m + m).tmod m = (pm9 k m : Int) := by
  have h1 : -(m : Int) < k.tmod m ∧ k.tmod m < m := by
    rcases Int.le_total 0 k with h | h
    · exact ⟨by have := Int.tmod_nonneg (m : Int) h; omega, Int.tmod_lt_of_pos k (by omega)⟩
    · have e : k.tmod m = -((-k).tmod m) := by rw [Int.neg_tmod, Int.neg_neg]
      have a := Int.tmod_nonneg (m : Int) (show 0 ≤ -k by omega)
      have b := Int.tmod_lt_of_pos (-k) (show (0 : Int) < m by omega)
      omega
  have h2 : 0 ≤ (k.tmod m + m).tmod m := Int.tmod_nonneg _ (by omega)
  have h3 : (k.tmod m + m).tmod m < m := Int.tmod_lt_of_pos _ (by omega)
  have h4 : (pm9 k m : Int) = (k.tmod m + m).tmod m := by unfold pm9; omega
  refine ⟨by omega, ?_, ?_, ?_⟩
  · rw [IntKind.wrap_i64]; omega
  · rw [IntKind.wrap_i64]; omega
  · omega
end Go.Proofs.Ytdeophhcbkahgaa
namespace Go.Proofs.Ytdeophhcbkahgaa
open Go.ChangeShapes Go.WideShapes Go.ChangeAt Go.RowKit Go.Deep
set_option linter.unusedVariables false

-- layer 9: KernelLives: a script of steps, opened
set_option maxHeartbeats 2000000 in
set_option maxRecDepth 100000 in
theorem open_step9 {H : Type} {enc : TypeId × Value → H} {W : World} {base : Nat} {held : Bool} {fuel : Nat} {cs : List Value} {x : DataW H × List MemPlace}
    (h : DataW.trod enc Try.prog W base (fun _ => true) held fuel 55 cs = some x) (hsz : ∀ n ∈ x.1.weights Try.prog 55, n ≤ reachBytes) :
    ∃ kind c kto kfo vr fr tt, cs = (cz9 kind c kto kfo vr fr tt).toList ∧ c < 256 ∧ Bm9 W vr := by
  have c7 : Try.prog.cellsOf 55 = 7 := by kernel_rfl
  have c3 : Try.prog.cellsOf 3 = 1 := by kernel_rfl
  have c5 : Try.prog.cellsOf 5 = 1 := by kernel_rfl
  have c22 : Try.prog.cellsOf 22 = 1 := by kernel_rfl
  have c30 : Try.prog.cellsOf 30 = 2 := by kernel_rfl
  obtain ⟨xs, k, hk, hxy, hlen, hxl, hf⟩ := DataW.trod_struct Try.underlying55 h
  rw [c7] at hlen
  have hD : x.1 = .agg (xs.map (·.1)) := congrArg Prod.fst hxy
  rw [hD] at hsz
  simp only [DataW.weights, Try.underlying55] at hsz
  obtain ⟨y0, y1, y2, y3, y4, y5, hxs⟩ : ∃ y0 y1 y2 y3 y4 y5, xs = [y0, y1, y2, y3, y4, y5] := by
    match xs, hxl with
    | [y0, y1, y2, y3, y4, y5], _ => exact ⟨_, _, _, _, _, _, rfl⟩
  obtain ⟨v0, v1, v2, v3, v4, v5, v6, hcs'⟩ : ∃ v0 v1 v2 v3 v4 v5 v6, cs = [v0, v1, v2, v3, v4, v5, v6] := by
    match cs, hlen with
    | [v0, v1, v2, v3, v4, v5, v6], _ => exact ⟨_, _, _, _, _, _, _, rfl⟩
  subst hxs hcs'
  have g0 := hf 0 _ rfl
  have g1 := hf 1 _ rfl
  have g2 := hf 2 _ rfl
  have g3 := hf 3 _ rfl
  have g4 := hf 4 _ rfl
  have g5 := hf 5 _ rfl
  simp [c3, c5, c22, c30] at g0 g1 g2 g3 g4 g5
  obtain ⟨k0, e0, -, w0⟩ := DataW.trod_int Try.underlying3 g0
  obtain ⟨k1, e1, -, w1⟩ := DataW.trod_int Try.underlying5 g1
  obtain ⟨k2, e2, -, w2⟩ := DataW.trod_int Try.underlying3 g2
  obtain ⟨k3, e3, -, w3⟩ := DataW.trod_int Try.underlying3 g3
  have b4 := open_bytes9 g4 (fun n hn => hsz n (DataW.weights_mem_each (j := 4) rfl rfl n hn))
  obtain ⟨zs, kz, hkz, hzy, hzlen, hzl, hfz⟩ := DataW.trod_struct Try.underlying30 g5
  obtain ⟨z0, z1, hzs⟩ : ∃ z0 z1, zs = [z0, z1] := by
    match zs, hzl with
    | [z0, z1], _ => exact ⟨_, _, rfl⟩
  subst hzs
  have q0 := hfz 0 _ rfl
  have q1 := hfz 1 _ rfl
  simp [c3] at q0 q1
  obtain ⟨k5, e5, -, w5⟩ := DataW.trod_int Try.underlying3 q0
  obtain ⟨k6, e6, -, w6⟩ := DataW.trod_int Try.underlying3 q1
  simp at e0 e1 e2 e3 e5 e6
  have d1 := bounds_u8 w1
  have t1 : ((k1.toNat : Nat) : Int) = k1 := by omega
  refine ⟨k0, k1.toNat, k2, k3, v4, k5, k6, ?_, by omega, b4⟩
  subst e0 e1 e2 e3 e5 e6
  unfold cz9
  rw [t1]
/-- a script of steps that came in. -/
def IsSteps9 (w : World) (a : Option Addr) (len cap : Nat) : Prop :=
  len ≤ maxLen ∧ (len = 0 ∨ ∃ b off, a = some ⟨b, off, none⟩ ∧ len ≤ cap ∧ cap ≤ maxLen ∧ b < w.heap.size ∧ ∀ i, i < len → ∃ kind c kto kfo vr fr tt, (∀ j v, (cz9 kind c kto kfo vr fr tt)[j]? = some v → w.cell? ⟨b, off + i * 7 + j, none⟩ = some v) ∧ c < 256 ∧ Bm9 w vr)
set_option maxHeartbeats 2000000 in
set_option maxRecDepth 100000 in
theorem open_steps9 {H : Type} {enc : TypeId × Value → H} {W : World} {base : Nat} {held : Bool} {fuel : Nat} {a : Option Addr} {len cap : Nat} {x : DataW H × List MemPlace}
    (h : DataW.trod enc Try.prog W base (fun _ => true) held fuel 53 [.slice a len cap] = some x) (hsz : ∀ n ∈ x.1.weights Try.prog 53, n ≤ reachBytes) : IsSteps9 W a len cap := by
  rcases open_slice Try.underlying53 h with ⟨hcs, _⟩ | ⟨a', len', cap', m, n, D, Pl, hcs, hb, hl, hm, hmm, hxe, hx⟩
  · simp at hcs
    obtain ⟨rfl, rfl, rfl⟩ := hcs
    exact ⟨by unfold maxLen; omega, .inl rfl⟩
  · simp at hcs
    obtain ⟨rfl, rfl, rfl⟩ := hcs
    refine ⟨by omega, ?_⟩
    have hlm : len ≤ m := by rw [hmm]; split <;> omega
    have c7 : Try.prog.cellsOf 55 = 7 := by kernel_rfl
    have each : ∀ i, i < len → ∃ kind c kto kfo vr fr tt, (∀ j v, (cz9 kind c kto kfo vr fr tt)[j]? = some v → W.cell? ((a'.add (i * 7)).add j) = some v) ∧ c < 256 ∧ Bm9 W vr := by
      intro i hi
      obtain ⟨cs', h1, h2⟩ := hx i (by omega)
      rw [c7] at h1
      obtain ⟨_, hlen, hcell⟩ := World.cells?_some h1
      have mD : D i ∈ (List.range len).map D := List.mem_map.2 ⟨i, List.mem_range.2 hi, rfl⟩
      have wts : ∀ n ∈ (D i).weights Try.prog 55, n ≤ reachBytes := fun n hn => hsz n (by
        rw [hxe]
        simp only [DataW.weights, Try.underlying53]
        exact List.mem_cons_of_mem _ (List.mem_append.2 (.inl (weightsAll_mem9 hn mD))))
      obtain ⟨kind, c, kto, kfo, vr, fr, tt, e, hI⟩ := open_step9 h2 wts
      refine ⟨kind, c, kto, kfo, vr, fr, tt, fun j v hv => ?_, hI⟩
      have hj : j < 7 := by
        have := (Array.getElem?_eq_some_iff.1 hv).1
        simpa [cz9] using this
      have z := hcell j (by omega)
      rw [z, e]
      simpa using hv
    by_cases h0 : len = 0
    · exact .inl h0
    · right
      obtain ⟨b, off, spot⟩ := a'
      have hspot : spot = none := by
        obtain ⟨kind, c, kto, kfo, vr, fr, tt, z, -⟩ := each 0 (by omega)
        have z0 := z 0 _ rfl
        simpa [Addr.add] using World.cell?_spot z0
      subst hspot
      refine ⟨b, off, rfl, hl, hm, ?_, ?_⟩
      · obtain ⟨kind, c, kto, kfo, vr, fr, tt, z, -⟩ := each 0 (by omega)
        have := cell_lt5 (z 0 _ rfl)
        simpa [Addr.add] using this
      · intro i hi
        obtain ⟨kind, c, kto, kfo, vr, fr, tt, z, hI⟩ := each i hi
        refine ⟨kind, c, kto, kfo, vr, fr, tt, fun j v hv => ?_, hI⟩
        have := z j v hv
        simpa only [add_plain] using this
end Go.Proofs.Ytdeophhcbkahgaa
