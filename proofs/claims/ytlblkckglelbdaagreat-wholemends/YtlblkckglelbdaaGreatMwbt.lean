import Derived.Test.YtlblkckglelbdaaGreatMwat
namespace Go.Proofs.YtlblkckglelbdaaGreat
open Go.RowKit
set_option linter.unusedVariables false

section
variable {P : Program} {ops : Array Oper} {Q : Exit → Act → World → Prop} {md : Region.Mode} {S : World → Prop}
/-- a segment of operations that look and leave, in an order of ours: the operations and their places. -/
def segBIM (md : Region.Mode) (ops : Array Oper) (sz : Nat) : List Oper → List Nat → Array Bool → Bool
  | [], _, _ => true
  | o :: l, k :: ks, listed => calmL o.op && (match o.dst with | some d => decide (d < sz) && !(dsts l).contains d | none => false) &&
      (Region.ready md ops listed).contains k && Region.free md ops listed k && segBIM md ops sz l ks (listed.setIfInBounds k true)
  | _ :: _, [], _ => false
theorem seg_takeIM (hs : Region.noSelect ops = true) (hQ : ∀ c a d v w, Q (.panic c) (a.put d v) w → Q (.panic c) a w) {A : Act} {w : World} (hS : S w) {fuel : Nat} :
    ∀ (l : List Oper) (ks : List Nat) (listed : Array Bool) (a : Act), l.length = ks.length → (∀ (j : Nat) (o : Oper) (k : Nat), l[j]? = some o → ks[j]? = some k → ops[k]? = some o) → segBIM md ops a.tmps.size l ks listed = true →
      (∀ w', S w' → wpStill P ops w' (fun a' => a' = A) l a) → wpAnyH P md ops Q S fuel (pastI ks listed) A w → wpAnyH P md ops Q S (fuel + l.length) listed a w
  | [], [], _, a, _, _, _, h, H => by
    have : a = A := h w hS
    subst this
    exact H
  | [], k :: ks, _, _, hn, _, _, _, _ => by cases hn
  | o :: l, [], _, _, hn, _, _, _, _ => by cases hn
  | o :: l, k :: ks, listed, a, hn, hl, hB, h, H => by
    have h0 : ops[k]? = some o := hl 0 o k rfl rfl
    simp only [segBIM, Bool.and_eq_true] at hB
    obtain ⟨⟨⟨⟨hc, hd⟩, hr⟩, hf⟩, hB'⟩ := hB
    cases ho : o.dst with
    | none => rw [ho] at hd; cases hd
    | some d =>
      rw [ho] at hd
      simp only [Bool.and_eq_true, decide_eq_true_eq, Bool.not_eq_true', List.contains_eq_mem, decide_eq_false_iff_not] at hd
      obtain ⟨v, hy, h'⟩ := still_calmL hc ho hd.1 hd.2 h
      refine wpAnyH_take h0 hs hf hr (fun c a w => hQ c a o.dst v w) hy hS ?_
      exact seg_takeIM hs hQ hS l ks _ _ (by simpa using hn) (fun j o' k' h1 h2 => hl (j + 1) o' k' (by simpa using h1) (by simpa using h2)) (by rw [put_size]; exact hB') h' H

def planBIM (md : Region.Mode) (ops : Array Oper) (sz : Nat) : List Nat → List Oper → List Nat → Array Bool → Bool
  | [], l, _, listed => l.isEmpty && (Region.ready md ops listed).isEmpty
  | n :: pl, l, ks, listed => decide (n ≤ l.length) && segBIM md ops sz (l.take n) (ks.take n) listed &&
      match l.drop n, ks.drop n with
      | [], _ => (Region.ready md ops (pastI (ks.take n) listed)).isEmpty
      | _ :: r, k :: ks' => (Region.ready md ops (pastI (ks.take n) listed) == [k]) && planBIM md ops sz pl r ks' ((pastI (ks.take n) listed).setIfInBounds k true)
      | _ :: _, [] => false

theorem plan_anyIM (hs : Region.noSelect ops = true) (hQ : ∀ c a d v w, Q (.panic c) (a.put d v) w → Q (.panic c) a w) {sz : Nat} :
    ∀ (pl : List Nat) (l : List Oper) (ks : List Nat) (listed : Array Bool) (a : Act) (w : World), S w → l.length = ks.length → (∀ (j : Nat) (o : Oper) (k : Nat), l[j]? = some o → ks[j]? = some k → ops[k]? = some o) → planBIM md ops sz pl l ks listed = true →
      wpPlanH P ops sz Q S pl l a w → wpAnyH P md ops Q S l.length listed a w
  | [], l, ks, listed, a, w, hS, hn, hl, hB, h => by
    obtain ⟨rfl, hq⟩ := h
    simp only [planBIM, Bool.and_eq_true, List.isEmpty_iff] at hB
    exact ⟨hB.2, hq⟩
  | n :: pl, l, ks, listed, a, w, hS, hkl, hl, hB, h => by
    obtain ⟨hsz, A, hst, h⟩ := h
    simp only [planBIM, Bool.and_eq_true, decide_eq_true_eq] at hB
    obtain ⟨⟨hn, hseg⟩, hB⟩ := hB
    have hlen : (l.take n).length = n := by simp; omega
    have el : l.length = (l.drop n).length + (l.take n).length := by simp; omega
    rw [el]
    refine seg_takeIM hs hQ hS (l.take n) (ks.take n) listed a (by simp; omega) (fun j o k h1 h2 => ?_) (hsz ▸ hseg) hst ?_
    · have hj : j < n := by
        rcases Nat.lt_or_ge j n with h' | h'
        · exact h'
        · rw [List.getElem?_eq_none (by rw [hlen]; exact h')] at h1; cases h1
      rw [List.getElem?_take_of_lt hj] at h1 h2
      exact hl j o k h1 h2
    cases hd : l.drop n with
    | nil =>
      rw [hd] at hB h
      simp only [List.isEmpty_iff] at hB
      exact ⟨hB, h⟩
    | cons o r =>
      have hdl : (l.drop n).length = r.length + 1 := by rw [hd]; rfl
      cases hk : ks.drop n with
      | nil =>
        rw [hd, hk] at hB
        cases hB
      | cons k ks' =>
        have hkk : (ks.drop n).length = ks'.length + 1 := by rw [hk]; rfl
        rw [hd, hk] at hB
        rw [hd] at h
        simp only [Bool.and_eq_true, beq_iff_eq] at hB
        have ol : ∀ j : Nat, r[j]? = l[n + (j + 1)]? := fun j => by
          have := List.getElem?_drop (xs := l) (i := n) (j := j + 1)
          rw [hd, List.getElem?_cons_succ] at this
          exact this
        have ok' : ∀ j : Nat, ks'[j]? = ks[n + (j + 1)]? := fun j => by
          have := List.getElem?_drop (xs := ks) (i := n) (j := j + 1)
          rw [hk, List.getElem?_cons_succ] at this
          exact this
        have ho : ops[k]? = some o := by
          refine hl n o k ?_ ?_
          · have := List.getElem?_drop (xs := l) (i := n) (j := 0)
            rw [hd, Nat.add_zero] at this
            exact this.symm
          · have := List.getElem?_drop (xs := ks) (i := n) (j := 0)
            rw [hk, Nat.add_zero] at this
            exact this.symm
        have hr : ∀ (j : Nat) (o' : Oper) (k' : Nat), r[j]? = some o' → ks'[j]? = some k' → ops[k']? = some o' := fun j o' k' h1 h2 => hl (n + (j + 1)) o' k' (by rw [← ol]; exact h1) (by rw [← ok']; exact h2)
        refine wpAnyH_all hB.1 (by simp) (fun i hi => ?_)
        have hi : i = k := by simpa using hi
        subst hi
        have hlr : r.length = ks'.length := by rw [List.length_drop] at hdl hkk; omega
        have ih : ∀ a' w', S w' → wpPlanH P ops sz Q S pl r a' w' → wpAnyH P md ops Q S r.length ((pastI (ks.take n) listed).setIfInBounds i true) a' w' := fun a' w' hS' h' => plan_anyIM hs hQ pl r ks' _ a' w' hS' hlr hr hB.2 h'
        unfold wpOp
        simp only [ho]
        split
        · rename_i hw
          simp only [hw, if_true] at h
          exact .inl (Oper.wp_mono (fun a' w' ⟨h1, h2⟩ => ⟨h1, ih a' w' h1 h2⟩) h)
        · rename_i hw
          simp only [hw] at h
          exact ⟨hS, ih _ _ hS h⟩

def orderBM (md : Region.Mode) (l : List Oper) (sz : Nat) (ks plan : List Nat) : Bool :=
  Region.noSelect l.toArray && decide ((atI l ks).length = l.length) && decide (ks.length = l.length) && planBIM md l.toArray sz plan (atI l ks) ks (Array.replicate l.length false)
/-- a region that draws its order and loads what stays (S), walked in an order of ours. -/
theorem region_planIM {id : Nat} {a : Act} {w : World} {l : List Oper} (S : World → Prop) (ks plan : List Nat) (sz : Nat) (hS : S w.drew) (hm : P.follows .mixedOrders = true)
    (hB : orderBM .any l sz ks plan = true) (hQ : ∀ c a d v w, Q (.panic c) (a.put d v) w → Q (.panic c) a w)
    (h : wpPlanH P l.toArray sz Q S plan (atI l ks) a w.drew) : (Code.region id l.toArray true).wp P Q a w := by
  simp only [orderBM, Bool.and_eq_true, decide_eq_true_eq] at hB
  obtain ⟨⟨⟨hs, h1⟩, h2⟩, hB⟩ := hB
  refine wp_region_held (S := S) hm ?_
  have := plan_anyIM (md := .any) hs hQ plan (atI l ks) ks (Array.replicate l.length false) a w.drew hS (by omega) (fun j o k e1 e2 => by simpa using atI_get l ks j o k e1 e2) hB h
  rw [h1] at this
  simpa using this
end
end Go.Proofs.YtlblkckglelbdaaGreat
