import Derived.Test.YtfbgcednodnioabDoorEsj
import Derived.Test.YtfbgcednodnioabDoorEsk
namespace Go.Proofs.YtfbgcednodnioabDoor
open Go.RowKit
set_option linter.unusedVariables false

section
variable {P : Program} {ops : Array Oper} {Q : Exit → Act → World → Prop} {md : Region.Mode} {S : World → Prop}
/-- as segBH, nilCheck, extract and build among the calm ones. -/
def segBJ (md : Region.Mode) (ops : Array Oper) (sz : Nat) : List Oper → Nat → Array Bool → Bool
  | [], _, _ => true
  | o :: l, k, listed => calmI o.op && (match o.dst with | some d => decide (d < sz) && !(dsts l).contains d | none => false) &&
      (Region.ready md ops listed).contains k && Region.free md ops listed k && segBJ md ops sz l (k + 1) (listed.setIfInBounds k true)
theorem seg_invJ {sz n : Nat} : ∀ (l : List Oper) (k : Nat) (listed : Array Bool), k + l.length ≤ n → HeadInv md ops n listed → segBJ md ops sz l k listed = true → HeadInv md ops n (past l.length k listed)
  | [], _, _, _, inv, _ => inv
  | o :: l, k, listed, hk, inv, hB => by
    simp only [segBJ, Bool.and_eq_true] at hB
    simp only [List.length_cons] at hk
    have hr : k ∈ Region.ready md ops listed := by simpa using hB.1.1.2
    exact seg_invJ l (k + 1) _ (by omega) (inv.set hr (by omega)) hB.2

theorem seg_takeJ (hs : Region.noSelect ops = true) (hQ : ∀ c a d v w, Q (.panic c) (a.put d v) w → Q (.panic c) a w) {n : Nat} (hsk : Region.sinkB md ops n = true) (hch : Region.chainB md ops n = true) (hn : n < ops.size)
    {A : Act} {w : World} (hS : S w) {fuel : Nat} :
    ∀ (l : List Oper) (k : Nat) (listed : Array Bool) (a : Act), k + l.length ≤ n → HeadInv md ops n listed → (∀ j, j < l.length → l[j]? = ops[k + j]?) → segBJ md ops a.tmps.size l k listed = true →
      (∀ w', S w' → wpStill P ops w' (fun a' => a' = A) l a) → wpAnyT P md ops Q S n fuel (past l.length k listed) A w → wpAnyT P md ops Q S n (fuel + l.length) listed a w
  | [], _, _, a, _, _, _, _, h, H => by
    have : a = A := h w hS
    subst this
    exact H
  | o :: l, k, listed, a, hk, inv, hl, hB, h, H => by
    have h0 : ops[k]? = some o := by simpa using (hl 0 (by simp)).symm
    simp only [segBJ, Bool.and_eq_true] at hB
    obtain ⟨⟨⟨⟨hc, hd⟩, hr⟩, hf⟩, hB'⟩ := hB
    simp only [List.length_cons] at hk
    have hr' : k ∈ Region.ready md ops listed := by simpa using hr
    cases ho : o.dst with
    | none => rw [ho] at hd; cases hd
    | some d =>
      rw [ho] at hd
      simp only [Bool.and_eq_true, decide_eq_true_eq, Bool.not_eq_true', List.contains_eq_mem, decide_eq_false_iff_not] at hd
      obtain ⟨v, hy, h'⟩ := still_calmI hc ho hd.1 hd.2 h
      refine anyT_first h0 (Region.noSelect_spec hs) (fun c a w => hQ c a o.dst v w) hsk hch hn (by omega) _ listed a w inv (Region.free_spec h0 hf) hr' hy hS ?_
      exact seg_takeJ hs hQ hsk hch hn hS l (k + 1) _ _ (by omega) (inv.set hr' (by omega)) (fun j hj => by have := hl (j + 1) (by simp; omega); simpa [Nat.add_assoc, Nat.add_comm 1 j] using this) (by rw [put_size]; exact hB') h' H

def planBJ (md : Region.Mode) (ops : Array Oper) (sz n g : Nat) : List Nat → List Oper → Nat → Array Bool → Bool
  | [], l, k, listed => l.isEmpty && decide (k = n) && Region.seqB md ops g n listed
  | m :: pl, l, k, listed => decide (m ≤ l.length) && decide (k + m ≤ n) && segBJ md ops sz (l.take m) k listed &&
      match l.drop m with
      | [] => decide (k + m = n) && Region.seqB md ops g n (past m k listed)
      | _ :: r => decide (k + m < n) && (Region.ready md ops (past m k listed) == [k + m]) && planBJ md ops sz n g pl r (k + m + 1) ((past m k listed).setIfInBounds (k + m) true)

theorem plan_anyJ (hs : Region.noSelect ops = true) (hQ : ∀ c a d v w, Q (.panic c) (a.put d v) w → Q (.panic c) a w) {sz n : Nat} (hsk : Region.sinkB md ops n = true) (hch : Region.chainB md ops n = true) (hn : n < ops.size)
    {tl : List Oper} (htl : ∀ j, tl[j]? = ops[n + j]?) :
    ∀ (pl : List Nat) (l : List Oper) (k : Nat) (listed : Array Bool) (a : Act) (w : World), HeadInv md ops n listed → S w → (∀ j, j < l.length → l[j]? = ops[k + j]?) → planBJ md ops sz n tl.length pl l k listed = true →
      wpPlanT P ops sz Q S tl pl l a w → wpAnyT P md ops Q S n (tl.length + l.length) listed a w
  | [], l, k, listed, a, w, inv, hS, hl, hB, h => by
    obtain ⟨rfl, hq⟩ := h
    simp only [planBJ, Bool.and_eq_true] at hB
    exact anyT_of_seq tl n listed a w (Nat.le_refl _) htl hB.2 hq
  | m :: pl, l, k, listed, a, w, inv, hS, hl, hB, h => by
    obtain ⟨hsz, A, hst, h⟩ := h
    simp only [planBJ, Bool.and_eq_true, decide_eq_true_eq] at hB
    obtain ⟨⟨⟨hm, hkm⟩, hseg⟩, hB⟩ := hB
    have hlen : (l.take m).length = m := by simp; omega
    have el : tl.length + l.length = (tl.length + (l.drop m).length) + (l.take m).length := by simp; omega
    rw [el]
    refine seg_takeJ hs hQ hsk hch hn hS (l.take m) k listed a (by omega) inv (fun j hj => ?_) (hsz ▸ hseg) hst ?_
    · rw [← hl j (by omega), List.getElem?_take_of_lt (by omega)]
    have inv' := seg_invJ (l.take m) k listed (by omega) inv hseg
    rw [hlen] at inv' ⊢
    cases hd : l.drop m with
    | nil =>
      rw [hd] at hB h
      simp only [Bool.and_eq_true, decide_eq_true_eq] at hB
      exact anyT_of_seq tl n _ A w (Nat.le_refl _) htl hB.2 h
    | cons o r =>
      rw [hd] at hB h
      simp only [Bool.and_eq_true, beq_iff_eq, decide_eq_true_eq] at hB
      obtain ⟨⟨hkn, hrd⟩, hB⟩ := hB
      have hlm : m < l.length := by
        rcases Nat.lt_or_ge m l.length with h' | h'
        · exact h'
        · rw [List.drop_eq_nil_of_le h'] at hd; cases hd
      have hdl : (l.drop m).length = r.length + 1 := by rw [hd]; rfl
      have ho : ops[k + m]? = some o := by
        rw [← hl m hlm]
        have := List.getElem?_drop (xs := l) (i := m) (j := 0)
        rw [hd, Nat.add_zero] at this
        exact this.symm
      have hr : ∀ j, j < r.length → r[j]? = ops[k + m + 1 + j]? := fun j hj => by
        have := List.getElem?_drop (xs := l) (i := m) (j := j + 1)
        rw [hd, List.getElem?_cons_succ, hl _ (by rw [List.length_drop] at hdl; omega)] at this
        rw [this]
        congr 1
        omega
      have hrm : k + m ∈ Region.ready md ops (past m k listed) := by rw [hrd]; simp
      rw [List.length_cons, ← Nat.add_assoc]
      refine ⟨fun h0 => (by rw [h0] at hrd; cases hrd), fun i hi => ?_⟩
      have hi : i = k + m := by rw [hrd] at hi; simpa using hi
      subst hi
      have ih : ∀ a' w', S w' → wpPlanT P ops sz Q S tl pl r a' w' → wpAnyT P md ops Q S n (tl.length + r.length) ((past m k listed).setIfInBounds (k + m) true) a' w' := fun a' w' hS' h' =>
        plan_anyJ hs hQ hsk hch hn htl pl r (k + m + 1) _ a' w' (inv'.set hrm hkn) hS' hr hB h'
      unfold wpOp
      simp only [ho]
      split
      · rename_i hw
        simp only [hw, if_true] at h
        exact .inl (Oper.wp_mono (fun a' w' ⟨h1, h2⟩ => ⟨fun _ => h1, ih a' w' h1 h2⟩) h)
      · rename_i hw
        simp only [hw] at h
        exact ⟨fun _ => hS, ih _ _ hS h⟩

def tailBJ (md : Region.Mode) (l : List Oper) (sz n : Nat) (plan : List Nat) : Bool :=
  Region.noSelect l.toArray && decide (n < l.length) && Region.sinkB md l.toArray n && Region.chainB md l.toArray n && planBJ md l.toArray sz n (l.length - n) plan (l.take n) 0 (Array.replicate l.length false)
/-- a region that draws its order: the first n operations read and call, what they read stays (S); the others wait for all of them, and stand in one order. -/
theorem region_planJ {id : Nat} {a : Act} {w : World} {l : List Oper} (S : World → Prop) (n : Nat) (plan : List Nat) (sz : Nat) (hS : S w.drew) (hm : P.follows .mixedOrders = true)
    (hB : tailBJ .any l sz n plan = true) (hQ : ∀ c a d v w, Q (.panic c) (a.put d v) w → Q (.panic c) a w)
    (h : wpPlanT P l.toArray sz Q S (l.drop n) plan (l.take n) a w.drew) : (Code.region id l.toArray true).wp P Q a w := by
  simp only [tailBJ, Bool.and_eq_true, decide_eq_true_eq] at hB
  obtain ⟨⟨⟨⟨hsel, hn⟩, hsk⟩, hch⟩, hB⟩ := hB
  have htl : (l.take n).length = n := by simp; omega
  have hdl : (l.drop n).length = l.length - n := by simp
  have inv0 : HeadInv .any l.toArray n (Array.replicate l.length false) :=
    ⟨by simp, fun j oj _ hl => (by rw [getD_replicate_false] at hl; cases hl), fun t _ ht => getD_in (by simpa using ht) (getD_replicate_false _ _)⟩
  have H := plan_anyJ (md := .any) (S := S) hsel hQ hsk hch (by simpa using hn) (tl := l.drop n) (fun j => by simp [List.getElem?_drop]) plan (l.take n) 0 (Array.replicate l.length false) a w.drew inv0 hS
    (fun j hj => by have hj' : j < n := by rw [htl] at hj; exact hj
                    simp [hj']) (by rw [hdl]; exact hB) h
  refine wp_region_any hm ?_
  have := any_of_T _ _ _ _ H
  rw [htl, hdl, show l.length - n + n = l.length by omega] at this
  simpa using this
end
end Go.Proofs.YtfbgcednodnioabDoor
