import Derived.Test.YtfhgamaakkoplaaMvaw
namespace Go.Proofs.Ytfhgamaakkoplaa
open Go.RowKit
set_option linter.unusedVariables false

section
variable {P : Program} {ops : Array Oper} {Q : Exit → Act → World → Prop} {md : Region.Mode} {S : World → Prop}
theorem seg_takeF (hs : Region.noSelect ops = true) (hQ : ∀ c a d v w, Q (.panic c) (a.put d v) w → Q (.panic c) a w) {n : Nat} {ps : List Nat} (hsk : sinkX md ops ps n = true) (hch : Region.chainB md ops n = true) (hn : n < ops.size)
    {A : Act} {w : World} (hS : S w) {fuel : Nat} :
    ∀ (l : List Oper) (k : Nat) (listed : Array Bool) (a : Act), k + l.length ≤ n → HeadInv md ops n listed → (∀ j, j < l.length → l[j]? = ops[k + j]?) → segBH md ops a.tmps.size l k listed = true →
      (∀ w', True → wpStill P ops w' (fun a' => a' = A) l a) → wpAnyX P md ops Q S n fuel (past l.length k listed) A w → wpAnyX P md ops Q S n (fuel + l.length) listed a w
  | [], _, _, a, _, _, _, _, h, H => by
    have : a = A := h w trivial
    subst this
    exact H
  | o :: l, k, listed, a, hk, inv, hl, hB, h, H => by
    have h0 : ops[k]? = some o := by simpa using (hl 0 (by simp)).symm
    simp only [segBH, Bool.and_eq_true] at hB
    obtain ⟨⟨⟨⟨hc, hd⟩, hr⟩, hf⟩, hB'⟩ := hB
    simp only [List.length_cons] at hk
    have hr' : k ∈ Region.ready md ops listed := by simpa using hr
    cases ho : o.dst with
    | none => rw [ho] at hd; cases hd
    | some d =>
      rw [ho] at hd
      simp only [Bool.and_eq_true, decide_eq_true_eq, Bool.not_eq_true', List.contains_eq_mem, decide_eq_false_iff_not] at hd
      obtain ⟨v, hy, h'⟩ := still_calmH (S := fun _ => True) hc ho hd.1 hd.2 h
      have H' := seg_takeF hs hQ hsk hch hn hS l (k + 1) _ _ (by omega) (inv.set hr' (by omega)) (fun j hj => by have := hl (j + 1) (by simp; omega); simpa [Nat.add_assoc, Nat.add_comm 1 j] using this) (by rw [put_size]; exact hB') h' H
      by_cases hkp : k ∈ ps
      · exact anyX_pure h0 (Region.noSelect_spec hs) (fun c a w => hQ c a o.dst v w) (by omega) _ listed a w (Region.free_spec h0 hf) hr' hy (fun _ => hS) H'
      · exact anyX_first h0 (Region.noSelect_spec hs) (fun c a w => hQ c a o.dst v w) hsk hch hn (by omega) hkp _ listed a w inv (Region.free_spec h0 hf) hr' (hy.imp (fun ⟨hw, hv⟩ => ⟨hw, fun w _ => hv w trivial⟩) id) hS H'

theorem seg_takeS (hs : Region.noSelect ops = true) (hQ : ∀ c a d v w, Q (.panic c) (a.put d v) w → Q (.panic c) a w) {n : Nat} {ps : List Nat} (hsk : sinkX md ops ps n = true) (hch : Region.chainB md ops n = true) (hn : n < ops.size)
    {A : Act} {w : World} (hS : S w) {fuel : Nat} :
    ∀ (l : List Oper) (k : Nat) (listed : Array Bool) (a : Act), (∀ i ∈ ps, i < k) → k + l.length ≤ n → HeadInv md ops n listed → (∀ j, j < l.length → l[j]? = ops[k + j]?) → segBH md ops a.tmps.size l k listed = true →
      (∀ w', S w' → wpStill P ops w' (fun a' => a' = A) l a) → wpAnyX P md ops Q S n fuel (past l.length k listed) A w → wpAnyX P md ops Q S n (fuel + l.length) listed a w
  | [], _, _, a, _, _, _, _, _, h, H => by
    have : a = A := h w hS
    subst this
    exact H
  | o :: l, k, listed, a, hps, hk, inv, hl, hB, h, H => by
    have h0 : ops[k]? = some o := by simpa using (hl 0 (by simp)).symm
    simp only [segBH, Bool.and_eq_true] at hB
    obtain ⟨⟨⟨⟨hc, hd⟩, hr⟩, hf⟩, hB'⟩ := hB
    simp only [List.length_cons] at hk
    have hr' : k ∈ Region.ready md ops listed := by simpa using hr
    cases ho : o.dst with
    | none => rw [ho] at hd; cases hd
    | some d =>
      rw [ho] at hd
      simp only [Bool.and_eq_true, decide_eq_true_eq, Bool.not_eq_true', List.contains_eq_mem, decide_eq_false_iff_not] at hd
      obtain ⟨v, hy, h'⟩ := still_calmH hc ho hd.1 hd.2 h
      have H' := seg_takeS hs hQ hsk hch hn hS l (k + 1) _ _ (fun i hi => by have := hps i hi; omega) (by omega) (inv.set hr' (by omega)) (fun j hj => by have := hl (j + 1) (by simp; omega); simpa [Nat.add_assoc, Nat.add_comm 1 j] using this) (by rw [put_size]; exact hB') h' H
      have hkp : k ∉ ps := fun hkp => by have := hps k hkp; omega
      exact anyX_first h0 (Region.noSelect_spec hs) (fun c a w => hQ c a o.dst v w) hsk hch hn (by omega) hkp _ listed a w inv (Region.free_spec h0 hf) hr' hy hS H'

def tailBF (md : Region.Mode) (l : List Oper) (sz n n1 : Nat) (ps : List Nat) : Bool :=
  Region.noSelect l.toArray && decide (n < l.length) && decide (n1 ≤ n) && ps.all (fun i => decide (i < n1)) && sinkX md l.toArray ps n && Region.chainB md l.toArray n && segBH md l.toArray sz (l.take n1) 0 (Array.replicate l.length false) &&
    segBH md l.toArray sz ((l.take n).drop n1) n1 (past n1 0 (Array.replicate l.length false)) && Region.seqB md l.toArray (l.length - n) n (past (n - n1) n1 (past n1 0 (Array.replicate l.length false)))
/-- a region that draws its order and ends in stores: the first n1 operations look at no memory (those of ps may come late), those up to n read what stays as S tells till the first store; the others wait for all but ps, and stand in one order. -/
theorem region_planF {id : Nat} {a : Act} {w : World} {l : List Oper} (S : World → Prop) (n n1 sz : Nat) (ps : List Nat) (A1 A2 : Act) (hS : S w.drew) (hm : P.follows .mixedOrders = true)
    (hB : tailBF .any l sz n n1 ps = true) (hs0 : a.tmps.size = sz) (hQ : ∀ c a d v w, Q (.panic c) (a.put d v) w → Q (.panic c) a w)
    (h1 : ∀ w', wpStill P l.toArray w' (fun a' => a' = A1) (l.take n1) a) (hsz : A1.tmps.size = sz)
    (h2 : ∀ w', S w' → wpStill P l.toArray w' (fun a' => a' = A2) ((l.take n).drop n1) A1) (h : wpList P l.toArray Q (l.drop n) A2 w.drew) : (Code.region id l.toArray true).wp P Q a w := by
  simp only [tailBF, Bool.and_eq_true, decide_eq_true_eq] at hB
  obtain ⟨⟨⟨⟨⟨⟨⟨⟨hsel, hn⟩, hn1⟩, hps⟩, hsk⟩, hch⟩, hB1⟩, hB2⟩, hB3⟩ := hB
  have hps2 : ∀ i ∈ ps, i < n1 := fun i hi => by simpa using List.all_eq_true.1 hps i hi
  have inv0 : HeadInv .any l.toArray n (Array.replicate l.length false) :=
    ⟨by simp, fun j oj _ hl => (by rw [getD_replicate_false] at hl; cases hl), fun t _ ht => getD_in (by simpa using ht) (getD_replicate_false _ _)⟩
  have hn2 : n < l.toArray.size := by simpa using hn
  have t1 : (l.take n1).length = n1 := by simp; omega
  have t2 : ((l.take n).drop n1).length = n - n1 := by simp; omega
  have inv1 := seg_inv (l.take n1) 0 (Array.replicate l.length false) (by omega) inv0 hB1
  rw [t1] at inv1
  have E := anyX_of_seq (md := .any) (S := S) (Q := Q) (ops := l.toArray) (P := P) (n := n) (l.drop n) n (past (n - n1) n1 (past n1 0 (Array.replicate l.length false))) A2 w.drew (Nat.le_refl _) (fun j => by simp [List.getElem?_drop]) (by rw [List.length_drop]; exact hB3) h
  have E2 := seg_takeS (md := .any) hsel hQ (ps := ps) hsk hch hn2 hS (A := A2) (fuel := (l.drop n).length) ((l.take n).drop n1) n1 (past n1 0 (Array.replicate l.length false)) A1 hps2 (by omega) inv1 (fun j hj => by
    rw [t2] at hj
    simp [List.getElem?_drop, List.getElem?_take_of_lt (show n1 + j < n by omega)]) (by rw [hsz]; exact hB2) h2 (by rw [t2]; exact E)
  have E1 := seg_takeF (md := .any) hsel hQ (ps := ps) hsk hch hn2 hS (A := A1) (fuel := (l.drop n).length + ((l.take n).drop n1).length) (l.take n1) 0 (Array.replicate l.length false) a (by omega) inv0 (fun j hj => by
    rw [t1] at hj
    simp [List.getElem?_take_of_lt hj]) (by rw [hs0]; exact hB1) (fun w' _ => h1 w') (by rw [t1]; exact E2)
  refine wp_region_any hm ?_
  have := any_of_X _ _ _ _ E1
  rw [t1, t2, List.length_drop, show l.length - n + (n - n1) + n1 = l.length by omega] at this
  simpa using this
end
end Go.Proofs.Ytfhgamaakkoplaa
