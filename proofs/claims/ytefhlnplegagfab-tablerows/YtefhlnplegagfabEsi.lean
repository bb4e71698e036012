import Derived.Test.YtefhlnplegagfabEsh
namespace Go.Proofs.Ytefhlnplegagfab
open Go.RowKit
set_option linter.unusedVariables false

section
variable {P : Program} {ops : Array Oper} {Q : Exit → Act → World → Prop} {md : Region.Mode} {S : World → Prop}

theorem anyH_mono {S T : World → Prop} (hT : ∀ v, T v → S v) : ∀ (fuel : Nat) (listed : Array Bool) (a : Act) (w : World), wpAnyH P md ops Q T fuel listed a w → wpAnyH P md ops Q S fuel listed a w
  | 0, _, _, _, h => h
  | fuel + 1, _, _, _, h => ⟨h.1, fun i hi => wpOp_mono (fun a' w' h' => ⟨hT _ h'.1, anyH_mono hT fuel _ a' w' h'.2⟩) (h.2 i hi)⟩

/-- the walk by a plan, where more may stay behind each call. -/
def wpPlanS (P : Program) (ops : Array Oper) (sz : Nat) (Q : Exit → Act → World → Prop) : List Nat → (World → Prop) → List Oper → Act → World → Prop
  | [], _, l, a, w => l = [] ∧ Q .normal a w
  | n :: pl, S, l, a, w => a.tmps.size = sz ∧ ∃ A, (∀ w', S w' → wpStill P ops w' (fun a' => a' = A) (l.take n) a) ∧
      match l.drop n with
      | [] => Q .normal A w
      | o :: r => if Region.wanted o (yielded ops A.tmps) = true then o.wp P A w (fun a' w' => ∃ T : World → Prop, (∀ v, T v → S v) ∧ T w' ∧ wpPlanS P ops sz Q pl T r a' w') Q else wpPlanS P ops sz Q pl S r (A.put o.dst undef) w

theorem plan_anyS (hs : Region.noSelect ops = true) (hQ : ∀ c a d v w, Q (.panic c) (a.put d v) w → Q (.panic c) a w) {sz : Nat} :
    ∀ (pl : List Nat) (S : World → Prop) (l : List Oper) (k : Nat) (listed : Array Bool) (a : Act) (w : World), S w → (∀ j, l[j]? = ops[k + j]?) → planBH md ops sz pl l k listed = true →
      wpPlanS P ops sz Q pl S l a w → wpAnyH P md ops Q S l.length listed a w
  | [], S, l, k, listed, a, w, hS, hl, hB, h => by
    obtain ⟨rfl, hq⟩ := h
    simp only [planBH, Bool.and_eq_true, List.isEmpty_iff] at hB
    exact ⟨hB.2, hq⟩
  | n :: pl, S, l, k, listed, a, w, hS, hl, hB, h => by
    obtain ⟨hsz, A, hst, h⟩ := h
    simp only [planBH, Bool.and_eq_true, decide_eq_true_eq] at hB
    obtain ⟨⟨hn, hseg⟩, hB⟩ := hB
    have hlen : (l.take n).length = n := by simp; omega
    have el : l.length = (l.drop n).length + (l.take n).length := by simp; omega
    rw [el]
    refine seg_takeH hs hQ hS (l.take n) k listed a (fun j hj => ?_) (hsz ▸ hseg) hst ?_
    · rw [← hl j, List.getElem?_take_of_lt (by omega)]
    rw [hlen]
    cases hd : l.drop n with
    | nil =>
      rw [hd] at hB h
      simp only [List.isEmpty_iff] at hB
      exact ⟨hB, h⟩
    | cons o r =>
      rw [hd] at hB h
      simp only [Bool.and_eq_true, beq_iff_eq] at hB
      have ho : ops[k + n]? = some o := by
        rw [← hl n]
        have := List.getElem?_drop (xs := l) (i := n) (j := 0)
        rw [hd, Nat.add_zero] at this
        exact this.symm
      have hr : ∀ j, r[j]? = ops[k + n + 1 + j]? := fun j => by
        have := List.getElem?_drop (xs := l) (i := n) (j := j + 1)
        rw [hd, List.getElem?_cons_succ, hl] at this
        rw [this]
        congr 1
        omega
      refine wpAnyH_all hB.1 (by simp) (fun i hi => ?_)
      have hi : i = k + n := by simpa using hi
      subst hi
      have ih : ∀ T a' w', T w' → wpPlanS P ops sz Q pl T r a' w' → wpAnyH P md ops Q T r.length ((past n k listed).setIfInBounds (k + n) true) a' w' := fun T a' w' hS' h' => plan_anyS hs hQ pl T r (k + n + 1) _ a' w' hS' hr hB.2 h'
      unfold wpOp
      simp only [ho]
      split
      · rename_i hw
        simp only [hw, if_true] at h
        exact .inl (Oper.wp_mono (fun a' w' ⟨T, h0, h1, h2⟩ => ⟨h0 _ h1, anyH_mono h0 _ _ _ _ (ih T a' w' h1 h2)⟩) h)
      · rename_i hw
        simp only [hw] at h
        exact ⟨hS, ih _ _ _ hS h⟩

/-- a region that draws its order, walked in the order of the text; S stays, and behind each call more may. -/
theorem region_planS {id : Nat} {a : Act} {w : World} {l : List Oper} (S : World → Prop) (plan : List Nat) (sz : Nat) (hS : S w.drew) (hm : P.follows .mixedOrders = true) (hs : Region.noSelect l.toArray = true)
    (hB : planBH .any l.toArray sz plan l 0 (Array.replicate l.length false) = true) (hQ : ∀ c a d v w, Q (.panic c) (a.put d v) w → Q (.panic c) a w)
    (h : wpPlanS P l.toArray sz Q plan S l a w.drew) : (Code.region id l.toArray true).wp P Q a w := by
  refine wp_region_held (S := S) hm ?_
  have := plan_anyS (md := .any) hs hQ plan S l 0 (Array.replicate l.length false) a w.drew hS (by simp) hB h
  simpa using this

theorem planS_step {n sz : Nat} {pl : List Nat} {l r : List Oper} {o : Oper} {a : Act} {w : World} (A : Act) (hsz : a.tmps.size = sz) (hseg : ∀ w', S w' → wpStill P ops w' (fun a' => a' = A) (l.take n) a) (hd : l.drop n = o :: r)
    (h : ∀ K : Act → World → Prop, (∀ (T : World → Prop) a w, (∀ v, T v → S v) → T w → wpPlanS P ops sz Q pl T r a w → K a w) → if Region.wanted o (yielded ops A.tmps) = true then o.wp P A w K Q else wpPlanS P ops sz Q pl S r (A.put o.dst undef) w) : wpPlanS P ops sz Q (n :: pl) S l a w := by
  refine ⟨hsz, A, hseg, ?_⟩
  rw [hd]
  exact h _ (fun T _ _ h0 h1 h2 => ⟨T, h0, h1, h2⟩)
theorem planS_last {n sz : Nat} {pl : List Nat} {l : List Oper} {a : Act} {w : World} (A : Act) (hsz : a.tmps.size = sz) (hseg : ∀ w', S w' → wpStill P ops w' (fun a' => a' = A) (l.take n) a) (hd : l.drop n = [])
    (h : Q .normal A w) : wpPlanS P ops sz Q (n :: pl) S l a w := by
  refine ⟨hsz, A, hseg, ?_⟩
  rw [hd]
  exact h
end
end Go.Proofs.Ytefhlnplegagfab
