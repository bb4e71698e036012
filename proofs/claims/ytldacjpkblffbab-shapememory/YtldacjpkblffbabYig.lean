import Derived.Test.YtldacjpkblffbabYhx
namespace Go.Proofs.Ytldacjpkblffbab
open Go.RowKit Gf2
set_option linter.unusedVariables false

-- layer 16: lists turned round
/-- the list turned round. -/
def rev16 (c : Nat) (n : Nat → Nat) (i : Nat) : Nat := n (c - 1 - i)
theorem scf_two {n : Nat → Nat} {k l : Nat} (h : ∀ i, i < k → n i = 0 ∨ n i = l) : scf (some 0) n k = some 0 ∧ (∀ i, i < k → n i = 0) ∨ scf (some 0) n k = some l ∧ ∃ i, i < k ∧ n i = l := by
  induction k with
  | zero => exact .inl ⟨rfl, fun i hi => absurd hi (Nat.not_lt_zero _)⟩
  | succ k ih =>
    by_cases h0 : n k = 0
    · rcases ih (fun i hi => h i (by omega)) with ⟨e, ha⟩ | ⟨e, i, hi, he⟩
      · refine .inl ⟨scf_zero e h0, fun i hi => ?_⟩
        by_cases e2 : i = k
        · rw [e2]; exact h0
        · exact ha i (by omega)
      · exact .inr ⟨scf_zero e h0, i, by omega, he⟩
    · have hl : n k = l := (h k (Nat.lt_succ_self _)).resolve_left h0
      right
      refine ⟨?_, k, Nat.lt_succ_self _, hl⟩
      rcases ih (fun i hi => h i (by omega)) with ⟨e, ha⟩ | ⟨e, i, hi, he⟩
      · rw [scf_good e h0 (.inl rfl), hl]
      · rw [scf_good e h0 (.inr hl), hl]
theorem scf_some {n : Nat → Nat} {k l : Nat} (h : scf (some 0) n k = some l) : (∀ i, i < k → n i = 0 ∨ n i = l) ∧ (l = 0 ∨ ∃ i, i < k ∧ n i = l) := by
  obtain ⟨h1, h2⟩ := scf_all h
  refine ⟨h1, ?_⟩
  rcases scf_two h1 with ⟨e, ha⟩ | ⟨e, he⟩
  · left; rw [h] at e; exact Option.some.inj e
  · exact .inr he
theorem rev_lt {c i : Nat} (h : i < c) : c - 1 - i < c := by omega
theorem rev_rev {c : Nat} {n : Nat → Nat} {i : Nat} (h : i < c) : rev16 c (rev16 c n) i = n i := by unfold rev16; congr 1; omega
theorem scf_rev_some {n : Nat → Nat} {c l : Nat} (h : scf (some 0) n c = some l) : scf (some 0) (rev16 c n) c = some l := by
  obtain ⟨h1, h2⟩ := scf_some h
  rcases scf_two (n := rev16 c n) (k := c) (l := l) (fun i hi => h1 _ (rev_lt hi)) with ⟨e, ha⟩ | ⟨e, he⟩
  · rcases h2 with h2 | ⟨i, hi, he⟩
    · rw [h2]; exact e
    · have := ha (c - 1 - i) (rev_lt hi)
      unfold rev16 at this
      rw [show c - 1 - (c - 1 - i) = i by omega] at this
      rw [e]; congr 1; omega
  · exact e
theorem scf_rev (n : Nat → Nat) (c : Nat) : scf (some 0) (rev16 c n) c = scf (some 0) n c := by
  cases e : scf (some 0) n c with
  | some l => exact scf_rev_some e
  | none =>
    cases e2 : scf (some 0) (rev16 c n) c with
    | none => rfl
    | some l =>
      have := scf_rev_some e2
      rw [scf_congr (n' := n) (fun i hi => rev_rev hi), e] at this
      cases this
theorem aeb_rev (n : Nat → Nat) (c : Nat) : aeb (rev16 c n) c = aeb n c := by
  cases e : aeb n c with
  | true =>
    obtain ⟨i, hi, h0⟩ := aeb_iff.1 e
    refine aeb_iff.2 ⟨c - 1 - i, rev_lt hi, ?_⟩
    unfold rev16
    rw [show c - 1 - (c - 1 - i) = i by omega]; exact h0
  | false => exact aeb_no.2 (fun i hi => aeb_no.1 e _ (rev_lt hi))
theorem range_rev (c : Nat) : (List.range c).map (fun i => c - 1 - i) = (List.range c).reverse := by
  apply List.ext_getElem
  · simp
  · intro i h1 h2
    simp at h1 ⊢
theorem ems_rev (n : Nat → Nat) (c : Nat) : (ems (emp (rev16 c n)) c).map (fun i => c - 1 - i) = (ems (emp n) c).reverse := by
  unfold ems
  rw [← List.filter_reverse, ← range_rev, List.filter_map]
  rfl
theorem ems_rev_len (n : Nat → Nat) (c : Nat) : (ems (emp (rev16 c n)) c).length = (ems (emp n) c).length := by
  have := congrArg List.length (ems_rev n c)
  simpa using this
theorem ems_mem {P : Nat → Bool} {k x : Nat} : x ∈ ems P k ↔ x < k ∧ P x = true := by unfold ems; rw [List.mem_filter, List.mem_range]
/-- the number of the empty ones below an empty one is its place among them. -/
theorem ems_pre {P : Nat → Bool} : ∀ {k i : Nat}, i ≤ k → ∃ t, ems P k = ems P i ++ t
  | k, i, h => by
    induction k with
    | zero => obtain rfl : i = 0 := by omega
              exact ⟨[], by simp⟩
    | succ k ih =>
      by_cases e : i = k + 1
      · exact ⟨[], by rw [e]; simp⟩
      · obtain ⟨t, ht⟩ := ih (by omega)
        cases hP : P k with
        | true => exact ⟨t ++ [k], by rw [ems_yes hP, ht, List.append_assoc]⟩
        | false => exact ⟨t, by rw [ems_no hP, ht]⟩
theorem emz_at {P : Nat → Bool} {c i : Nat} (hi : i < c) (hP : P i = true) : (ems P i).length < (ems P c).length ∧ emz P c (ems P i).length = (i : Int) := by
  obtain ⟨t, ht⟩ := ems_pre (P := P) (k := c) (i := i + 1) hi
  have hy := ems_yes hP
  rw [ht, hy]
  refine ⟨by simp, ?_⟩
  unfold emz
  rw [ht, hy, List.getD_eq_getElem?_getD, List.append_assoc, List.getElem?_append_right (Nat.le_refl _)]
  simp
theorem emz_rev {n : Nat → Nat} {c i : Nat} (hi : i < c) (h0 : n i = 0) : emz (emp (rev16 c n)) c ((ems (emp n) c).length - 1 - (ems (emp n) i).length) = ((c - 1 - i : Nat) : Int) := by
  have hP : emp n i = true := by show (n i == 0) = true; rw [h0]; rfl
  obtain ⟨hl, he⟩ := emz_at hi hP
  have hr := ems_rev n c
  have hlen := ems_rev_len n c
  unfold emz at he ⊢
  obtain ⟨L, hL⟩ : ∃ L, L = (ems (emp n) c).length := ⟨_, rfl⟩
  obtain ⟨a, ha⟩ : ∃ a, a = (ems (emp n) i).length := ⟨_, rfl⟩
  rw [← hL] at hl hlen ⊢
  rw [← ha] at hl he ⊢
  have h1 : (ems (emp n) c)[a]? = some i := by
    rw [List.getElem?_eq_getElem (by omega)]
    rw [List.getD_eq_getElem?_getD, List.getElem?_eq_getElem (by omega)] at he
    simp at he
    congr 1
    omega
  have h2 : ((ems (emp (rev16 c n)) c).map (fun i => c - 1 - i))[L - 1 - a]? = some i := by
    rw [hr, List.getElem?_reverse (by omega), ← hL, show L - 1 - (L - 1 - a) = a by omega]
    exact h1
  rw [List.getElem?_map] at h2
  rw [List.getD_eq_getElem?_getD]
  cases h3 : (ems (emp (rev16 c n)) c)[L - 1 - a]? with
  | none => rw [h3] at h2; cases h2
  | some x =>
    rw [h3] at h2
    have hx : c - 1 - x = i := Option.some.inj h2
    have hm := (ems_mem.1 (List.mem_of_getElem? h3)).1
    show ((x : Nat) : Int) = _
    congr 1
    omega
end Go.Proofs.Ytldacjpkblffbab
