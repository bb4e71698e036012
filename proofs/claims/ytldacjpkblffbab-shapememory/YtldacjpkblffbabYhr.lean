import Derived.Test.YtldacjpkblffbabYhq
namespace Go.Proofs.Ytldacjpkblffbab
open Go.RowKit Gf2
set_option linter.unusedVariables false

-- layer 16: lengths of lists: plain mathematics, and lists read by their lengths
/-- the one length of what is not empty among the first k, behind s; none: two unlike ones. -/
def scf (s : Option Nat) (n : Nat → Nat) : Nat → Option Nat
  | 0 => s
  | k + 1 => match scf s n k with
    | none => none
    | some l => if n k = 0 then some l else if l ≠ 0 ∧ n k ≠ l then none else some (n k)
theorem scf_zero {s : Option Nat} {n : Nat → Nat} {k l : Nat} (h : scf s n k = some l) (h0 : n k = 0) : scf s n (k + 1) = some l := by
  rw [scf, h]; simp only; rw [if_pos h0]
theorem scf_bad {s : Option Nat} {n : Nat → Nat} {k l : Nat} (h : scf s n k = some l) (h0 : n k ≠ 0) (h1 : l ≠ 0) (h2 : n k ≠ l) : scf s n (k + 1) = none := by
  rw [scf, h]; simp only; rw [if_neg h0, if_pos ⟨h1, h2⟩]
theorem scf_good {s : Option Nat} {n : Nat → Nat} {k l : Nat} (h : scf s n k = some l) (h0 : n k ≠ 0) (h1 : l = 0 ∨ n k = l) : scf s n (k + 1) = some (n k) := by
  rw [scf, h]; simp only; rw [if_neg h0, if_neg (by omega)]
theorem scf_none {s : Option Nat} {n : Nat → Nat} {a b : Nat} (h : scf s n a = none) (hab : a ≤ b) : scf s n b = none := by
  induction b with
  | zero => obtain rfl : a = 0 := by omega
            exact h
  | succ b ih =>
    by_cases e : a = b + 1
    · rw [← e]; exact h
    · rw [scf, ih (by omega)]
theorem scf_from_none (n : Nat → Nat) (k : Nat) : scf none n k = none := scf_none (a := 0) rfl (Nat.zero_le _)
theorem scf_congr {s : Option Nat} {n n' : Nat → Nat} {k : Nat} (h : ∀ i, i < k → n i = n' i) : scf s n k = scf s n' k := by
  induction k with
  | zero => rfl
  | succ k ih => rw [scf, scf, ih (fun i hi => h i (by omega)), h k (by omega)]
theorem scf_keep {l0 l : Nat} {n : Nat → Nat} {k : Nat} (h : scf (some l0) n k = some l) (h0 : l0 ≠ 0) : l = l0 := by
  induction k generalizing l with
  | zero => cases h; rfl
  | succ k ih =>
    cases e : scf (some l0) n k with
    | none => rw [scf, e] at h; cases h
    | some x =>
      have hx := ih e
      rw [scf, e] at h
      simp only at h
      by_cases h1 : n k = 0
      · rw [if_pos h1] at h; cases h; exact hx
      · rw [if_neg h1] at h
        by_cases h2 : x ≠ 0 ∧ n k ≠ x
        · rw [if_pos h2] at h; cases h
        · rw [if_neg h2] at h; cases h; omega
/-- all that is not empty has the one length. -/
theorem scf_all {l : Nat} {n : Nat → Nat} {k : Nat} (h : scf (some 0) n k = some l) : (∀ i, i < k → n i = 0 ∨ n i = l) ∧ (l = 0 → ∀ i, i < k → n i = 0) := by
  induction k generalizing l with
  | zero => exact ⟨fun i hi => absurd hi (Nat.not_lt_zero _), fun _ i hi => absurd hi (Nat.not_lt_zero _)⟩
  | succ k ih =>
    cases e : scf (some 0) n k with
    | none => rw [scf, e] at h; cases h
    | some x =>
      obtain ⟨hx, hx0⟩ := ih e
      rw [scf, e] at h
      simp only at h
      by_cases h1 : n k = 0
      · rw [if_pos h1] at h; cases h
        refine ⟨fun i hi => ?_, fun h0 i hi => ?_⟩
        · by_cases e2 : i = k
          · rw [e2]; exact .inl h1
          · exact hx i (by omega)
        · by_cases e2 : i = k
          · rw [e2]; exact h1
          · exact hx0 h0 i (by omega)
      · rw [if_neg h1] at h
        by_cases h2 : x ≠ 0 ∧ n k ≠ x
        · rw [if_pos h2] at h; cases h
        · rw [if_neg h2] at h; cases h
          refine ⟨fun i hi => ?_, fun h0 => absurd h0 h1⟩
          by_cases e2 : i = k
          · rw [e2]; exact .inr rfl
          · rcases hx i (by omega) with h3 | h3
            · exact .inl h3
            · by_cases h4 : x = 0
              · left; rw [h3]; exact h4
              · right; omega
theorem scf_uni {l : Nat} {n : Nat → Nat} {k : Nat} (hl : l ≠ 0) (h : ∀ i, i < k → n i = l) (hk : 0 < k) : scf (some 0) n k = some l := by
  have H : ∀ j, j ≤ k → scf (some 0) n j = some (if j = 0 then 0 else l) := by
    intro j
    induction j with
    | zero => intro _; rfl
    | succ j ih =>
      intro hj
      have e := ih (by omega)
      have hn := h j (by omega)
      by_cases h0 : j = 0
      · rw [if_pos h0] at e
        rw [scf_good e (by rw [hn]; exact hl) (.inl rfl), hn, if_neg (by omega)]
      · rw [if_neg h0] at e
        rw [scf_good e (by rw [hn]; exact hl) (.inr hn), hn, if_neg (by omega)]
  rw [H k (Nat.le_refl _), if_neg (by omega)]
/-- the greatest length. -/
def mx16 (n : Nat → Nat) : Nat → Nat
  | 0 => 0
  | k + 1 => if mx16 n k < n k then n k else mx16 n k
theorem mx16_scf {l : Nat} {n : Nat → Nat} {k : Nat} (h : scf (some 0) n k = some l) : mx16 n k = l := by
  induction k generalizing l with
  | zero => cases h; rfl
  | succ k ih =>
    cases e : scf (some 0) n k with
    | none => rw [scf, e] at h; cases h
    | some x =>
      have hx := ih e
      rw [scf, e] at h
      simp only at h
      rw [mx16, hx]
      by_cases h1 : n k = 0
      · rw [if_pos h1] at h; cases h; rw [if_neg (by omega)]
      · rw [if_neg h1] at h
        by_cases h2 : x ≠ 0 ∧ n k ≠ x
        · rw [if_pos h2] at h; cases h
        · rw [if_neg h2] at h; cases h
          split <;> omega
/-- two lists behind one another. -/
def cat16 (a : Nat) (n m : Nat → Nat) (i : Nat) : Nat := if i < a then n i else m (i - a)
theorem scf_cat (s : Option Nat) (a : Nat) (n m : Nat → Nat) (k : Nat) : scf s (cat16 a n m) (a + k) = scf (scf s n a) m k := by
  induction k with
  | zero => exact scf_congr (fun i hi => if_pos hi)
  | succ k ih =>
    rw [← Nat.add_assoc, scf, scf, ih]
    have : cat16 a n m (a + k) = m k := by unfold cat16; rw [if_neg (by omega), Nat.add_sub_cancel_left]
    rw [this]
/-- the length over several lists. -/
def sco (cs : Nat → Nat) (ns : Nat → Nat → Nat) : Nat → Option Nat
  | 0 => some 0
  | t + 1 => scf (sco cs ns t) (ns t) (cs t)
theorem sco_none {cs : Nat → Nat} {ns : Nat → Nat → Nat} {a b : Nat} (h : sco cs ns a = none) (hab : a ≤ b) : sco cs ns b = none := by
  induction b with
  | zero => obtain rfl : a = 0 := by omega
            exact h
  | succ b ih =>
    by_cases e : a = b + 1
    · rw [← e]; exact h
    · rw [sco, ih (by omega)]; exact scf_from_none _ _
/-- what oneLength answers. -/
def ole (f : Int) : Option Nat → Int
  | none => 162
  | some l => if f = 2 ∧ l % 2 = 1 then 8 else 0
def olv (f : Int) : Option Nat → Int
  | none => 0
  | some l => if f = 2 ∧ l % 2 = 1 then 0 else (l : Int)

theorem ole_odd {f : Int} {l : Nat} (h : f = 2 ∧ l % 2 = 1) : ole f (some l) = 8 := if_pos h
theorem olv_odd {f : Int} {l : Nat} (h : f = 2 ∧ l % 2 = 1) : olv f (some l) = 0 := if_pos h
theorem ole_even {f : Int} {l : Nat} (h : ¬ (f = 2 ∧ l % 2 = 1)) : ole f (some l) = 0 := if_neg h
theorem olv_even {f : Int} {l : Nat} (h : ¬ (f = 2 ∧ l % 2 = 1)) : olv f (some l) = (l : Int) := if_neg h
/-- a list of c lists, the i-th of the length n i. -/
def Ln (w : World) (v : Value) (c : Nat) (n : Nat → Nat) : Prop := c ≤ 281474976710656 ∧ (∀ i, i < c → n i ≤ big) ∧ ∃ a cap, v = .slice a c cap ∧ c ≤ cap ∧ cap ≤ big ∧ (0 < c → ∃ b o, a = some ⟨b, o, none⟩ ∧ b < w.heap.size ∧ ∀ i, i < c → ∃ x y, w.cell? ⟨b, o + i, none⟩ = some (.slice x (n i) y))
theorem Ln.below {w w' : World} {v : Value} {c : Nat} {n : Nat → Nat} (h : Ln w v c n) (hb : Below w.heap.size w w') : Ln w' v c n := by
  obtain ⟨h1, h2, a, cap, h3, h4, h5, h6⟩ := h
  refine ⟨h1, h2, a, cap, h3, h4, h5, fun h0 => ?_⟩
  obtain ⟨b, o, e, hl, hc⟩ := h6 h0
  refine ⟨b, o, e, Nat.lt_of_lt_of_le hl hb.size, fun i hi => ?_⟩
  obtain ⟨x, y, z⟩ := hc i hi
  exact ⟨x, y, (hb.cell (p := ⟨b, o + i, none⟩) hl).trans z⟩
theorem Ll.ln {E : Nat → Prop} {w : World} {v : Value} {c : Nat} {n : Nat → Nat} {S : Nat → Nat → Nat} (h : Ll E w v c n S) (hc : c ≤ 281474976710656) : Ln w v c n := by
  obtain ⟨V, ⟨h1, a, cap, h3, h5, h6, h4⟩, hV⟩ := h
  refine ⟨hc, fun i hi => (hV i hi).1, a, cap, h3, h5, h6, fun h0 => ?_⟩
  obtain ⟨b, o, e, hl, hc⟩ := h4 h0
  refine ⟨b, o, e, hl.1, fun i hi => ?_⟩
  obtain ⟨-, -, x, y, e2, -⟩ := hV i hi
  exact ⟨x, y, by rw [hc i hi, e2]⟩
theorem Ln.congr {w : World} {v : Value} {c : Nat} {n n' : Nat → Nat} (h : Ln w v c n) (e : ∀ i, i < c → n i = n' i) : Ln w v c n' := by
  obtain ⟨h1, h2, a, cap, h3, h4, h5, h6⟩ := h
  refine ⟨h1, fun i hi => by rw [← e i hi]; exact h2 i hi, a, cap, h3, h4, h5, fun h0 => ?_⟩
  obtain ⟨b, o, e1, hl, hc⟩ := h6 h0
  exact ⟨b, o, e1, hl, fun i hi => by rw [← e i hi]; exact hc i hi⟩
theorem Ln.form {w : World} {v : Value} {c : Nat} {n : Nat → Nat} (h : Ln w v c n) : ∃ a cap, v = .slice a c cap := by
  obtain ⟨h1, h2, a, cap, h3, h4, h5, h6⟩ := h
  exact ⟨a, cap, h3⟩
/-- the first k of them. -/
theorem Ln.head {w : World} {x : Option Addr} {c cx k : Nat} {n : Nat → Nat} (h : Ln w (.slice x c cx) c n) (hk : k ≤ c) : Ln w (.slice x k cx) k n := by
  obtain ⟨h1, h2, a, cap, h3, h4, h5, h6⟩ := h
  cases h3
  refine ⟨by omega, fun i hi => h2 i (by omega), x, cx, rfl, by omega, h5, fun h0 => ?_⟩
  obtain ⟨b, o, e1, hl, hc⟩ := h6 (by omega)
  exact ⟨b, o, e1, hl, fun i hi => hc i (by omega)⟩
/-- the numbers below k that P holds of. -/
def ems (P : Nat → Bool) (k : Nat) : List Nat := (List.range k).filter P
theorem ems_yes {P : Nat → Bool} {k : Nat} (h : P k = true) : ems P (k + 1) = ems P k ++ [k] := by unfold ems; rw [List.range_succ, List.filter_append]; simp [h]
theorem ems_no {P : Nat → Bool} {k : Nat} (h : P k = false) : ems P (k + 1) = ems P k := by unfold ems; rw [List.range_succ, List.filter_append]; simp [h]
theorem ems_le (P : Nat → Bool) (k : Nat) : (ems P k).length ≤ k := by unfold ems; exact Nat.le_trans (List.length_filter_le _ _) (by simp)
theorem ems_len_yes {P : Nat → Bool} {k : Nat} (h : P k = true) : (ems P (k + 1)).length = (ems P k).length + 1 := by rw [ems_yes h]; simp
theorem ems_congr {P Q : Nat → Bool} {k : Nat} (h : ∀ i, i < k → P i = Q i) : ems P k = ems Q k := by
  unfold ems
  apply List.filter_congr
  intro x hx
  exact h x (List.mem_range.1 hx)
/-- as a list of ints. -/
def emz (P : Nat → Bool) (k i : Nat) : Int := ((ems P k).getD i 0 : Nat)
theorem emz_step {P : Nat → Bool} {k : Nat} (h : P k = true) : ∀ i, i < (ems P (k + 1)).length → (if i < (ems P k).length then emz P k i else (k : Int)) = emz P (k + 1) i := by
  intro i hi
  rw [ems_len_yes h] at hi
  unfold emz
  rw [ems_yes h, List.getD_eq_getElem?_getD, List.getD_eq_getElem?_getD]
  by_cases e : i < (ems P k).length
  · rw [if_pos e, List.getElem?_append_left e]
  · rw [if_neg e, List.getElem?_append_right (by omega)]
    obtain rfl : i = (ems P k).length := by omega
    simp
theorem ems_zero {P : Nat → Bool} {k : Nat} : (ems P k).length = 0 ↔ ∀ i, i < k → P i = false := by
  unfold ems
  rw [List.length_eq_zero_iff, List.filter_eq_nil_iff]
  constructor
  · intro h i hi
    have := h i (List.mem_range.2 hi)
    cases hp : P i
    · rfl
    · exact absurd hp this
  · intro h x hx
    rw [h x (List.mem_range.1 hx)]
    decide
theorem ems_full {P : Nat → Bool} {k : Nat} : (ems P k).length = k ↔ ∀ i, i < k → P i = true := by
  have hr : (List.range k).length = k := by simp
  unfold ems
  constructor
  · intro h i hi
    have := (List.length_filter_eq_length_iff (p := P) (l := List.range k)).1 (by rw [h, hr])
    exact this i (List.mem_range.2 hi)
  · intro h
    rw [(List.length_filter_eq_length_iff (p := P) (l := List.range k)).2 (fun a ha => h a (List.mem_range.1 ha)), hr]
end Go.Proofs.Ytldacjpkblffbab
