import Derived.Test.YtehbiccpbopkfaaDoorFfaf
import Derived.Deep.Upon
namespace Go.Proofs.YtehbiccpbopkfaaDoor
open Go.RowKit Gf2
set_option linter.unusedVariables false

/-- S 0, .., S (n - 1) as cells. -/
def bs : Nat → (Nat → Nat) → List Value
  | 0, _ => []
  | n + 1, S => Value.int .u8 ((S 0 : Nat) : Int) :: bs n (fun i => S (i + 1))
theorem bs_len : ∀ (n : Nat) (S : Nat → Nat), (bs n S).length = n
  | 0, _ => rfl
  | n + 1, S => by rw [bs, List.length_cons, bs_len n]
theorem bs_get : ∀ (n : Nat) (S : Nat → Nat) (i : Nat), i < n → (bs n S)[i]? = some (Value.int .u8 ((S i : Nat) : Int))
  | 0, _, i, h => absurd h (Nat.not_lt_zero _)
  | n + 1, S, 0, _ => rfl
  | n + 1, S, i + 1, h => by rw [bs, List.getElem?_cons_succ]; exact bs_get n _ i (by omega)
theorem bs_one {n : Nat} {S : Nat → Nat} : ∀ u ∈ bs n S, u.oneCell' = true := by
  intro u hu
  obtain ⟨i, hi⟩ := List.getElem?_of_mem hu
  have hl : i < n := by
    rcases Nat.lt_or_ge i n with h | h
    · exact h
    · rw [List.getElem?_eq_none (by rw [bs_len]; exact h)] at hi; cases hi
  rw [bs_get n S i hl] at hi
  cases hi
  rfl
theorem setCells_rw {g N : Nat} : ∀ (n : Nat) (S : Nat → Nat) (o : Nat) (w : World) (F : Nat → Nat), Rw w g N F → o + n ≤ N → (∀ i, i < n → S i < 256) → Rw (w.setCells g o (bs n S)) g N (pl F o n S) ∧ Only g w (w.setCells g o (bs n S))
  | 0, S, o, w, F, h, _, _ => ⟨h.congr (fun i hi => (pl_out (by omega)).symm), Only.refl _ _⟩
  | n + 1, S, o, w, F, h, ho, hS => by
    have h1 : Rw (w.setCell ⟨g, o, none⟩ (.int .u8 ((S 0 : Nat) : Int))) g N (fun i => if i = o then S 0 else F i) := by
      refine ⟨h.1, fun i hi => ?_, (h.2.2.set o _).congr (fun i hi => ?_)⟩
      · dsimp only
        split
        · exact hS 0 (by omega)
        · exact h.2.1 i hi
      · dsimp only
        by_cases e : i = o
        · rw [if_pos e, if_pos e]
        · rw [if_neg e, if_neg e]
    have o1 : Only g w (w.setCell ⟨g, o, none⟩ (.int .u8 ((S 0 : Nat) : Int))) := (Only.refl g w).setCell o _
    obtain ⟨h2, o2⟩ := setCells_rw n (fun i => S (i + 1)) (o + 1) _ _ h1 (by omega) (fun i hi => hS (i + 1) (by omega))
    refine ⟨h2.congr (fun i hi => ?_), o1.trans o2⟩
    unfold pl
    dsimp only
    by_cases e : i = o
    · rw [if_neg (by omega), if_pos e, if_pos (by omega), e, Nat.sub_self]
    · by_cases e2 : o + 1 ≤ i ∧ i < o + 1 + n
      · rw [if_pos e2, if_pos (by omega)]
        show S (i - (o + 1) + 1) = S (i - o)
        rw [show i - (o + 1) + 1 = i - o by omega]
      · rw [if_neg e2, if_neg e, if_neg (by omega)]

theorem info_u8a : ∃ i, Tryd.prog.info? 5 = some i ∧ i.zero = some (Value.int .u8 0) ∧ i.size = 1 ∧ i.bytes = 1 := by
  have h := info_u8m
  cases hi : Tryd.prog.info? 5 with
  | none => rw [hi] at h; cases h
  | some i =>
    rw [hi] at h
    simp at h
    exact ⟨i, rfl, h.1, h.2.1, h.2.2⟩

/-- n bytes more behind the first L of a row. -/
theorem app8 (w : World) {g C L : Nat} {F : Nat → Nat} (hr : Rw w g C F) (hL : L ≤ C) {x : Option Addr} {n cx : Nat} {S : Nat → Nat} (hS : ∀ i, i < n → S i < 256)
    (h4 : 0 < n → ∃ b p, x = some ⟨b, p, none⟩ ∧ ∀ i, i < n → w.cell? ⟨b, p + i, none⟩ = some (.int .u8 (S i : Nat))) (hn : L + n ≤ 140737488355328) :
    ∃ w' g' C' F', (Builtin.append_ #[27, 27] 27 #[.slice (some ⟨g, 0, none⟩) L C, .slice x n cx]).run Tryd.prog w = .ok (.slice (some ⟨g', 0, none⟩) (L + n) C') w' ∧
      L + n ≤ C' ∧ Rw w' g' C' F' ∧ (∀ i, i < L → F' i = F i) ∧ (∀ i, i < n → F' (L + i) = S i) ∧ ((g' = g ∧ Only g w w') ∨ (g' = w.heap.size ∧ w'.heap.size = w.heap.size + 1 ∧ Below w.heap.size w w')) := by
  obtain ⟨ti, hi, hz, hs1, hb1⟩ := info_u8a
  by_cases h0 : n = 0
  · subst h0
    refine ⟨w, g, C, F, ?_, hL, hr, fun _ _ => rfl, fun i hi => absurd hi (Nat.not_lt_zero _), .inl ⟨rfl, Only.refl _ _⟩⟩
    cases x with
    | none =>
      have hs : Src Tryd.prog ti.size 27 (.slice none 0 cx) 0 [] w := Src.ofNil w Tryd.underlying27 cx
      exact run_append_nothing w 27 27 27 5 ti Tryd.underlying27 hi _ L C hL _ hs
    | some a =>
      have hs : Src Tryd.prog ti.size 27 (.slice (some a) 0 cx) 0 [] w := Src.ofSlice w Tryd.underlying27 a 0 cx [] (by simp) (fun j u h => by simp at h) (fun u h => by cases h)
      exact run_append_nothing w 27 27 27 5 ti Tryd.underlying27 hi _ L C hL _ hs
  · obtain ⟨b, p, rfl, hc⟩ := h4 (by omega)
    have ea : ∀ j, (⟨b, p, none⟩ : Addr).add j = ⟨b, p + j, none⟩ := fun j => by unfold Addr.add; split <;> simp_all
    have hs : Src Tryd.prog ti.size 27 (.slice (some ⟨b, p, none⟩) n cx) n (bs n S) w := Src.ofSlice w Tryd.underlying27 ⟨b, p, none⟩ n cx (bs n S) (by rw [bs_len, hs1, Nat.mul_one]) (fun j u h => by
      have hj : j < n := by
        rcases Nat.lt_or_ge j n with h9 | h9
        · exact h9
        · rw [List.getElem?_eq_none (by rw [bs_len]; exact h9)] at h; cases h
      rw [bs_get n S j hj] at h
      cases h
      rw [ea]
      exact hc j hj) bs_one
    by_cases hroom : L + n ≤ C
    · obtain ⟨k1, k2⟩ := setCells_rw n S L w F hr hroom hS
      have hrun := run_append_room_src w 27 27 27 5 ti Tryd.underlying27 hi g 0 L C _ n (bs n S) hs hroom
        (fun j hj => by rw [bs_len] at hj; rw [hs1, Nat.mul_one, Nat.zero_add, hr.2.2.cell (i := L + j) (by omega)]; rfl)
        (fun j hj => by rw [hs1, Nat.mul_one, Nat.zero_add]; exact hr.2.2.frozen _)
      rw [hs1, Nat.mul_one, Nat.zero_add] at hrun
      exact ⟨_, g, C, _, hrun, hroom, k1, fun i hi => pl_out (by omega), fun i hi => pl_in hi, .inl ⟨rfl, k2⟩⟩
    · have hold : (Builtin.firstCells ti.size L (.slice (some ⟨g, 0, none⟩) L C)).run Tryd.prog w.drew = .ok (bs L F).toArray w.drew := by
        refine run_firstCells_some w.drew ti.size L ⟨g, 0, none⟩ L C (bs L F) (by rw [bs_len, hs1, Nat.mul_one]) (fun j u hu => ?_)
        have hj : j < L := by
          rcases Nat.lt_or_ge j L with h9 | h9
          · exact h9
          · rw [List.getElem?_eq_none (by rw [bs_len]; exact h9)] at hu; cases hu
        rw [bs_get L F j hj] at hu
        cases hu
        rw [Addr.add_lit, Nat.zero_add]
        exact hr.2.2.cell (i := j) (by omega)
      have hrun := run_append_grow_src w 27 27 27 5 ti (Value.int .u8 0) Tryd.underlying27 hi hz (some ⟨g, 0, none⟩) L C (bs L F) hold _ n (bs n S) hs (by omega) (by omega) (growslice_fits (by omega) (by rw [hb1, Nat.mul_one]; exact hn))
      have hge := grownCap_ge w (L + n) C 5
      have hcm := grownCap_le_maxLen w (L + n) C 5 (by unfold maxLen; omega)
      obtain ⟨C', hC'⟩ : ∃ C', C' = grownCap w (L + n) C 5 := ⟨_, rfl⟩
      rw [← hC'] at hrun hge hcm
      have hF0 : ∀ i, i < L → F i < 256 := fun i hi => hr.2.1 i (by omega)
      refine ⟨_, w.heap.size, C', fun i => if i < L then F i else if i < L + n then S (i - L) else 0, hrun, hge, ⟨by unfold big; unfold maxLen at hcm; exact hcm, fun i hi => ?_, _, heap_alloc_new _ _, ?_, fun i hi => ?_⟩, fun i hi => if_pos hi, fun i hi => ?_, .inr ⟨rfl, by simp, ?_⟩⟩
      · dsimp only
        split
        · exact hF0 i (by assumption)
        · split
          · exact hS _ (by omega)
          · decide
      · rw [Array.size_append, List.size_toArray, List.length_append, bs_len, bs_len, size_zeroCells]
        show L + n + (C' - (L + n)) * 1 = C'
        omega
      · show _ = some (Value.int .u8 (((if i < L then F i else if i < L + n then S (i - L) else 0) : Nat) : Int))
        by_cases e1 : i < L
        · rw [if_pos e1, Array.getElem?_append_left (by simp [bs_len]; omega), List.getElem?_toArray, List.getElem?_append_left (by rw [bs_len]; exact e1), bs_get _ _ _ e1]
        · by_cases e2 : i < L + n
          · rw [if_neg e1, if_pos e2, Array.getElem?_append_left (by simp [bs_len]; omega), List.getElem?_toArray, List.getElem?_append_right (by rw [bs_len]; omega), bs_len, bs_get _ _ _ (by omega)]
          · rw [if_neg e1, if_neg e2, Array.getElem?_append_right (by simp [bs_len]; omega)]
            have hk : i - ((bs L F ++ bs n S).toArray).size < C' - (L + n) := by simp [bs_len]; omega
            generalize i - ((bs L F ++ bs n S).toArray).size = k at hk
            simp [Builtin.zeroCells, Value.cells, hk, Nat.mod_one]
      · show (if L + i < L then F (L + i) else if L + i < L + n then S (L + i - L) else 0) = S i
        rw [if_neg (by omega), if_pos (by omega), Nat.add_sub_cancel_left]
      · exact ((Below.refl w.heap.size w).drew).alloc (by simp) _
end Go.Proofs.YtehbiccpbopkfaaDoor
