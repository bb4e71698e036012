import Derived.Test.YtfbgcednodnioaaDoorPnaf
import Derived.Deep.Upon
import Derived.Lib.AppendZeros
import Derived.Deep.DeepAppendWide
namespace Go.Proofs.YtfbgcednodnioaaDoor
open Go.RowKit Gf2
set_option linter.unusedVariables false

-- append of bytes with wider bounds (app8, app8_nil, copy_app of Ebp, Nbe, Ebq)
/-- n bytes more behind the first L of a row. -/
theorem app8w (w : World) {g C L : Nat} {F : Nat → Nat} (hr : Rw w g C F) (hL : L ≤ C) {x : Option Addr} {n cx : Nat} {S : Nat → Nat} (hS : ∀ i, i < n → S i < 256)
    (h4 : 0 < n → ∃ b p, x = some ⟨b, p, none⟩ ∧ ∀ i, i < n → w.cell? ⟨b, p + i, none⟩ = some (.int .u8 (S i : Nat))) (hn : L + n ≤ 225000000000000) :
    ∃ w' g' C' F', (Builtin.append_ #[41, 41] 41 #[.slice (some ⟨g, 0, none⟩) L C, .slice x n cx]).run Tryd.prog w = .ok (.slice (some ⟨g', 0, none⟩) (L + n) C') w' ∧
      L + n ≤ C' ∧ Rw w' g' C' F' ∧ (∀ i, i < L → F' i = F i) ∧ (∀ i, i < n → F' (L + i) = S i) ∧ ((g' = g ∧ Only g w w') ∨ (g' = w.heap.size ∧ w'.heap.size = w.heap.size + 1 ∧ Below w.heap.size w w')) := by
  obtain ⟨ti, hi, hz, hs1, hb1⟩ := info_u8a
  by_cases h0 : n = 0
  · subst h0
    refine ⟨w, g, C, F, ?_, hL, hr, fun _ _ => rfl, fun i hi => absurd hi (Nat.not_lt_zero _), .inl ⟨rfl, Only.refl _ _⟩⟩
    cases x with
    | none =>
      have hs : Src Tryd.prog ti.size 41 (.slice none 0 cx) 0 [] w := Src.ofNil w Tryd.underlying41 cx
      exact run_append_nothing w 41 41 41 5 ti Tryd.underlying41 hi _ L C hL _ hs
    | some a =>
      have hs : Src Tryd.prog ti.size 41 (.slice (some a) 0 cx) 0 [] w := Src.ofSlice w Tryd.underlying41 a 0 cx [] (by simp) (fun j u h => by simp at h) (fun u h => by cases h)
      exact run_append_nothing w 41 41 41 5 ti Tryd.underlying41 hi _ L C hL _ hs
  · obtain ⟨b, p, rfl, hc⟩ := h4 (by omega)
    have ea : ∀ j, (⟨b, p, none⟩ : Addr).add j = ⟨b, p + j, none⟩ := fun j => by unfold Addr.add; split <;> simp_all
    have hs : Src Tryd.prog ti.size 41 (.slice (some ⟨b, p, none⟩) n cx) n (bs n S) w := Src.ofSlice w Tryd.underlying41 ⟨b, p, none⟩ n cx (bs n S) (by rw [bs_len, hs1, Nat.mul_one]) (fun j u h => by
      have hj : j < n := by
        rcases Nat.lt_or_ge j n with h9 | h9
        · exact h9
        · rw [List.getElem?_eq_none (by rw [bs_len]; exact h9)] at h; cases h
      rw [bs_get n S j hj] at h
      cases h
      rw [ea]
      exact hc j hj) bs_one
    by_cases hroom : L + n ≤ C
    · obtain ⟨k1, k2⟩ := setCells_rw n S L w F hr hroom hS
      have hrun := run_append_room_src w 41 41 41 5 ti Tryd.underlying41 hi g 0 L C _ n (bs n S) hs hroom
        (fun j hj => by rw [bs_len] at hj; rw [hs1, Nat.mul_one, Nat.zero_add, hr.2.2.cell (i := L + j) (by omega)]; rfl)
        (fun j hj => by rw [hs1, Nat.mul_one, Nat.zero_add]; exact hr.2.2.frozen _)
      rw [hs1, Nat.mul_one, Nat.zero_add] at hrun
      exact ⟨_, g, C, _, hrun, hroom, k1, fun i hi => pl_out (by omega), fun i hi => pl_in hi, .inl ⟨rfl, k2⟩⟩
    · have hold : (Builtin.firstCells ti.size L (.slice (some ⟨g, 0, none⟩) L C)).run Tryd.prog w.drew = .ok (bs L F).toArray w.drew := by
        refine run_firstCells_some w.drew ti.size L ⟨g, 0, none⟩ L C (bs L F) (by rw [bs_len, hs1, Nat.mul_one]) (fun j u hu => ?_)
        have hj : j < L := by
          rcases Nat.lt_or_ge j L with h9 | h9
          · exact h9
          · rw [List.getElem?_eq_none (by rw [bs_len]; exact h9)] at hu; cases hu
        rw [bs_get L F j hj] at hu
        cases hu
        rw [Addr.add_lit, Nat.zero_add]
        exact hr.2.2.cell (i := j) (by omega)
      have hrun := run_append_grow_src w 41 41 41 5 ti (Value.int .u8 0) Tryd.underlying41 hi hz (some ⟨g, 0, none⟩) L C (bs L F) hold _ n (bs n S) hs (by omega) (by omega) (growslice_fits_wide (by omega) (by rw [hb1, Nat.mul_one]; omega))
      have hge := grownCap_ge w (L + n) C 5
      have hcm := grownCap_le_maxLen w (L + n) C 5 (by unfold maxLen; omega)
      obtain ⟨C', hC'⟩ : ∃ C', C' = grownCap w (L + n) C 5 := ⟨_, rfl⟩
      rw [← hC'] at hrun hge hcm
      have hF0 : ∀ i, i < L → F i < 256 := fun i hi => hr.2.1 i (by omega)
      refine ⟨_, w.heap.size, C', fun i => if i < L then F i else if i < L + n then S (i - L) else 0, hrun, hge, ⟨by unfold big; unfold maxLen at hcm; exact hcm, fun i hi => ?_, _, heap_alloc_new _ _, ?_, fun i hi => ?_⟩, fun i hi => if_pos hi, fun i hi => ?_, .inr ⟨rfl, by simp, ?_⟩⟩
      · dsimp only
        split
        · exact hF0 i (by assumption)
        · split
          · exact hS _ (by omega)
          · decide
      · rw [Array.size_append, List.size_toArray, List.length_append, bs_len, bs_len, size_zeroCells]
        show L + n + (C' - (L + n)) * 1 = C'
        omega
      · show _ = some (Value.int .u8 (((if i < L then F i else if i < L + n then S (i - L) else 0) : Nat) : Int))
        by_cases e1 : i < L
        · rw [if_pos e1, Array.getElem?_append_left (by simp [bs_len]; omega), List.getElem?_toArray, List.getElem?_append_left (by rw [bs_len]; exact e1), bs_get _ _ _ e1]
        · by_cases e2 : i < L + n
          · rw [if_neg e1, if_pos e2, Array.getElem?_append_left (by simp [bs_len]; omega), List.getElem?_toArray, List.getElem?_append_right (by rw [bs_len]; omega), bs_len, bs_get _ _ _ (by omega)]
          · rw [if_neg e1, if_neg e2, Array.getElem?_append_right (by simp [bs_len]; omega)]
            have hk : i - ((bs L F ++ bs n S).toArray).size < C' - (L + n) := by simp [bs_len]; omega
            generalize i - ((bs L F ++ bs n S).toArray).size = k at hk
            simp [Builtin.zeroCells, Value.cells, hk, Nat.mod_one]
      · show (if L + i < L then F (L + i) else if L + i < L + n then S (L + i - L) else 0) = S i
        rw [if_neg (by omega), if_pos (by omega), Nat.add_sub_cancel_left]
      · exact ((Below.refl w.heap.size w).drew).alloc (by simp) _
/-- n bytes more behind nothing. -/
theorem app8w_nil (w : World) {x : Option Addr} {n cx : Nat} {S : Nat → Nat} (hS : ∀ i, i < n → S i < 256) (h0 : 0 < n)
    (h4 : ∃ b p, x = some ⟨b, p, none⟩ ∧ ∀ i, i < n → w.cell? ⟨b, p + i, none⟩ = some (.int .u8 (S i : Nat))) (hn : n ≤ 225000000000000) :
    ∃ w' C' F', (Builtin.append_ #[41, 41] 41 #[.slice none 0 0, .slice x n cx]).run Tryd.prog w = .ok (.slice (some ⟨w.heap.size, 0, none⟩) n C') w' ∧
      n ≤ C' ∧ Rw w' w.heap.size C' F' ∧ (∀ i, i < n → F' i = S i) ∧ w'.heap.size = w.heap.size + 1 ∧ Below w.heap.size w w' := by
  obtain ⟨ti, hi, hz, hs1, hb1⟩ := info_u8a
  obtain ⟨b, p, rfl, hc⟩ := h4
  have ea : ∀ j, (⟨b, p, none⟩ : Addr).add j = ⟨b, p + j, none⟩ := fun j => by unfold Addr.add; split <;> simp_all
  have hs : Src Tryd.prog ti.size 41 (.slice (some ⟨b, p, none⟩) n cx) n (bs n S) w := Src.ofSlice w Tryd.underlying41 ⟨b, p, none⟩ n cx (bs n S) (by rw [bs_len, hs1, Nat.mul_one]) (fun j u h => by
    have hj : j < n := by
      rcases Nat.lt_or_ge j n with h9 | h9
      · exact h9
      · rw [List.getElem?_eq_none (by rw [bs_len]; exact h9)] at h; cases h
    rw [bs_get n S j hj] at h
    cases h
    rw [ea]
    exact hc j hj) bs_one
  have hold : (Builtin.firstCells ti.size 0 (.slice none 0 0)).run Tryd.prog w.drew = .ok (([] : List Value)).toArray w.drew := by
    simp [Builtin.firstCells]
  have hrun := run_append_grow_src w 41 41 41 5 ti (Value.int .u8 0) Tryd.underlying41 hi hz none 0 0 [] hold _ n (bs n S) hs (by omega) (by omega) (growslice_fits_wide (by omega) (by rw [hb1, Nat.mul_one]; omega))
  have hge := grownCap_ge w (0 + n) 0 5
  have hcm := grownCap_le_maxLen w (0 + n) 0 5 (by unfold maxLen; omega)
  obtain ⟨C', hC'⟩ : ∃ C', C' = grownCap w (0 + n) 0 5 := ⟨_, rfl⟩
  rw [← hC'] at hrun hge hcm
  rw [Nat.zero_add] at hrun hge
  refine ⟨_, C', fun i => if i < n then S i else 0, hrun, hge, ⟨by unfold big; unfold maxLen at hcm; exact hcm, fun i hi => ?_, _, heap_alloc_new _ _, ?_, fun i hi => ?_⟩, fun i hi => if_pos hi, by simp, ?_⟩
  · dsimp only
    split
    · exact hS _ (by omega)
    · decide
  · rw [Array.size_append, List.size_toArray, List.length_append, bs_len, size_zeroCells]
    show 0 + n + (C' - n) * 1 = C'
    omega
  · show _ = some (Value.int .u8 (((if i < n then S i else 0) : Nat) : Int))
    rw [List.nil_append]
    by_cases e2 : i < n
    · rw [if_pos e2, Array.getElem?_append_left (by simp [bs_len]; omega), List.getElem?_toArray, bs_get _ _ _ e2]
    · rw [if_neg e2, Array.getElem?_append_right (by simp [bs_len]; omega)]
      have hk : i - ((bs n S).toArray).size < C' - n := by simp [bs_len]; omega
      generalize i - ((bs n S).toArray).size = k at hk
      simp [Builtin.zeroCells, Value.cells, hk, Nat.mod_one]
  · exact ((Below.refl w.heap.size w).drew).alloc (by simp) _

/-- append([]byte{}, x...). -/
theorem copy_appw (w : World) {x : Option Addr} {n cx : Nat} {S : Nat → Nat} (h : Rb w (.slice x n cx) n S) (hn : n ≤ 225000000000000) :
    ∃ w' g C F, (Builtin.append_ #[41, 41] 41 #[.slice (some ⟨w.heap.size, 0, none⟩) 0 0, .slice x n cx]).run Tryd.prog (w.alloc (.cells #[] 5)) = .ok (.slice (some ⟨g, 0, none⟩) n C) w' ∧
      n ≤ C ∧ w.heap.size ≤ g ∧ g < w'.heap.size ∧ Rw w' g C F ∧ (∀ i, i < n → F i = S i) ∧ Below w.heap.size w w' := by
  obtain ⟨b1, b2, a, c', b3, b5, b6, b4⟩ := h
  cases b3
  have r0 := lit_rw [] w (fun x h => by cases h) (by decide)
  have hb0 : Below w.heap.size w (w.alloc (.cells #[] 5)) := (Below.refl _ _).alloc (Nat.le_refl _) _
  obtain ⟨w1, g, C, F, hrun, hC, hR, -, hF, hcase⟩ := app8w (w.alloc (.cells #[] 5)) (g := w.heap.size) (C := 0) (L := 0) r0 (Nat.le_refl _) (x := x) (n := n) (cx := cx) (S := S) b2 (fun h0 => by
    obtain ⟨b, o, e, hl, hcl⟩ := b4 h0
    exact ⟨b, o, e, fun i hi => (hb0.cell (p := ⟨b, o + i, none⟩) hl).trans (hcl i hi)⟩) (by omega)
  rw [Nat.zero_add] at hrun hC
  have hs : (w.alloc (.cells #[] 5)).heap.size = w.heap.size + 1 := by simp
  refine ⟨w1, g, C, F, hrun, hC, ?_, hR.lt, hR, fun i hi => by rw [← hF i hi, Nat.zero_add], ?_⟩
  · rcases hcase with ⟨e, -⟩ | ⟨e, -, -⟩
    · omega
    · rw [hs] at e; omega
  · rcases hcase with ⟨e, ho⟩ | ⟨e, -, hb⟩
    · exact hb0.trans (ho.below (Nat.le_refl _))
    · exact hb0.trans (hb.mono (by rw [hs]; omega))

end Go.Proofs.YtfbgcednodnioaaDoor
