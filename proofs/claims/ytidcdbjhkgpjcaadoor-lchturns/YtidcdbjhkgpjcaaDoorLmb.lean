import Derived.Test.YtidcdbjhkgpjcaaDoorLaq
namespace Go.Proofs.YtidcdbjhkgpjcaaDoor
open Go.RowKit Gf2
set_option linter.unusedVariables false

-- lists of lists of words that grow
/-- S 0, .., S (n - 1) as cells. -/
def bl : Nat → (Nat → Value) → List Value
  | 0, _ => []
  | n + 1, S => S 0 :: bl n (fun i => S (i + 1))
theorem bl_len : ∀ (n : Nat) (S : Nat → Value), (bl n S).length = n
  | 0, _ => rfl
  | n + 1, S => by rw [bl, List.length_cons, bl_len n]
theorem bl_get : ∀ (n : Nat) (S : Nat → Value) (i : Nat), i < n → (bl n S)[i]? = some (S i)
  | 0, _, i, h => absurd h (Nat.not_lt_zero _)
  | n + 1, S, 0, _ => rfl
  | n + 1, S, i + 1, h => by rw [bl, List.getElem?_cons_succ]; exact bl_get n _ i (by omega)
theorem bl_one {n : Nat} {S : Nat → Value} (h1 : ∀ i, i < n → (S i).oneCell' = true) : ∀ u ∈ bl n S, u.oneCell' = true := by
  intro u hu
  obtain ⟨i, hi⟩ := List.getElem?_of_mem hu
  have hl : i < n := by
    rcases Nat.lt_or_ge i n with h | h
    · exact h
    · rw [List.getElem?_eq_none (by rw [bl_len]; exact h)] at hi; cases hi
  rw [bl_get n S i hl] at hi
  cases hi
  exact h1 i hl

theorem info_l6a : ∃ i, Tryd.prog.info? 27 = some i ∧ i.zero = some (Value.slice none 0 0) ∧ i.size = 1 ∧ i.bytes = 24 := by
  have h := info_l6
  cases hi : Tryd.prog.info? 27 with
  | none => rw [hi] at h; cases h
  | some i =>
    rw [hi] at h
    simp at h
    exact ⟨i, rfl, h.1, h.2.1, h.2.2⟩
/-- one list more. -/
theorem app_l6 (W : World) {gl C L : Nat} {U : Nat → Value} (hr0 : W.rowIs gl 27 C U) (hL : L ≤ C) (hC : C ≤ big) (hU : ∀ i, i < L → (U i).oneCell' = true) (x : Value) (hx : x.oneCell' = true) (hn : (L + 1) * 24 ≤ 140737488355328) :
    ∃ w' g' C' U', (Builtin.append_ #[61, 61] 61 #[.slice (some ⟨gl, 0, none⟩) L C, .slice (some ⟨W.heap.size, 0, none⟩) 1 1]).run Tryd.prog (W.alloc (.cells #[x] 27)) = .ok (.slice (some ⟨g', 0, none⟩) (L + 1) C') w' ∧
      L + 1 ≤ C' ∧ C' ≤ big ∧ w'.rowIs g' 27 C' U' ∧ (∀ i, i < L → U' i = U i) ∧ U' L = x ∧ ((g' = gl ∧ Only gl (W.alloc (.cells #[x] 27)) w') ∨ (W.heap.size < g' ∧ Below (W.alloc (.cells #[x] 27)).heap.size (W.alloc (.cells #[x] 27)) w')) := by
  obtain ⟨ti, hi, hz, hs1, hb1⟩ := info_l6a
  have hal := below_alloc W (.cells #[x] 27)
  have hgl : gl < W.heap.size := hr0.lt
  obtain ⟨w, hw⟩ : ∃ w, w = W.alloc (.cells #[x] 27) := ⟨_, rfl⟩
  have hsz : w.heap.size = W.heap.size + 1 := by rw [hw]; simp
  have hr : w.rowIs gl 27 C U := by rw [hw]; exact hr0.of_block (hal.block gl hgl)
  have hc0 : w.cell? ⟨W.heap.size, 0, none⟩ = some x := by rw [hw, cell_of_row _ _ _ _ _ _ (heap_alloc_new _ _)]; rfl
  rw [← hw]
  have ea : ∀ j, (⟨W.heap.size, 0, none⟩ : Addr).add j = ⟨W.heap.size, 0 + j, none⟩ := fun j => by unfold Addr.add; split <;> simp_all
  have hs : Src Tryd.prog ti.size 61 (.slice (some ⟨W.heap.size, 0, none⟩) 1 1) 1 (bl 1 (fun _ => x)) w := Src.ofSlice w Tryd.underlying61 ⟨W.heap.size, 0, none⟩ 1 1 (bl 1 (fun _ => x)) (by rw [bl_len, hs1]) (fun j u h => by
    have hj : j < 1 := by
      rcases Nat.lt_or_ge j 1 with h9 | h9
      · exact h9
      · rw [List.getElem?_eq_none (by rw [bl_len]; exact h9)] at h; cases h
    rw [bl_get 1 _ j hj] at h
    cases h
    obtain rfl : j = 0 := by omega
    rw [ea]
    exact hc0) (bl_one (fun _ _ => hx))
  by_cases hroom : L + 1 ≤ C
  · have hrun := run_append_room_src w 61 61 61 27 ti Tryd.underlying61 hi gl 0 L C _ 1 (bl 1 (fun _ => x)) hs hroom
      (fun j hj => by
        rw [bl_len] at hj
        obtain rfl : j = 0 := by omega
        rw [hs1, Nat.mul_one, Nat.zero_add, hr.cell (i := L + 0) (by omega)]; rfl)
      (fun j hj => by rw [hs1, Nat.mul_one, Nat.zero_add]; exact hr.frozen _)
    rw [hs1, Nat.mul_one, Nat.zero_add] at hrun
    refine ⟨_, gl, C, (fun i => if i = L then x else U i), hrun, hroom, hC, hr.set L x, fun i hi9 => if_neg (by omega), if_pos rfl, .inl ⟨rfl, (Only.refl gl w).setCell L x⟩⟩
  · have hold : (Builtin.firstCells ti.size L (.slice (some ⟨gl, 0, none⟩) L C)).run Tryd.prog w.drew = .ok (bl L U).toArray w.drew := by
      refine run_firstCells_some w.drew ti.size L ⟨gl, 0, none⟩ L C (bl L U) (by rw [bl_len, hs1, Nat.mul_one]) (fun j u hu => ?_)
      have hj : j < L := by
        rcases Nat.lt_or_ge j L with h9 | h9
        · exact h9
        · rw [List.getElem?_eq_none (by rw [bl_len]; exact h9)] at hu; cases hu
      rw [bl_get L U j hj] at hu
      cases hu
      rw [Addr.add_lit, Nat.zero_add]
      exact hr.cell (i := j) (by omega)
    have hrun := run_append_grow_src w 61 61 61 27 ti (Value.slice none 0 0) Tryd.underlying61 hi hz (some ⟨gl, 0, none⟩) L C (bl L U) hold _ 1 (bl 1 (fun _ => x)) hs (by omega) (by omega) (growslice_fits (by omega) (by rw [hb1]; exact hn))
    have hge := grownCap_ge w (L + 1) C 27
    have hcm := grownCap_le_maxLen w (L + 1) C 27 (by unfold maxLen; omega)
    obtain ⟨C', hC'⟩ : ∃ C', C' = grownCap w (L + 1) C 27 := ⟨_, rfl⟩
    rw [← hC'] at hrun hge hcm
    refine ⟨_, w.heap.size, C', fun i => if i < L then U i else if i < L + 1 then x else .slice none 0 0, hrun, hge, by unfold big; unfold maxLen at hcm; exact hcm, ⟨_, heap_alloc_new _ _, ?_, fun i hi9 => ?_⟩, fun i hi9 => if_pos hi9, ?_, .inr ⟨by omega, ?_⟩⟩
    · rw [Array.size_append, List.size_toArray, List.length_append, bl_len, bl_len, size_zeroCells]
      show L + 1 + (C' - (L + 1)) * 1 = C'
      omega
    · show _ = some (if i < L then U i else if i < L + 1 then x else .slice none 0 0)
      by_cases e1 : i < L
      · rw [if_pos e1, Array.getElem?_append_left (by simp [bl_len]; omega), List.getElem?_toArray, List.getElem?_append_left (by rw [bl_len]; exact e1), bl_get _ _ _ e1]
      · by_cases e2 : i < L + 1
        · rw [if_neg e1, if_pos e2, Array.getElem?_append_left (by simp [bl_len]; omega), List.getElem?_toArray, List.getElem?_append_right (by rw [bl_len]; omega), bl_len, bl_get _ _ _ (by omega)]
        · rw [if_neg e1, if_neg e2, Array.getElem?_append_right (by simp [bl_len]; omega)]
          have hk : i - ((bl L U ++ bl 1 (fun _ => x)).toArray).size < C' - (L + 1) := by simp [bl_len]; omega
          generalize i - ((bl L U ++ bl 1 (fun _ => x)).toArray).size = k at hk
          simp [Builtin.zeroCells, Value.cells, hk, Nat.mod_one]
    · show (if L < L then U L else if L < L + 1 then x else .slice none 0 0) = x
      rw [if_neg (Nat.lt_irrefl _), if_pos (Nat.lt_succ_self _)]
    · exact ((Below.refl w.heap.size w).drew).alloc (by simp) _
end Go.Proofs.YtidcdbjhkgpjcaaDoor
