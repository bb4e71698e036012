import Derived.Test.YtefolifecbhgoaaGreatMbaj
namespace Go.Proofs.YtefolifecbhgoaaGreat
open Go.RowKit Gf2
set_option linter.unusedVariables false


structure Elm (te ts : TypeId) (z : Value) (bb : Nat) : Prop where
  und : Tryz.prog.underlying ts = some (.slice te)
  info : ∃ i, Tryz.prog.info? te = some i ∧ i.zero = some z ∧ i.size = 1 ∧ i.bytes = bb
  cz : z.cells = #[z]
  pos : 1 ≤ bb
def vl : Nat → (Nat → Value) → List Value
  | 0, _ => []
  | n + 1, S => S 0 :: vl n (fun i => S (i + 1))
theorem vl_len : ∀ (n : Nat) (S : Nat → Value), (vl n S).length = n
  | 0, _ => rfl
  | n + 1, S => by rw [vl, List.length_cons, vl_len n]
theorem vl_get : ∀ (n : Nat) (S : Nat → Value) (i : Nat), i < n → (vl n S)[i]? = some (S i)
  | 0, _, i, h => absurd h (Nat.not_lt_zero _)
  | n + 1, S, 0, _ => rfl
  | n + 1, S, i + 1, h => by rw [vl, List.getElem?_cons_succ]; exact vl_get n _ i (by omega)
theorem vl_one {n : Nat} {S : Nat → Value} (h1 : ∀ i, i < n → (S i).oneCell' = true) : ∀ u ∈ vl n S, u.oneCell' = true := by
  intro u hu
  obtain ⟨i, hi⟩ := List.getElem?_of_mem hu
  have hl : i < n := by
    rcases Nat.lt_or_ge i n with h | h
    · exact h
    · rw [List.getElem?_eq_none (by rw [vl_len]; exact h)] at hi; cases hi
  rw [vl_get n S i hl] at hi
  cases hi
  exact h1 i hl
def plv (F : Nat → Value) (o n : Nat) (S : Nat → Value) (i : Nat) : Value := if o ≤ i ∧ i < o + n then S (i - o) else F i
theorem plv_out {F S : Nat → Value} {o n i : Nat} (h : i < o ∨ o + n ≤ i) : plv F o n S i = F i := by unfold plv; rw [if_neg (by omega)]
theorem plv_in {F S : Nat → Value} {o n i : Nat} (h : i < n) : plv F o n S (o + i) = S i := by unfold plv; rw [if_pos (by omega), Nat.add_sub_cancel_left]
theorem setCells_rv {te : TypeId} {g N : Nat} : ∀ (n : Nat) (S : Nat → Value) (o : Nat) (w : World) (F : Nat → Value), w.rowIs g te N F → o + n ≤ N → (w.setCells g o (vl n S)).rowIs g te N (plv F o n S) ∧ Only g w (w.setCells g o (vl n S))
  | 0, S, o, w, F, h, _ => ⟨h.congr (fun i hi => (plv_out (by omega)).symm), Only.refl _ _⟩
  | n + 1, S, o, w, F, h, ho => by
    have h1 : (w.setCell ⟨g, o, none⟩ (S 0)).rowIs g te N (fun i => if i = o then S 0 else F i) := h.set o _
    have o1 : Only g w (w.setCell ⟨g, o, none⟩ (S 0)) := (Only.refl g w).setCell o _
    obtain ⟨h2, o2⟩ := setCells_rv n (fun i => S (i + 1)) (o + 1) _ _ h1 (by omega)
    refine ⟨h2.congr (fun i hi => ?_), o1.trans o2⟩
    unfold plv
    dsimp only
    by_cases e : i = o
    · rw [if_neg (by omega), if_pos e, if_pos (by omega), e, Nat.sub_self]
    · by_cases e2 : o + 1 ≤ i ∧ i < o + 1 + n
      · rw [if_pos e2, if_pos (by omega)]
        show S (i - (o + 1) + 1) = S (i - o)
        rw [show i - (o + 1) + 1 = i - o by omega]
      · rw [if_neg e2, if_neg e, if_neg (by omega)]
theorem appv {te ts : TypeId} {z : Value} {bb : Nat} (E : Elm te ts z bb) (w : World) {g C L : Nat} {F : Nat → Value} (hr : w.rowIs g te C F) (hL : L ≤ C) {x : Option Addr} {n cx : Nat} {S : Nat → Value} (h1 : ∀ i, i < n → (S i).oneCell' = true)
    (h4 : 0 < n → ∃ b p, x = some ⟨b, p, none⟩ ∧ ∀ i, i < n → w.cell? ⟨b, p + i, none⟩ = some (S i)) (hn : (L + n) * bb ≤ 140737488355328) :
    ∃ w' g' C' F', (Builtin.append_ #[ts, ts] ts #[.slice (some ⟨g, 0, none⟩) L C, .slice x n cx]).run Tryz.prog w = .ok (.slice (some ⟨g', 0, none⟩) (L + n) C') w' ∧
      L + n ≤ C' ∧ w'.rowIs g' te C' F' ∧ (∀ i, i < L → F' i = F i) ∧ (∀ i, i < n → F' (L + i) = S i) ∧ ((g' = g ∧ C' = C ∧ Only g w w') ∨ (g' = w.heap.size ∧ C' ≤ big ∧ w'.heap.size = w.heap.size + 1 ∧ Below w.heap.size w w')) := by
  obtain ⟨ti, hi, hz, hs1, hb1⟩ := E.info
  have hu := E.und
  have hln : L + n ≤ 140737488355328 := Nat.le_trans (Nat.le_mul_of_pos_right _ E.pos) hn
  by_cases h0 : n = 0
  · subst h0
    refine ⟨w, g, C, F, ?_, hL, hr, fun _ _ => rfl, fun i hi => absurd hi (Nat.not_lt_zero _), .inl ⟨rfl, rfl, Only.refl _ _⟩⟩
    cases x with
    | none =>
      have hs : Src Tryz.prog ti.size ts (.slice none 0 cx) 0 [] w := Src.ofNil w hu cx
      exact run_append_nothing w ts ts ts te ti hu hi _ L C hL _ hs
    | some a =>
      have hs : Src Tryz.prog ti.size ts (.slice (some a) 0 cx) 0 [] w := Src.ofSlice w hu a 0 cx [] (by simp) (fun j u h => by simp at h) (fun u h => by cases h)
      exact run_append_nothing w ts ts ts te ti hu hi _ L C hL _ hs
  · obtain ⟨b, p, rfl, hc⟩ := h4 (by omega)
    have ea : ∀ j, (⟨b, p, none⟩ : Addr).add j = ⟨b, p + j, none⟩ := fun j => by unfold Addr.add; split <;> simp_all
    have hs : Src Tryz.prog ti.size ts (.slice (some ⟨b, p, none⟩) n cx) n (vl n S) w := Src.ofSlice w hu ⟨b, p, none⟩ n cx (vl n S) (by rw [vl_len, hs1, Nat.mul_one]) (fun j u h => by
      have hj : j < n := by
        rcases Nat.lt_or_ge j n with h9 | h9
        · exact h9
        · rw [List.getElem?_eq_none (by rw [vl_len]; exact h9)] at h; cases h
      rw [vl_get n S j hj] at h
      cases h
      rw [ea]
      exact hc j hj) (vl_one h1)
    by_cases hroom : L + n ≤ C
    · obtain ⟨k1, k2⟩ := setCells_rv n S L w F hr hroom
      have hrun := run_append_room_src w ts ts ts te ti hu hi g 0 L C _ n (vl n S) hs hroom
        (fun j hj => by rw [vl_len] at hj; rw [hs1, Nat.mul_one, Nat.zero_add, hr.cell (i := L + j) (by omega)]; rfl)
        (fun j hj => by rw [hs1, Nat.mul_one, Nat.zero_add]; exact hr.frozen _)
      rw [hs1, Nat.mul_one, Nat.zero_add] at hrun
      exact ⟨_, g, C, _, hrun, hroom, k1, fun i hi => plv_out (by omega), fun i hi => plv_in hi, .inl ⟨rfl, rfl, k2⟩⟩
    · have hold : (Builtin.firstCells ti.size L (.slice (some ⟨g, 0, none⟩) L C)).run Tryz.prog w.drew = .ok (vl L F).toArray w.drew := by
        refine run_firstCells_some w.drew ti.size L ⟨g, 0, none⟩ L C (vl L F) (by rw [vl_len, hs1, Nat.mul_one]) (fun j u hu => ?_)
        have hj : j < L := by
          rcases Nat.lt_or_ge j L with h9 | h9
          · exact h9
          · rw [List.getElem?_eq_none (by rw [vl_len]; exact h9)] at hu; cases hu
        rw [vl_get L F j hj] at hu
        cases hu
        rw [Addr.add_lit, Nat.zero_add]
        exact hr.cell (i := j) (by omega)
      have hrun := run_append_grow_src w ts ts ts te ti z hu hi hz (some ⟨g, 0, none⟩) L C (vl L F) hold _ n (vl n S) hs (by omega) (by omega) (growslice_fits (by omega) (by rw [hb1]; exact hn))
      have hge := grownCap_ge w (L + n) C te
      have hcm := grownCap_le_maxLen w (L + n) C te (by unfold maxLen; omega)
      obtain ⟨C', hC'⟩ : ∃ C', C' = grownCap w (L + n) C te := ⟨_, rfl⟩
      rw [← hC'] at hrun hge hcm
      refine ⟨_, w.heap.size, C', fun i => if i < L then F i else if i < L + n then S (i - L) else z, hrun, hge, ⟨_, heap_alloc_new _ _, ?_, fun i hi => ?_⟩, fun i hi => if_pos hi, fun i hi => ?_, .inr ⟨rfl, by unfold big; unfold maxLen at hcm; exact hcm, by simp, ?_⟩⟩
      · rw [Array.size_append, List.size_toArray, List.length_append, vl_len, vl_len, size_zeroCells, E.cz]
        show L + n + (C' - (L + n)) * 1 = C'
        omega
      · show _ = some (if i < L then F i else if i < L + n then S (i - L) else z)
        by_cases e1 : i < L
        · rw [if_pos e1, Array.getElem?_append_left (by simp [vl_len]; omega), List.getElem?_toArray, List.getElem?_append_left (by rw [vl_len]; exact e1), vl_get _ _ _ e1]
        · by_cases e2 : i < L + n
          · rw [if_neg e1, if_pos e2, Array.getElem?_append_left (by simp [vl_len]; omega), List.getElem?_toArray, List.getElem?_append_right (by rw [vl_len]; omega), vl_len, vl_get _ _ _ (by omega)]
          · rw [if_neg e1, if_neg e2, Array.getElem?_append_right (by simp [vl_len]; omega)]
            have hk : i - ((vl L F ++ vl n S).toArray).size < C' - (L + n) := by simp [vl_len]; omega
            generalize i - ((vl L F ++ vl n S).toArray).size = k at hk
            simp [Builtin.zeroCells, E.cz, hk, Nat.mod_one]
      · show (if L + i < L then F (L + i) else if L + i < L + n then S (L + i - L) else z) = S i
        rw [if_neg (by omega), if_pos (by omega), Nat.add_sub_cancel_left]
      · exact ((Below.refl w.heap.size w).drew).alloc (by simp) _
theorem elm_l8 : Elm 27 33 (.slice none 0 0) 24 := by
  refine ⟨Tryz.underlying33, ?_, rfl, by decide⟩
  have h : (Tryz.prog.info? 27).map (fun i => (i.zero, i.size, i.bytes)) = some (some (Value.slice none 0 0), 1, 24) := by kernel_rfl
  obtain ⟨i, hi, hz⟩ := Option.map_eq_some_iff.1 h
  simp only [Prod.mk.injEq] at hz
  exact ⟨i, hi, hz.1, hz.2.1, hz.2.2⟩
end Go.Proofs.YtefolifecbhgoaaGreat
