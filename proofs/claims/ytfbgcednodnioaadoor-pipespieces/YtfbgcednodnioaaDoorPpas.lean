import Derived.Test.YtfbgcednodnioaaDoorPpao
import Derived.Test.YtfbgcednodnioaaDoorPpar
import Derived.Deep.RegionHeld3
import Derived.Deep.Upon
import Derived.Lib.AppendZeros
import Derived.Deep.DeepAppendWide
namespace Go.Proofs.YtfbgcednodnioaaDoor
open Go.RowKit Gf2
set_option linter.unusedVariables false

-- layer 22: the laws' source
/-- n bytes more behind the first L of a row. -/
theorem app8r (w : World) {g C L : Nat} {F : Nat → Nat} (hr : Rw w g C F) (hL : L ≤ C) {x : Option Addr} {n cx : Nat} {S : Nat → Nat} (hS : ∀ i, i < n → S i < 256)
    (h4 : 0 < n → ∃ b p, x = some ⟨b, p, none⟩ ∧ ∀ i, i < n → w.cell? ⟨b, p + i, none⟩ = some (.int .u8 (S i : Nat))) (hn : L + n ≤ 225000000000000) :
    ∃ w' g' C' F', (Builtin.append_ #[41, 41] 41 #[.slice (some ⟨g, 0, none⟩) L C, .slice x n cx]).run Tryd.prog w = .ok (.slice (some ⟨g', 0, none⟩) (L + n) C') w' ∧
      L + n ≤ C' ∧ Rw w' g' C' F' ∧ (∀ i, i < L → F' i = F i) ∧ (∀ i, i < n → F' (L + i) = S i) ∧ ((g' = g ∧ Only g w w' ∧ L + n ≤ C) ∨ (g' = w.heap.size ∧ w'.heap.size = w.heap.size + 1 ∧ Below w.heap.size w w')) := by
  obtain ⟨ti, hi, hz, hs1, hb1⟩ := info_u8a
  by_cases h0 : n = 0
  · subst h0
    refine ⟨w, g, C, F, ?_, hL, hr, fun _ _ => rfl, fun i hi => absurd hi (Nat.not_lt_zero _), .inl ⟨rfl, Only.refl _ _, hL⟩⟩
    cases x with
    | none =>
      have hs : Src Tryd.prog ti.size 41 (.slice none 0 cx) 0 [] w := Src.ofNil w Tryd.underlying41 cx
      exact run_append_nothing w 41 41 41 5 ti Tryd.underlying41 hi _ L C hL _ hs
    | some a =>
      have hs : Src Tryd.prog ti.size 41 (.slice (some a) 0 cx) 0 [] w := Src.ofSlice w Tryd.underlying41 a 0 cx [] (by simp) (fun j u h => by simp at h) (fun u h => by cases h)
      exact run_append_nothing w 41 41 41 5 ti Tryd.underlying41 hi _ L C hL _ hs
  · obtain ⟨b, p, rfl, hc⟩ := h4 (by omega)
    have ea : ∀ j, (⟨b, p, none⟩ : Addr).add j = ⟨b, p + j, none⟩ := fun j => by unfold Addr.add; split <;> simp_all
    have hs : Src Tryd.prog ti.size 41 (.slice (some ⟨b, p, none⟩) n cx) n (bs n S) w := Src.ofSlice w Tryd.underlying41 ⟨b, p, none⟩ n cx (bs n S) (by rw [bs_len, hs1, Nat.mul_one]) (fun j u h => by
      have hj : j < n := by
        rcases Nat.lt_or_ge j n with h9 | h9
        · exact h9
        · rw [List.getElem?_eq_none (by rw [bs_len]; exact h9)] at h; cases h
      rw [bs_get n S j hj] at h
      cases h
      rw [ea]
      exact hc j hj) bs_one
    by_cases hroom : L + n ≤ C
    · obtain ⟨k1, k2⟩ := setCells_rw n S L w F hr hroom hS
      have hrun := run_append_room_src w 41 41 41 5 ti Tryd.underlying41 hi g 0 L C _ n (bs n S) hs hroom
        (fun j hj => by rw [bs_len] at hj; rw [hs1, Nat.mul_one, Nat.zero_add, hr.2.2.cell (i := L + j) (by omega)]; rfl)
        (fun j hj => by rw [hs1, Nat.mul_one, Nat.zero_add]; exact hr.2.2.frozen _)
      rw [hs1, Nat.mul_one, Nat.zero_add] at hrun
      exact ⟨_, g, C, _, hrun, hroom, k1, fun i hi => pl_out (by omega), fun i hi => pl_in hi, .inl ⟨rfl, k2, hroom⟩⟩
    · have hold : (Builtin.firstCells ti.size L (.slice (some ⟨g, 0, none⟩) L C)).run Tryd.prog w.drew = .ok (bs L F).toArray w.drew := by
        refine run_firstCells_some w.drew ti.size L ⟨g, 0, none⟩ L C (bs L F) (by rw [bs_len, hs1, Nat.mul_one]) (fun j u hu => ?_)
        have hj : j < L := by
          rcases Nat.lt_or_ge j L with h9 | h9
          · exact h9
          · rw [List.getElem?_eq_none (by rw [bs_len]; exact h9)] at hu; cases hu
        rw [bs_get L F j hj] at hu
        cases hu
        rw [Addr.add_lit, Nat.zero_add]
        exact hr.2.2.cell (i := j) (by omega)
      have hrun := run_append_grow_src w 41 41 41 5 ti (Value.int .u8 0) Tryd.underlying41 hi hz (some ⟨g, 0, none⟩) L C (bs L F) hold _ n (bs n S) hs (by omega) (by omega) (growslice_fits_wide (by omega) (by rw [hb1, Nat.mul_one]; omega))
      have hge := grownCap_ge w (L + n) C 5
      have hcm := grownCap_le_maxLen w (L + n) C 5 (by unfold maxLen; omega)
      obtain ⟨C', hC'⟩ : ∃ C', C' = grownCap w (L + n) C 5 := ⟨_, rfl⟩
      rw [← hC'] at hrun hge hcm
      have hF0 : ∀ i, i < L → F i < 256 := fun i hi => hr.2.1 i (by omega)
      refine ⟨_, w.heap.size, C', fun i => if i < L then F i else if i < L + n then S (i - L) else 0, hrun, hge, ⟨by unfold big; unfold maxLen at hcm; exact hcm, fun i hi => ?_, _, heap_alloc_new _ _, ?_, fun i hi => ?_⟩, fun i hi => if_pos hi, fun i hi => ?_, .inr ⟨rfl, by simp, ?_⟩⟩
      · dsimp only
        split
        · exact hF0 i (by assumption)
        · split
          · exact hS _ (by omega)
          · decide
      · rw [Array.size_append, List.size_toArray, List.length_append, bs_len, bs_len, size_zeroCells]
        show L + n + (C' - (L + n)) * 1 = C'
        omega
      · show _ = some (Value.int .u8 (((if i < L then F i else if i < L + n then S (i - L) else 0) : Nat) : Int))
        by_cases e1 : i < L
        · rw [if_pos e1, Array.getElem?_append_left (by simp [bs_len]; omega), List.getElem?_toArray, List.getElem?_append_left (by rw [bs_len]; exact e1), bs_get _ _ _ e1]
        · by_cases e2 : i < L + n
          · rw [if_neg e1, if_pos e2, Array.getElem?_append_left (by simp [bs_len]; omega), List.getElem?_toArray, List.getElem?_append_right (by rw [bs_len]; omega), bs_len, bs_get _ _ _ (by omega)]
          · rw [if_neg e1, if_neg e2, Array.getElem?_append_right (by simp [bs_len]; omega)]
            have hk : i - ((bs L F ++ bs n S).toArray).size < C' - (L + n) := by simp [bs_len]; omega
            generalize i - ((bs L F ++ bs n S).toArray).size = k at hk
            simp [Builtin.zeroCells, Value.cells, hk, Nat.mod_one]
      · show (if L + i < L then F (L + i) else if L + i < L + n then S (L + i - L) else 0) = S i
        rw [if_neg (by omega), if_pos (by omega), Nat.add_sub_cancel_left]
      · exact ((Below.refl w.heap.size w).drew).alloc (by simp) _
/-- n bytes more behind the first L of a row. -/
theorem appir (w : World) {g C L : Nat} {F : Nat → Int} (hr : Ri w g C F) (hL : L ≤ C) {x : Option Addr} {n cx : Nat} {S : Nat → Int}
    (h4 : 0 < n → ∃ b p, x = some ⟨b, p, none⟩ ∧ ∀ i, i < n → w.cell? ⟨b, p + i, none⟩ = some (.int .i64 (S i))) (hn : (L + n) * 8 ≤ 140737488355328) :
    ∃ w' g' C' F', (Builtin.append_ #[27, 27] 27 #[.slice (some ⟨g, 0, none⟩) L C, .slice x n cx]).run Tryd.prog w = .ok (.slice (some ⟨g', 0, none⟩) (L + n) C') w' ∧
      L + n ≤ C' ∧ Ri w' g' C' F' ∧ (∀ i, i < L → F' i = F i) ∧ (∀ i, i < n → F' (L + i) = S i) ∧ ((g' = g ∧ Only g w w' ∧ L + n ≤ C) ∨ (g' = w.heap.size ∧ w'.heap.size = w.heap.size + 1 ∧ Below w.heap.size w w')) := by
  obtain ⟨ti, hi, hz, hs1, hb1⟩ := info_inta
  by_cases h0 : n = 0
  · subst h0
    refine ⟨w, g, C, F, ?_, hL, hr, fun _ _ => rfl, fun i hi => absurd hi (Nat.not_lt_zero _), .inl ⟨rfl, Only.refl _ _, hL⟩⟩
    cases x with
    | none =>
      have hs : Src Tryd.prog ti.size 27 (.slice none 0 cx) 0 [] w := Src.ofNil w Tryd.underlying27 cx
      exact run_append_nothing w 27 27 27 3 ti Tryd.underlying27 hi _ L C hL _ hs
    | some a =>
      have hs : Src Tryd.prog ti.size 27 (.slice (some a) 0 cx) 0 [] w := Src.ofSlice w Tryd.underlying27 a 0 cx [] (by simp) (fun j u h => by simp at h) (fun u h => by cases h)
      exact run_append_nothing w 27 27 27 3 ti Tryd.underlying27 hi _ L C hL _ hs
  · obtain ⟨b, p, rfl, hc⟩ := h4 (by omega)
    have ea : ∀ j, (⟨b, p, none⟩ : Addr).add j = ⟨b, p + j, none⟩ := fun j => by unfold Addr.add; split <;> simp_all
    have hs : Src Tryd.prog ti.size 27 (.slice (some ⟨b, p, none⟩) n cx) n (bi n S) w := Src.ofSlice w Tryd.underlying27 ⟨b, p, none⟩ n cx (bi n S) (by rw [bi_len, hs1, Nat.mul_one]) (fun j u h => by
      have hj : j < n := by
        rcases Nat.lt_or_ge j n with h9 | h9
        · exact h9
        · rw [List.getElem?_eq_none (by rw [bi_len]; exact h9)] at h; cases h
      rw [bi_get n S j hj] at h
      cases h
      rw [ea]
      exact hc j hj) bi_one
    by_cases hroom : L + n ≤ C
    · obtain ⟨k1, k2⟩ := setCells_ri n S L w F hr hroom
      have hrun := run_append_room_src w 27 27 27 3 ti Tryd.underlying27 hi g 0 L C _ n (bi n S) hs hroom
        (fun j hj => by rw [bi_len] at hj; rw [hs1, Nat.mul_one, Nat.zero_add, hr.2.2.cell (i := L + j) (by omega)]; rfl)
        (fun j hj => by rw [hs1, Nat.mul_one, Nat.zero_add]; exact hr.2.2.frozen _)
      rw [hs1, Nat.mul_one, Nat.zero_add] at hrun
      exact ⟨_, g, C, _, hrun, hroom, k1, fun i hi => plz_out (by omega), fun i hi => plz_in hi, .inl ⟨rfl, k2, hroom⟩⟩
    · have hold : (Builtin.firstCells ti.size L (.slice (some ⟨g, 0, none⟩) L C)).run Tryd.prog w.drew = .ok (bi L F).toArray w.drew := by
        refine run_firstCells_some w.drew ti.size L ⟨g, 0, none⟩ L C (bi L F) (by rw [bi_len, hs1, Nat.mul_one]) (fun j u hu => ?_)
        have hj : j < L := by
          rcases Nat.lt_or_ge j L with h9 | h9
          · exact h9
          · rw [List.getElem?_eq_none (by rw [bi_len]; exact h9)] at hu; cases hu
        rw [bi_get L F j hj] at hu
        cases hu
        rw [Addr.add_lit, Nat.zero_add]
        exact hr.2.2.cell (i := j) (by omega)
      have hrun := run_append_grow_src w 27 27 27 3 ti (Value.int .i64 0) Tryd.underlying27 hi hz (some ⟨g, 0, none⟩) L C (bi L F) hold _ n (bi n S) hs (by omega) (by omega) (growslice_fits (by omega) (by rw [hb1]; exact hn))
      have hge := grownCap_ge w (L + n) C 3
      have hcm := grownCap_le_maxLen w (L + n) C 3 (by unfold maxLen; omega)
      obtain ⟨C', hC'⟩ : ∃ C', C' = grownCap w (L + n) C 3 := ⟨_, rfl⟩
      rw [← hC'] at hrun hge hcm
      refine ⟨_, w.heap.size, C', fun i => if i < L then F i else if i < L + n then S (i - L) else 0, hrun, hge, ⟨by unfold big; unfold maxLen at hcm; exact hcm, trivial, _, heap_alloc_new _ _, ?_, fun i hi => ?_⟩, fun i hi => if_pos hi, fun i hi => ?_, .inr ⟨rfl, by simp, ?_⟩⟩
      · rw [Array.size_append, List.size_toArray, List.length_append, bi_len, bi_len, size_zeroCells]
        show L + n + (C' - (L + n)) * 1 = C'
        omega
      · show _ = some (Value.int .i64 (if i < L then F i else if i < L + n then S (i - L) else 0))
        by_cases e1 : i < L
        · rw [if_pos e1, Array.getElem?_append_left (by simp [bi_len]; omega), List.getElem?_toArray, List.getElem?_append_left (by rw [bi_len]; exact e1), bi_get _ _ _ e1]
        · by_cases e2 : i < L + n
          · rw [if_neg e1, if_pos e2, Array.getElem?_append_left (by simp [bi_len]; omega), List.getElem?_toArray, List.getElem?_append_right (by rw [bi_len]; omega), bi_len, bi_get _ _ _ (by omega)]
          · rw [if_neg e1, if_neg e2, Array.getElem?_append_right (by simp [bi_len]; omega)]
            have hk : i - ((bi L F ++ bi n S).toArray).size < C' - (L + n) := by simp [bi_len]; omega
            generalize i - ((bi L F ++ bi n S).toArray).size = k at hk
            simp [Builtin.zeroCells, Value.cells, hk, Nat.mod_one]
      · show (if L + i < L then F (L + i) else if L + i < L + n then S (L + i - L) else 0) = S i
        rw [if_neg (by omega), if_pos (by omega), Nat.add_sub_cancel_left]
      · exact ((Below.refl w.heap.size w).drew).alloc (by simp) _
/-- a plan's box, in a world behind w. -/
structure Bz22 (w X : World) (dv cv : Value) (fa code : Int) : Prop where
  bel : Below w.heap.size w X
  blk : X.heap[w.heap.size]? = some (.cells #[dv, cv, .int .i64 fa, .int .i64 code] 43 (0, 0))
/-- an empty list of bytes, of ints. -/
def E8x (w X : World) (g : Nat) : Prop := w.heap.size < g ∧ Rw X g 0 (fun _ => 0)
def Eix (w X : World) (g : Nat) : Prop := w.heap.size < g ∧ Ri X g 0 (fun _ => 0)
section
variable {w X X' : World} {dv cv : Value} {fa code : Int} {g : Nat}
theorem Bz22.ke {E : Nat → Prop} (h : Bz22 w X dv cv fa code) (hk : Ke E X X') (hE : ∀ y, E y → w.heap.size < y) : Bz22 w X' dv cv fa code :=
  ⟨h.bel.trans (hk.below (fun y e => Nat.le_of_lt (hE y e)) h.bel.size), (hk.2 _ (Array.getElem?_eq_some_iff.1 h.blk).1 (fun e => Nat.lt_irrefl _ (hE _ e))).trans h.blk⟩
theorem Bz22.al (h : Bz22 w X dv cv fa code) (o : Obj) : Bz22 w (X.alloc o) dv cv fa code := h.ke (ke_below ((Below.refl X.heap.size X).alloc (Nat.le_refl _) o) (fun _ => False)) (fun _ e => e.elim)
theorem Bz22.lt (h : Bz22 w X dv cv fa code) : w.heap.size < X.heap.size := (Array.getElem?_eq_some_iff.1 h.blk).1
theorem Bz22.cells (h : Bz22 w X dv cv fa code) : X.cell? ⟨w.heap.size, 0, none⟩ = some dv ∧ X.cell? ⟨w.heap.size, 1, none⟩ = some cv ∧ X.cell? ⟨w.heap.size, 2, none⟩ = some (.int .i64 fa) ∧ X.cell? ⟨w.heap.size, 3, none⟩ = some (.int .i64 code) :=
  ⟨by rw [cell_of_row _ _ 0 _ _ _ h.blk]; rfl, by rw [cell_of_row _ _ 1 _ _ _ h.blk]; rfl, by rw [cell_of_row _ _ 2 _ _ _ h.blk]; rfl, by rw [cell_of_row _ _ 3 _ _ _ h.blk]; rfl⟩
theorem E8x.new (h : Bz22 w X dv cv fa code) : E8x w (X.alloc (.cells #[] 5)) X.heap.size := ⟨h.lt, lit_rw [] X (fun x h => by cases h) (by decide)⟩
theorem Eix.new (h : Bz22 w X dv cv fa code) : Eix w (X.alloc (.cells #[] 3)) X.heap.size := ⟨h.lt, by decide, trivial, _, heap_alloc_new _ _, rfl, fun i hi => absurd hi (Nat.not_lt_zero _)⟩
theorem E8x.new1 (h : Bz22 w X dv cv fa code) (o : Obj) : E8x w ((X.alloc o).alloc (.cells #[] 5)) (X.heap.size + 1) := by
  have e := E8x.new (h.al o)
  have s : (X.alloc o).heap.size = X.heap.size + 1 := by simp
  rw [s] at e
  exact e
theorem Eix.new1 (h : Bz22 w X dv cv fa code) (o : Obj) : Eix w ((X.alloc o).alloc (.cells #[] 3)) (X.heap.size + 1) := by
  have e := Eix.new (h.al o)
  have s : (X.alloc o).heap.size = X.heap.size + 1 := by simp
  rw [s] at e
  exact e
theorem E8x.al (h : E8x w X g) (o : Obj) : E8x w (X.alloc o) g := ⟨h.1, rw_alloc h.2 o⟩
theorem Eix.al (h : Eix w X g) (o : Obj) : Eix w (X.alloc o) g := ⟨h.1, h.2.below ((Below.refl X.heap.size X).alloc (Nat.le_refl _) o)⟩
theorem E8x.ke {E : Nat → Prop} (h : E8x w X g) (hk : Ke E X X') (hE : ¬ E g) : E8x w X' g := ⟨h.1, hk.rw_ h.2 hE⟩
theorem Eix.ke {E : Nat → Prop} (h : Eix w X g) (hk : Ke E X X') (hE : ¬ E g) : Eix w X' g := ⟨h.1, h.2.ke hk hE⟩
theorem Bz22.below (h : Bz22 w X dv cv fa code) (hb : Below X.heap.size X X') : Bz22 w X' dv cv fa code := h.ke (ke_below hb (fun _ => False)) (fun _ e => e.elim)
theorem E8x.below (h : E8x w X g) (hb : Below X.heap.size X X') : E8x w X' g := h.ke (ke_below hb (fun _ => False)) (fun e => e)
theorem Eix.below (h : Eix w X g) (hb : Below X.heap.size X X') : Eix w X' g := h.ke (ke_below hb (fun _ => False)) (fun e => e)
theorem Bz22.dr (h : Bz22 w X dv cv fa code) : Bz22 w X.drew dv cv fa code := ⟨h.bel.drew, h.blk⟩
theorem E8x.dr (h : E8x w X g) : E8x w X.drew g := ⟨h.1, h.2.drewN 1⟩
theorem Eix.dr (h : Eix w X g) : Eix w X.drew g := ⟨h.1, h.2.drewN 1⟩
theorem Rb.al22 {v : Value} {n : Nat} {F : Nat → Nat} (h : Rb X v n F) (o : Obj) : Rb (X.alloc o) v n F := h.below ((Below.refl X.heap.size X).alloc (Nat.le_refl _) o)
theorem Qi.al22 {v : Value} {n : Nat} {F : Nat → Int} (h : Qi X v n F) (o : Obj) : Qi (X.alloc o) v n F := h.below ((Below.refl X.heap.size X).alloc (Nat.le_refl _) o)
/-- append to an empty list of bytes. -/
theorem app_e8 {n dc : Nat} {da : Option Addr} {D : Nat → Nat} (hB : Bz22 w X dv cv fa code) (hE : E8x w X g) (hd : Rb w (.slice da n dc) n D) (hn : n ≤ 140737488355328) :
    ∃ w' v, (Builtin.append_ #[41, 41] 41 #[.slice (some ⟨g, 0, none⟩) 0 0, .slice da n dc]).run Tryd.prog X = .ok v w' ∧ Below X.heap.size X w' ∧ Rb w' v n D ∧ ∃ a C, v = .slice a n C := by
  obtain ⟨b1, b2, a, c', b3, b5, b6, b4⟩ := hd.below hB.bel
  cases b3
  rcases Nat.eq_zero_or_pos n with h0 | h0
  · subst h0
    obtain ⟨ti, hi, hz, hs1, hb1⟩ := info_u8a
    refine ⟨X, .slice (some ⟨g, 0, none⟩) 0 0, ?_, Below.refl _ _, ⟨Nat.zero_le _, fun i hi => absurd hi (Nat.not_lt_zero _), _, 0, rfl, Nat.le_refl _, Nat.zero_le _, fun h => absurd h (Nat.lt_irrefl _)⟩, _, _, rfl⟩
    cases da with
    | none => exact run_append_nothing X 41 41 41 5 ti Tryd.underlying41 hi _ 0 0 (Nat.le_refl _) _ (Src.ofNil X Tryd.underlying41 dc)
    | some y => exact run_append_nothing X 41 41 41 5 ti Tryd.underlying41 hi _ 0 0 (Nat.le_refl _) _ (Src.ofSlice X Tryd.underlying41 y 0 dc [] (by simp) (fun j u h => by simp at h) (fun u h => by cases h))
  · obtain ⟨w', g', C, F, r, k1, k2, k3, k4, k5⟩ := app8r X hE.2 (Nat.le_refl 0) (x := da) (n := n) (cx := dc) (S := D) b2 (fun h0 => by obtain ⟨b, o, e, -, hc⟩ := b4 h0; exact ⟨b, o, e, hc⟩) (by omega)
    rw [Nat.zero_add] at r k1
    refine ⟨w', _, r, ?_, (k2.rb (o := 0) (n := n) (cap := C) (by omega) k1 k2.1).congr (fun i hi => k4 i hi), _, _, rfl⟩
    rcases k5 with ⟨-, -, h9⟩ | ⟨-, -, hb⟩
    · omega
    · exact hb
theorem app_ei {n dc : Nat} {da : Option Addr} {D : Nat → Int} (hB : Bz22 w X dv cv fa code) (hE : Eix w X g) (hd : Qi w (.slice da n dc) n D) (hn : n * 8 ≤ 140737488355328) :
    ∃ w' v, (Builtin.append_ #[27, 27] 27 #[.slice (some ⟨g, 0, none⟩) 0 0, .slice da n dc]).run Tryd.prog X = .ok v w' ∧ Below X.heap.size X w' ∧ Qi w' v n D ∧ ∃ a C, v = .slice a n C := by
  obtain ⟨b1, -, a, c', b3, b5, b6, b4⟩ := hd.below hB.bel
  cases b3
  rcases Nat.eq_zero_or_pos n with h0 | h0
  · subst h0
    obtain ⟨ti, hi, hz, hs1, hb1⟩ := info_inta
    refine ⟨X, .slice (some ⟨g, 0, none⟩) 0 0, ?_, Below.refl _ _, ⟨Nat.zero_le _, trivial, _, 0, rfl, Nat.le_refl _, Nat.zero_le _, fun h => absurd h (Nat.lt_irrefl _)⟩, _, _, rfl⟩
    cases da with
    | none => exact run_append_nothing X 27 27 27 3 ti Tryd.underlying27 hi _ 0 0 (Nat.le_refl _) _ (Src.ofNil X Tryd.underlying27 dc)
    | some y => exact run_append_nothing X 27 27 27 3 ti Tryd.underlying27 hi _ 0 0 (Nat.le_refl _) _ (Src.ofSlice X Tryd.underlying27 y 0 dc [] (by simp) (fun j u h => by simp at h) (fun u h => by cases h))
  · obtain ⟨w', g', C, F, r, k1, k2, k3, k4, k5⟩ := appir X hE.2 (Nat.le_refl 0) (x := da) (n := n) (cx := dc) (S := D) (fun h0 => by obtain ⟨b, o, e, -, hc⟩ := b4 h0; exact ⟨b, o, e, hc⟩) (by omega)
    rw [Nat.zero_add] at r k1
    refine ⟨w', _, r, ?_, k2.qi k1 k1 k2.1 (fun i hi => by have := k4 i hi; rw [Nat.zero_add] at this; exact this), _, _, rfl⟩
    rcases k5 with ⟨-, -, h9⟩ | ⟨-, -, hb⟩
    · omega
    · exact hb
/-- as a step of a region that draws its order. -/
theorem arm_e8 {ops : Array Oper} {o : Oper} {a : Act} {K : Act → World → Prop} {Q : Exit → Act → World → Prop} {E : Prop} {n dc : Nat} {da : Option Addr} {D : Nat → Nat}
    (hgd : o.guard = none) (s x : Operand) (ho : o.op = .call { callee := .builtin .append, args := #[s, x], argTypes := #[41, 41] }) (hty : o.type = 41) (hs : a.eval s = .slice (some ⟨g, 0, none⟩) 0 0) (hx : a.eval x = .slice da n dc)
    (hB : Bz22 w X dv cv fa code) (hE : E8x w X g) (hd : Rb w (.slice da n dc) n D) (hn : n ≤ 140737488355328)
    (h : ∀ w' a' C, Below X.heap.size X w' → Rb w' (.slice a' n C) n D → K (a.put o.dst (.slice a' n C)) w') : if Region.wanted o (yielded ops a.tmps) = true then Oper.wp Tryd.prog o a X K Q else E := by
  obtain ⟨w', v, r, h1, h2, a', C, rfl⟩ := app_e8 hB hE hd hn
  rw [← hty] at r
  refine step_app6 hgd s x _ ho hs hx ?_ (h w' a' C h1 h2)
  rw [hty] at r ⊢
  exact r
theorem arm_ei {ops : Array Oper} {o : Oper} {a : Act} {K : Act → World → Prop} {Q : Exit → Act → World → Prop} {E : Prop} {n dc : Nat} {da : Option Addr} {D : Nat → Int}
    (hgd : o.guard = none) (s x : Operand) (ho : o.op = .call { callee := .builtin .append, args := #[s, x], argTypes := #[27, 27] }) (hty : o.type = 27) (hs : a.eval s = .slice (some ⟨g, 0, none⟩) 0 0) (hx : a.eval x = .slice da n dc)
    (hB : Bz22 w X dv cv fa code) (hE : Eix w X g) (hd : Qi w (.slice da n dc) n D) (hn : n * 8 ≤ 140737488355328)
    (h : ∀ w' a' C, Below X.heap.size X w' → Qi w' (.slice a' n C) n D → K (a.put o.dst (.slice a' n C)) w') : if Region.wanted o (yielded ops a.tmps) = true then Oper.wp Tryd.prog o a X K Q else E := by
  obtain ⟨w', v, r, h1, h2, a', C, rfl⟩ := app_ei hB hE hd hn
  rw [← hty] at r
  refine step_app6 hgd s x _ ho hs hx ?_ (h w' a' C h1 h2)
  rw [hty] at r ⊢
  exact r
end
end Go.Proofs.YtfbgcednodnioaaDoor
namespace Go.Proofs.YtfbgcednodnioaaDoor
open Go.RowKit Gf2
set_option linter.unusedVariables false

-- layer 22: the laws' source
set_option maxHeartbeats 4000000 in
set_option maxRecDepth 100000 in
theorem source22 (da : Option Addr) (n dc : Nat) (ca : Option Addr) (k cc : Nat) (D : Nat → Nat) (C : Nat → Int) (fa code : Int) (w : World) (hd : Rb w (.slice da n dc) n D) (hc : Qi w (.slice ca k cc) k C) (hn : n ≤ 140737488355328) (hk : k * 8 ≤ 140737488355328) (hf : I6x fa) :
    Calls Tryd.prog 16 #[.agg #[.slice da n dc, .slice ca k cc, .int .i64 fa, .int .i64 code]] w fun e w' => ∃ b f lo, e = .returned (.pointer (some ⟨b, 0, none⟩)) ∧ So lo w'.heap.size w' b n D k C fa code f 0 0 ∧ w.heap.size ≤ lo ∧ Below w.heap.size w w' := by
  have B0 : Bz22 w (w.alloc (.cells #[.slice da n dc, .slice ca k cc, .int .i64 fa, .int .i64 code] 43)) (.slice da n dc) (.slice ca k cc) fa code := ⟨(Below.refl _ _).alloc (Nat.le_refl _) _, heap_alloc_new _ _⟩
  obtain ⟨W, hW⟩ : ∃ W, Hid (w.alloc (.cells #[.slice da n dc, .slice ca k cc, .int .i64 fa, .int .i64 code] 43) = W) := ⟨_, rfl⟩
  rw [hW.out] at B0
  obtain ⟨z0, z1, z2, z3⟩ := B0.cells
  have HH : Hid (Rb w (.slice da n dc) n D ∧ Qi w (.slice ca k cc) k C ∧ n ≤ 140737488355328 ∧ k * 8 ≤ 140737488355328 ∧ I6x fa) := ⟨hd, hc, hn, hk, hf⟩
  clear hd hc hn hk hf
  go_enter Tryd.func16, Tryd.ntmps16
  go_wp2
  rw [hW.out]
  clear hW
  go_region_held3 (fun X => X.cell? ⟨w.heap.size, 0, none⟩ = some (.slice da n dc) ∧ X.cell? ⟨w.heap.size, 1, none⟩ = some (.slice ca k cc) ∧ X.cell? ⟨w.heap.size, 2, none⟩ = some (.int .i64 fa) ∧ X.cell? ⟨w.heap.size, 3, none⟩ = some (.int .i64 code))
    (first | exact (hB2.below hb9).cells | exact B0.cells | exact (B0.al _).dr.cells | exact ((B0.al _).al _).dr.cells | exact hB2.cells | exact hB1.cells | exact (hB1.al _).cells)
    (first
      | (go_at_call 9
         (with_reducible refine (newsource22 _ _ n k D C fa code _ hQ8 hQi HH.out.2.2.1 HH.out.2.2.2.1 HH.out.2.2.2.2).mono ?_)
         rintro e w9 ⟨b, f, rfl, hS9, hb9⟩)
      | (refine arm_e8 rfl _ _ rfl rfl rfl rfl (by first | exact (B0.al _).dr | exact ((B0.al _).al _).dr | exact hB1 | exact hB1.al _) (by first | exact (E8x.new B0).dr | exact ((E8x.new B0).al _).dr | exact (E8x.new1 B0 _).dr | exact hE8 | exact E8x.new hB1) HH.out.1 HH.out.2.2.1 ?_
         intro w8 a8 C8 hb8 hR8
         first
           | (have hB2 : Bz22 w w8 _ _ _ _ := hB1.below hb8; have hQ8 := hR8; have hQi := hRi.below hb8)
           | (have hB2 : Bz22 w w8 _ _ _ _ := (hB1.al _).below hb8; have hQ8 := hR8; have hQi := (hRi.al22 _).below hb8)
           | (have hB1 : Bz22 w w8 _ _ _ _ := (B0.al _).dr.below hb8)
           | (have hB1 : Bz22 w w8 _ _ _ _ := ((B0.al _).al _).dr.below hb8; have hEi := (Eix.new1 B0 _).dr.below hb8)
           | (have hB1 : Bz22 w w8 _ _ _ _ := ((B0.al _).al _).dr.below hb8; have hEi := ((Eix.new B0).al _).dr.below hb8))
      | (refine arm_ei rfl _ _ rfl rfl rfl rfl (by first | exact (B0.al _).dr | exact ((B0.al _).al _).dr | exact hB1 | exact hB1.al _) (by first | exact (Eix.new B0).dr | exact ((Eix.new B0).al _).dr | exact (Eix.new1 B0 _).dr | exact hEi | exact Eix.new hB1) HH.out.2.1 HH.out.2.2.2.1 ?_
         intro wi ai Ci hbi hRi
         first
           | (have hB2 : Bz22 w wi _ _ _ _ := hB1.below hbi; have hQi := hRi; have hQ8 := hR8.below hbi)
           | (have hB2 : Bz22 w wi _ _ _ _ := (hB1.al _).below hbi; have hQi := hRi; have hQ8 := (hR8.al22 _).below hbi)
           | (have hB1 : Bz22 w wi _ _ _ _ := (B0.al _).dr.below hbi)
           | (have hB1 : Bz22 w wi _ _ _ _ := ((B0.al _).al _).dr.below hbi; have hE8 := (E8x.new1 B0 _).dr.below hbi)
           | (have hB1 : Bz22 w wi _ _ _ _ := ((B0.al _).al _).dr.below hbi; have hE8 := ((E8x.new B0).al _).dr.below hbi)))
  all_goals
    go_wp2
    go_ret
    exact ⟨b, f, _, rfl, hS9, hB2.bel.size, hB2.bel.trans (hb9.mono hB2.bel.size)⟩
end Go.Proofs.YtfbgcednodnioaaDoor
namespace Go.Proofs.YtfbgcednodnioaaDoor
open Go.RowKit Gf2
set_option linter.unusedVariables false

-- layer 22: steady chunks
def Std22 (k : Nat) (C : Nat → Int) : Prop := k = 0 ∨ (k < 50 ∧ ∃ q, q < k ∧ 0 < C q)
/-- the last place: the break, or the end. -/
def la22 (n : Nat) (fa : Int) : Nat := if 0 ≤ fa ∧ fa < (n : Int) then fa.toNat else n
/-- how far the next chunk above 0 is. -/
def di22 (k q t : Nat) : Nat := (q + (k - t % k)) % k
theorem di22_next {k q t : Nat} (hq : q < k) (hne : t % k ≠ q) : di22 k q (t + 1) + 1 = di22 k q t := by
  have hk : 0 < k := by omega
  have h1 := Nat.mod_lt t hk
  unfold di22
  have e1 : (t + 1) % k = if t % k + 1 = k then 0 else t % k + 1 := by
    rw [Nat.add_mod]
    split
    · rename_i h
      by_cases hk1 : k = 1
      · subst hk1; simp [Nat.mod_one]
      · rw [Nat.mod_eq_of_lt (show 1 < k by omega), h, Nat.mod_self]
    · rename_i h
      by_cases hk1 : k = 1
      · omega
      · rw [Nat.mod_eq_of_lt (show 1 < k by omega), Nat.mod_eq_of_lt (by omega)]
  rw [e1]
  generalize t % k = r at *
  split
  · rename_i h
    rw [Nat.sub_zero, Nat.add_mod_right, Nat.mod_eq_of_lt hq, Nat.mod_eq_of_lt (show q + (k - r) < k by omega)]
    omega
  · rename_i h
    by_cases hqr : r < q
    · rw [show q + (k - (r + 1)) = (q - (r + 1)) + k by omega, show q + (k - r) = (q - r) + k by omega, Nat.add_mod_right, Nat.add_mod_right, Nat.mod_eq_of_lt (by omega), Nat.mod_eq_of_lt (by omega)]
      omega
    · rw [Nat.mod_eq_of_lt (show q + (k - (r + 1)) < k by omega), Nat.mod_eq_of_lt (show q + (k - r) < k by omega)]
      omega
theorem rd22_zero {l n p : Nat} {fa : Int} {k : Nat} {C : Nat → Int} {t : Nat} (hl : 0 < l) (hn : p < n) (hf : 0 ≤ fa → (p : Int) < fa) (h : rd22 l n p fa k C t = 0) : k ≠ 0 ∧ C (t % k) ≤ 0 := by
  unfold rd22 mo22 tw22 at h
  by_cases h2 : k = 0
  · rw [if_pos h2] at h
    exfalso
    split at h
    · rename_i h3
      have := hf h3
      omega
    · omega
  · refine ⟨h2, ?_⟩
    rw [if_neg h2] at h
    split at h
    · rename_i h3
      have := hf h3
      omega
    · omega
theorem rd22_la {l n p : Nat} {fa : Int} {k : Nat} {C : Nat → Int} {t : Nat} (hn : p ≤ n) (hf : 0 ≤ fa → (p : Int) ≤ fa) : rd22 l n p fa k C t ≤ la22 n fa - p := by
  have q := mo22_le (tw22 l k C t) n p fa
  have e : rd22 l n p fa k C t = mo22 (tw22 l k C t) n p fa := rfl
  unfold la22
  split
  · rename_i h
    have := q.2.2 h.1
    omega
  · have := q.2.1; omega
/-- what Full answers, as an error. -/
def ke22 (n l p : Nat) (fa : Int) : Nat := if l ≤ la22 n fa - p then 0 else if 0 ≤ fa ∧ fa ≤ (n : Int) then 2 else 1
theorem fu_steady {n : Nat} {fa : Int} {k : Nat} {C : Nat → Int} {l : Nat} (hS : Std22 k C) : ∀ (s d i p t : Nat), d ≤ l → p ≤ n → (0 ≤ fa → (p : Int) ≤ fa) → fm22 l d i < s → (k ≠ 0 → ∀ q, q < k → 0 < C q → i + di22 k q t < 50) → (k = 0 → i = 0) →
    (fu22 n fa k C l s d i p t).1 = d + min (l - d) (la22 n fa - p) ∧ (fu22 n fa k C l s d i p t).2.2 = ke22 n (l - d) p fa
  | 0, d, i, p, t, _, _, _, hs, _, _ => absurd hs (Nat.not_lt_zero _)
  | s + 1, d, i, p, t, hd, hp, hf, hs, hk, hk0 => by
    rw [fu22]
    by_cases h1 : l ≤ d
    · rw [if_pos h1]
      exact ⟨by show d = _; omega, by show 0 = _; unfold ke22; rw [if_pos (by omega)]⟩
    · rw [if_neg h1]
      by_cases h2 : 0 ≤ fa ∧ (p : Int) = fa
      · rw [if_pos h2]
        have hla : la22 n fa = p := by unfold la22; split <;> omega
        refine ⟨by show d = _; omega, ?_⟩
        show 2 = _
        unfold ke22
        rw [if_neg (by omega), if_pos ⟨h2.1, by omega⟩]
      · rw [if_neg h2]
        by_cases h3 : p = n
        · rw [if_pos h3]
          have hno : ¬ (0 ≤ fa ∧ fa ≤ (n : Int)) := fun h => h2 ⟨h.1, by have := hf h.1; omega⟩
          have hla : la22 n fa = n := by unfold la22; rw [if_neg (fun h => hno ⟨h.1, by omega⟩)]
          refine ⟨by show d = _; omega, ?_⟩
          show 1 = _
          unfold ke22
          rw [if_neg (by omega), if_neg hno]
        · rw [if_neg h3]
          have hplt : p < n := by omega
          have hflt : 0 ≤ fa → (p : Int) < fa := fun h => by have := hf h; have : (p : Int) ≠ fa := fun e => h2 ⟨h, e⟩; omega
          have hle := rd22_le (l - d) n p fa k C t
          have hla := rd22_la (l := l - d) (k := k) (C := C) (t := t) hp hf
          have hz := rd22_zero (l := l - d) (k := k) (C := C) (t := t) (by omega) hplt hflt
          have hpf : ∀ m, m ≤ la22 n fa - p → p + m ≤ n ∧ (0 ≤ fa → ((p + m : Nat) : Int) ≤ fa) := fun m hm => by
            unfold la22 at hm
            split at hm
            · rename_i h9
              exact ⟨by omega, fun _ => by omega⟩
            · rename_i h9
              refine ⟨by omega, fun h => ?_⟩
              have : (n : Int) ≤ fa := by
                rcases Int.lt_or_le fa n with h8 | h8
                · exact absurd ⟨h, h8⟩ h9
                · exact h8
              omega
          generalize rd22 (l - d) n p fa k C t = m at *
          by_cases h4 : d + m = l
          · rw [if_pos h4]
            refine ⟨by show l = _; omega, ?_⟩
            show 0 = _
            unfold ke22
            rw [if_pos (by omega)]
          · rw [if_neg h4]
            by_cases h5 : m = 0
            · rw [if_pos h5]
              obtain ⟨k1, k2⟩ := hz h5
              obtain ⟨kb, q, hq, hCq⟩ : k < 50 ∧ ∃ q, q < k ∧ 0 < C q := by
                rcases hS with h | h
                · exact absurd h k1
                · exact h
              have hi := hk k1 q hq hCq
              have hne : ∀ q', 0 < C q' → t % k ≠ q' := fun q' h e => by rw [← e] at h; omega
              have hnx := di22_next hq (hne q hCq)
              rw [if_neg (by omega)]
              exact fu_steady (n := n) (fa := fa) (C := C) (l := l) hS s d (i + 1) p (t + 1) hd hp hf (by unfold fm22 at hs ⊢; omega) (fun _ q' hq' hC' => by
                have := hk k1 q' hq' hC'
                have := di22_next hq' (hne q' hC')
                omega) (fun h => absurd h k1)
            · rw [if_neg h5]
              have hmp := hpf m hla
              have ih := fu_steady (n := n) (fa := fa) (C := C) (l := l) hS s (d + m) 0 (p + m) (t + 1) (by omega) hmp.1 hmp.2 (by
                unfold fm22 at hs ⊢
                have : (l - (d + m)) * 101 + 101 ≤ (l - d) * 101 := by omega
                omega) (fun k1 q hq hC' => by
                have : di22 k q (t + 1) < k := Nat.mod_lt _ (by omega)
                rcases hS with h | h
                · exact absurd h k1
                · omega) (fun _ => rfl)
              refine ⟨by rw [ih.1]; omega, ?_⟩
              rw [ih.2]
              unfold ke22
              by_cases h9 : l - d ≤ la22 n fa - p
              · rw [if_pos (by omega), if_pos h9]
              · rw [if_neg (by omega), if_neg h9]
/-- Full over steady chunks. -/
theorem full_steady {n : Nat} {fa : Int} {k : Nat} {C : Nat → Int} {l p t : Nat} (hS : Std22 k C) (hp : p ≤ n) (hf : 0 ≤ fa → (p : Int) ≤ fa) (s : Nat) (hs : fm22 l 0 0 < s) :
    (fu22 n fa k C l s 0 0 p t).1 = min l (la22 n fa - p) ∧ (fu22 n fa k C l s 0 0 p t).2.2 = ke22 n l p fa := by
  have h := fu_steady (C := C) (l := l) hS s 0 0 p t (Nat.zero_le _) hp hf hs (fun k1 q hq hC => by
    have : di22 k q t < k := Nat.mod_lt _ (by omega)
    rcases hS with h | h
    · exact absurd h k1
    · omega) (fun _ => rfl)
  rw [Nat.zero_add, Nat.sub_zero] at h
  exact h
/-- what steady answers. -/
def SdP22 (k : Nat) (C : Nat → Int) (w : World) (e : Ending) (w' : World) : Prop := ∃ b : Bool, e = .returned (.bool b) ∧ (b = true ↔ Std22 k C) ∧ w' = w
set_option maxHeartbeats 2000000 in
set_option maxRecDepth 100000 in
theorem steady22 (a : Option Addr) (k c : Nat) (C : Nat → Int) (w : World) (h : Qi w (.slice a k c) k C) (hk : k ≤ 140737488355328) :
    Calls Tryd.prog 27 #[.slice a k c] w fun e w' => SdP22 k C w e w' := by
  obtain ⟨-, -, a', c', e, -, -, h4⟩ := h
  cases e
  by_cases h50 : 50 ≤ k
  · have D1 : decide ((50 : Int) ≤ (k : Int)) = true := decide_eq_true (by omega)
    have D1N : 50 ≤ k := h50
    have HN : Hid (¬ Std22 k C) := fun h => by
      rcases h with h | h
      · omega
      · omega
    clear h4 hk
    go_enter Tryd.func27, Tryd.ntmps27
    go_wp2
    go_ret
    exact ⟨false, rfl, ⟨fun h => (by cases h), fun h => absurd h HN.out⟩, rfl⟩
  · have D1 : decide ((50 : Int) ≤ (k : Int)) = false := decide_eq_false (by omega)
    have D1N : ¬ 50 ≤ k := h50
    have HK : Hid (k < 50) := by show k < 50; omega
    clear hk
    go_enter Tryd.func27, Tryd.ntmps27
    go_wp2
    clear D1 D1N h50
    go_loopw [3] (fun s3 wr => ∃ i : Nat, i ≤ k ∧ s3 = .int .i64 (i : Int) ∧ (∀ j, j < i → ¬ 0 < C j) ∧ wr = w) (fun s3 _ => k - (intOf s3).toNat)
    case atStart => exact ⟨0, Nat.zero_le _, rfl, fun j hj => absurd hj (Nat.not_lt_zero _), rfl⟩
    case round =>
      obtain ⟨i, hi, rfl, hj, rfl⟩ := hrel
      have Hj : Hid (∀ j, j < i → ¬ 0 < C j) := hj
      clear hj
      by_cases hlt : i < k
      · obtain ⟨x, o, rfl, hl, hc⟩ := h4 (by omega)
        have q1 := hc i hlt
        have ib : ((i : Nat) : Int) < (k : Int) := Int.ofNat_lt.2 hlt
        have Hi : Hid (i < k ∧ wrap64 ((i : Int) + 1) = (i : Int) + 1) := ⟨hlt, by have := HK.out; unfold wrap64; omega⟩
        by_cases hC : 0 < C i
        · have D2 : decide ((0 : Int) < C i) = true := decide_eq_true hC
          have HS : Hid (Std22 k C) := .inr ⟨HK.out, i, hlt, hC⟩
          clear h4 hc hl hi hlt
          go_wp2
          go_ret
          exact ⟨true, rfl, ⟨fun _ => HS.out, fun _ => rfl⟩, rfl⟩
        · have D2 : decide ((0 : Int) < C i) = false := decide_eq_false hC
          have Hk : Hid (∀ j, j < i + 1 → ¬ 0 < C j) := fun j hj => by
            by_cases e : j = i
            · rw [e]; exact hC
            · exact Hj.out j (by omega)
          clear Hj
          generalize C i = ci at *
          clear h4 hc hl hi hlt hC
          go_wp2
          go_roundw
          case rel => exact ⟨i + 1, Hi.out.1, by first | rfl | (rw [Hi.out.2]; rfl), Hk.out, by first | rfl | trivial⟩
          case measure => first | exact meas_lt8 Hi.out.1 | (rw [Hi.out.2]; exact meas_lt8 Hi.out.1)
      · have ib : ¬ ((i : Nat) : Int) < (k : Int) := by omega
        by_cases hk0 : k = 0
        · have D3 : ((k : Int) == 0) = true := by rw [hk0]; rfl
          have HS : Hid (Std22 k C) := .inl hk0
          clear h4 hi hlt hk0
          go_wp2
          go_ret
          exact ⟨true, rfl, ⟨fun _ => HS.out, fun _ => rfl⟩, rfl⟩
        · have D3 : ((k : Int) == 0) = false := beq_eq_false_iff_ne.2 (by omega)
          have HN : Hid (¬ Std22 k C) := fun h => by
            rcases h with h | ⟨-, q, hq, hC⟩
            · exact hk0 h
            · exact Hj.out q (by omega) hC
          clear h4 hi hlt
          go_wp2
          go_ret
          exact ⟨false, rfl, ⟨fun h => (by cases h), fun h => absurd h HN.out⟩, rfl⟩
theorem steady22_yes (a : Option Addr) (k c : Nat) (C : Nat → Int) (w : World) (h : Qi w (.slice a k c) k C) (hk : k ≤ 140737488355328) (hS : Std22 k C) :
    Calls Tryd.prog 27 #[.slice a k c] w fun e w' => e = .returned (.bool true) ∧ w' = w :=
  (steady22 a k c C w h hk).mono fun e w' ⟨b, he, hb, hw⟩ => ⟨by rw [he, hb.2 hS], hw⟩
theorem steady22_no (a : Option Addr) (k c : Nat) (C : Nat → Int) (w : World) (h : Qi w (.slice a k c) k C) (hk : k ≤ 140737488355328) (hS : ¬ Std22 k C) :
    Calls Tryd.prog 27 #[.slice a k c] w fun e w' => e = .returned (.bool false) ∧ w' = w :=
  (steady22 a k c C w h hk).mono fun e w' ⟨b, he, hb, hw⟩ => ⟨by
    rw [he]
    cases b with
    | false => rfl
    | true => exact absurd (hb.1 rfl) hS, hw⟩
end Go.Proofs.YtfbgcednodnioaaDoor
namespace Go.Proofs.YtfbgcednodnioaaDoor
open Go.RowKit Gf2
set_option linter.unusedVariables false

-- layer 22: two sources of the same bytes
theorem nes22 (w : World) (x : Addr) : (binOp .neq 35 (.iface 114 (.pointer (some x))) (.iface 114 (.pointer (some x)))).run Tryd.prog w = .ok (.bool false) w := by
  obtain ⟨i, j, h1, h2, h3⟩ := info_es22
  simp only [binOp]
  simp [Op.equal, Op.maxDepth, run_equalIn_iface_ptr_same w 9998 x Tryd.underlying35 Tryd.underlying114 h1 h2 h3]
/-- two sources alike. -/
structure Pp22 (w wr : World) (x : Addr) (dv cv : Value) (lo1 hi1 b1 f1 lo2 hi2 b2 f2 n : Nat) (D : Nat → Nat) (k1 : Nat) (C1 : Nat → Int) (k2 : Nat) (C2 : Nat → Int) (fa code : Int) (p : Nat) : Prop where
  s1 : ∃ t, So lo1 hi1 wr b1 n D k1 C1 fa code f1 p t
  s2 : ∃ t, So lo2 hi2 wr b2 n D k2 C2 fa code f2 p t
  bz : Bz22 w wr dv cv fa code
  h12 : hi1 ≤ lo2
  hlo : w.heap.size < lo1
  en : En22 w x
  c1 : ∀ i, i < k1 → I6x (C1 i)
  c2 : ∀ i, i < k2 → I6x (C2 i)
  d1 : Std22 k1 C1
  d2 : Std22 k2 C2
section
variable {w wr w' : World} {x : Addr} {dv cv : Value} {lo1 hi1 b1 f1 lo2 hi2 b2 f2 n k1 k2 p : Nat} {D : Nat → Nat} {C1 C2 : Nat → Int} {fa code : Int}
theorem Pp22.ke {E : Nat → Prop} (h : Pp22 w wr x dv cv lo1 hi1 b1 f1 lo2 hi2 b2 f2 n D k1 C1 k2 C2 fa code p) (hk : Ke E wr w') (hE : ∀ y, E y → hi2 ≤ y) (hh : ∃ t, So lo2 hi2 wr b2 n D k2 C2 fa code f2 p t) : Pp22 w w' x dv cv lo1 hi1 b1 f1 lo2 hi2 b2 f2 n D k1 C1 k2 C2 fa code p := by
  obtain ⟨t1, s1⟩ := h.s1
  obtain ⟨t2, s2⟩ := h.s2
  have h1 := s1.bl
  have h2 := s2.bl
  have h3 := h.h12
  have h4 := h.hlo
  exact ⟨⟨t1, s1.keep hk (fun y a b e => by have := hE y e; omega)⟩, ⟨t2, s2.keep hk (fun y a b e => by have := hE y e; omega)⟩, h.bz.ke hk (fun y e => by have := hE y e; omega), h.h12, h.hlo, h.en, h.c1, h.c2, h.d1, h.d2⟩
theorem Pp22.below (h : Pp22 w wr x dv cv lo1 hi1 b1 f1 lo2 hi2 b2 f2 n D k1 C1 k2 C2 fa code p) (hb : Below wr.heap.size wr w') : Pp22 w w' x dv cv lo1 hi1 b1 f1 lo2 hi2 b2 f2 n D k1 C1 k2 C2 fa code p := h.ke (ke_below hb (fun _ => False)) (fun _ e => e.elim) h.s2
theorem Pp22.drewN (h : Pp22 w wr x dv cv lo1 hi1 b1 f1 lo2 hi2 b2 f2 n D k1 C1 k2 C2 fa code p) (m : Nat) : Pp22 w (wr.drewN m) x dv cv lo1 hi1 b1 f1 lo2 hi2 b2 f2 n D k1 C1 k2 C2 fa code p := h.ke ((Ke.refl (fun _ => False) wr).drewN m) (fun _ e => e.elim) h.s2
theorem Pp22.end_ (h : Pp22 w wr x dv cv lo1 hi1 b1 f1 lo2 hi2 b2 f2 n D k1 C1 k2 C2 fa code p) : wr.cell? ⟨0, 0, none⟩ = some (.iface 114 (.pointer (some x))) := (h.bz.bel.cell (cell_lt22 h.en)).trans h.en
/-- the failures are two. -/
theorem Pp22.two (h : Pp22 w wr x dv cv lo1 hi1 b1 f1 lo2 hi2 b2 f2 n D k1 C1 k2 C2 fa code p) (h0 : 0 ≤ fa) : ∀ q, (binOp .eql 35 (.iface 22 (.pointer (some ⟨f1, 0, none⟩))) (.iface 22 (.pointer (some ⟨f2, 0, none⟩)))).run Tryd.prog (wr.drewN q) = .ok (.bool false) (wr.drewN q) := fun q => by
  obtain ⟨t1, s1⟩ := h.s1
  obtain ⟨t2, s2⟩ := h.s2
  have q1 := s1.fb h0
  have q2 := s2.fb h0
  have h3 := h.h12
  obtain ⟨_, _, _, _, _, _, _, _, F1⟩ := s1.open_
  obtain ⟨_, _, _, _, _, _, _, _, F2⟩ := s2.open_
  have e1 : wr.heap[f1]? = some (.cells #[.int .i64 code] 24 (0, 0)) := by
    rcases F1 with ⟨h9, -⟩ | ⟨-, -, h9⟩
    · omega
    · exact h9
  have e2 : wr.heap[f2]? = some (.cells #[.int .i64 code] 24 (0, 0)) := by
    rcases F2 with ⟨h9, -⟩ | ⟨-, -, h9⟩
    · omega
    · exact h9
  exact eqo22 (wr.drewN q) (by have := q1.2.1; have := q2.1; omega) e1 e2
/-- one Full of both. -/
theorem pp_round22 (l : Nat) (F : Nat → Nat) (h : Pp22 w wr x dv cv lo1 hi1 b1 f1 lo2 hi2 b2 f2 n D k1 C1 k2 C2 fa code p) (hl : l < 1024) (gp gq : Nat) (hgp : Rw wr gp l F) (hgq : Rw wr gq l F) (hpq : gp ≠ gq) (h1 : hi2 ≤ gp) (h2 : hi2 ≤ gq) (da : Option Addr) (dc : Nat) (hd : Bi (fun y => y < w.heap.size) w (.slice da n dc) n D) :
    Calls Tryd.prog 25 #[.iface 25 (.pointer (some ⟨b1, 0, none⟩)), .slice (some ⟨gp, 0, none⟩) l l] wr fun e w3 => e = .returned (.tuple #[.int .i64 ((min l (la22 n fa - p) : Nat) : Int), ev22 114 (.pointer (some x)) f1 (ke22 n l p fa)]) ∧
    Calls Tryd.prog 25 #[.iface 25 (.pointer (some ⟨b2, 0, none⟩)), .slice (some ⟨gq, 0, none⟩) l l] w3 fun e w4 => e = .returned (.tuple #[.int .i64 ((min l (la22 n fa - p) : Nat) : Int), ev22 114 (.pointer (some x)) f2 (ke22 n l p fa)]) ∧
    Pp22 w w4 x dv cv lo1 hi1 b1 f1 lo2 hi2 b2 f2 n D k1 C1 k2 C2 fa code (p + min l (la22 n fa - p)) ∧
    (∀ q, Calls Tryd.prog 22 #[.slice (some ⟨gp, 0, none⟩) (min l (la22 n fa - p)) l, .slice (some ⟨gq, 0, none⟩) (min l (la22 n fa - p)) l] (w4.drewN q) fun e w' => e = .returned (.bool true) ∧ ∃ m, w' = (w4.drewN q).drewN m) ∧
    ∃ a', (∀ W : World, (Instr.slice 41 (.slice da n dc) (some (.int .i64 (p : Int))) (some (.int .i64 ((p + min l (la22 n fa - p) : Nat) : Int))) none).run Tryd.prog W = .ok (.slice a' (min l (la22 n fa - p)) (dc - p)) W) ∧
    ∀ q, Calls Tryd.prog 22 #[.slice (some ⟨gp, 0, none⟩) (min l (la22 n fa - p)) l, .slice a' (min l (la22 n fa - p)) (dc - p)] (w4.drewN q) fun e w' => e = .returned (.bool true) ∧ ∃ m, w' = (w4.drewN q).drewN m := by
  obtain ⟨t1, s1⟩ := h.s1
  obtain ⟨t2, s2⟩ := h.s2
  have z1 := s1.bl
  have z2 := s2.bl
  have z3 := h.h12
  have z4 := h.hlo
  have z5 : 0 < w.heap.size := cell_lt22 h.en
  have hla : la22 n fa ≤ n := by unfold la22; split <;> omega
  obtain ⟨m, hm⟩ : ∃ m, m = min l (la22 n fa - p) := ⟨_, rfl⟩
  have e1 := full_steady (l := l) (t := t1) h.d1 s1.pn s1.pf (fm22 l 0 0 + 1) (Nat.lt_succ_self _)
  have e2 := full_steady (l := l) (t := t2) h.d2 s2.pn s2.pf (fm22 l 0 0 + 1) (Nat.lt_succ_self _)
  have c1 := full22 gp 0 l l l F 114 (.pointer (some x)) wr s1 h.c1 hgp (by omega) (by omega) (Nat.le_refl _) (.inr (by omega)) h.end_ ⟨by omega, by omega⟩ (fm22 l 0 0 + 1) (Nat.lt_succ_self _)
  rw [e1.1, e1.2] at c1
  rw [← hm] at c1 e2 ⊢
  have hml : m ≤ l := by omega
  refine c1.mono fun e w3 ⟨he, f3⟩ => ⟨he, ?_⟩
  have k3 := f3.ke
  have s23 : So lo2 hi2 w3 b2 n D k2 C2 fa code f2 p t2 := s2.keep k3 (fun y a b e => by rcases e with e | e <;> omega)
  have q3 : Rw w3 gq l F := k3.rw_ hgq (fun e => by rcases e with e | e <;> omega)
  have bz3 : Bz22 w w3 dv cv fa code := h.bz.ke k3 (fun y e => by rcases e with e | e <;> omega)
  have en3 : w3.cell? ⟨0, 0, none⟩ = some (.iface 114 (.pointer (some x))) := (bz3.bel.cell (cell_lt22 h.en)).trans h.en
  have c2 := full22 gq 0 l l l F 114 (.pointer (some x)) w3 s23 h.c2 q3 (by omega) (by omega) (Nat.le_refl _) (.inr (by omega)) en3 ⟨by omega, by omega⟩ (fm22 l 0 0 + 1) (Nat.lt_succ_self _)
  rw [e2.1, e2.2] at c2
  refine c2.mono fun e w4 ⟨he, f4⟩ => ⟨he, ?_⟩
  have k4 := f4.ke
  have r1 : Rw w4 gp l _ := k4.rw_ f3.rw (fun e => by rcases e with e | e <;> omega)
  have r2 := f4.rw
  have bz4 : Bz22 w w4 dv cv fa code := bz3.ke k4 (fun y e => by rcases e with e | e <;> omega)
  obtain ⟨a', hB3, hcut⟩ := hd.cut (f := p) (t := p + m) (by omega) (by have := s1.pn; omega)
  rw [Nat.add_sub_cancel_left] at hB3 hcut
  have v1 : Rb w4 (.slice (some ⟨gp, 0, none⟩) m l) m (fun i => D (p + i)) := (r1.rb (o := 0) (n := m) (cap := l) (by omega) hml (by unfold big; omega)).congr (fun i hi => pl_in hi)
  have v2 : Rb w4 (.slice (some ⟨gq, 0, none⟩) m l) m (fun i => D (p + i)) := (r2.rb (o := 0) (n := m) (cap := l) (by omega) hml (by unfold big; omega)).congr (fun i hi => pl_in hi)
  have v3 : Rb w4 (.slice a' m (dc - p)) m (fun i => D (p + i)) := hB3.rb.below bz4.bel
  refine ⟨⟨⟨_, f3.so.keep k4 (fun y a b e => by rcases e with e | e <;> omega)⟩, ⟨_, f4.so⟩, bz4, h.h12, h.hlo, h.en, h.c1, h.c2, h.d1, h.d2⟩, fun q => sb22_true _ _ m _ _ _ (v1.drewN q) (v2.drewN q) (fun _ _ => rfl), a', hcut, fun q => sb22_true _ _ m _ _ _ (v1.drewN q) (v3.drewN q) (fun _ _ => rfl)⟩
end
end Go.Proofs.YtfbgcednodnioaaDoor
namespace Go.Proofs.YtfbgcednodnioaaDoor
open Go.RowKit Gf2
set_option linter.unusedVariables false

-- layer 22: a round of PipesPieces, in letters
/-- what a round gives: how many bytes, where it then stands, the two errors. -/
structure Pr22 (n l p : Nat) (fa : Int) (xv : Value) (f1 f2 m r : Nat) (v1 v2 : Value) : Prop where
  ml : m ≤ l
  re : r = p + m
  rl : r ≤ la22 n fa
  ro : ¬ m = l → r = la22 n fa
  e0 : m = l → v1 = .nilIface ∧ v2 = .nilIface
  e2 : ¬ m = l → 0 ≤ fa ∧ fa ≤ (n : Int) → v1 = .iface 22 (.pointer (some ⟨f1, 0, none⟩)) ∧ v2 = .iface 22 (.pointer (some ⟨f2, 0, none⟩))
  e1 : ¬ m = l → ¬ (0 ≤ fa ∧ fa ≤ (n : Int)) → v1 = .iface 114 xv ∧ v2 = .iface 114 xv
theorem pr22 {n l p : Nat} {fa : Int} {xv : Value} {f1 f2 : Nat} (hp : p ≤ la22 n fa) : Pr22 n l p fa xv f1 f2 (min l (la22 n fa - p)) (p + min l (la22 n fa - p)) (ev22 114 xv f1 (ke22 n l p fa)) (ev22 114 xv f2 (ke22 n l p fa)) where
  ml := by omega
  re := rfl
  rl := by omega
  ro := fun h => by omega
  e0 := fun h => by
    have : ke22 n l p fa = 0 := by unfold ke22; rw [if_pos (by omega)]
    rw [this]; exact ⟨rfl, rfl⟩
  e2 := fun h h2 => by
    have : ke22 n l p fa = 2 := by unfold ke22; rw [if_neg (by omega), if_pos h2]
    rw [this]; exact ⟨rfl, rfl⟩
  e1 := fun h h2 => by
    have : ke22 n l p fa = 1 := by unfold ke22; rw [if_neg (by omega), if_neg h2]
    rw [this]; exact ⟨rfl, rfl⟩
section
variable {w wr : World} {x : Addr} {dv cv : Value} {lo1 hi1 b1 f1 lo2 hi2 b2 f2 n k1 k2 p : Nat} {D : Nat → Nat} {C1 C2 : Nat → Int} {fa code : Int}
theorem Pp22.la (h : Pp22 w wr x dv cv lo1 hi1 b1 f1 lo2 hi2 b2 f2 n D k1 C1 k2 C2 fa code p) : p ≤ la22 n fa := by
  obtain ⟨t1, s1⟩ := h.s1
  have h1 := s1.pn
  have h2 := s1.pf
  unfold la22
  split
  · rename_i h3
    have := h2 h3.1
    omega
  · exact h1
theorem pieces_r22 (l : Nat) (h : Pp22 w wr x dv cv lo1 hi1 b1 f1 lo2 hi2 b2 f2 n D k1 C1 k2 C2 fa code p) (hl : l < 1024) (da : Option Addr) (dc : Nat) (hd : Bi (fun y => y < w.heap.size) w (.slice da n dc) n D) :
    ∃ g1 wa g2 wb, (Instr.makeSlice 41 (.int .i64 (l : Int)) (.int .i64 (l : Int))).run Tryd.prog wr = .ok (.slice (some ⟨g1, 0, none⟩) l l) wa ∧
    (Instr.makeSlice 41 (.int .i64 (l : Int)) (.int .i64 (l : Int))).run Tryd.prog wa = .ok (.slice (some ⟨g2, 0, none⟩) l l) wb ∧
    (Calls Tryd.prog 19 #[.pointer (some ⟨b2, 0, none⟩)] wb fun e w' => e = .returned (.int .i64 (p : Int)) ∧ w' = wb) ∧
    ∃ m r v1 v2 a' dd, Pr22 n l p fa (.pointer (some x)) f1 f2 m r v1 v2 ∧ (∀ W : World, (Instr.slice 41 (.slice da n dc) (some (.int .i64 (p : Int))) (some (.int .i64 (r : Int))) none).run Tryd.prog W = .ok (.slice a' m dd) W) ∧
    Calls Tryd.prog 25 #[.iface 25 (.pointer (some ⟨b1, 0, none⟩)), .slice (some ⟨g1, 0, none⟩) l l] wb fun e w3 => e = .returned (.tuple #[.int .i64 (m : Int), v1]) ∧
    Calls Tryd.prog 25 #[.iface 25 (.pointer (some ⟨b2, 0, none⟩)), .slice (some ⟨g2, 0, none⟩) l l] w3 fun e w4 => e = .returned (.tuple #[.int .i64 (m : Int), v2]) ∧
    Pp22 w w4 x dv cv lo1 hi1 b1 f1 lo2 hi2 b2 f2 n D k1 C1 k2 C2 fa code r ∧
    (∀ q, Calls Tryd.prog 22 #[.slice (some ⟨g1, 0, none⟩) m l, .slice (some ⟨g2, 0, none⟩) m l] (w4.drewN q) fun e w' => e = .returned (.bool true) ∧ ∃ m, w' = (w4.drewN q).drewN m) ∧
    ∀ q, Calls Tryd.prog 22 #[.slice (some ⟨g1, 0, none⟩) m l, .slice a' m dd] (w4.drewN q) fun e w' => e = .returned (.bool true) ∧ ∃ m, w' = (w4.drewN q).drewN m := by
  obtain ⟨wa, hwa⟩ : ∃ wa, wa = wr.alloc (.cells (madeCells #[.int .u8 0] l) 5) := ⟨_, rfl⟩
  obtain ⟨wb, hwb⟩ : ∃ wb, wb = wa.alloc (.cells (madeCells #[.int .u8 0] l) 5) := ⟨_, rfl⟩
  have ba : Below wr.heap.size wr wa := by rw [hwa]; exact (Below.refl _ _).alloc (Nat.le_refl _) _
  have bb : Below wa.heap.size wa wb := by rw [hwb]; exact (Below.refl _ _).alloc (Nat.le_refl _) _
  have ra : Rw wa wr.heap.size l (fun _ => 0) := by rw [hwa]; exact made_rw l (by omega) wr
  have rb : Rw wb wa.heap.size l (fun _ => 0) := by rw [hwb]; exact made_rw l (by omega) wa
  have ra' := rw_below ra bb
  have sz : wa.heap.size = wr.heap.size + 1 := by rw [hwa]; simp
  have hb := (h.below ba).below bb
  obtain ⟨t2, s2⟩ := h.s2
  have hh := s2.hh
  obtain ⟨t2', s2'⟩ := hb.s2
  have R := pp_round22 l _ hb hl wr.heap.size wa.heap.size ra' rb (by omega) (by omega) (by omega) da dc hd
  refine ⟨wr.heap.size, wa, wa.heap.size, wb, by rw [hwa]; exact make_u8 l (by omega) wr, by rw [hwb]; exact make_u8 l (by omega) wa, taken22 wb s2', ?_⟩
  obtain ⟨a', hcut⟩ : ∃ a', ∀ W : World, (Instr.slice 41 (.slice da n dc) (some (.int .i64 (p : Int))) (some (.int .i64 ((p + min l (la22 n fa - p) : Nat) : Int))) none).run Tryd.prog W = .ok (.slice a' (min l (la22 n fa - p)) (dc - p)) W := by
    have hla : la22 n fa ≤ n := by unfold la22; split <;> omega
    obtain ⟨a', hB3, hcut⟩ := hd.cut (f := p) (t := p + min l (la22 n fa - p)) (by omega) (by have := s2.pn; omega)
    rw [Nat.add_sub_cancel_left] at hcut
    exact ⟨a', hcut⟩
  refine ⟨_, _, _, _, a', dc - p, pr22 h.la, hcut, R.mono fun e w3 ⟨he, R3⟩ => ⟨he, R3.mono fun e w4 ⟨he, hP4, hs, a'', hcut2, hs2⟩ => ⟨he, hP4, hs, ?_⟩⟩⟩
  have : a' = a'' := by
    have h1 := hcut w4
    rw [hcut2 w4] at h1
    simp only [Result.ok.injEq, Value.slice.injEq, and_true] at h1
    exact h1.symm
  rw [this]
  exact hs2
end
end Go.Proofs.YtfbgcednodnioaaDoor
