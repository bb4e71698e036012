import Derived.Test.YtemjodlhpelbaaaDoorAcl
import Derived.Deep.AppendSrc
namespace Go.Proofs.YtemjodlhpelbaaaDoor
open Go.RowKit Gf2
set_option linter.unusedVariables false

-- layer 14: apart, of 18 lists of n words, each a row of its own
/-- marks are written up to place j of list i. -/
structure Mk (W W' : World) (Bk : Nat → Nat) (n : Nat) (S : Nat → Nat → Nat) (i j : Nat) : Prop where
  kx : Kx (Eb Bk 18) W W'
  row : ∀ r, r < 18 → R6 W' (Bk r) n (fun x => if r < i ∨ (r = i ∧ x < j) then 2 * r + 1 else S r x)
theorem Mk.mark {W W' : World} {Bk : Nat → Nat} {n : Nat} {S : Nat → Nat → Nat} {i j : Nat} (h : Mk W W' Bk n S i j) (inj : ∀ r s, r < 18 → s < 18 → Bk r = Bk s → r = s) (hi : i < 18) (hj : j < n) : Mk W (W'.setCell ⟨Bk i, j, none⟩ (.int .u16 ((2 * i + 1 : Nat) : Int))) Bk n S i (j + 1) := by
  have k : Kp (Bk i) W' (W'.setCell ⟨Bk i, j, none⟩ (.int .u16 ((2 * i + 1 : Nat) : Int))) := (Kp.refl _ _).setCell _ _
  refine ⟨h.kx.trans (k.kx ⟨i, hi, rfl⟩), fun r hr => ?_⟩
  by_cases e : r = i
  · subst e
    refine ((h.row r hr).set j (2 * r + 1) (by omega)).congr (fun x hx => ?_)
    by_cases e2 : x = j
    · rw [if_pos e2, if_pos (.inr ⟨rfl, by omega⟩)]
    · rw [if_neg e2]
      by_cases e3 : x < j
      · rw [if_pos (.inr ⟨rfl, e3⟩), if_pos (.inr ⟨rfl, by omega⟩)]
      · rw [if_neg (by omega), if_neg (by omega)]
  · refine ((h.row r hr).kp k (fun e9 => e (inj r i hr hi e9))).congr (fun x hx => ?_)
    by_cases e3 : r < i
    · rw [if_pos (.inl e3), if_pos (.inl e3)]
    · rw [if_neg (by omega), if_neg (by omega)]
theorem Mk.next {W W' : World} {Bk : Nat → Nat} {n : Nat} {S : Nat → Nat → Nat} {i j : Nat} (h : Mk W W' Bk n S i j) (hj : ¬ j < n) : Mk W W' Bk n S (i + 1) 0 :=
  ⟨h.kx, fun r hr => (h.row r hr).congr (fun x hx => by
    by_cases e : r ≤ i
    · rw [if_pos (by omega), if_pos (.inl (by omega))]
    · rw [if_neg (by omega), if_neg (by omega)])⟩
/-- what a grown list holds. -/
def gm (n r x : Nat) : Nat := if x < n then 2 * r + 1 else 2 * r + 2
def gmf (n y : Nat) : Nat := gm n (y / (n + 80)) (y % (n + 80))
theorem gmf_at {n r x : Nat} (hx : x < n + 80) : gmf n (r * (n + 80) + x) = gm n r x := by
  unfold gmf
  rw [Nat.mul_comm r, Nat.mul_add_div (by omega), Nat.div_eq_of_lt hx, Nat.add_zero, Nat.mul_add_mod, Nat.mod_eq_of_lt hx]
/-- list i while it grows: j words more. -/
def Gr (W2 W' : World) (B n i : Nat) (gv : Value) (j : Nat) : Prop := Below W2.heap.size W2 W' ∧ ((j = 0 ∧ gv = .slice (some ⟨B, 0, none⟩) n n) ∨ (0 < j ∧ ∃ gb C F, gv = .slice (some ⟨gb, 0, none⟩) (n + j) C ∧ n + j ≤ C ∧ W2.heap.size ≤ gb ∧ R6 W' gb C F ∧ ∀ x, x < n + j → F x = gm n i x))
theorem Gr.form {W2 W' : World} {B n i : Nat} {gv : Value} {j : Nat} (h : Gr W2 W' B n i gv j) : ∃ g C, gv = .slice (some ⟨g, 0, none⟩) (n + j) C := by
  rcases h.2 with ⟨rfl, rfl⟩ | ⟨-, gb, C, F, rfl, -⟩
  · exact ⟨_, _, rfl⟩
  · exact ⟨_, _, rfl⟩
/-- n words more behind a row that is full: a new row. -/
theorem app16_full (w : World) {g L : Nat} {F : Nat → Nat} (hr : R6 w g L F) {b p n cx : Nat} {S : Nat → Nat} (h0 : 0 < n) (hS : ∀ i, i < n → S i < 65536)
    (hc : ∀ i, i < n → w.cell? ⟨b, p + i, none⟩ = some (.int .u16 (S i : Nat))) (hn : (L + n) * 2 ≤ 140737488355328) :
    ∃ w' C' F', (Builtin.append_ #[22, 22] 22 #[.slice (some ⟨g, 0, none⟩) L L, .slice (some ⟨b, p, none⟩) n cx]).run Tryd.prog w = .ok (.slice (some ⟨w.heap.size, 0, none⟩) (L + n) C') w' ∧
      L + n ≤ C' ∧ R6 w' w.heap.size C' F' ∧ (∀ i, i < L → F' i = F i) ∧ (∀ i, i < n → F' (L + i) = S i) ∧ Below w.heap.size w w' := by
  obtain ⟨ti, hi, hz, hs1, hb1⟩ := info_w6a
  have ea : ∀ j, (⟨b, p, none⟩ : Addr).add j = ⟨b, p + j, none⟩ := fun j => by unfold Addr.add; split <;> simp_all
  have hs : Src Tryd.prog ti.size 22 (.slice (some ⟨b, p, none⟩) n cx) n (bh n S) w := Src.ofSlice w Tryd.underlying22 ⟨b, p, none⟩ n cx (bh n S) (by rw [bh_len, hs1, Nat.mul_one]) (fun j u h => by
    have hj : j < n := by
      rcases Nat.lt_or_ge j n with h9 | h9
      · exact h9
      · rw [List.getElem?_eq_none (by rw [bh_len]; exact h9)] at h; cases h
    rw [bh_get n S j hj] at h
    cases h
    rw [ea]
    exact hc j hj) bh_one
  have hold : (Builtin.firstCells ti.size L (.slice (some ⟨g, 0, none⟩) L L)).run Tryd.prog w.drew = .ok (bh L F).toArray w.drew := by
    refine run_firstCells_some w.drew ti.size L ⟨g, 0, none⟩ L L (bh L F) (by rw [bh_len, hs1, Nat.mul_one]) (fun j u hu => ?_)
    have hj : j < L := by
      rcases Nat.lt_or_ge j L with h9 | h9
      · exact h9
      · rw [List.getElem?_eq_none (by rw [bh_len]; exact h9)] at hu; cases hu
    rw [bh_get L F j hj] at hu
    cases hu
    rw [Addr.add_lit, Nat.zero_add]
    exact hr.2.2.cell (i := j) (by omega)
  have hrun := run_append_grow_src w 22 22 22 31 ti (Value.int .u16 0) Tryd.underlying22 hi hz (some ⟨g, 0, none⟩) L L (bh L F) hold _ n (bh n S) hs (by omega) (by omega) (growslice_fits (by omega) (by rw [hb1]; exact hn))
  have hge := grownCap_ge w (L + n) L 31
  have hcm := grownCap_le_maxLen w (L + n) L 31 (by unfold maxLen; omega)
  obtain ⟨C', hC'⟩ : ∃ C', C' = grownCap w (L + n) L 31 := ⟨_, rfl⟩
  rw [← hC'] at hrun hge hcm
  have hF0 : ∀ i, i < L → F i < 65536 := fun i hi => hr.2.1 i (by omega)
  refine ⟨_, C', fun i => if i < L then F i else if i < L + n then S (i - L) else 0, hrun, hge, ⟨by unfold big; unfold maxLen at hcm; exact hcm, fun i hi => ?_, _, heap_alloc_new _ _, ?_, fun i hi => ?_⟩, fun i hi => if_pos hi, fun i hi => ?_, ?_⟩
  · dsimp only
    split
    · exact hF0 i (by assumption)
    · split
      · exact hS _ (by omega)
      · decide
  · rw [Array.size_append, List.size_toArray, List.length_append, bh_len, bh_len, size_zeroCells]
    show L + n + (C' - (L + n)) * 1 = C'
    omega
  · show _ = some (Value.int .u16 (((if i < L then F i else if i < L + n then S (i - L) else 0) : Nat) : Int))
    by_cases e1 : i < L
    · rw [if_pos e1, Array.getElem?_append_left (by simp [bh_len]; omega), List.getElem?_toArray, List.getElem?_append_left (by rw [bh_len]; exact e1), bh_get _ _ _ e1]
    · by_cases e2 : i < L + n
      · rw [if_neg e1, if_pos e2, Array.getElem?_append_left (by simp [bh_len]; omega), List.getElem?_toArray, List.getElem?_append_right (by rw [bh_len]; omega), bh_len, bh_get _ _ _ (by omega)]
      · rw [if_neg e1, if_neg e2, Array.getElem?_append_right (by simp [bh_len]; omega)]
        have hk : i - ((bh L F ++ bh n S).toArray).size < C' - (L + n) := by simp [bh_len]; omega
        generalize i - ((bh L F ++ bh n S).toArray).size = k at hk
        simp [Builtin.zeroCells, Value.cells, hk, Nat.mod_one]
  · show (if L + i < L then F (L + i) else if L + i < L + n then S (L + i - L) else 0) = S i
    rw [if_neg (by omega), if_pos (by omega), Nat.add_sub_cancel_left]
  · exact ((Below.refl w.heap.size w).drew).alloc (by simp) _
theorem Gr.grow {W2 W' : World} {B n i : Nat} {gv : Value} {j : Nat} (h : Gr W2 W' B n i gv j) (hB : B < W2.heap.size) (hR : R6 W2 B n (fun _ => 2 * i + 1)) (hi : i < 18) (hn : n ≤ 64) (hj : j < 80) :
    ∃ w' v', (Builtin.append_ #[22, 22] 22 #[gv, .slice (some ⟨W'.heap.size, 0, none⟩) 1 1]).run Tryd.prog (W'.alloc (.cells #[.int .u16 ((2 * i + 2 : Nat) : Int)] 31)) = .ok v' w' ∧ Gr W2 w' B n i v' (j + 1) := by
  have b0 := below_alloc W' (.cells #[.int .u16 ((2 * i + 2 : Nat) : Int)] 31)
  have hsz : (W'.alloc (.cells #[.int .u16 ((2 * i + 2 : Nat) : Int)] 31)).heap.size = W'.heap.size + 1 := by simp
  have hcell : ∀ y, y < 1 → (W'.alloc (.cells #[.int .u16 ((2 * i + 2 : Nat) : Int)] 31)).cell? ⟨W'.heap.size, 0 + y, none⟩ = some (.int .u16 ((fun _ => 2 * i + 2) y : Nat)) := by
    intro y hy
    obtain rfl : y = 0 := by omega
    rw [cell_of_row _ W'.heap.size (0 + 0) _ _ _ (heap_alloc_new _ _)]
    rfl
  have bb := h.1.trans (b0.mono h.1.size)
  rcases h.2 with ⟨rfl, rfl⟩ | ⟨h0, gb, C, F, rfl, h1, h2, h3, h4⟩
  · obtain ⟨w', C', F', hrun, hC, hR', hF1, hF2, hb⟩ := app16_full (W'.alloc (.cells #[.int .u16 ((2 * i + 2 : Nat) : Int)] 31)) (g := B) (L := n) ((hR.below h.1).below b0) (b := W'.heap.size) (p := 0) (n := 1) (cx := 1) (S := fun _ => 2 * i + 2) (by decide) (fun _ _ => by show 2 * i + 2 < 65536; omega) hcell (by omega)
    refine ⟨w', _, hrun, bb.trans (hb.mono (by have := bb.size; omega)), .inr ⟨by omega, _, C', F', rfl, hC, by have := bb.size; omega, hR', fun x hx => ?_⟩⟩
    unfold gm
    by_cases e : x < n
    · rw [if_pos e, hF1 x e]
    · rw [if_neg e, show x = n + 0 by omega]
      exact hF2 0 (by decide)
  · obtain ⟨w', g', C', F', hrun, hC, hR', hF1, hF2, hcase⟩ := app16 (W'.alloc (.cells #[.int .u16 ((2 * i + 2 : Nat) : Int)] 31)) (g := gb) (C := C) (L := n + j) (h3.below b0) h1 (x := some ⟨W'.heap.size, 0, none⟩) (n := 1) (cx := 1) (S := fun _ => 2 * i + 2) (fun _ _ => by show 2 * i + 2 < 65536; omega) (fun _ => ⟨_, _, rfl, hcell⟩) (by omega)
    have hF : ∀ x, x < n + (j + 1) → F' x = gm n i x := fun x hx => by
      by_cases e : x < n + j
      · rw [hF1 x e]; exact h4 x e
      · rw [show x = n + j + 0 by omega, hF2 0 (by decide)]
        unfold gm
        rw [if_neg (by omega)]
    rcases hcase with ⟨rfl, ho⟩ | ⟨rfl, -, hb⟩
    · exact ⟨w', _, hrun, bb.trans (ho.below h2), .inr ⟨by omega, g', C', F', rfl, hC, h2, hR', hF⟩⟩
    · exact ⟨w', _, hrun, bb.trans (hb.mono (by have := bb.size; omega)), .inr ⟨by omega, _, C', F', rfl, hC, by have := bb.size; omega, hR', hF⟩⟩
end Go.Proofs.YtemjodlhpelbaaaDoor
