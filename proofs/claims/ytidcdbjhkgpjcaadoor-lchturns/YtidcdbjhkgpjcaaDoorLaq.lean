import Derived.Test.YtidcdbjhkgpjcaaDoorLap
namespace Go.Proofs.YtidcdbjhkgpjcaaDoor
open Go.RowKit Gf2
set_option linter.unusedVariables false

theorem info_l6 : (Tryd.prog.info? 27).map (fun i => (i.zero, i.size, i.bytes)) = some (some (Value.slice none 0 0), 1, 24) := by kernel_rfl
theorem make_l6 (n : Nat) (hn : 24 * n ≤ 140737488355328) (w : World) : (Instr.makeSlice 61 (.int .i64 (n : Int)) (.int .i64 (n : Int))).run Tryd.prog w = .ok (.slice (some ⟨w.heap.size, 0, none⟩) n n) (w.alloc (.cells (madeCells #[.slice none 0 0] n) 27)) :=
  run_make_row' (P := Tryd.prog) 61 27 (.slice none 0 0) 24 Tryd.underlying61 info_l6 rfl .i64 .i64 n (by omega) (by omega) w
theorem row_apart {W : World} {lb N : Nat} {u : Nat → Value} (hl : W.rowIs lb 27 N u) {w : World} {v : Value} {L : Nat} {S : Nat → Nat} (hg : Gv w W v L S) : ¬ In13 v lb := fun hi => by
  obtain ⟨C, F, -, -, -, ⟨-, -, c, hc, -, -⟩, -⟩ := hg.own hi
  obtain ⟨c', hc', -, -⟩ := hl
  rw [hc] at hc'
  simp at hc'
/-- what a place of list r holds while marks are written. -/
def m1 (S : Nat → Nat → Nat) (i j r x : Nat) : Nat := if r < i ∨ (r = i ∧ x < j) then 2 * r else S r x
/-- what it holds while lists grow. -/
def m2 (L : Nat → Nat) (r x : Nat) : Nat := if x < L r then 2 * r else 2 * r + 1
/-- how long they are. -/
def g2 (L : Nat → Nat) (i j r : Nat) : Nat := if r < i then L r + 300 else if r = i then L r + j else L r
structure St1 (w W W' : World) (N : Nat) (u : Nat → Value) (L : Nat → Nat) (S : Nat → Nat → Nat) (i j : Nat) : Prop where
  bel : Below w.heap.size w W'
  sz : W.heap.size < W'.heap.size
  row : W'.rowIs W.heap.size 27 N (fun r => if r < i then u r else .slice none 0 0)
  own : ∀ r, r < N → Gv w W' (u r) (L r) (m1 S i j r)
  old : ∀ b, b < W.heap.size → (∀ r, r < N → ¬ In13 (u r) b) → W'.heap[b]? = W.heap[b]?
structure St2 (w W W' : World) (N : Nat) (u v : Nat → Value) (L : Nat → Nat) (i j : Nat) : Prop where
  bel : Below w.heap.size w W'
  sz : W.heap.size < W'.heap.size
  row : W'.rowIs W.heap.size 27 N v
  own : ∀ r, r < N → Gv w W' (v r) (g2 L i j r) (m2 L r)
  dif : ∀ r s, r < N → s < N → r ≠ s → ∀ b, In13 (v r) b → In13 (v s) b → False
  cell : ∀ r, r < N → ∀ b, In13 (u r) b → ∀ x, x < L r → W'.cell? ⟨b, x, none⟩ = some (.int .u16 ((2 * r : Nat) : Int))
  blk : ∀ r, r < N → ∀ b, In13 (v r) b → In13 (u r) b ∨ W.heap.size < b
  old : ∀ b, b < W.heap.size → (∀ r, r < N → ¬ In13 (u r) b) → W'.heap[b]? = W.heap[b]?
section
variable {w W W' : World} {N lb : Nat} {u v : Nat → Value} {L : Nat → Nat} {S : Nat → Nat → Nat} {i j : Nat}
theorem Gv.lt13 {w W : World} {v : Value} {L : Nat} {S : Nat → Nat} (h : Gv w W v L S) {b : Nat} (hi : In13 v b) : b < W.heap.size := by
  obtain ⟨C, F, -, -, -, h4, -⟩ := h.own hi
  exact h4.lt
theorem heap_set_ne {W : World} {g b o : Nat} {x : Value} (h : b ≠ g) : (W.setCell ⟨g, o, none⟩ x).heap[b]? = W.heap[b]? := heap_setCell_other _ _ _ _ h
theorem cell_heap {a b : World} {k j : Nat} (e : b.heap[k]? = a.heap[k]?) : b.cell? ⟨k, j, none⟩ = a.cell? ⟨k, j, none⟩ := by unfold World.cell?; rw [e]
/-- a mark. -/
theorem St1.mark (h : St1 w W W' N u L S i j) (hu : ∀ r, r < N → ∀ b, In13 (u r) b → b < W.heap.size) (hd : ∀ r s, r < N → s < N → r ≠ s → Dif (u r) (u s)) (hi : i < N) (hj : j < L i) (hx : 2 * i < 65536) {g C : Nat} (e : u i = .slice (some ⟨g, 0, none⟩) (L i) C) :
    St1 w W (W'.setCell ⟨g, j, none⟩ (.int .u16 ((2 * i : Nat) : Int))) N u L S i (j + 1) := by
  have ho := h.own i hi
  rw [e] at ho
  obtain ⟨m1', m2', m3', m4'⟩ := ho.mark (j := j) (x := 2 * i) hj hx
  have hgi : In13 (u i) g := ⟨0, L i, C, e⟩
  have hgW := hu i hi g hgi
  refine ⟨h.bel.setCell m4' _, by rw [World.size_setCell]; exact h.sz, ?_, fun r hr => ?_, fun b hb hn => ?_⟩
  · exact h.row.of_block (heap_set_ne (by omega))
  · by_cases er : r = i
    · subst er
      rw [e]
      exact m1'.congr (fun x hx9 => by
        unfold m1
        by_cases e2 : x = j
        · rw [if_pos e2, if_pos (.inr ⟨rfl, by omega⟩)]
        · rw [if_neg e2]
          by_cases e3 : x < j
          · rw [if_pos (.inr ⟨rfl, e3⟩), if_pos (.inr ⟨rfl, by omega⟩)]
          · rw [if_neg (by omega), if_neg (by omega)])
    · have := (h.own r hr).keep (W' := W'.setCell ⟨g, j, none⟩ (.int .u16 ((2 * i : Nat) : Int))) (h.bel.setCell m4' _) (fun b hb => heap_set_ne (fun e9 => dif_in (hd r i hr hi er) hb (e9 ▸ hgi)))
      refine this.congr (fun x _ => ?_)
      unfold m1
      by_cases e3 : r < i
      · rw [if_pos (.inl e3), if_pos (.inl e3)]
      · rw [if_neg (by omega), if_neg (by omega)]
  · rw [heap_set_ne (b := b) (g := g) (fun e9 => hn i hi (by rw [e9]; exact hgi))]
    exact h.old b hb hn
/-- the list is marked: it is laid beside. -/
theorem St1.next (h : St1 w W W' N u L S i j) (hu : ∀ r, r < N → ∀ b, In13 (u r) b → b < W.heap.size) (hw : w.heap.size ≤ W.heap.size) (hi : i < N) (hj : j = L i) :
    St1 w W (W'.setCell ⟨W.heap.size, i, none⟩ (u i)) N u L S (i + 1) 0 := by
  refine ⟨h.bel.setCell hw _, by rw [World.size_setCell]; exact h.sz, ?_, fun r hr => ?_, fun b hb hn => ?_⟩
  · refine (h.row.set i _).congr (fun r hr => ?_)
    by_cases e : r = i
    · subst e; rw [if_pos rfl, if_pos (by omega)]
    · rw [if_neg e]
      by_cases e2 : r < i
      · rw [if_pos e2, if_pos (by omega)]
      · rw [if_neg e2, if_neg (by omega)]
  · have := (h.own r hr).keep (W' := W'.setCell ⟨W.heap.size, i, none⟩ (u i)) (h.bel.setCell hw _) (fun b hb => heap_set_ne (by have := hu r hr b hb; omega))
    refine this.congr (fun x hx => ?_)
    unfold m1
    by_cases e2 : r = i
    · subst e2; rw [if_pos (.inr ⟨rfl, by omega⟩), if_pos (.inl (by omega))]
    · by_cases e3 : r < i
      · rw [if_pos (.inl e3), if_pos (.inl (by omega))]
      · rw [if_neg (by omega), if_neg (by omega)]
  · rw [heap_set_ne (by omega)]
    exact h.old b hb hn
/-- all are marked. -/
theorem St1.done (h : St1 w W W' N u L S N 0) (hu : ∀ r, r < N → ∀ b, In13 (u r) b → b < W.heap.size) (hd : ∀ r s, r < N → s < N → r ≠ s → Dif (u r) (u s)) : St2 w W W' N u u L 0 0 := by
  refine ⟨h.bel, h.sz, h.row.congr (fun r hr => if_pos hr), fun r hr => ?_, fun r s hr hs hrs b h1 h2 => dif_in (hd r s hr hs hrs) h1 h2, fun r hr b hb x hx => ?_, fun r hr b hb => .inl hb, h.old⟩
  · have e : g2 L 0 0 r = L r := by
      unfold g2
      rw [if_neg (Nat.not_lt_zero _)]
      split
      · rfl
      · rfl
    rw [e]
    exact (h.own r hr).congr (fun x hx => by unfold m1 m2; rw [if_pos (.inl hr), if_pos hx])
  · obtain ⟨C, F, -, h2, -, h4, h5⟩ := (h.own r hr).own hb
    rw [h4.2.2.cell (by omega), h5 x hx]
    unfold m1
    rw [if_pos (.inl hr)]
/-- a word more. -/
theorem St2.grow (h : St2 w W W' N u v L i j) (hu : ∀ r, r < N → ∀ b, In13 (u r) b → b < W.heap.size) (hw : w.heap.size ≤ W.heap.size) (hd : ∀ r s, r < N → s < N → r ≠ s → Dif (u r) (u s)) (hi : i < N) (hN : N ≤ 100) (hL : L i ≤ 400) (hj : j < 300) :
    ∃ w' v', (Builtin.append_ #[27, 27] 27 #[v i, .slice (some ⟨W'.heap.size, 0, none⟩) 1 1]).run Tryd.prog (W'.alloc (.cells #[.int .u16 ((2 * i + 1 : Nat) : Int)] 26)) = .ok v' w' ∧ (∃ a C, v' = .slice a (g2 L i (j + 1) i) C) ∧
      w'.cell? ⟨W.heap.size, i, none⟩ = some (v i) ∧ w'.frozen? ⟨W.heap.size, i, none⟩ = false ∧
      St2 w W (w'.setCell ⟨W.heap.size, i, none⟩ v') N u (fun r => if r = i then v' else v r) L i (j + 1) := by
  have eg : g2 L i j i = L i + j := by unfold g2; rw [if_neg (Nat.lt_irrefl _), if_pos rfl]
  have eg' : g2 L i (j + 1) i = L i + j + 1 := by unfold g2; rw [if_neg (Nat.lt_irrefl _), if_pos rfl]; rfl
  have ho := h.own i hi
  rw [eg] at ho
  obtain ⟨w', v', hrun, hg, hold, hcell, hblk, hsz⟩ := app_gh3 ho (2 * i + 1) (by omega) (by omega)
  have hgb : ∀ r, r < N → ¬ In13 (v r) W.heap.size := fun r hr hb => by
    rcases h.blk r hr _ hb with h9 | h9
    · have := hu r hr _ h9; omega
    · omega
  have hgv : ∀ r, r < N → ∀ b, In13 (v r) b → b < W'.heap.size := fun r hr b hb => (h.own r hr).lt13 hb
  have hrow : w'.rowIs W.heap.size 27 N v := h.row.of_block (hold _ h.sz (hgb i hi))
  have hv' : ¬ In13 v' W.heap.size := fun hb => by
    rcases hblk _ hb with h9 | h9
    · exact hgb i hi h9
    · have := h.sz; omega
  have hbel : Below w.heap.size w (w'.setCell ⟨W.heap.size, i, none⟩ v') := hg.1.setCell hw _
  refine ⟨w', v', hrun, by rw [eg']; exact hg.form, hrow.cell hi, hrow.frozen i, hbel, by rw [World.size_setCell]; have := h.sz; omega, hrow.set i _, fun r hr => ?_, fun r s hr hs hrs b h1 h2 => ?_, fun r hr b hb x hx => ?_, fun r hr b hb => ?_, fun b hb hn => ?_⟩
  · by_cases e : r = i
    · subst e
      simp only
      rw [eg']
      have := hg.keep (W' := w'.setCell ⟨W.heap.size, r, none⟩ v') hbel (fun b hb => heap_set_ne (fun e9 => hv' (by rw [← e9]; exact hb)))
      refine this.congr (fun x hx => ?_)
      unfold m2
      by_cases e2 : x < L r + j
      · rw [if_pos e2]
      · rw [if_neg e2, if_neg (by omega)]
    · simp only [if_neg e]
      have e1 : g2 L i (j + 1) r = g2 L i j r := by unfold g2; rw [if_neg e, if_neg e]
      rw [e1]
      refine (h.own r hr).keep hbel (fun b hb => ?_)
      rw [heap_set_ne (fun e9 => hgb r hr (by rw [← e9]; exact hb))]
      exact hold b (hgv r hr b hb) (fun h9 => h.dif r i hr hi e b hb h9)
  · by_cases e : r = i
    · subst e
      simp only at h1
      rw [if_neg (fun e9 => hrs e9.symm)] at h2
      rcases hblk b h1 with h9 | h9
      · exact h.dif r s hr hs hrs b h9 h2
      · have := hgv s hs b h2; omega
    · rw [if_neg e] at h1
      by_cases e2 : s = i
      · subst e2
        simp only at h2
        rcases hblk b h2 with h9 | h9
        · exact h.dif r s hr hs hrs b h1 h9
        · have := hgv r hr b h1; omega
      · rw [if_neg e2] at h2
        exact h.dif r s hr hs hrs b h1 h2
  · have hbW := hu r hr b hb
    rw [cell_heap (heap_set_ne (by omega)), ← h.cell r hr b hb x hx]
    by_cases e : r = i
    · subst e
      exact hcell b x (by have := h.sz; omega) (by omega)
    · refine cell_heap (hold b (by have := h.sz; omega) (fun h9 => ?_))
      rcases h.blk i hi b h9 with h8 | h8
      · exact dif_in (hd r i hr hi e) hb h8
      · omega
  · by_cases e : r = i
    · subst e
      simp only at hb
      rcases hblk b hb with h9 | h9
      · exact h.blk r hr b h9
      · right; have := h.sz; omega
    · rw [if_neg e] at hb
      exact h.blk r hr b hb
  · rw [heap_set_ne (by omega), hold b (by have := h.sz; omega) (fun h9 => ?_)]
    · exact h.old b hb hn
    · rcases h.blk i hi b h9 with h8 | h8
      · exact hn i hi h8
      · omega
theorem St2.next (h : St2 w W W' N u v L i 300) : St2 w W W' N u v L (i + 1) 0 := by
  refine ⟨h.bel, h.sz, h.row, fun r hr => ?_, h.dif, h.cell, h.blk, h.old⟩
  have e : g2 L (i + 1) 0 r = g2 L i 300 r := by
    unfold g2
    by_cases e1 : r < i
    · rw [if_pos e1, if_pos (by omega)]
    · by_cases e2 : r = i
      · subst e2; rw [if_neg e1, if_pos rfl, if_pos (by omega)]
      · rw [if_neg e1, if_neg e2, if_neg (by omega)]
        split
        · rfl
        · rfl
  rw [e]
  exact h.own r hr
theorem mark_nums {i N : Nat} (hi : i < N) (hN : N ≤ 100) : wrap64 (2 * (i : Int)) = ((2 * i : Nat) : Int) ∧ IntKind.u16.wrap ((2 * i : Nat) : Int) = ((2 * i : Nat) : Int) ∧ wrap64 (((2 * i : Nat) : Int) + 1) = ((2 * i + 1 : Nat) : Int) ∧ IntKind.u16.wrap ((2 * i + 1 : Nat) : Int) = ((2 * i + 1 : Nat) : Int) ∧ 2 * i < 65536 := by
  rw [IntKind.wrap_u16, IntKind.wrap_u16]
  unfold wrap64
  omega
end
end Go.Proofs.YtidcdbjhkgpjcaaDoor
