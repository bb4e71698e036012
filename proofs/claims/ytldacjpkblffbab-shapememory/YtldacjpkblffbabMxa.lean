import Derived.Test.YtldacjpkblffbabYj3
namespace Go.Proofs.Ytldacjpkblffbab
open Go.RowKit Gf2
set_option linter.unusedVariables false

theorem info_row10 : (Try.prog.info? 24).map (fun i => (i.zero, i.size, i.bytes)) = some (some (Value.slice none 0 0), 1, 24) := by kernel_rfl
theorem make_rows (n : Nat) (hn : 24 * n ≤ 140737488355328) (w : World) : (Instr.makeSlice 27 (.int .i64 (n : Int)) (.int .i64 (n : Int))).run Try.prog w = .ok (.slice (some ⟨w.heap.size, 0, none⟩) n n) (w.alloc (.cells (madeCells #[.slice none 0 0] n) 24)) :=
  run_make_row' (P := Try.prog) 27 24 (.slice none 0 0) 24 Try.underlying27 info_row10 rfl .i64 .i64 n (by omega) (by omega) w

/-- S, but x at row i and column j. -/
def st2 (S : Nat → Nat → Nat) (i j x : Nat) : Nat → Nat → Nat := fun r c => if r = i ∧ c = j then x else S r c
section
variable {lo hi m : Nat} {w w' : World} {v : Value} {n C B : Nat → Nat} {S : Nat → Nat → Nat}
theorem Cs.at_ {g cm : Nat} (h : Cs lo hi w (.slice (some ⟨g, 0, none⟩) m cm) m n C B S) {i : Nat} (hi' : i < m) : w.cell? ⟨g, i, none⟩ = some (.slice (some ⟨B i, 0, none⟩) (n i) (C i)) := by
  obtain ⟨a, c, e, hc1, hc2, hf⟩ := h.form
  cases e
  obtain ⟨g', e1, g1, g2, g3, g4⟩ := hf (by omega)
  cases e1
  exact g4 i hi'
theorem Cs.block (h : Cs lo hi w v m n C B S) (h0 : 0 < m) : ∃ g cm, v = .slice (some ⟨g, 0, none⟩) m cm ∧ m ≤ cm ∧ lo ≤ g ∧ g < hi ∧ ∀ i, i < m → B i ≠ g := by
  obtain ⟨a, c, e, hc1, hc2, hf⟩ := h.form
  obtain ⟨g', e1, g1, g2, g3, g4⟩ := hf h0
  exact ⟨g', c, by rw [e, e1], hc1, g1, g2, g3⟩
theorem Cs.turn1 {F : Nat → Nat} {t : Nat} (h : Cs lo hi w v m n C B S) (ht : t < m) (hk : Kp (B t) w w') (hr : Rw w' (B t) (C t) F) : Cs lo hi w' v m n C B (upn S t F) := by
  refine h.turn (hk.ke.mono (fun x _ e => ⟨t, ht, e⟩)) (fun i hi' => ?_)
  by_cases e : i = t
  · subst e; rw [upn_same]; exact hr
  · rw [upn_other _ _ e]
    exact hk.rw_ (h.row i hi').2.2.2 (fun e' => e (h.inj i t hi' ht e'))
theorem Cs.set (h : Cs lo hi w v m n C B S) {i : Nat} (hi' : i < m) (j x : Nat) (hx : x < 256) : Cs lo hi (w.setCell ⟨B i, j, none⟩ (.int .u8 (x : Nat))) v m n C B (st2 S i j x) := by
  refine (h.turn1 hi' ((Only.refl _ _).setCell _ _).kp ((h.row i hi').2.2.2.set j x hx)).congr (fun r hr c hc => ?_)
  unfold st2
  by_cases e : r = i
  · subst e
    rw [upn_same]
    by_cases e2 : c = j
    · rw [if_pos e2, if_pos ⟨rfl, e2⟩]
    · rw [if_neg e2, if_neg (fun e => e2 e.2)]
  · rw [upn_other _ _ e, if_neg (fun e' => e e'.1)]
theorem Cs.cell_ (h : Cs lo hi w v m n C B S) {i j : Nat} (hi' : i < m) (hj : j < C i) : w.cell? ⟨B i, j, none⟩ = some (.int .u8 (S i j : Nat)) := (h.row i hi').2.2.2.2.2.cell hj
theorem Cs.froz (h : Cs lo hi w v m n C B S) {i : Nat} (hi' : i < m) (j : Nat) : w.frozen? ⟨B i, j, none⟩ = false := (h.row i hi').2.2.2.2.2.frozen j
theorem Cs.lt_ (h : Cs lo hi w v m n C B S) {i j : Nat} (hi' : i < m) (hj : j < C i) : S i j < 256 := (h.row i hi').2.2.2.2.1 j hj
theorem Cs.bel (h : Cs lo hi w v m n C B S) {w0 : World} (hb : Below lo w0 w) {i : Nat} (hi' : i < m) (j : Nat) (x : Value) : Below lo w0 (w.setCell ⟨B i, j, none⟩ x) := hb.setCell (h.row i hi').1 _
end

/-- rows that are made one by one. -/
structure Zr (w wr : World) (m c k : Nat) : Prop where
  sz : wr.heap.size = w.heap.size + 1 + k
  list : wr.rowIs w.heap.size 24 m (fun i => if i < k then .slice (some ⟨w.heap.size + 1 + i, 0, none⟩) c c else .slice none 0 0)
  rows : ∀ i, i < k → Rw wr (w.heap.size + 1 + i) c (fun _ => 0)
  bel : Below w.heap.size w wr
theorem Zr.start (w : World) (m c : Nat) : Zr w (w.alloc (.cells (madeCells #[.slice none 0 0] m) 24)) m c 0 :=
  ⟨by simp, (World.rowIs_made w (.slice none 0 0) m 24).congr (fun i _ => (if_neg (Nat.not_lt_zero _)).symm), fun i hi => absurd hi (Nat.not_lt_zero _), (Below.refl _ _).alloc (Nat.le_refl _) _⟩
theorem Zr.step {w wr : World} {m c k : Nat} (h : Zr w wr m c k) (hc : c ≤ 140737488355328) (hk : k < m) :
    Zr w ((wr.alloc (.cells (madeCells #[.int .u8 0] c) 5)).setCell ⟨w.heap.size, k, none⟩ (.slice (some ⟨wr.heap.size, 0, none⟩) c c)) m c (k + 1) := by
  obtain ⟨h1, h2, h3, h4⟩ := h
  have hr := made_rw c hc wr
  have ha : (wr.alloc (.cells (madeCells #[.int .u8 0] c) 5)).rowIs w.heap.size 24 m (fun i => if i < k then .slice (some ⟨w.heap.size + 1 + i, 0, none⟩) c c else .slice none 0 0) := h2.of_block (Below.heap_alloc wr _ _ (by omega))
  have ho : Only w.heap.size (wr.alloc (.cells (madeCells #[.int .u8 0] c) 5)) ((wr.alloc (.cells (madeCells #[.int .u8 0] c) 5)).setCell ⟨w.heap.size, k, none⟩ (.slice (some ⟨wr.heap.size, 0, none⟩) c c)) := (Only.refl _ _).setCell _ _
  refine ⟨by simp [h1]; omega, (ha.set k _).congr (fun i hi => ?_), fun i hi => ?_, (h4.alloc (by omega) _).setCell (Nat.le_refl _) _⟩
  · by_cases e : i = k
    · rw [if_pos e, if_pos (by omega), e, h1]
    · rw [if_neg e]
      by_cases e2 : i < k
      · rw [if_pos e2, if_pos (by omega)]
      · rw [if_neg e2, if_neg (by omega)]
  · by_cases e : i = k
    · rw [e, ← h1]
      exact ho.kp.rw_ hr (by omega)
    · exact ho.kp.rw_ (rw_alloc (h3 i (by omega)) _) (by omega)
theorem Zr.cs {w wr : World} {m c : Nat} (h : Zr w wr m c m) (hm : m ≤ big) (hc : c ≤ big) : Cs w.heap.size wr.heap.size wr (.slice (some ⟨w.heap.size, 0, none⟩) m m) m (fun _ => c) (fun _ => c) (fun i => w.heap.size + 1 + i) (fun _ _ => 0) := by
  obtain ⟨h1, h2, h3, h4⟩ := h
  refine ⟨hm, Nat.le_refl _, ⟨_, _, rfl, Nat.le_refl _, hm, fun h0 => ⟨_, rfl, Nat.le_refl _, by omega, fun i hi => by omega, fun i hi => ?_⟩⟩, fun i hi => ⟨by omega, by omega, Nat.le_refl _, h3 i hi⟩, fun i j _ _ e => by omega⟩
  rw [h2.cell hi, if_pos hi]

end Go.Proofs.Ytldacjpkblffbab
