import Derived.Test.YtlblkckglelbdaaGreatMwal
namespace Go.Proofs.YtlblkckglelbdaaGreat
open Go.RowKit Gf2
set_option linter.unusedVariables false

theorem info_row10 : (Tryz.prog.info? 27).map (fun i => (i.zero, i.size, i.bytes)) = some (some (Value.slice none 0 0), 1, 24) := by kernel_rfl
theorem make_rows (n : Nat) (hn : 24 * n ≤ 140737488355328) (w : World) : (Instr.makeSlice 22 (.int .i64 (n : Int)) (.int .i64 (n : Int))).run Tryz.prog w = .ok (.slice (some ⟨w.heap.size, 0, none⟩) n n) (w.alloc (.cells (madeCells #[.slice none 0 0] n) 27)) :=
  run_make_row' (P := Tryz.prog) 22 27 (.slice none 0 0) 24 Tryz.underlying22 info_row10 rfl .i64 .i64 n (by omega) (by omega) w

/-- S, but x at row i and column j. -/
def st2 (S : Nat → Nat → Nat) (i j x : Nat) : Nat → Nat → Nat := fun r c => if r = i ∧ c = j then x else S r c
section
variable {lo hi m : Nat} {w w' : World} {v : Value} {n C B : Nat → Nat} {S : Nat → Nat → Nat}
theorem Cs.at_ {g cm : Nat} (h : Cs lo hi w (.slice (some ⟨g, 0, none⟩) m cm) m n C B S) {i : Nat} (hi' : i < m) : w.cell? ⟨g, i, none⟩ = some (.slice (some ⟨B i, 0, none⟩) (n i) (C i)) := by
  obtain ⟨a, c, e, hc1, hc2, hf⟩ := h.form
  cases e
  obtain ⟨g', e1, g1, g2, g3, g4⟩ := hf (by omega)
  cases e1
  exact g4 i hi'
theorem Cs.block (h : Cs lo hi w v m n C B S) (h0 : 0 < m) : ∃ g cm, v = .slice (some ⟨g, 0, none⟩) m cm ∧ m ≤ cm ∧ lo ≤ g ∧ g < hi ∧ ∀ i, i < m → B i ≠ g := by
  obtain ⟨a, c, e, hc1, hc2, hf⟩ := h.form
  obtain ⟨g', e1, g1, g2, g3, g4⟩ := hf h0
  exact ⟨g', c, by rw [e, e1], hc1, g1, g2, g3⟩
theorem Cs.turn1 {F : Nat → Nat} {t : Nat} (h : Cs lo hi w v m n C B S) (ht : t < m) (hk : Kp (B t) w w') (hr : Rw w' (B t) (C t) F) : Cs lo hi w' v m n C B (upn S t F) := by
  refine h.turn (hk.ke.mono (fun x _ e => ⟨t, ht, e⟩)) (fun i hi' => ?_)
  by_cases e : i = t
  · subst e; rw [upn_same]; exact hr
  · rw [upn_other _ _ e]
    exact hk.rw_ (h.row i hi').2.2.2 (fun e' => e (h.inj i t hi' ht e'))
theorem Cs.set (h : Cs lo hi w v m n C B S) {i : Nat} (hi' : i < m) (j x : Nat) (hx : x < 256) : Cs lo hi (w.setCell ⟨B i, j, none⟩ (.int .u8 (x : Nat))) v m n C B (st2 S i j x) := by
  refine (h.turn1 hi' ((Only.refl _ _).setCell _ _).kp ((h.row i hi').2.2.2.set j x hx)).congr (fun r hr c hc => ?_)
  unfold st2
  by_cases e : r = i
  · subst e
    rw [upn_same]
    by_cases e2 : c = j
    · rw [if_pos e2, if_pos ⟨rfl, e2⟩]
    · rw [if_neg e2, if_neg (fun e => e2 e.2)]
  · rw [upn_other _ _ e, if_neg (fun e' => e e'.1)]
theorem Cs.bel (h : Cs lo hi w v m n C B S) {w0 : World} (hb : Below lo w0 w) {i : Nat} (hi' : i < m) (j : Nat) (x : Value) : Below lo w0 (w.setCell ⟨B i, j, none⟩ x) := hb.setCell (h.row i hi').1 _
end

end Go.Proofs.YtlblkckglelbdaaGreat
