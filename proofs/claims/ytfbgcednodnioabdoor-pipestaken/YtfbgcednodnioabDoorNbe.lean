import Derived.Test.YtfbgcednodnioabDoorNba
namespace Go.Proofs.YtfbgcednodnioabDoor
open Go.RowKit Gf2
set_option linter.unusedVariables false

/-- a list that grows by append: L bytes S, nil while there is none, else in a row of its own. -/
def Gw (w0 W : World) (v : Value) (L : Nat) (S : Nat → Nat) : Prop := Below w0.heap.size w0 W ∧ ((L = 0 ∧ v = .slice none 0 0) ∨ ∃ g C F, v = .slice (some ⟨g, 0, none⟩) L C ∧ L ≤ C ∧ w0.heap.size ≤ g ∧ Rw W g C F ∧ ∀ i, i < L → F i = S i)
theorem Gw.start (w0 : World) (S : Nat → Nat) : Gw w0 w0 (.slice none 0 0) 0 S := ⟨Below.refl _ _, .inl ⟨rfl, rfl⟩⟩
theorem Gw.congr {w0 W : World} {v : Value} {L : Nat} {S T : Nat → Nat} (h : Gw w0 W v L S) (e : ∀ i, i < L → S i = T i) : Gw w0 W v L T := by
  refine ⟨h.1, ?_⟩
  rcases h.2 with h2 | ⟨g, C, F, a1, a2, a3, a4, a5⟩
  · exact .inl h2
  · exact .inr ⟨g, C, F, a1, a2, a3, a4, fun i hi => (a5 i hi).trans (e i hi)⟩
theorem Gw.below {w0 W W' : World} {v : Value} {L : Nat} {S : Nat → Nat} (h : Gw w0 W v L S) (hb : Below W.heap.size W W') : Gw w0 W' v L S := by
  refine ⟨h.1.trans (hb.mono h.1.size), ?_⟩
  rcases h.2 with h2 | ⟨g, C, F, a1, a2, a3, a4, a5⟩
  · exact .inl h2
  · exact .inr ⟨g, C, F, a1, a2, a3, rw_below a4 hb, a5⟩
theorem Gw.drewN {w0 W : World} {v : Value} {L : Nat} {S : Nat → Nat} (h : Gw w0 W v L S) (m : Nat) : Gw w0 (W.drewN m) v L S := by
  refine ⟨below_drewN h.1 m, ?_⟩
  rcases h.2 with h2 | ⟨g, C, F, a1, a2, a3, a4, a5⟩
  · exact .inl h2
  · exact .inr ⟨g, C, F, a1, a2, a3, a4.drewN m, a5⟩
theorem Gw.drew {w0 W : World} {v : Value} {L : Nat} {S : Nat → Nat} (h : Gw w0 W v L S) : Gw w0 W.drew v L S := by
  refine ⟨h.1.drew, ?_⟩
  rcases h.2 with h2 | ⟨g, C, F, a1, a2, a3, a4, a5⟩
  · exact .inl h2
  · exact .inr ⟨g, C, F, a1, a2, a3, ⟨a4.1, a4.2.1, a4.2.2.drew⟩, a5⟩
theorem Gw.form {w0 W : World} {v : Value} {L : Nat} {S : Nat → Nat} (h : Gw w0 W v L S) : ∃ a C, v = .slice a L C := by
  rcases h.2 with ⟨rfl, rfl⟩ | ⟨g, C, F, a1, -⟩
  · exact ⟨_, _, rfl⟩
  · exact ⟨_, _, a1⟩
/-- it reads so. -/
theorem Gw.rb {w0 W : World} {v : Value} {L : Nat} {S : Nat → Nat} (h : Gw w0 W v L S) : Rb W v L S := by
  rcases h.2 with ⟨rfl, rfl⟩ | ⟨g, C, F, rfl, a2, a3, a4, a5⟩
  · exact ⟨Nat.zero_le _, fun i hi => absurd hi (Nat.not_lt_zero _), _, _, rfl, Nat.le_refl _, Nat.zero_le _, fun h => absurd h (Nat.lt_irrefl _)⟩
  · exact (a4.rb (o := 0) (n := L) (cap := C) (by omega) a2 a4.1).congr (fun i hi => by rw [Nat.zero_add]; exact a5 i hi)

/-- it stays while a block of before turns. -/
theorem Gw.kp {w0 W W' : World} {v : Value} {L g : Nat} {S : Nat → Nat} (h : Gw w0 W v L S) (hk : Kp g W W') (hg : g < w0.heap.size) : Rb W' v L S := by
  rcases h.2 with ⟨rfl, rfl⟩ | ⟨b, C, F, rfl, a2, a3, a4, a5⟩
  · exact ⟨Nat.zero_le _, fun i hi => absurd hi (Nat.not_lt_zero _), _, _, rfl, Nat.le_refl _, Nat.zero_le _, fun h => absurd h (Nat.lt_irrefl _)⟩
  · have a4' := hk.rw_ a4 (by omega)
    exact (a4'.rb (o := 0) (n := L) (cap := C) (by omega) a2 a4.1).congr (fun i hi => by rw [Nat.zero_add]; exact a5 i hi)
theorem own8_rb {w w' : World} {g C n : Nat} {S : Nat → Nat} (h : Own8 w w' g C n S) : Rb w' (.slice (some ⟨g, 0, none⟩) n C) n S := by
  obtain ⟨h1, h2, h3, F, h4, h5⟩ := h
  exact (h4.rb (o := 0) (n := n) (cap := C) (by omega) h1 h4.1).congr (fun i hi => by rw [Nat.zero_add]; exact h5 i hi)
theorem step_app6 {P : Program} {ops : Array Oper} {o : Oper} {a : Act} {w : World} {K : Act → World → Prop} {Q : Exit → Act → World → Prop} {E : Prop} (hgd : o.guard = none) (s x : Operand) (t : TypeId)
    (ho : o.op = .call { callee := .builtin .append, args := #[s, x], argTypes := #[t, t] }) {v1 v2 v' : Value} {w' : World} (hs : a.eval s = v1) (hx : a.eval x = v2)
    (hrun : (Builtin.append_ #[t, t] o.type #[v1, v2]).run P w = .ok v' w') (h : K (a.put o.dst v') w') : if Region.wanted o (yielded ops a.tmps) = true then Oper.wp P o a w K Q else E := by
  have hw : Region.wanted o (yielded ops a.tmps) = true := by simp [Region.wanted, hgd]
  rw [if_pos hw]
  unfold Oper.wp execOp
  simp only [ho, resolve, invoke, builtin, Sem.run_bind, Sem.run_pure, Result.andThen_ok, List.map_toArray, List.map_cons, List.map_nil, hs, hx, hrun]
  exact h
/-- n bytes more behind nothing. -/
theorem app8_nil (w : World) {x : Option Addr} {n cx : Nat} {S : Nat → Nat} (hS : ∀ i, i < n → S i < 256) (h0 : 0 < n)
    (h4 : ∃ b p, x = some ⟨b, p, none⟩ ∧ ∀ i, i < n → w.cell? ⟨b, p + i, none⟩ = some (.int .u8 (S i : Nat))) (hn : n ≤ 140737488355328) :
    ∃ w' C' F', (Builtin.append_ #[28, 28] 28 #[.slice none 0 0, .slice x n cx]).run Tryd.prog w = .ok (.slice (some ⟨w.heap.size, 0, none⟩) n C') w' ∧
      n ≤ C' ∧ Rw w' w.heap.size C' F' ∧ (∀ i, i < n → F' i = S i) ∧ w'.heap.size = w.heap.size + 1 ∧ Below w.heap.size w w' := by
  obtain ⟨ti, hi, hz, hs1, hb1⟩ := info_u8a
  obtain ⟨b, p, rfl, hc⟩ := h4
  have ea : ∀ j, (⟨b, p, none⟩ : Addr).add j = ⟨b, p + j, none⟩ := fun j => by unfold Addr.add; split <;> simp_all
  have hs : Src Tryd.prog ti.size 28 (.slice (some ⟨b, p, none⟩) n cx) n (bs n S) w := Src.ofSlice w Tryd.underlying28 ⟨b, p, none⟩ n cx (bs n S) (by rw [bs_len, hs1, Nat.mul_one]) (fun j u h => by
    have hj : j < n := by
      rcases Nat.lt_or_ge j n with h9 | h9
      · exact h9
      · rw [List.getElem?_eq_none (by rw [bs_len]; exact h9)] at h; cases h
    rw [bs_get n S j hj] at h
    cases h
    rw [ea]
    exact hc j hj) bs_one
  have hold : (Builtin.firstCells ti.size 0 (.slice none 0 0)).run Tryd.prog w.drew = .ok (([] : List Value)).toArray w.drew := by
    simp [Builtin.firstCells]
  have hrun := run_append_grow_src w 28 28 28 5 ti (Value.int .u8 0) Tryd.underlying28 hi hz none 0 0 [] hold _ n (bs n S) hs (by omega) (by omega) (growslice_fits (by omega) (by rw [hb1, Nat.mul_one]; omega))
  have hge := grownCap_ge w (0 + n) 0 5
  have hcm := grownCap_le_maxLen w (0 + n) 0 5 (by unfold maxLen; omega)
  obtain ⟨C', hC'⟩ : ∃ C', C' = grownCap w (0 + n) 0 5 := ⟨_, rfl⟩
  rw [← hC'] at hrun hge hcm
  rw [Nat.zero_add] at hrun hge
  refine ⟨_, C', fun i => if i < n then S i else 0, hrun, hge, ⟨by unfold big; unfold maxLen at hcm; exact hcm, fun i hi => ?_, _, heap_alloc_new _ _, ?_, fun i hi => ?_⟩, fun i hi => if_pos hi, by simp, ?_⟩
  · dsimp only
    split
    · exact hS _ (by omega)
    · decide
  · rw [Array.size_append, List.size_toArray, List.length_append, bs_len, size_zeroCells]
    show 0 + n + (C' - n) * 1 = C'
    omega
  · show _ = some (Value.int .u8 (((if i < n then S i else 0) : Nat) : Int))
    rw [List.nil_append]
    by_cases e2 : i < n
    · rw [if_pos e2, Array.getElem?_append_left (by simp [bs_len]; omega), List.getElem?_toArray, bs_get _ _ _ e2]
    · rw [if_neg e2, Array.getElem?_append_right (by simp [bs_len]; omega)]
      have hk : i - ((bs n S).toArray).size < C' - n := by simp [bs_len]; omega
      generalize i - ((bs n S).toArray).size = k at hk
      simp [Builtin.zeroCells, Value.cells, hk, Nat.mod_one]
  · exact ((Below.refl w.heap.size w).drew).alloc (by simp) _

/-- two lists lie in unlike blocks. -/
def Dif (v u : Value) : Prop := ∀ b o o' L L' C C', v = .slice (some ⟨b, o, none⟩) L C → u = .slice (some ⟨b, o', none⟩) L' C' → False
theorem Dif.nil (u : Value) : Dif (.slice none 0 0) u := fun b o o' L L' C C' h => by cases h
theorem Dif.symm {v u : Value} (h : Dif v u) : Dif u v := fun b o o' L L' C C' h1 h2 => h b o' o L' L C' C h2 h1
theorem Gw.apart {w0 W W' : World} {v u : Value} {L M g : Nat} {S T : Nat → Nat} (h : Gw w0 W u M T) (ho : Only g W W') (hg : w0.heap.size ≤ g) (hd : ∀ o L' C', u = .slice (some ⟨g, o, none⟩) L' C' → False) : Gw w0 W' u M T := by
  refine ⟨h.1.trans (ho.below hg), ?_⟩
  rcases h.2 with h2 | ⟨b, C, F, a1, a2, a3, a4, a5⟩
  · exact .inl h2
  · exact .inr ⟨b, C, F, a1, a2, a3, ho.rw_ a4 (fun e => hd 0 M C (by rw [a1, e])), a5⟩
theorem Gw.blk {w0 W : World} {u : Value} {M : Nat} {T : Nat → Nat} (h : Gw w0 W u M T) {b o L' C' : Nat} (e : u = .slice (some ⟨b, o, none⟩) L' C') : b < W.heap.size := by
  rcases h.2 with ⟨-, h2⟩ | ⟨g, C, F, a1, a2, a3, a4, a5⟩
  · rw [h2] at e; cases e
  · rw [a1] at e
    cases e
    exact a4.lt

/-- one byte more; its own block is the newest. -/
theorem app_gw2 {w0 W : World} {v : Value} {L : Nat} {S : Nat → Nat} (h : Gw w0 W v L S) (t : Nat) (ht : t < 256) (hL : L + 1 ≤ 140737488355328) :
    ∃ w' v', (Builtin.append_ #[28, 28] 28 #[v, .slice (some ⟨W.heap.size, 0, none⟩) 1 1]).run Tryd.prog (W.alloc (.cells #[.int .u8 (t : Nat)] 5)) = .ok v' w' ∧ Gw w0 w' v' (L + 1) (fun i => if i < L then S i else t) ∧
      ∀ u M T, Gw w0 W u M T → Dif v u → Gw w0 w' u M T ∧ Dif v' u := by
  have hb0 : Below W.heap.size W (W.alloc (.cells #[.int .u8 (t : Nat)] 5)) := (Below.refl _ _).alloc (Nat.le_refl _) _
  have hsz : (W.alloc (.cells #[.int .u8 (t : Nat)] 5)).heap.size = W.heap.size + 1 := by simp
  have hcell : ∀ i, i < 1 → (W.alloc (.cells #[.int .u8 (t : Nat)] 5)).cell? ⟨W.heap.size, 0 + i, none⟩ = some (.int .u8 ((fun _ => t) i : Nat)) := by
    intro i hi
    obtain rfl : i = 0 := by omega
    rw [cell_of_row _ W.heap.size (0 + 0) _ _ _ (heap_alloc_new _ _)]
    rfl
  have h1 := h.below hb0
  rcases h1.2 with ⟨rfl, rfl⟩ | ⟨g, C, F, rfl, a2, a3, a4, a5⟩
  · obtain ⟨w', C', F', hrun, hC, hR, hF, hs, hb⟩ := app8_nil (W.alloc (.cells #[.int .u8 (t : Nat)] 5)) (x := some ⟨W.heap.size, 0, none⟩) (n := 1) (cx := 1) (S := fun _ => t) (fun _ _ => ht) (by decide) ⟨_, _, rfl, hcell⟩ (by omega)
    refine ⟨w', _, hrun, ⟨h1.1.trans (hb.mono h1.1.size), .inr ⟨_, C', F', rfl, hC, h1.1.size, hR, fun i hi => ?_⟩⟩, fun u M T hu hd => ⟨(hu.below hb0).below hb, fun b o o' L1 L2 C1 C2 e1 e2 => ?_⟩⟩
    · rw [hF i (by omega)]
      show t = if i < 0 then S i else t
      rw [if_neg (Nat.not_lt_zero _)]
    · have := hu.blk e2
      cases e1
      omega
  · obtain ⟨w', g', C', F', hrun, hC, hR, hF1, hF2, hcase⟩ := app8 (W.alloc (.cells #[.int .u8 (t : Nat)] 5)) (g := g) (C := C) (L := L) a4 a2 (x := some ⟨W.heap.size, 0, none⟩) (n := 1) (cx := 1) (S := fun _ => t) (fun _ _ => ht) (fun _ => ⟨_, _, rfl, hcell⟩) hL
    refine ⟨w', _, hrun, ⟨?_, .inr ⟨g', C', F', rfl, hC, ?_, hR, fun i hi => ?_⟩⟩, fun u M T hu hd => ?_⟩
    · rcases hcase with ⟨rfl, ho⟩ | ⟨rfl, -, hb⟩
      · exact h1.1.trans (ho.below a3)
      · exact h1.1.trans (hb.mono h1.1.size)
    · rcases hcase with ⟨rfl, ho⟩ | ⟨rfl, -, hb⟩
      · exact a3
      · exact h1.1.size
    · dsimp only
      by_cases e : i < L
      · rw [if_pos e, hF1 i e]; exact a5 i e
      · rw [if_neg e, show i = L + 0 by omega]
        exact hF2 0 (by decide)
    · rcases hcase with ⟨rfl, ho⟩ | ⟨rfl, -, hb⟩
      · refine ⟨(hu.below hb0).apart (v := u) (L := M) (S := T) ho a3 (fun o L' C2 e => hd g' 0 o L L' C C2 rfl e), fun b o o' L1 L2 C1 C2 e1 e2 => ?_⟩
        cases e1
        exact hd g' 0 o' L L2 C C2 rfl e2
      · refine ⟨(hu.below hb0).below hb, fun b o o' L1 L2 C1 C2 e1 e2 => ?_⟩
        have := hu.blk e2
        cases e1
        omega
theorem app_gw {w0 W : World} {v : Value} {L : Nat} {S : Nat → Nat} (h : Gw w0 W v L S) (t : Nat) (ht : t < 256) (hL : L + 1 ≤ 140737488355328) :
    ∃ w' v', (Builtin.append_ #[28, 28] 28 #[v, .slice (some ⟨W.heap.size, 0, none⟩) 1 1]).run Tryd.prog (W.alloc (.cells #[.int .u8 (t : Nat)] 5)) = .ok v' w' ∧ Gw w0 w' v' (L + 1) (fun i => if i < L then S i else t) := by
  obtain ⟨w', v', h1, h2, -⟩ := app_gw2 h t ht hL
  exact ⟨w', v', h1, h2⟩
end Go.Proofs.YtfbgcednodnioabDoor
