import Derived.Test.YtgdnjbaohfiijaaDoorRj4
import Derived.Test.YtgdnjbaohfiijaaDoorLmb
import Derived.Test.YtgdnjbaohfiijaaDoorRj2
namespace Go.Proofs.YtgdnjbaohfiijaaDoor
open Go.RowKit Gf2
set_option linter.unusedVariables false

theorem wraps14 {l : Nat} (h : 2 * l ≤ 140737488351232) : wrap64 ((l : Int) + 1) = ((l + 1 : Nat) : Int) ∧ wrap64 ((l : Int) + 2) = ((l + 2 : Nat) : Int) ∧ wrap64 ((l : Int) + 3) = ((l + 3 : Nat) : Int) := by
  refine ⟨?_, ?_, ?_⟩ <;> (unfold wrap64; omega)
theorem kept_nums {l c : Nat} (h : l + 3 ≤ c) : l < c ∧ l + 1 < c ∧ l + 2 < c ∧ ((l : Nat) : Int) < ((l + 3 : Nat) : Int) ∧ ((l + 1 : Nat) : Int) < ((l + 3 : Nat) : Int) ∧ ((l + 2 : Nat) : Int) < ((l + 3 : Nat) : Int) := by omega
theorem kept_last {i M : Nat} (h : M = i + 1) (hn : 24 * i ≤ 140737488351232) : ((i : Nat) : Int) < (M : Int) ∧ wrap64 ((M : Int) - 1) = (i : Int) := ⟨by omega, by unfold wrap64; omega⟩
set_option maxHeartbeats 1000000 in
set_option maxRecDepth 100000 in
/-- what lies behind the rows is as it was laid. -/
theorem kept14 (gw nr cw gr gl M : Nat) (L B C : Nat → Nat) (G : Nat → Nat → Nat) (w : World) (hM : M = nr + 1) (hn : 24 * nr ≤ 140737488351232)
    (hc : ∀ j, j < nr → w.cell? ⟨gw, j, none⟩ = some (.slice (some ⟨B j, 0, none⟩) (L j) (C j)))
    (hr : ∀ j, j < nr → R6 w (B j) (C j) (G j) ∧ L j + 3 ≤ C j ∧ 2 * L j ≤ 140737488351232 ∧ G j (L j) = 71 ∧ G j (L j + 1) = 72 ∧ G j (L j + 2) = 73)
    (hl : w.cell? ⟨gr, nr, none⟩ = some (.slice (some ⟨gl, 0, none⟩) 1 1)) (h74 : R6 w gl 1 (fun _ => 74)) :
    Calls Tryd.prog 39 #[.slice (some ⟨gw, 0, none⟩) nr cw, .slice (some ⟨gr, 0, none⟩) M M] w fun e w' => e = .returned (.bool true) ∧ ∃ m, w' = w.drewN m := by
  have HR : Hid ((∀ j, j < nr → w.cell? ⟨gw, j, none⟩ = some (.slice (some ⟨B j, 0, none⟩) (L j) (C j))) ∧ (∀ j, j < nr → R6 w (B j) (C j) (G j) ∧ L j + 3 ≤ C j ∧ 2 * L j ≤ 140737488351232 ∧ G j (L j) = 71 ∧ G j (L j + 1) = 72 ∧ G j (L j + 2) = 73) ∧ 24 * nr ≤ 140737488351232 ∧ M = nr + 1 ∧
    w.cell? ⟨gr, nr, none⟩ = some (.slice (some ⟨gl, 0, none⟩) 1 1) ∧ w.cell? ⟨gl, 0, none⟩ = some (.int .u16 74)) := ⟨hc, hr, hn, hM, hl, h74.2.2.cell (i := 0) (by decide)⟩
  clear hc hr hn hM hl h74
  go_enter Tryd.func39, Tryd.ntmps39
  go_wp2
  go_loopw [5] (fun iv wr => ∃ i m : Nat, i ≤ nr ∧ iv = .int .i64 i ∧ wr = w.drewN m) (fun iv _ => nr - (intOf iv).toNat)
  case atStart => exact ⟨0, 0, Nat.zero_le _, rfl, rfl⟩
  case round =>
    obtain ⟨i, m, hi, rfl, hw⟩ := hrel
    by_cases hlt : i < nr
    · have ib : ((i : Nat) : Int) < (nr : Int) := by omega
      obtain ⟨r1, r2, r3, r4, r5, r6⟩ := HR.out.2.1 i hlt
      have c0 : wr.cell? ⟨gw, i, none⟩ = some (.slice (some ⟨B i, 0, none⟩) (L i) (C i)) := by rw [hw]; exact HR.out.1 i hlt
      have W1 := wrap14 hlt HR.out.2.2.1
      obtain ⟨v1, v2, v3⟩ := wraps14 r3
      obtain ⟨m0, m1, m2, b0, b1, b2⟩ := kept_nums r2
      have hd := head6 (B i) 0 (L i) (C i) (L i + 3) r2
      have q0 : wr.cell? ⟨B i, L i, none⟩ = some (.int .u16 71) := by
        rw [hw]; have := r1.2.2.cell (i := L i) m0; rw [r4] at this; exact this
      have q1 : wr.cell? ⟨B i, L i + 1, none⟩ = some (.int .u16 72) := by
        rw [hw]; have := r1.2.2.cell (i := L i + 1) m1; rw [r5] at this; exact this
      have q2 : wr.cell? ⟨B i, L i + 2, none⟩ = some (.int .u16 73) := by
        rw [hw]; have := r1.2.2.cell (i := L i + 2) m2; rw [r6] at this; exact this
      obtain ⟨Y, hY⟩ : ∃ Y, Y = L i := ⟨_, rfl⟩
      obtain ⟨Y1, hY1⟩ : ∃ Y, Y = L i + 1 := ⟨_, rfl⟩
      obtain ⟨Y2, hY2⟩ : ∃ Y, Y = L i + 2 := ⟨_, rfl⟩
      obtain ⟨Y3, hY3⟩ : ∃ Y, Y = L i + 3 := ⟨_, rfl⟩
      rw [← hY1] at v1 q1 b1
      rw [← hY2] at v2 q2 b2
      rw [← hY3] at v3 hd b0 b1 b2
      rw [← hY] at v1 v2 v3 hd c0 q0 b0
      obtain ⟨b, hb⟩ : ∃ b, b = B i := ⟨_, rfl⟩
      obtain ⟨c, hc⟩ : ∃ c, c = C i := ⟨_, rfl⟩
      rw [← hb] at q0 q1 q2 c0 hd
      rw [← hc] at c0 hd
      have HW : Hid (wr = w.drewN m) := hw
      clear hw hY hY1 hY2 hY3 hb hc r1 r2 r3 r4 r5 r6 m0 m1 m2
      go_wp2
      go_roundw
      case rel => exact ⟨i + 1, m, hlt, by first | rfl | (rw [W1]; rfl), HW.out⟩
      case measure => first | exact meas_lt8 hlt | (rw [W1]; exact meas_lt8 hlt)
    · obtain rfl : i = nr := Nat.le_antisymm hi (Nat.le_of_not_lt hlt)
      have tb : ¬ ((i : Nat) : Int) < (i : Int) := by omega
      have hM := HR.out.2.2.2.1
      obtain ⟨ib, W1⟩ := kept_last hM HR.out.2.2.1
      have q0 : wr.cell? ⟨gr, i, none⟩ = some (.slice (some ⟨gl, 0, none⟩) 1 1) := by rw [hw]; exact HR.out.2.2.2.2.1
      have q1 : wr.cell? ⟨gl, 0, none⟩ = some (.int .u16 74) := by rw [hw]; exact HR.out.2.2.2.2.2
      have HW : Hid (wr = w.drewN m) := hw
      clear hw hM
      go_wp2
      go_ret
      exact ⟨rfl, m, HW.out⟩
end Go.Proofs.YtgdnjbaohfiijaaDoor
namespace Go.Proofs.YtgdnjbaohfiijaaDoor
open Go.RowKit Gf2
set_option linter.unusedVariables false

/-- append([][]uint16{}, rows...). -/
theorem app_rows14 (W : World) {b n cx : Nat} {U : Nat → Value} (hlt : b < W.heap.size) (hc0 : ∀ j, j < n → W.cell? ⟨b, j, none⟩ = some (U j)) (hU : ∀ i, i < n → (U i).oneCell' = true) (hn : n * 24 ≤ 140737488355328) :
    ∃ w' g C, (Builtin.append_ #[27, 27] 27 #[.slice (some ⟨W.heap.size, 0, none⟩) 0 0, .slice (some ⟨b, 0, none⟩) n cx]).run Tryd.prog (W.alloc (.cells #[] 26)) = .ok (.slice (some ⟨g, 0, none⟩) n C) w' ∧
      n ≤ C ∧ W.heap.size ≤ g ∧ g < w'.heap.size ∧ (∀ j, j < n → w'.cell? ⟨g, j, none⟩ = some (U j)) ∧ Below W.heap.size W w' := by
  obtain ⟨ti, hi, hz, hs1, hb1⟩ := info_l6a
  have hal := below_alloc W (.cells #[] 26)
  obtain ⟨w, hw⟩ : ∃ w, w = W.alloc (.cells #[] 26) := ⟨_, rfl⟩
  have hsz : w.heap.size = W.heap.size + 1 := by rw [hw]; simp
  have hc : ∀ j, j < n → w.cell? ⟨b, j, none⟩ = some (U j) := fun j hj => by rw [hw]; exact (hal.cell (p := ⟨b, j, none⟩) hlt).trans (hc0 j hj)
  rw [← hw] at hal ⊢
  have ea : ∀ j, (⟨b, 0, none⟩ : Addr).add j = ⟨b, 0 + j, none⟩ := fun j => by unfold Addr.add; split <;> simp_all
  have hs : Src Tryd.prog ti.size 27 (.slice (some ⟨b, 0, none⟩) n cx) n (bl n U) w := Src.ofSlice w Tryd.underlying27 ⟨b, 0, none⟩ n cx (bl n U) (by rw [bl_len, hs1, Nat.mul_one]) (fun j u h => by
    have hj : j < n := by
      rcases Nat.lt_or_ge j n with h9 | h9
      · exact h9
      · rw [List.getElem?_eq_none (by rw [bl_len]; exact h9)] at h; cases h
    rw [bl_get n _ j hj] at h
    cases h
    rw [ea, Nat.zero_add]
    exact hc j hj) (bl_one hU)
  by_cases h0 : n = 0
  · subst h0
    have hs' : Src Tryd.prog ti.size 27 (.slice (some ⟨b, 0, none⟩) 0 cx) 0 [] w := Src.ofSlice w Tryd.underlying27 ⟨b, 0, none⟩ 0 cx [] (by simp) (fun j u h => by simp at h) (fun u h => by cases h)
    exact ⟨w, W.heap.size, 0, run_append_nothing w 27 27 27 26 ti Tryd.underlying27 hi _ 0 0 (Nat.le_refl _) _ hs', Nat.le_refl _, Nat.le_refl _, by omega, fun j hj => absurd hj (Nat.not_lt_zero _), hal⟩
  · have hold : (Builtin.firstCells ti.size 0 (.slice (some ⟨W.heap.size, 0, none⟩) 0 0)).run Tryd.prog w.drew = .ok (([] : List Value)).toArray w.drew :=
      run_firstCells_some w.drew ti.size 0 ⟨W.heap.size, 0, none⟩ 0 0 [] (by simp) (fun j u hu => by simp at hu)
    have hrun := run_append_grow_src w 27 27 27 26 ti (Value.slice none 0 0) Tryd.underlying27 hi hz (some ⟨W.heap.size, 0, none⟩) 0 0 [] hold _ n (bl n U) hs (by omega) (by omega) (growslice_fits (by omega) (by rw [hb1]; omega))
    have hge := grownCap_ge w (0 + n) 0 26
    rw [Nat.zero_add] at hrun hge
    refine ⟨_, w.heap.size, _, hrun, hge, by omega, by simp, fun j hj => ?_, hal.trans ((((Below.refl w.heap.size w).drew).alloc (by simp) _).mono (by omega))⟩
    refine (cell_of_row _ w.drew.heap.size j _ _ _ (heap_alloc_new _ _)).trans ?_
    rw [List.nil_append]
    rw [Array.getElem?_append_left (by simp [bl_len]; omega), List.getElem?_toArray, bl_get _ _ _ hj]
end Go.Proofs.YtgdnjbaohfiijaaDoor
namespace Go.Proofs.YtgdnjbaohfiijaaDoor
open Go.RowKit Gf2
set_option linter.unusedVariables false

set_option maxHeartbeats 2000000 in
set_option maxRecDepth 100000 in
/-- the document's rows, where their number is no power. -/
theorem refRows14_pow (A : Option Addr) (gb ob nr cr : Nat) (X : Nat → Option Addr) (L Cx : Nat → Nat) (F : Nat → Nat → Nat) (s : Int) (bk : Bool) (w : World) (hA : 0 < nr → A = some ⟨gb, ob, none⟩) (h : Ri14 w gb ob nr X L Cx F) (hn : 24 * nr ≤ 140737488351232) (hp : ¬ pw2 nr 65536) :
    Calls Tryd.prog 37 #[.slice A nr cr, .int .i64 s, .bool bk] w fun e w' => ∃ (gr : Nat), e = .returned (.tuple #[.slice (some ⟨gr, 0, none⟩) nr nr, .int .i64 130]) ∧ w.heap.size ≤ gr ∧ ∃ (B C : Nat → Nat) (G : Nat → Nat → Nat), Lr w w' gr nr nr L F false B C G := by
  have k1 := refPow_no (nr : Int) (fun m e => by rw [show m = nr by omega]; exact hp)
  have hmr := make_rows14 nr (by omega) w
  obtain ⟨gr, hgr⟩ : ∃ gr, gr = w.heap.size := ⟨_, rfl⟩
  obtain ⟨W3, hW3⟩ : ∃ W3, W3 = w.alloc (.cells (madeCells #[.slice none 0 0] nr) 26) := ⟨_, rfl⟩
  have HW3 : Hid (Lr w W3 gr nr 0 L F false (fun _ => 0) (fun _ => 0) (fun _ _ => 0) ∧ w.heap.size ≤ gr) := by
    refine ⟨⟨by rw [hW3]; exact below_alloc _ _, ?_, fun j hj => absurd hj (Nat.not_lt_zero _), fun j j' hj => absurd hj (Nat.not_lt_zero _)⟩, by rw [hgr]; exact Nat.le_refl _⟩
    rw [hW3, hgr]
    exact (World.rowIs_made w (.slice none 0 0) nr 26).congr (fun j hj => by rw [if_neg (Nat.not_lt_zero _)])
  have HR : Hid (Ri14 w gb ob nr X L Cx F ∧ 24 * nr ≤ 140737488351232 ∧ (0 < nr → A = some ⟨gb, ob, none⟩)) := ⟨h, hn, hA⟩
  replace hgr : Hid (gr = w.heap.size) := hgr
  replace hW3 : Hid (W3 = w.alloc (.cells (madeCells #[.slice none 0 0] nr) 26)) := hW3
  clear h hn hA hp
  go_enter Tryd.func37, Tryd.ntmps37
  go_wp2
  rw [← hgr.out, ← hW3.out]
  go_loopw [9] (fun iv wr => ∃ (i : Nat) (B C : Nat → Nat) (G : Nat → Nat → Nat), i ≤ nr ∧ iv = .int .i64 i ∧ Lr w wr gr nr i L F false B C G) (fun iv _ => nr - (intOf iv).toNat)
  case atStart => exact ⟨0, _, _, _, Nat.zero_le _, rfl, HW3.out.1⟩
  case round =>
    obtain ⟨i, B, C, G, hi, rfl, hl⟩ := hrel
    by_cases hlt : i < nr
    · obtain rfl := HR.out.2.2 (by omega)
      have ib : ((i : Nat) : Int) < (nr : Int) := Int.ofNat_lt.mpr hlt
      have hr := HR.out.1.below hl.bel
      have c0 := hr.cell i hlt
      have c1 : (wr.alloc (.cells #[] 34)).cell? ⟨gb, ob + i, none⟩ = some (.slice (X i) (L i) (Cx i)) := ((below_alloc wr _).cell (p := ⟨gb, ob + i, none⟩) hr.lt).trans c0
      obtain ⟨w4, g4, C4, F4, run4, hC4, hg4, hR4, hF4, hb4⟩ := app_lit14 wr (hr.row i hlt) (lens14 (hr.len i hlt)).1
      have y1 : w4.cell? ⟨gr, i, none⟩ = some (.slice none 0 0) := by
        have := (hl.lst.of_block (hb4.block gr hl.lst.lt)).cell (i := i) hlt
        rw [if_neg (Nat.lt_irrefl _)] at this
        exact this
      have y2 := (hl.lst.of_block (hb4.block gr hl.lst.lt)).frozen i
      have W1 : wrap64 ((i : Int) + 1) = (i : Int) + 1 := wrap14 hlt HR.out.2.1
      have HX : Hid (Lr w (w4.setCell ⟨gr, i, none⟩ (.slice (some ⟨g4, 0, none⟩) (L i) C4)) gr nr (i + 1) L F false _ _ _) := hl.next HW3.out.2 hlt hb4 hg4 hR4 hC4 hF4 (fun e => by cases e)
      obtain ⟨Y, hY⟩ : ∃ Y, Y = L i := ⟨_, rfl⟩
      rw [← hY] at *
      clear hl hr hC4 hg4 hR4 hF4 hb4 hmr hW3 hgr k1
      go_wp2_with (at_builtin; refine Lib.wpList_append_run _ rfl _ _ _ _ rfl _ _ rfl rfl _ _ run4 ?_)
      go_roundw
      case rel => exact ⟨i + 1, _, _, _, hlt, by first | rfl | (rw [W1]; rfl), HX.out⟩
      case measure => first | exact meas_lt8 hlt | (rw [W1]; exact meas_lt8 hlt)
    · obtain rfl : i = nr := Nat.le_antisymm hi (Nat.le_of_not_lt hlt)
      have tb : ¬ ((i : Nat) : Int) < (i : Int) := by omega
      have HL : Hid (Lr w wr gr i i L F false B C G) := hl
      have k2 := k1 wr
      clear hl hmr hW3 hgr k1
      go_wp2_with (go_at_call 31; ((with_reducible refine (k2).mono ?_); rintro e w' ⟨rfl, rfl⟩))
      go_ret2
      exact ⟨gr, rfl, HW3.out.2, B, C, G, HL.out⟩
end Go.Proofs.YtgdnjbaohfiijaaDoor
