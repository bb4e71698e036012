import Derived.Test.YtfbgcednodnioabDoorZpf
namespace Go.Proofs.YtfbgcednodnioabDoor
open Go.RowKit Gf2
set_option linter.unusedVariables false

-- layer 22: NewSource (laid by wip/genzpg.py)
theorem fv_one {w : World} {fa code : Int} {v : Value} {f : Nat} (h : Fv w fa code v f) : ∃ q, v = .pointer q := by
  rcases h with ⟨-, h⟩ | ⟨-, h, -⟩
  · exact ⟨_, h⟩
  · exact ⟨_, h⟩
theorem cell_lt22 {w : World} {a : Addr} {v : Value} (h : w.cell? a = some v) : a.block < w.heap.size := by
  rcases Nat.lt_or_ge a.block w.heap.size with h1 | h1
  · exact h1
  · simp [World.cell?, Array.getElem?_eq_none h1] at h
theorem cell_new22 {w : World} {a : Addr} {v : Value} {o : Obj} (h : w.cell? a = some v) : (w.alloc o).cell? a = some v :=
  (((Below.refl w.heap.size w).alloc (Nat.le_refl _) o).cell (cell_lt22 h)).trans h
theorem cell_bel22 {w w' : World} {a : Addr} {v : Value} (h : w.cell? a = some v) (hb : Below w.heap.size w w') : w'.cell? a = some v := (hb.cell (cell_lt22 h)).trans h
theorem Fv.below {w w' : World} {fa code : Int} {v : Value} {f : Nat} (h : Fv w fa code v f) (hb : Below w.heap.size w w') : Fv w' fa code v f := h.ke (ke_below hb (fun _ => False)) (fun _ e => e)
set_option maxHeartbeats 4000000 in
set_option maxRecDepth 100000 in
theorem newsource22 (v c : Value) (n k : Nat) (D : Nat → Nat) (C : Nat → Int) (fa code : Int) (w : World) (hv : Rb w v n D) (hc : Qi w c k C) (hn : n ≤ 140737488355328) (hk : k * 8 ≤ 140737488355328) (hf : I6x fa) :
    Calls Tryd.prog 11 #[v, .agg #[c, .int .i64 fa, .int .i64 code]] w fun e w' => ∃ b f, e = .returned (.pointer (some ⟨b, 0, none⟩)) ∧ So w.heap.size w'.heap.size w' b n D k C fa code f 0 0 ∧ Below w.heap.size w w' := by
  obtain ⟨ac, cc, rfl⟩ : ∃ ac cc, c = .slice ac k cc := by obtain ⟨-, -, a, cap, e, -⟩ := hc; exact ⟨a, cap, e⟩
  have bW : Below w.heap.size w (w.alloc (.cells #[.slice ac k cc, .int .i64 fa, .int .i64 code] 43)) := (Below.refl _ _).alloc (Nat.le_refl _) _
  have hblk : (w.alloc (.cells #[.slice ac k cc, .int .i64 fa, .int .i64 code] 43)).heap[w.heap.size]? = some (.cells #[.slice ac k cc, .int .i64 fa, .int .i64 code] 43 (0, 0)) := heap_alloc_new _ _
  obtain ⟨W, hW⟩ : ∃ W, Hid (w.alloc (.cells #[.slice ac k cc, .int .i64 fa, .int .i64 code] 43) = W) := ⟨_, rfl⟩
  rw [hW.out] at bW hblk
  have hsz : w.heap.size < W.heap.size := (Array.getElem?_eq_some_iff.1 hblk).1
  have Y0 : W.drew.cell? ⟨w.heap.size, 0, none⟩ = some (.slice ac k cc) := by show W.cell? _ = _; rw [cell_of_row _ _ 0 _ _ _ hblk]; rfl
  have Y1 : W.drew.cell? ⟨w.heap.size, 1, none⟩ = some (.int .i64 fa) := by show W.cell? _ = _; rw [cell_of_row _ _ 1 _ _ _ hblk]; rfl
  have Y2 : W.drew.cell? ⟨w.heap.size, 2, none⟩ = some (.int .i64 code) := by show W.cell? _ = _; rw [cell_of_row _ _ 2 _ _ _ hblk]; rfl
  have bD : Below w.heap.size w W.drew := bW.drew
  have c1 := clone8_22 v n D W.drew (hv.below bD) (by omega)
  have H2 : Hid (∀ u w1, Nb W.drew.heap.size w1 u n D → Below W.drew.heap.size W.drew w1 → w1.cell? ⟨w.heap.size, 0, none⟩ = some (.slice ac k cc) ∧ w1.cell? ⟨w.heap.size, 1, none⟩ = some (.int .i64 fa) ∧ w1.cell? ⟨w.heap.size, 2, none⟩ = some (.int .i64 code) ∧
      Calls Tryd.prog 21 #[.slice ac k cc] w1 fun e w' => ∃ u, e = .returned u ∧ Ni w1.heap.size w' u k C ∧ Below w1.heap.size w1 w') := fun u w1 _ hb =>
    ⟨cell_bel22 Y0 hb, cell_bel22 Y1 hb, cell_bel22 Y2 hb, clonei_22 _ k C w1 ((hc.below bD).below hb) hk⟩
  have H3 : Hid (∀ u u2 w1 w2, Nb W.drew.heap.size w1 u n D → Below W.drew.heap.size W.drew w1 → Ni w1.heap.size w2 u2 k C → Below w1.heap.size w1 w2 → w2.cell? ⟨w.heap.size, 0, none⟩ = some (.slice ac k cc) ∧ w2.cell? ⟨w.heap.size, 1, none⟩ = some (.int .i64 fa) ∧ w2.cell? ⟨w.heap.size, 2, none⟩ = some (.int .i64 code) ∧
      Calls Tryd.prog 18 #[.int .i64 fa, .int .i64 code] w2 fun e w' => ∃ v, e = .returned v ∧ Fv w' fa code v w2.heap.size ∧ Below w2.heap.size w2 w') := fun u u2 w1 w2 _ hb _ hb2 =>
    ⟨cell_bel22 (cell_bel22 Y0 hb) hb2, cell_bel22 (cell_bel22 Y1 hb) hb2, cell_bel22 (cell_bel22 Y2 hb) hb2, failureOf22 fa code w2⟩
  have H4 : Hid (∀ u u2 q w1 w2 w3, Nb W.drew.heap.size w1 u n D → Below W.drew.heap.size W.drew w1 → Ni w1.heap.size w2 u2 k C → Below w1.heap.size w1 w2 → Fv w3 fa code q w2.heap.size → Below w2.heap.size w2 w3 → w3.cell? ⟨w.heap.size, 0, none⟩ = some (.slice ac k cc) ∧ w3.cell? ⟨w.heap.size, 1, none⟩ = some (.int .i64 fa) ∧ w3.cell? ⟨w.heap.size, 2, none⟩ = some (.int .i64 code) ∧
      So w.heap.size (w3.alloc (.cells #[u, .int .i64 0, u2, .int .i64 0, .int .i64 fa, q] 62)).heap.size (w3.alloc (.cells #[u, .int .i64 0, u2, .int .i64 0, .int .i64 fa, q] 62)) w3.heap.size n D k C fa code w2.heap.size 0 0 ∧ Below w.heap.size w (w3.alloc (.cells #[u, .int .i64 0, u2, .int .i64 0, .int .i64 fa, q] 62))) := by
    intro u u2 q w1 w2 w3 hN hb hM hb2 hF hb3
    refine ⟨cell_bel22 (cell_bel22 (cell_bel22 Y0 hb) hb2) hb3, cell_bel22 (cell_bel22 (cell_bel22 Y1 hb) hb2) hb3, cell_bel22 (cell_bel22 (cell_bel22 Y2 hb) hb2) hb3, ?_⟩
    have b4 : Below w3.heap.size w3 (w3.alloc (.cells #[u, .int .i64 0, u2, .int .i64 0, .int .i64 fa, q] 62)) := (Below.refl _ _).alloc (Nat.le_refl _) _
    have s0 : W.drew.heap.size = W.heap.size := rfl
    have s1 := hb.size
    have s2 := hb2.size
    have s3 := hb3.size
    have s4 : (w3.alloc (.cells #[u, .int .i64 0, u2, .int .i64 0, .int .i64 fa, q] 62)).heap.size = w3.heap.size + 1 := by simp
    have hfl : 0 ≤ fa → w2.heap.size < w3.heap.size := fun h0 => by
      rcases hF with ⟨h1, -⟩ | ⟨-, -, h1⟩
      · omega
      · exact (Array.getElem?_eq_some_iff.1 h1).1
    refine ⟨⟨⟨by omega, by omega⟩, Nat.le_refl _, ⟨u, u2, q, by have e0 : qx22 k 0 = 0 := (by unfold qx22; split <;> simp); rw [e0]; exact heap_alloc_new _ _, ?_, ?_, hF.below b4⟩, fun h0 => ⟨by omega, by have := hfl h0; omega, by have := hfl h0; omega⟩, Nat.zero_le _, fun h => h, hn, by omega, hf⟩, ?_⟩
    · exact (((hN.below hb2).below hb3).bi (I := Iv w.heap.size (w3.alloc (.cells #[u, .int .i64 0, u2, .int .i64 0, .int .i64 fa, q] 62)).heap.size w3.heap.size) (fun x h1 h2 => ⟨by omega, by omega, by omega⟩)).ke (ke_below b4 (fun _ => False)) (fun _ _ e => e)
    · exact ((hM.below hb3).ii (I := Iv w.heap.size (w3.alloc (.cells #[u, .int .i64 0, u2, .int .i64 0, .int .i64 fa, q] 62)).heap.size w3.heap.size) (fun x h1 h2 => ⟨by omega, by omega, by omega⟩)).ke (ke_below b4 (fun _ => False)) (fun _ _ e => e)
    · exact bD.trans ((hb.mono (by omega)).trans ((hb2.mono (by omega)).trans ((hb3.mono (by omega)).trans (b4.mono (by omega)))))
  clear hv hc hn hk hf bW hblk hsz bD
  go_enter Tryd.func11, Tryd.ntmps11
  go_wp2
  rw [hW.out]
  clear hW
  refine region_planI (fun w' => w'.cell? ⟨w.heap.size, 0, none⟩ = some (.slice ac k cc) ∧ w'.cell? ⟨w.heap.size, 1, none⟩ = some (.int .i64 fa) ∧ w'.cell? ⟨w.heap.size, 2, none⟩ = some (.int .i64 code)) [0, 2, 3, 5, 6, 7, 8, 9, 10, 1, 4, 11, 12, 13, 14] [9, 0, 0, 1, 1] 19 ⟨Y0, Y1, Y2⟩ (by kernel_rfl) (by kernel_rfl) (fun _ a d v _ h => by cases d <;> exact h) ?_
  simp only [atI, List.getElem?_cons_zero, List.getElem?_cons_succ]
  refine planH_step ?AR0 rfl (fun w' hS => ?sR0) rfl (fun K hK => ?nR0)
  case sR0 =>
    obtain ⟨y0, y1, y2⟩ := hS
    simp only [List.take_succ_cons, List.take_zero]
    repeat still_step
    exact rfl
  case nR0 =>
  go_simp
  go_wp2_with (go_at_call 20; (with_reducible refine c1.mono ?_); rintro e w1 ⟨u, rfl, hN, hb1⟩; obtain ⟨ad, cd, rfl⟩ : ∃ a c, u = .slice a n c := (by obtain ⟨-, -, a, c, e, -⟩ := hN; exact ⟨a, c, e⟩); obtain ⟨y0, y1, y2, c2⟩ := H2.out _ w1 hN hb1; clear c1 H2)
  refine hK _ _ ⟨y0, y1, y2⟩ ?_
  clear hK K
  refine planH_step ?AR1 rfl (fun w' hS => ?sR1) rfl (fun K hK => ?nR1)
  case sR1 =>
    obtain ⟨y0, y1, y2⟩ := hS
    simp only [List.take_zero]
    exact rfl
  case nR1 =>
  go_simp
  go_wp2_with (go_at_call 21; (with_reducible refine c2.mono ?_); rintro e w2 ⟨u, rfl, hM, hb2⟩; obtain ⟨ai, ci, rfl⟩ : ∃ a c, u = .slice a k c := (by obtain ⟨-, a, c, e, -⟩ := hM; exact ⟨a, c, e⟩); obtain ⟨y0, y1, y2, c3⟩ := H3.out _ _ w1 w2 hN hb1 hM hb2; clear c2 H3)
  refine hK _ _ ⟨y0, y1, y2⟩ ?_
  clear hK K
  refine planH_step ?AR2 rfl (fun w' hS => ?sR2) rfl (fun K hK => ?nR2)
  case sR2 =>
    obtain ⟨y0, y1, y2⟩ := hS
    simp only [List.take_zero]
    exact rfl
  case nR2 =>
  go_simp
  go_wp2_with (go_at_call 18; (with_reducible refine c3.mono ?_); rintro e w3 ⟨u, rfl, hF, hb3⟩; obtain ⟨q, rfl⟩ := fv_one hF; obtain ⟨y0, y1, y2, hS4⟩ := H4.out _ _ _ w1 w2 w3 hN hb1 hM hb2 hF hb3; have HG : Hid _ := hS4; clear c3 hS4)
  refine hK _ _ ⟨y0, y1, y2⟩ ?_
  clear hK K
  refine planH_step ?AR3 rfl (fun w' hS => ?sR3) rfl (fun K hK => ?nR3)
  case sR3 =>
    obtain ⟨y0, y1, y2⟩ := hS
    simp only [List.take_succ_cons, List.take_zero]
    repeat still_step
    exact rfl
  case nR3 =>
  have HY : Hid ((w3.alloc (.cells #[.slice ad n cd, .int .i64 0, .slice ai k ci, .int .i64 0, .int .i64 fa, .pointer q] 62)).cell? ⟨w.heap.size, 0, none⟩ = some (.slice ac k cc) ∧ (w3.alloc (.cells #[.slice ad n cd, .int .i64 0, .slice ai k ci, .int .i64 0, .int .i64 fa, .pointer q] 62)).cell? ⟨w.heap.size, 1, none⟩ = some (.int .i64 fa) ∧ (w3.alloc (.cells #[.slice ad n cd, .int .i64 0, .slice ai k ci, .int .i64 0, .int .i64 fa, .pointer q] 62)).cell? ⟨w.heap.size, 2, none⟩ = some (.int .i64 code)) := ⟨cell_new22 y0, cell_new22 y1, cell_new22 y2⟩
  clear y0 y1 y2
  go_simp
  have y0 := HY.out.1
  have y1 := HY.out.2.1
  have y2 := HY.out.2.2
  refine hK _ _ ⟨y0, y1, y2⟩ ?_
  clear hK K
  refine planH_last ?AR4 rfl (fun w' hS => ?sR4) rfl ?nR4
  case sR4 =>
    obtain ⟨y0, y1, y2⟩ := hS
    simp only [List.take_succ_cons, List.take_zero]
    repeat still_step
    exact rfl
  case nR4 =>
  go_wp2
  go_ret
  exact ⟨_, _, rfl, HG.out⟩
end Go.Proofs.YtfbgcednodnioabDoor
