import Derived.Test.YtfbgcednodnioaaDoorPnak
namespace Go.Proofs.YtfbgcednodnioaaDoor
open Go.RowKit Gf2
set_option linter.unusedVariables false

-- layer 22: the sink's calls (laid by wip/genzpi.py)
set_option maxHeartbeats 4000000 in
set_option maxRecDepth 100000 in
theorem newsink22 (fa code : Int) (w : World) (hf : I6x fa) :
    Calls Tryd.prog 10 #[.agg #[.int .i64 fa, .int .i64 code]] w fun e w' => ∃ b f, e = .returned (.pointer (some ⟨b, 0, none⟩)) ∧ Sk (fun x => w.heap.size ≤ x ∧ x < w'.heap.size) w' b 0 (fun _ => 0) fa code f ∧ Below w.heap.size w w' := by
  have bW : Below w.heap.size w (w.alloc (.cells #[.int .i64 fa, .int .i64 code] 33)) := (Below.refl _ _).alloc (Nat.le_refl _) _
  have hblk : (w.alloc (.cells #[.int .i64 fa, .int .i64 code] 33)).heap[w.heap.size]? = some (.cells #[.int .i64 fa, .int .i64 code] 33 (0, 0)) := heap_alloc_new _ _
  obtain ⟨W, hW⟩ : ∃ W, Hid (w.alloc (.cells #[.int .i64 fa, .int .i64 code] 33) = W) := ⟨_, rfl⟩
  rw [hW.out] at bW hblk
  have hsz : w.heap.size < W.heap.size := (Array.getElem?_eq_some_iff.1 hblk).1
  have Y0 : W.drew.cell? ⟨w.heap.size, 0, none⟩ = some (.int .i64 fa) := by show W.cell? _ = _; rw [cell_of_row _ _ 0 _ _ _ hblk]; rfl
  have Y1 : W.drew.cell? ⟨w.heap.size, 1, none⟩ = some (.int .i64 code) := by show W.cell? _ = _; rw [cell_of_row _ _ 1 _ _ _ hblk]; rfl
  have bD : Below w.heap.size w W.drew := bW.drew
  have c1 := failureOf22 fa code W.drew
  have H4 : Hid (∀ q w3, Fv w3 fa code q W.drew.heap.size → Below W.drew.heap.size W.drew w3 → w3.cell? ⟨w.heap.size, 0, none⟩ = some (.int .i64 fa) ∧ w3.cell? ⟨w.heap.size, 1, none⟩ = some (.int .i64 code) ∧
      Sk (fun x => w.heap.size ≤ x ∧ x < (w3.alloc (.cells #[.slice none 0 0, .int .i64 fa, q] 83)).heap.size) (w3.alloc (.cells #[.slice none 0 0, .int .i64 fa, q] 83)) w3.heap.size 0 (fun _ => 0) fa code W.drew.heap.size ∧ Below w.heap.size w (w3.alloc (.cells #[.slice none 0 0, .int .i64 fa, q] 83))) := by
    intro q w3 hF hb3
    refine ⟨cell_bel22 Y0 hb3, cell_bel22 Y1 hb3, ?_⟩
    have b4 : Below w3.heap.size w3 (w3.alloc (.cells #[.slice none 0 0, .int .i64 fa, q] 83)) := (Below.refl _ _).alloc (Nat.le_refl _) _
    have s0 : W.drew.heap.size = W.heap.size := rfl
    have s3 := hb3.size
    have s4 : (w3.alloc (.cells #[.slice none 0 0, .int .i64 fa, q] 83)).heap.size = w3.heap.size + 1 := by simp
    have hfl : 0 ≤ fa → W.drew.heap.size < w3.heap.size := fun h0 => by
      rcases hF with ⟨h1, -⟩ | ⟨-, -, h1⟩
      · omega
      · exact (Array.getElem?_eq_some_iff.1 h1).1
    exact ⟨⟨⟨by omega, by omega⟩, fun x hx => hx.2, ⟨_, q, 0, heap_alloc_new _ _, .inl ⟨rfl, rfl⟩, .inl rfl, hF.below b4⟩, fun h0 => ⟨⟨by omega, by have := hfl h0; omega⟩, by have := hfl h0; omega⟩, fun h => h, hf⟩, bD.trans ((hb3.mono (by omega)).trans (b4.mono (by omega)))⟩
  clear hf bW hblk hsz bD
  go_enter Tryd.func10, Tryd.ntmps10
  go_wp2
  rw [hW.out]
  clear hW
  refine region_planI (fun w' => w'.cell? ⟨w.heap.size, 0, none⟩ = some (.int .i64 fa) ∧ w'.cell? ⟨w.heap.size, 1, none⟩ = some (.int .i64 code)) [0, 1, 2, 3, 4, 5, 6, 7, 8, 9] [6, 1, 1] 12 ⟨Y0, Y1⟩ (by kernel_rfl) (by kernel_rfl) (fun _ a d v _ h => by cases d <;> exact h) ?_
  simp only [atI, List.getElem?_cons_zero, List.getElem?_cons_succ]
  refine planH_step ?AR0 rfl (fun w' hS => ?sR0) rfl (fun K hK => ?nR0)
  case sR0 =>
    obtain ⟨y0, y1⟩ := hS
    simp only [List.take_succ_cons, List.take_zero]
    repeat still_step
    exact rfl
  case nR0 =>
  go_simp
  go_wp2_with (go_at_call 30; (with_reducible refine c1.mono ?_); rintro e w3 ⟨u, rfl, hF, hb3⟩; obtain ⟨q, rfl⟩ := fv_one hF; obtain ⟨y0, y1, hS4⟩ := H4.out _ w3 hF hb3; have HG : Hid _ := hS4; clear c1 hS4 H4)
  refine hK _ _ ⟨y0, y1⟩ ?_
  clear hK K
  refine planH_step ?AR1 rfl (fun w' hS => ?sR1) rfl (fun K hK => ?nR1)
  case sR1 =>
    obtain ⟨y0, y1⟩ := hS
    simp only [List.take_succ_cons, List.take_zero]
    repeat still_step
    exact rfl
  case nR1 =>
  have HY : Hid ((w3.alloc (.cells #[.slice none 0 0, .int .i64 fa, .pointer q] 83)).cell? ⟨w.heap.size, 0, none⟩ = some (.int .i64 fa) ∧ (w3.alloc (.cells #[.slice none 0 0, .int .i64 fa, .pointer q] 83)).cell? ⟨w.heap.size, 1, none⟩ = some (.int .i64 code)) := ⟨cell_new22 y0, cell_new22 y1⟩
  clear y0 y1
  go_simp
  have y0 := HY.out.1
  have y1 := HY.out.2
  refine hK _ _ ⟨y0, y1⟩ ?_
  clear hK K
  refine planH_last ?AR2 rfl (fun w' hS => ?sR2) rfl ?nR2
  case sR2 =>
    obtain ⟨y0, y1⟩ := hS
    simp only [List.take_succ_cons, List.take_zero]
    repeat still_step
    exact rfl
  case nR2 =>
  go_wp2
  go_ret
  exact ⟨_, _, rfl, HG.out⟩
set_option maxHeartbeats 2000000 in
set_option maxRecDepth 100000 in
theorem room22 {Fp : Nat → Prop} {b L f : Nat} {T : Nat → Nat} {fa code : Int} (w : World) (h : Sk Fp w b L T fa code f) (h0 : 0 ≤ fa) :
    Calls Tryd.prog 39 #[.pointer (some ⟨b, 0, none⟩)] w fun e w' => e = .returned (.int .i64 ((fa.toNat - L : Nat) : Int)) ∧ ∃ m, w' = w.drewN m := by
  obtain ⟨a, c, fv, hy, -, -, -⟩ := h.open_
  have z0 := hy.c0
  have z1 := hy.c1
  have W1 : IntKind.i64.wrap (fa - (L : Int)) = ((fa.toNat - L : Nat) : Int) := by have := h.lf h0; have := h.ff.2; rw [IntKind.wrap_i64]; omega
  generalize fa.toNat - L = r at *
  clear h hy h0
  go_enter Tryd.func39, Tryd.ntmps39
  go_wp2
  go_quiet (fail)
  go_wp2
  go_ret
  exact ⟨rfl, _, rfl⟩
set_option maxHeartbeats 4000000 in
set_option maxRecDepth 100000 in
theorem write22_ok {Fp : Nat → Prop} {b L f : Nat} {T : Nat → Nat} {fa code : Int} (x : Option Addr) (n cx : Nat) (S : Nat → Nat) (w : World) (h : Sk Fp w b L T fa code f) (hx : Rb w (.slice x n cx) n S) (hn : L + n ≤ 225000000000000) (hf : 0 ≤ fa → (L : Int) + n ≤ fa) :
    Calls Tryd.prog 24 #[.pointer (some ⟨b, 0, none⟩), .slice x n cx] w fun e w' => e = .returned (.tuple #[.int .i64 (n : Int), .nilIface]) ∧ Sk (fun y => Fp y ∨ w.heap.size ≤ y ∧ y < w'.heap.size) w' b (L + n) (aft T L S) fa code f ∧ Ke Fp w w' := by
  obtain ⟨a, c, fv, hy, hF, -, hA⟩ := h.open_
  have HA : Hid (∀ m, w.drewN m = w.drewN m → ∃ w2 a' c', (Builtin.append_ #[41, 41] 41 #[.slice a L c, .slice x n cx]).run Tryd.prog (w.drewN m) = .ok (.slice a' (L + n) c') w2 ∧ w2.cell? ⟨b, 0, none⟩ = some (.slice a L c) ∧ w2.frozen? ⟨b, 0, none⟩ = false ∧
        Sk (fun y => Fp y ∨ w.heap.size ≤ y ∧ y < w2.heap.size) (w2.setCell ⟨b, 0, none⟩ (.slice a' (L + n) c')) b (L + n) (aft T L S) fa code f ∧ Ke Fp w (w2.setCell ⟨b, 0, none⟩ (.slice a' (L + n) c')) ∧
        (w2.setCell ⟨b, 0, none⟩ (.slice a' (L + n) c')).cell? ⟨b, 2, none⟩ = some fv) := fun m _ => hA (w.drewN m) m rfl x n cx S (hx.drewN m) hn hf
  rcases hF with ⟨h0, rfl⟩ | ⟨h0, rfl, hfb⟩
  · have z0 := hy.c0
    have z2 := hy.c2
    obtain ⟨w2, a', c', hrun, u0, u1, hG⟩ := HA.out 0 rfl
    have hrun' : (Builtin.append_ #[41, 41] 41 #[.slice a L c, .slice x n cx]).run Tryd.prog w = .ok (.slice a' (L + n) c') w2 := hrun
    have HG : Hid _ := hG
    clear h hy hA hx hn hf h0 hG hrun HA
    go_enter Tryd.func24, Tryd.ntmps24
    go_wp2_with (at_builtin; refine Lib.wpList_append_run _ rfl _ _ _ _ rfl _ _ rfl rfl _ _ hrun' ?_; clear hrun' z0 z2)
    go_ret2
    exact ⟨rfl, by simpa using HG.out.1, HG.out.2.1⟩
  · have c1 := room22 w h h0
    have D1 : decide (n ≤ fa.toNat - L) = true := decide_eq_true (by have := hf h0; have := h.lf h0; omega)
    have D2 : decide ((n : Int) ≤ ((fa.toNat - L : Nat) : Int)) = true := decide_eq_true (by have := hf h0; have := h.lf h0; omega)
    have D3 : n ≤ fa.toNat - L := of_decide_eq_true D1
    have z2 := hy.c2
    have hnil : ∀ W : World, Sem.run Tryd.prog (binOp BinOp.eql 22 (Value.pointer (some ⟨f, 0, none⟩)) (Value.pointer none)) W = .ok (.bool false) W := fun W => by kernel_rfl
    have HY : Hid (w.cell? ⟨b, 0, none⟩ = some (.slice a L c)) := hy.c0
    generalize fa.toNat - L = r at *
    clear h hy hA hx hn hf h0 hfb
    go_enter Tryd.func24, Tryd.ntmps24
    go_wp2_with (first
      | (go_at_call 39; (with_reducible refine c1.mono ?_); rintro e w1 ⟨rfl, m, hw1⟩; clear c1 z2; obtain ⟨w2, a', c', hrun, u0, u1, hG⟩ := HA.out m rfl; have HG : Hid _ := hG; rw [← hw1] at hrun; have z0 : w1.cell? ⟨b, 0, none⟩ = some (.slice a L c) := (by rw [hw1]; exact HY.out); clear hG HA hw1)
      | (at_builtin; refine Lib.wpList_append_run _ rfl _ _ _ _ rfl _ _ rfl rfl _ _ hrun ?_; clear hrun z0))
    go_ret2
    exact ⟨rfl, by simpa using HG.out.1, HG.out.2.1⟩
end Go.Proofs.YtfbgcednodnioaaDoor
