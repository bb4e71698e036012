import Derived.Test.YtdnhidachdjgaaaMkk
import Derived.Deep.RegionLaw
namespace Go.Proofs.Ytdnhidachdjgaaa
open Go.RowKit Gf2
set_option linter.unusedVariables false

-- layer 10: parts (laid by wip/genmkk.py)
theorem step_append10 {P : Program} {ops : Array Oper} {o : Oper} {a : Act} {w : World} {K : Act → World → Prop} {Q : Exit → Act → World → Prop} {E : Prop} (hgd : o.guard = none) (s x : Operand) (t : TypeId)
    (ho : o.op = .call { callee := .builtin .append, args := #[s, x], argTypes := #[t, t] }) {v1 v2 v' : Value} {w' : World} (hs : a.eval s = v1) (hx : a.eval x = v2)
    (hrun : (Builtin.append_ #[t, t] o.type #[v1, v2]).run P w = .ok v' w') (h : K (a.put o.dst v') w') : if Region.wanted o (yielded ops a.tmps) = true then Oper.wp P o a w K Q else E := by
  have hw : Region.wanted o (yielded ops a.tmps) = true := by simp [Region.wanted, hgd]
  rw [if_pos hw]
  unfold Oper.wp execOp
  simp only [ho, resolve, invoke, builtin, Sem.run_bind, Sem.run_pure, Result.andThen_ok, List.map_toArray, List.map_cons, List.map_nil, hs, hx, hrun]
  exact h
theorem cell_al10 {W : World} {a : Addr} {v : Value} {o : Obj} (h : W.cell? a = some v) : (W.alloc o).cell? a = some v := ((balloc10 W o).cell (p := a) (cell_lt10 h)).trans h
set_option maxHeartbeats 4000000 in
set_option maxRecDepth 100000 in
theorem parts10_pick (k : Int) (vA vB : Value) (i j l m : Int) (vR : Value) (w : World) (h : In10 w vA vB vR j) :
    Calls Try.prog 22 #[.agg #[.int .i64 8, vA, vB, .int .i64 i, .int .i64 j, .int .i64 l, .int .i64 m, vR]] w fun e w' => e = .returned (.bool true) ∧ Below w.heap.size w w' := by
  have a0 := balloc10 w (.cells #[.int .i64 8, vA, vB, .int .i64 i, .int .i64 j, .int .i64 l, .int .i64 m, vR] 29)
  obtain ⟨W0, hW0⟩ : ∃ W0, W0 = w.alloc (.cells #[.int .i64 8, vA, vB, .int .i64 i, .int .i64 j, .int .i64 l, .int .i64 m, vR] 29) := ⟨_, rfl⟩
  have HB : Hid (∀ W, Below W0.heap.size W0 W → Bo10 W w.heap.size 8 vA vB i j l m vR) := fun W hW => by rw [hW0] at hW; exact bo10_new w 8 vA vB i j l m vR hW
  obtain ⟨mA, nA, SA, hA1, hA2, hA3⟩ := h.a.below a0
  obtain ⟨mB, nB, SB, hB1, hB2, hB3⟩ := h.b.below a0
  rw [← hW0] at hA1 hB1 a0
  have bd : Below W0.heap.size W0 W0.drew := (Below.refl _ _).drew
  have twA : ∀ W, Below W0.heap.size W0 W → Calls Try.prog 12 #[vA] W fun e w1 => ∃ t, e = .returned t ∧ Lb w1 t mA nA SA ∧ Below W.heap.size W w1 := fun W hW =>
    (twin10_any vA mA nA SA W (Lb.below hA1 hW) (by omega) (fun i hi => Nat.le_trans (hA3 i hi) (by decide))).mono fun e w1 ⟨he, ht⟩ => ⟨_, he, (ht.cs (by unfold big; omega)).lb, ht.bel⟩
  have twB : ∀ W, Below W0.heap.size W0 W → Calls Try.prog 12 #[vB] W fun e w1 => ∃ t, e = .returned t ∧ Lb w1 t mB nB SB ∧ Below W.heap.size W w1 := fun W hW =>
    (twin10_any vB mB nB SB W (Lb.below hB1 hW) (by omega) (fun i hi => Nat.le_trans (hB3 i hi) (by decide))).mono fun e w1 ⟨he, ht⟩ => ⟨_, he, (ht.cs (by unfold big; omega)).lb, ht.bel⟩
  obtain ⟨xR, nR, cR, R, eR, hR, hR8⟩ := h.r
  subst eR
  have hR0 : Qi W0 (.slice xR nR cR) nR R := hR.below a0
  have fin : ∀ x1 t, Below W0.heap.size W0 x1 → Lb x1 t mA nA SA → ∀ g, ∃ w' g' C', (Builtin.append_ #[27, 27] 27 #[.slice (some ⟨g, 0, none⟩) 0 0, .slice xR nR cR]).run Try.prog x1 = .ok (.slice (some ⟨g', 0, none⟩) nR C') w' ∧ (w'.cell? ⟨w.heap.size, 1, none⟩ = some vA ∧ w'.cell? ⟨w.heap.size, 7, none⟩ = some (.slice xR nR cR)) ∧
      Calls Try.prog 27 #[t, .slice (some ⟨g', 0, none⟩) nR C'] w' fun e w3 => ∃ x z, e = .returned (.tuple #[x, .int .i64 z]) ∧ w3.cell? ⟨w.heap.size, 1, none⟩ = some vA ∧ w3.cell? ⟨w.heap.size, 7, none⟩ = some (.slice xR nR cR) ∧
      Calls Try.prog 49 #[vA, .slice xR nR cR] w3 fun e w4 => ∃ y, e = .returned (.tuple #[y, .int .i64 z]) ∧ Hid (Below w.heap.size w w4) ∧ Hid (Eq10 w4 x y) := fun x1 t e1 l1 g => by
    obtain ⟨w', g', C', run, hq, hb⟩ := app_ints10 x1 (g := g) (hR0.below e1) hR8
    have e3 := bthen10 e1 hb
    refine ⟨w', g', C', run, ⟨(HB.out w' e3).2.1, (HB.out w' e3).2.2.2.2.2.2.2⟩, ?_⟩
    refine (tw10_pick vA t (.slice xR nR cR) _ mA nR nA SA R w' (Lb.below hA1 e3) (Lb.below l1 hb) (hR0.below e3) hq).mono fun e w3 ⟨x, z, he, b3, c3⟩ => ⟨x, z, he, (HB.out w3 (bthen10 e3 b3)).2.1, (HB.out w3 (bthen10 e3 b3)).2.2.2.2.2.2.2, ?_⟩
    exact c3.mono fun e w4 ⟨y, he, b4, hq⟩ => ⟨y, he, bthen10 a0 (bthen10 e3 b4), hq⟩
  have bz : Below W0.heap.size W0 (W0.alloc (.cells #[] 3)).drew := (balloc10 W0 _).drew
  have c1 : Calls Try.prog 12 #[vA] W0.drew fun e w1 => ∃ t, e = .returned t ∧ (w1.cell? ⟨w.heap.size, 1, none⟩ = some vA ∧ w1.cell? ⟨w.heap.size, 7, none⟩ = some (.slice xR nR cR)) ∧
      ∃ w' g' C', (Builtin.append_ #[27, 27] 27 #[.slice (some ⟨w1.heap.size, 0, none⟩) 0 0, .slice xR nR cR]).run Try.prog (w1.alloc (.cells #[] 3)) = .ok (.slice (some ⟨g', 0, none⟩) nR C') w' ∧ (w'.cell? ⟨w.heap.size, 1, none⟩ = some vA ∧ w'.cell? ⟨w.heap.size, 7, none⟩ = some (.slice xR nR cR)) ∧
      Calls Try.prog 27 #[t, .slice (some ⟨g', 0, none⟩) nR C'] w' fun e w3 => ∃ x z, e = .returned (.tuple #[x, .int .i64 z]) ∧ w3.cell? ⟨w.heap.size, 1, none⟩ = some vA ∧ w3.cell? ⟨w.heap.size, 7, none⟩ = some (.slice xR nR cR) ∧
      Calls Try.prog 49 #[vA, .slice xR nR cR] w3 fun e w4 => ∃ y, e = .returned (.tuple #[y, .int .i64 z]) ∧ Hid (Below w.heap.size w w4) ∧ Hid (Eq10 w4 x y) :=
    (twA W0.drew bd).mono fun e w1 ⟨t, he, l1, b1⟩ => ⟨t, he, ⟨(HB.out w1 (bthen10 bd b1)).2.1, (HB.out w1 (bthen10 bd b1)).2.2.2.2.2.2.2⟩, fin (w1.alloc (.cells #[] 3)) t (bthen10 (bthen10 bd b1) (balloc10 w1 _)) (Lb.below l1 (balloc10 w1 _)) w1.heap.size⟩
  have c2 : Calls Try.prog 12 #[vA] (W0.alloc (.cells #[] 3)).drew fun e w1 => ∃ t, e = .returned t ∧ (w1.cell? ⟨w.heap.size, 1, none⟩ = some vA ∧ w1.cell? ⟨w.heap.size, 7, none⟩ = some (.slice xR nR cR)) ∧
      ∃ w' g' C', (Builtin.append_ #[27, 27] 27 #[.slice (some ⟨W0.heap.size, 0, none⟩) 0 0, .slice xR nR cR]).run Try.prog w1 = .ok (.slice (some ⟨g', 0, none⟩) nR C') w' ∧ (w'.cell? ⟨w.heap.size, 1, none⟩ = some vA ∧ w'.cell? ⟨w.heap.size, 7, none⟩ = some (.slice xR nR cR)) ∧
      Calls Try.prog 27 #[t, .slice (some ⟨g', 0, none⟩) nR C'] w' fun e w3 => ∃ x z, e = .returned (.tuple #[x, .int .i64 z]) ∧ w3.cell? ⟨w.heap.size, 1, none⟩ = some vA ∧ w3.cell? ⟨w.heap.size, 7, none⟩ = some (.slice xR nR cR) ∧
      Calls Try.prog 49 #[vA, .slice xR nR cR] w3 fun e w4 => ∃ y, e = .returned (.tuple #[y, .int .i64 z]) ∧ Hid (Below w.heap.size w w4) ∧ Hid (Eq10 w4 x y) :=
    (twA (W0.alloc (.cells #[] 3)).drew bz).mono fun e w1 ⟨t, he, l1, b1⟩ => ⟨t, he, ⟨(HB.out w1 (bthen10 bz b1)).2.1, (HB.out w1 (bthen10 bz b1)).2.2.2.2.2.2.2⟩, fin w1 t (bthen10 bz b1) l1 W0.heap.size⟩
  obtain ⟨-, r1, -, -, -, -, -, r7⟩ := HB.out _ bz
  have HW : Hid (W0 = w.alloc (.cells #[.int .i64 8, vA, vB, .int .i64 i, .int .i64 j, .int .i64 l, .int .i64 m, (.slice xR nR cR)] 29)) := hW0
  obtain ⟨y0, y1, y2, y3, y4, y5, y6, y7⟩ := HB.out W0.drew bd
  obtain ⟨v0, v1, v2, v3, v4, v5, v6, v7⟩ := HB.out W0 (Below.refl _ _)
  obtain ⟨xA, nA', cA, rfl⟩ := lm_form h.a
  obtain ⟨xB, nB', cB, rfl⟩ := lm_form h.b
  clear h a0 hA1 hA2 hA3 hB1 hB2 hB3 hW0 twA twB bd bz
  go_enter Try.func22, Try.ntmps22
  go_upto_region 4 with (fail)
  rw [← HW.out]
  clear fin hR0 hR8 hR
  go_wp2
  go_region_law (first
    | (refine step_append10 rfl _ _ 27 rfl rfl rfl run ?_)
    | (go_simp; go_wp2_with (first
      | (go_at_call 27; (with_reducible refine c3.mono ?_); rintro e w3 ⟨x, z, rfl, q1, q7, c4⟩; clear c3)
      | (go_at_call 12; first
        | ((with_reducible refine c1.mono ?_); rintro e x1 ⟨t, rfl, u1, w', g', C', run, u2, c3⟩; obtain ⟨u11, u17⟩ := u1; have p1 := cell_al10 (o := .cells #[] 3) u11; have p7 := cell_al10 (o := .cells #[] 3) u17)
        | ((with_reducible refine c2.mono ?_); rintro e x1 ⟨t, rfl, u1, w', g', C', run, u2, c3⟩; obtain ⟨u11, u17⟩ := u1)))))
  all_goals
    go_wp2_with (first
      | (go_at_call 49; (with_reducible refine c4.mono ?_); rintro e w4 ⟨y, rfl, HC, HQ⟩; have c5 := eq10_same HQ; clear c4)
      | (go_at_call 14; (with_reducible refine c5.mono ?_); rintro e w5 ⟨rfl, q, rfl⟩; clear c5))
    go_ret
    exact ⟨rfl, below_drewM HC.out q⟩
end Go.Proofs.Ytdnhidachdjgaaa
