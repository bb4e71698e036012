import Derived.Test.YtdnhidachdjgaaaMkj
namespace Go.Proofs.Ytdnhidachdjgaaa
open Go.RowKit Gf2
set_option linter.unusedVariables false

-- layer 10: parts (laid by wip/genmkk.py)
set_option maxHeartbeats 4000000 in
set_option maxRecDepth 100000 in
theorem parts10_mul (k : Int) (vA vB : Value) (i j l m : Int) (vR : Value) (w : World) (h : In10 w vA vB vR j) :
    Calls Try.prog 22 #[.agg #[.int .i64 5, vA, vB, .int .i64 i, .int .i64 j, .int .i64 l, .int .i64 m, vR]] w fun e w' => e = .returned (.bool true) ∧ Below w.heap.size w w' := by
  have a0 := balloc10 w (.cells #[.int .i64 5, vA, vB, .int .i64 i, .int .i64 j, .int .i64 l, .int .i64 m, vR] 29)
  obtain ⟨W0, hW0⟩ : ∃ W0, W0 = w.alloc (.cells #[.int .i64 5, vA, vB, .int .i64 i, .int .i64 j, .int .i64 l, .int .i64 m, vR] 29) := ⟨_, rfl⟩
  have HB : Hid (∀ W, Below W0.heap.size W0 W → Bo10 W w.heap.size 5 vA vB i j l m vR) := fun W hW => by rw [hW0] at hW; exact bo10_new w 5 vA vB i j l m vR hW
  obtain ⟨mA, nA, SA, hA1, hA2, hA3⟩ := h.a.below a0
  obtain ⟨mB, nB, SB, hB1, hB2, hB3⟩ := h.b.below a0
  rw [← hW0] at hA1 hB1 a0
  have bd : Below W0.heap.size W0 W0.drew := (Below.refl _ _).drew
  have twA : ∀ W, Below W0.heap.size W0 W → Calls Try.prog 12 #[vA] W fun e w1 => ∃ t, e = .returned t ∧ Lb w1 t mA nA SA ∧ Below W.heap.size W w1 := fun W hW =>
    (twin10_any vA mA nA SA W (Lb.below hA1 hW) (by omega) (fun i hi => Nat.le_trans (hA3 i hi) (by decide))).mono fun e w1 ⟨he, ht⟩ => ⟨_, he, (ht.cs (by unfold big; omega)).lb, ht.bel⟩
  have twB : ∀ W, Below W0.heap.size W0 W → Calls Try.prog 12 #[vB] W fun e w1 => ∃ t, e = .returned t ∧ Lb w1 t mB nB SB ∧ Below W.heap.size W w1 := fun W hW =>
    (twin10_any vB mB nB SB W (Lb.below hB1 hW) (by omega) (fun i hi => Nat.le_trans (hB3 i hi) (by decide))).mono fun e w1 ⟨he, ht⟩ => ⟨_, he, (ht.cs (by unfold big; omega)).lb, ht.bel⟩
  have c1 : Calls Try.prog 12 #[vA] W0.drew fun e w1 => ∃ t, e = .returned t ∧ (w1.cell? ⟨w.heap.size, 1, none⟩ = some vA ∧ w1.cell? ⟨w.heap.size, 2, none⟩ = some vB) ∧
      Calls Try.prog 12 #[vB] w1 fun e w2 => ∃ s, e = .returned s ∧ (w2.cell? ⟨w.heap.size, 1, none⟩ = some vA ∧ w2.cell? ⟨w.heap.size, 2, none⟩ = some vB) ∧
      Calls Try.prog 24 #[t, s] w2 fun e w3 => ∃ x z, e = .returned (.tuple #[x, .int .i64 z]) ∧ (w3.cell? ⟨w.heap.size, 1, none⟩ = some vA ∧ w3.cell? ⟨w.heap.size, 2, none⟩ = some vB) ∧
      Calls Try.prog 46 #[vA, vB] w3 fun e w4 => ∃ y, e = .returned (.tuple #[y, .int .i64 z]) ∧ Hid (Below w.heap.size w w4) ∧ Hid (Eq10 w4 x y) := by
    refine (twA W0.drew bd).mono fun e w1 ⟨t, he, l1, b1⟩ => ⟨t, he, ⟨(HB.out w1 (bthen10 bd b1)).2.1, (HB.out w1 (bthen10 bd b1)).2.2.1⟩, ?_⟩
    have e1 := bthen10 bd b1
    refine (twB w1 e1).mono fun e w2 ⟨s, he, l2, b2⟩ => ⟨s, he, ⟨(HB.out w2 (bthen10 e1 b2)).2.1, (HB.out w2 (bthen10 e1 b2)).2.2.1⟩, ?_⟩
    have e2 := bthen10 e1 b2
    refine (tw10_mul vA vB t s mA mB nA nB SA SB w2 (Lb.below hA1 e2) (Lb.below hB1 e2) (Lb.below l1 b2) l2).mono fun e w3 ⟨x, z, he, b3, c3⟩ => ⟨x, z, he, ⟨(HB.out w3 (bthen10 e2 b3)).2.1, (HB.out w3 (bthen10 e2 b3)).2.2.1⟩, ?_⟩
    exact c3.mono fun e w4 ⟨y, he, b4, hq⟩ => ⟨y, he, bthen10 a0 (bthen10 e2 b4), hq⟩
  have HW : Hid (W0 = w.alloc (.cells #[.int .i64 5, vA, vB, .int .i64 i, .int .i64 j, .int .i64 l, .int .i64 m, vR] 29)) := hW0
  obtain ⟨y0, y1, y2, y3, y4, y5, y6, y7⟩ := HB.out W0.drew bd
  obtain ⟨v0, v1, v2, v3, v4, v5, v6, v7⟩ := HB.out W0 (Below.refl _ _)
  obtain ⟨xA, nA', cA, rfl⟩ := lm_form h.a
  obtain ⟨xB, nB', cB, rfl⟩ := lm_form h.b
  clear h a0 hA1 hA2 hA3 hB1 hB2 hB3 hW0 twA twB bd
  go_enter Try.func22, Try.ntmps22
  go_upto_region 4 with (fail)
  rw [← HW.out]
  go_wp2
  refine region_planI (fun w' => w'.cell? ⟨w.heap.size, 1, none⟩ = some (.slice xA nA' cA) ∧ w'.cell? ⟨w.heap.size, 2, none⟩ = some (.slice xB nB' cB)) [0, 1, 3, 4, 2, 5, 6, 7, 8, 9, 10, 11] [4, 0, 0, 5] 122 ⟨y1, y2⟩ (by kernel_rfl) (by kernel_rfl) (fun _ a d v _ h => by cases d <;> exact h) ?_
  simp only [atI, List.getElem?_cons_zero, List.getElem?_cons_succ]
  clear y0 y1 y2 y3 y4 y5 y6 y7 v0 v1 v2 v3 v4 v5 v6 v7
  refine planH_step ?A1 rfl (fun w' hS => ?s1) rfl (fun K hK => ?n1)
  case s1 =>
    obtain ⟨g1, g2⟩ := hS
    simp only [List.take_succ_cons, List.take_zero]
    repeat still_step
    exact rfl
  case n1 =>
  go_simp
  go_wp2_with (go_at_call 12; (with_reducible refine c1.mono ?_); rintro e x1 ⟨t, rfl, u1, c2⟩)
  clear c1
  refine hK _ _ u1 ?_
  clear hK K
  refine planH_step ?A2 rfl (fun w' hS => ?s2) rfl (fun K hK => ?n2)
  case s2 =>
    simp only [List.take_zero]
    exact rfl
  case n2 =>
  go_simp
  go_wp2_with (go_at_call 12; (with_reducible refine c2.mono ?_); rintro e x2 ⟨s, rfl, u2, c3⟩)
  clear c2
  refine hK _ _ u2 ?_
  clear hK K
  refine planH_step ?A3 rfl (fun w' hS => ?s3) rfl (fun K hK => ?n3)
  case s3 =>
    simp only [List.take_zero]
    exact rfl
  case n3 =>
  go_simp
  go_wp2_with (go_at_call 24; (with_reducible refine c3.mono ?_); rintro e x3 ⟨x, z, rfl, u3, c4⟩)
  clear c3
  refine hK _ _ u3 ?_
  clear hK K
  refine planH_last ?A4 rfl (fun w' hS => ?s4) rfl ?n4
  case s4 =>
    simp only [List.take_succ_cons, List.take_zero]
    repeat still_step
    exact rfl
  case n4 =>
  obtain ⟨q1, q2⟩ := u3
  go_wp2_with (first
    | (go_at_call 46; (with_reducible refine c4.mono ?_); rintro e w4 ⟨y, rfl, HC, HQ⟩; have c5 := eq10_same HQ; clear c4)
    | (go_at_call 14; (with_reducible refine c5.mono ?_); rintro e w5 ⟨rfl, q, rfl⟩; clear c5))
  go_ret
  exact ⟨rfl, below_drewM HC.out q⟩
set_option maxHeartbeats 4000000 in
set_option maxRecDepth 100000 in
theorem parts10_aug (k : Int) (vA vB : Value) (i j l m : Int) (vR : Value) (w : World) (h : In10 w vA vB vR j) (d5 : (k == 5) = false) (d6 : (k == 6) = false) (d7 : (k == 7) = false) (d8 : (k == 8) = false) :
    Calls Try.prog 22 #[.agg #[.int .i64 k, vA, vB, .int .i64 i, .int .i64 j, .int .i64 l, .int .i64 m, vR]] w fun e w' => e = .returned (.bool true) ∧ Below w.heap.size w w' := by
  have a0 := balloc10 w (.cells #[.int .i64 k, vA, vB, .int .i64 i, .int .i64 j, .int .i64 l, .int .i64 m, vR] 29)
  obtain ⟨W0, hW0⟩ : ∃ W0, W0 = w.alloc (.cells #[.int .i64 k, vA, vB, .int .i64 i, .int .i64 j, .int .i64 l, .int .i64 m, vR] 29) := ⟨_, rfl⟩
  have HB : Hid (∀ W, Below W0.heap.size W0 W → Bo10 W w.heap.size k vA vB i j l m vR) := fun W hW => by rw [hW0] at hW; exact bo10_new w k vA vB i j l m vR hW
  obtain ⟨mA, nA, SA, hA1, hA2, hA3⟩ := h.a.below a0
  obtain ⟨mB, nB, SB, hB1, hB2, hB3⟩ := h.b.below a0
  rw [← hW0] at hA1 hB1 a0
  have bd : Below W0.heap.size W0 W0.drew := (Below.refl _ _).drew
  have twA : ∀ W, Below W0.heap.size W0 W → Calls Try.prog 12 #[vA] W fun e w1 => ∃ t, e = .returned t ∧ Lb w1 t mA nA SA ∧ Below W.heap.size W w1 := fun W hW =>
    (twin10_any vA mA nA SA W (Lb.below hA1 hW) (by omega) (fun i hi => Nat.le_trans (hA3 i hi) (by decide))).mono fun e w1 ⟨he, ht⟩ => ⟨_, he, (ht.cs (by unfold big; omega)).lb, ht.bel⟩
  have twB : ∀ W, Below W0.heap.size W0 W → Calls Try.prog 12 #[vB] W fun e w1 => ∃ t, e = .returned t ∧ Lb w1 t mB nB SB ∧ Below W.heap.size W w1 := fun W hW =>
    (twin10_any vB mB nB SB W (Lb.below hB1 hW) (by omega) (fun i hi => Nat.le_trans (hB3 i hi) (by decide))).mono fun e w1 ⟨he, ht⟩ => ⟨_, he, (ht.cs (by unfold big; omega)).lb, ht.bel⟩
  have c1 : Calls Try.prog 12 #[vA] W0.drew fun e w1 => ∃ t, e = .returned t ∧ (w1.cell? ⟨w.heap.size, 1, none⟩ = some vA ∧ w1.cell? ⟨w.heap.size, 2, none⟩ = some vB) ∧
      Calls Try.prog 12 #[vB] w1 fun e w2 => ∃ s, e = .returned s ∧ (w2.cell? ⟨w.heap.size, 1, none⟩ = some vA ∧ w2.cell? ⟨w.heap.size, 2, none⟩ = some vB) ∧
      Calls Try.prog 28 #[t, s] w2 fun e w3 => ∃ x z, e = .returned (.tuple #[x, .int .i64 z]) ∧ (w3.cell? ⟨w.heap.size, 1, none⟩ = some vA ∧ w3.cell? ⟨w.heap.size, 2, none⟩ = some vB) ∧
      Calls Try.prog 50 #[vA, vB] w3 fun e w4 => ∃ y, e = .returned (.tuple #[y, .int .i64 z]) ∧ Hid (Below w.heap.size w w4) ∧ Hid (Eq10 w4 x y) := by
    refine (twA W0.drew bd).mono fun e w1 ⟨t, he, l1, b1⟩ => ⟨t, he, ⟨(HB.out w1 (bthen10 bd b1)).2.1, (HB.out w1 (bthen10 bd b1)).2.2.1⟩, ?_⟩
    have e1 := bthen10 bd b1
    refine (twB w1 e1).mono fun e w2 ⟨s, he, l2, b2⟩ => ⟨s, he, ⟨(HB.out w2 (bthen10 e1 b2)).2.1, (HB.out w2 (bthen10 e1 b2)).2.2.1⟩, ?_⟩
    have e2 := bthen10 e1 b2
    refine (tw10_aug vA vB t s mA mB nA nB SA SB w2 (Lb.below hA1 e2) (Lb.below hB1 e2) (Lb.below l1 b2) l2).mono fun e w3 ⟨x, z, he, b3, c3⟩ => ⟨x, z, he, ⟨(HB.out w3 (bthen10 e2 b3)).2.1, (HB.out w3 (bthen10 e2 b3)).2.2.1⟩, ?_⟩
    exact c3.mono fun e w4 ⟨y, he, b4, hq⟩ => ⟨y, he, bthen10 a0 (bthen10 e2 b4), hq⟩
  have HW : Hid (W0 = w.alloc (.cells #[.int .i64 k, vA, vB, .int .i64 i, .int .i64 j, .int .i64 l, .int .i64 m, vR] 29)) := hW0
  obtain ⟨y0, y1, y2, y3, y4, y5, y6, y7⟩ := HB.out W0.drew bd
  obtain ⟨v0, v1, v2, v3, v4, v5, v6, v7⟩ := HB.out W0 (Below.refl _ _)
  obtain ⟨xA, nA', cA, rfl⟩ := lm_form h.a
  obtain ⟨xB, nB', cB, rfl⟩ := lm_form h.b
  clear h a0 hA1 hA2 hA3 hB1 hB2 hB3 hW0 twA twB bd
  go_enter Try.func22, Try.ntmps22
  go_upto_region 4 with (fail)
  rw [← HW.out]
  go_wp2
  refine region_planI (fun w' => w'.cell? ⟨w.heap.size, 1, none⟩ = some (.slice xA nA' cA) ∧ w'.cell? ⟨w.heap.size, 2, none⟩ = some (.slice xB nB' cB)) [0, 1, 3, 4, 2, 5, 6, 7, 8, 9, 10, 11] [4, 0, 0, 5] 122 ⟨y1, y2⟩ (by kernel_rfl) (by kernel_rfl) (fun _ a d v _ h => by cases d <;> exact h) ?_
  simp only [atI, List.getElem?_cons_zero, List.getElem?_cons_succ]
  clear y0 y1 y2 y3 y4 y5 y6 y7 v0 v1 v2 v3 v4 v5 v6 v7
  refine planH_step ?A1 rfl (fun w' hS => ?s1) rfl (fun K hK => ?n1)
  case s1 =>
    obtain ⟨g1, g2⟩ := hS
    simp only [List.take_succ_cons, List.take_zero]
    repeat still_step
    exact rfl
  case n1 =>
  go_simp
  go_wp2_with (go_at_call 12; (with_reducible refine c1.mono ?_); rintro e x1 ⟨t, rfl, u1, c2⟩)
  clear c1
  refine hK _ _ u1 ?_
  clear hK K
  refine planH_step ?A2 rfl (fun w' hS => ?s2) rfl (fun K hK => ?n2)
  case s2 =>
    simp only [List.take_zero]
    exact rfl
  case n2 =>
  go_simp
  go_wp2_with (go_at_call 12; (with_reducible refine c2.mono ?_); rintro e x2 ⟨s, rfl, u2, c3⟩)
  clear c2
  refine hK _ _ u2 ?_
  clear hK K
  refine planH_step ?A3 rfl (fun w' hS => ?s3) rfl (fun K hK => ?n3)
  case s3 =>
    simp only [List.take_zero]
    exact rfl
  case n3 =>
  go_simp
  go_wp2_with (go_at_call 28; (with_reducible refine c3.mono ?_); rintro e x3 ⟨x, z, rfl, u3, c4⟩)
  clear c3
  refine hK _ _ u3 ?_
  clear hK K
  refine planH_last ?A4 rfl (fun w' hS => ?s4) rfl ?n4
  case s4 =>
    simp only [List.take_succ_cons, List.take_zero]
    repeat still_step
    exact rfl
  case n4 =>
  obtain ⟨q1, q2⟩ := u3
  go_wp2_with (first
    | (go_at_call 50; (with_reducible refine c4.mono ?_); rintro e w4 ⟨y, rfl, HC, HQ⟩; have c5 := eq10_same HQ; clear c4)
    | (go_at_call 14; (with_reducible refine c5.mono ?_); rintro e w5 ⟨rfl, q, rfl⟩; clear c5))
  go_ret
  exact ⟨rfl, below_drewM HC.out q⟩
set_option maxHeartbeats 4000000 in
set_option maxRecDepth 100000 in
theorem parts10_trans (k : Int) (vA vB : Value) (i j l m : Int) (vR : Value) (w : World) (h : In10 w vA vB vR j) :
    Calls Try.prog 22 #[.agg #[.int .i64 6, vA, vB, .int .i64 i, .int .i64 j, .int .i64 l, .int .i64 m, vR]] w fun e w' => e = .returned (.bool true) ∧ Below w.heap.size w w' := by
  have a0 := balloc10 w (.cells #[.int .i64 6, vA, vB, .int .i64 i, .int .i64 j, .int .i64 l, .int .i64 m, vR] 29)
  obtain ⟨W0, hW0⟩ : ∃ W0, W0 = w.alloc (.cells #[.int .i64 6, vA, vB, .int .i64 i, .int .i64 j, .int .i64 l, .int .i64 m, vR] 29) := ⟨_, rfl⟩
  have HB : Hid (∀ W, Below W0.heap.size W0 W → Bo10 W w.heap.size 6 vA vB i j l m vR) := fun W hW => by rw [hW0] at hW; exact bo10_new w 6 vA vB i j l m vR hW
  obtain ⟨mA, nA, SA, hA1, hA2, hA3⟩ := h.a.below a0
  obtain ⟨mB, nB, SB, hB1, hB2, hB3⟩ := h.b.below a0
  rw [← hW0] at hA1 hB1 a0
  have bd : Below W0.heap.size W0 W0.drew := (Below.refl _ _).drew
  have twA : ∀ W, Below W0.heap.size W0 W → Calls Try.prog 12 #[vA] W fun e w1 => ∃ t, e = .returned t ∧ Lb w1 t mA nA SA ∧ Below W.heap.size W w1 := fun W hW =>
    (twin10_any vA mA nA SA W (Lb.below hA1 hW) (by omega) (fun i hi => Nat.le_trans (hA3 i hi) (by decide))).mono fun e w1 ⟨he, ht⟩ => ⟨_, he, (ht.cs (by unfold big; omega)).lb, ht.bel⟩
  have twB : ∀ W, Below W0.heap.size W0 W → Calls Try.prog 12 #[vB] W fun e w1 => ∃ t, e = .returned t ∧ Lb w1 t mB nB SB ∧ Below W.heap.size W w1 := fun W hW =>
    (twin10_any vB mB nB SB W (Lb.below hB1 hW) (by omega) (fun i hi => Nat.le_trans (hB3 i hi) (by decide))).mono fun e w1 ⟨he, ht⟩ => ⟨_, he, (ht.cs (by unfold big; omega)).lb, ht.bel⟩
  have c1 : Calls Try.prog 12 #[vA] W0 fun e w1 => ∃ t, e = .returned t ∧
      Calls Try.prog 25 #[t] w1 fun e w3 => ∃ x z, e = .returned (.tuple #[x, .int .i64 z]) ∧ w3.cell? ⟨w.heap.size, 1, none⟩ = some vA ∧
      Calls Try.prog 47 #[vA] w3 fun e w4 => ∃ y, e = .returned (.tuple #[y, .int .i64 z]) ∧ Hid (Below w.heap.size w w4) ∧ Hid (Eq10 w4 x y) := by
    refine (twA W0 (Below.refl _ _)).mono fun e w1 ⟨t, he, l1, b1⟩ => ⟨t, he, ?_⟩
    refine (tw10_trans vA t mA nA SA w1 (Lb.below hA1 b1) l1).mono fun e w3 ⟨x, z, he, b3, c3⟩ => ⟨x, z, he, (HB.out w3 (bthen10 b1 b3)).2.1, ?_⟩
    exact c3.mono fun e w4 ⟨y, he, b4, hq⟩ => ⟨y, he, bthen10 a0 (bthen10 b1 b4), hq⟩
  have HW : Hid (W0 = w.alloc (.cells #[.int .i64 6, vA, vB, .int .i64 i, .int .i64 j, .int .i64 l, .int .i64 m, vR] 29)) := hW0
  obtain ⟨y0, y1, y2, y3, y4, y5, y6, y7⟩ := HB.out W0.drew bd
  obtain ⟨v0, v1, v2, v3, v4, v5, v6, v7⟩ := HB.out W0 (Below.refl _ _)
  obtain ⟨xA, nA', cA, rfl⟩ := lm_form h.a
  obtain ⟨xB, nB', cB, rfl⟩ := lm_form h.b
  clear h a0 hA1 hA2 hA3 hB1 hB2 hB3 hW0 twA twB bd
  go_enter Try.func22, Try.ntmps22
  go_upto_region 4 with (fail)
  rw [← HW.out]
  clear y0 y1 y2 y3 y4 y5 y6 y7
  go_wp2_with (first
    | (go_at_call 12; (with_reducible refine c1.mono ?_); rintro e w1 ⟨t, rfl, c2⟩; clear c1)
    | (go_at_call 25; (with_reducible refine c2.mono ?_); rintro e w3 ⟨x, z, rfl, u3, c4⟩; clear c2)
    | (go_at_call 47; (with_reducible refine c4.mono ?_); rintro e w4 ⟨y, rfl, HC, HQ⟩; have c5 := eq10_same HQ; clear c4)
    | (go_at_call 14; (with_reducible refine c5.mono ?_); rintro e w5 ⟨rfl, q, rfl⟩; clear c5))
  go_ret
  exact ⟨rfl, below_drewM HC.out q⟩
set_option maxHeartbeats 4000000 in
set_option maxRecDepth 100000 in
theorem parts10_sub (k : Int) (vA vB : Value) (i j l m : Int) (vR : Value) (w : World) (h : In10 w vA vB vR j) :
    Calls Try.prog 22 #[.agg #[.int .i64 7, vA, vB, .int .i64 i, .int .i64 j, .int .i64 l, .int .i64 m, vR]] w fun e w' => e = .returned (.bool true) ∧ Below w.heap.size w w' := by
  have a0 := balloc10 w (.cells #[.int .i64 7, vA, vB, .int .i64 i, .int .i64 j, .int .i64 l, .int .i64 m, vR] 29)
  obtain ⟨W0, hW0⟩ : ∃ W0, W0 = w.alloc (.cells #[.int .i64 7, vA, vB, .int .i64 i, .int .i64 j, .int .i64 l, .int .i64 m, vR] 29) := ⟨_, rfl⟩
  have HB : Hid (∀ W, Below W0.heap.size W0 W → Bo10 W w.heap.size 7 vA vB i j l m vR) := fun W hW => by rw [hW0] at hW; exact bo10_new w 7 vA vB i j l m vR hW
  obtain ⟨mA, nA, SA, hA1, hA2, hA3⟩ := h.a.below a0
  obtain ⟨mB, nB, SB, hB1, hB2, hB3⟩ := h.b.below a0
  rw [← hW0] at hA1 hB1 a0
  have bd : Below W0.heap.size W0 W0.drew := (Below.refl _ _).drew
  have twA : ∀ W, Below W0.heap.size W0 W → Calls Try.prog 12 #[vA] W fun e w1 => ∃ t, e = .returned t ∧ Lb w1 t mA nA SA ∧ Below W.heap.size W w1 := fun W hW =>
    (twin10_any vA mA nA SA W (Lb.below hA1 hW) (by omega) (fun i hi => Nat.le_trans (hA3 i hi) (by decide))).mono fun e w1 ⟨he, ht⟩ => ⟨_, he, (ht.cs (by unfold big; omega)).lb, ht.bel⟩
  have twB : ∀ W, Below W0.heap.size W0 W → Calls Try.prog 12 #[vB] W fun e w1 => ∃ t, e = .returned t ∧ Lb w1 t mB nB SB ∧ Below W.heap.size W w1 := fun W hW =>
    (twin10_any vB mB nB SB W (Lb.below hB1 hW) (by omega) (fun i hi => Nat.le_trans (hB3 i hi) (by decide))).mono fun e w1 ⟨he, ht⟩ => ⟨_, he, (ht.cs (by unfold big; omega)).lb, ht.bel⟩
  have c1 : Calls Try.prog 12 #[vA] W0.drew fun e w1 => ∃ t, e = .returned t ∧ (w1.cell? ⟨w.heap.size, 1, none⟩ = some vA ∧ w1.cell? ⟨w.heap.size, 3, none⟩ = some (.int .i64 i) ∧ w1.cell? ⟨w.heap.size, 4, none⟩ = some (.int .i64 j) ∧ w1.cell? ⟨w.heap.size, 5, none⟩ = some (.int .i64 l) ∧ w1.cell? ⟨w.heap.size, 6, none⟩ = some (.int .i64 m)) ∧
      Calls Try.prog 26 #[t, .int .i64 i, .int .i64 j, .int .i64 l, .int .i64 m] w1 fun e w3 => ∃ x z, e = .returned (.tuple #[x, .int .i64 z]) ∧ (w3.cell? ⟨w.heap.size, 1, none⟩ = some vA ∧ w3.cell? ⟨w.heap.size, 3, none⟩ = some (.int .i64 i) ∧ w3.cell? ⟨w.heap.size, 4, none⟩ = some (.int .i64 j) ∧ w3.cell? ⟨w.heap.size, 5, none⟩ = some (.int .i64 l) ∧ w3.cell? ⟨w.heap.size, 6, none⟩ = some (.int .i64 m)) ∧
      Calls Try.prog 48 #[vA, .int .i64 i, .int .i64 j, .int .i64 l, .int .i64 m] w3 fun e w4 => ∃ y, e = .returned (.tuple #[y, .int .i64 z]) ∧ Hid (Below w.heap.size w w4) ∧ Hid (Eq10 w4 x y) := by
    refine (twA W0.drew bd).mono fun e w1 ⟨t, he, l1, b1⟩ => ⟨t, he, (by obtain ⟨a0, a1, a2, a3, a4, a5, a6, a7⟩ := HB.out _ (bthen10 bd b1); exact ⟨a1, a3, a4, a5, a6⟩), ?_⟩
    have e1 := bthen10 bd b1
    refine (tw10_sub vA t mA nA SA i j l m w1 (Lb.below hA1 e1) l1).mono fun e w3 ⟨x, z, he, b3, c3⟩ => ⟨x, z, he, (by obtain ⟨a0, a1, a2, a3, a4, a5, a6, a7⟩ := HB.out _ (bthen10 e1 b3); exact ⟨a1, a3, a4, a5, a6⟩), ?_⟩
    exact c3.mono fun e w4 ⟨y, he, b4, hq⟩ => ⟨y, he, bthen10 a0 (bthen10 e1 b4), hq⟩
  have HW : Hid (W0 = w.alloc (.cells #[.int .i64 7, vA, vB, .int .i64 i, .int .i64 j, .int .i64 l, .int .i64 m, vR] 29)) := hW0
  obtain ⟨y0, y1, y2, y3, y4, y5, y6, y7⟩ := HB.out W0.drew bd
  obtain ⟨v0, v1, v2, v3, v4, v5, v6, v7⟩ := HB.out W0 (Below.refl _ _)
  obtain ⟨xA, nA', cA, rfl⟩ := lm_form h.a
  obtain ⟨xB, nB', cB, rfl⟩ := lm_form h.b
  clear h a0 hA1 hA2 hA3 hB1 hB2 hB3 hW0 twA twB bd
  go_enter Try.func22, Try.ntmps22
  go_upto_region 4 with (fail)
  rw [← HW.out]
  go_wp2
  refine region_planI (fun w' => w'.cell? ⟨w.heap.size, 1, none⟩ = some (.slice xA nA' cA) ∧ w'.cell? ⟨w.heap.size, 3, none⟩ = some (.int .i64 i) ∧ w'.cell? ⟨w.heap.size, 4, none⟩ = some (.int .i64 j) ∧ w'.cell? ⟨w.heap.size, 5, none⟩ = some (.int .i64 l) ∧ w'.cell? ⟨w.heap.size, 6, none⟩ = some (.int .i64 m)) [0, 1, 3, 4, 5, 6, 7, 8, 9, 10, 2, 11, 12, 13, 14, 15, 16] [10, 0, 5] 122 ⟨y1, y3, y4, y5, y6⟩ (by kernel_rfl) (by kernel_rfl) (fun _ a d v _ h => by cases d <;> exact h) ?_
  simp only [atI, List.getElem?_cons_zero, List.getElem?_cons_succ]
  clear y0 y1 y2 y3 y4 y5 y6 y7 v0 v1 v2 v3 v4 v5 v6 v7
  refine planH_step ?A1 rfl (fun w' hS => ?s1) rfl (fun K hK => ?n1)
  case s1 =>
    obtain ⟨g1, g2, g3, g4, g5⟩ := hS
    simp only [List.take_succ_cons, List.take_zero]
    repeat still_step
    exact rfl
  case n1 =>
  go_simp
  go_wp2_with (go_at_call 12; (with_reducible refine c1.mono ?_); rintro e x1 ⟨t, rfl, u1, c2⟩)
  clear c1
  refine hK _ _ u1 ?_
  clear hK K
  refine planH_step ?A2 rfl (fun w' hS => ?s2) rfl (fun K hK => ?n2)
  case s2 =>
    simp only [List.take_zero]
    exact rfl
  case n2 =>
  go_simp
  go_wp2_with (go_at_call 26; (with_reducible refine c2.mono ?_); rintro e x2 ⟨x, z, rfl, u3, c4⟩)
  clear c2
  refine hK _ _ u3 ?_
  clear hK K
  refine planH_last ?A4 rfl (fun w' hS => ?s4) rfl ?n4
  case s4 =>
    simp only [List.take_succ_cons, List.take_zero]
    repeat still_step
    exact rfl
  case n4 =>
  obtain ⟨q1, q2, q3, q4, q5⟩ := u3
  go_wp2_with (first
    | (go_at_call 48; (with_reducible refine c4.mono ?_); rintro e w4 ⟨y, rfl, HC, HQ⟩; have c5 := eq10_same HQ; clear c4)
    | (go_at_call 14; (with_reducible refine c5.mono ?_); rintro e w5 ⟨rfl, q, rfl⟩; clear c5))
  go_ret
  exact ⟨rfl, below_drewM HC.out q⟩
end Go.Proofs.Ytdnhidachdjgaaa
