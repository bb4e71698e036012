import Derived.Test.YtdnhidachdjgaaaMka
import Derived.Test.YtdnhidachdjgaaaMrc
import Derived.Test.YtdnhidachdjgaaaEsk
import Derived.Test.YtdnhidachdjgaaaMof
import Derived.Deep.CutRange
namespace Go.Proofs.Ytdnhidachdjgaaa
open Go.RowKit Gf2
set_option linter.unusedVariables false

-- layer 10: makes (laid by wip/genmkb.py)
theorem lb_nil10 (w : World) : Lb w (.slice none 0 0) 0 (fun _ => 0) (fun _ _ => 0) := ⟨fun _ => .slice none 0 0, ⟨by unfold big; omega, none, 0, rfl, by omega, by unfold big; omega, fun h => absurd h (Nat.lt_irrefl _)⟩, fun i hi => absurd hi (Nat.not_lt_zero _)⟩
/-- two matrices that hold the same. -/
def Eq10 (w : World) (x y : Value) : Prop := ∃ m n F, Lb w x m n F ∧ Lb w y m n F
theorem eq10_same {w : World} {x y : Value} (h : Hid (Eq10 w x y)) : Calls Try.prog 14 #[x, y] w fun e w' => e = .returned (.bool true) ∧ ∃ q, w' = w.drewN q := by
  obtain ⟨m, n, F, h1, h2⟩ := h.out
  exact same10_true x y m n F F w h1 h2 (fun _ _ _ _ => rfl)
theorem ans_two {W w1 w2 : World} {x y : Value} {m c : Nat} {S : Nat → Nat → Nat} (h1 : Ans W w1 x m c S) (h2 : Ans w1 w2 y m c S) : Below W.heap.size W w2 ∧ Hid (Eq10 w2 x y) :=
  ⟨bthen10 h1.2 h2.2, m, fun _ => c, S, Lb.below h1.lb h2.2, h2.lb⟩
theorem tw10_ident (i : Int) (W : World) :
    Calls Try.prog 33 #[.int .i64 i] W fun e w1 => ∃ x z, e = .returned (.tuple #[x, .int .i64 z]) ∧ Below W.heap.size W w1 ∧
      Calls Try.prog 43 #[.int .i64 i] w1 fun e w2 => ∃ y, e = .returned (.tuple #[y, .int .i64 z]) ∧ Below W.heap.size W w2 ∧ Hid (Eq10 w2 x y) := by
  by_cases h : i < 1 ∨ 256 < i
  · refine (ident10_no i W h).mono fun e w1 ⟨he, hw⟩ => ⟨_, 100, he, by rw [hw]; exact Below.refl _ _, ?_⟩
    rw [hw]
    exact (rident10_no i W h).mono fun e w2 ⟨he, hw⟩ => ⟨_, he, by rw [hw]; exact Below.refl _ _, 0, _, _, lb_nil10 _, lb_nil10 _⟩
  · obtain ⟨n, rfl⟩ := Int.eq_ofNat_of_zero_le (show 0 ≤ i by omega)
    refine (ident10_yes n W (by omega) (by omega)).mono fun e w1 ⟨x, he, h1⟩ => ⟨x, 0, he, h1.2, ?_⟩
    exact (rident10_yes n w1 (by omega) (by omega)).mono fun e w2 ⟨y, he, h2⟩ => ⟨y, he, ans_two h1 h2⟩
theorem tw10_vander (i j : Int) (W : World) :
    Calls Try.prog 20 #[.int .i64 i, .int .i64 j] W fun e w1 => ∃ x z, e = .returned (.tuple #[x, .int .i64 z]) ∧ Below W.heap.size W w1 ∧
      Calls Try.prog 44 #[.int .i64 i, .int .i64 j] w1 fun e w2 => ∃ y, e = .returned (.tuple #[y, .int .i64 z]) ∧ Below W.heap.size W w2 ∧ Hid (Eq10 w2 x y) := by
  by_cases h : i < 1 ∨ 256 < i ∨ j < 1 ∨ 512 < j
  · refine (vander10_no i j W h).mono fun e w1 ⟨he, hw⟩ => ⟨_, 100, he, by rw [hw]; exact Below.refl _ _, ?_⟩
    rw [hw]
    exact (rvander10_no i j W h).mono fun e w2 ⟨he, hw⟩ => ⟨_, he, by rw [hw]; exact Below.refl _ _, 0, _, _, lb_nil10 _, lb_nil10 _⟩
  · obtain ⟨n, rfl⟩ := Int.eq_ofNat_of_zero_le (show 0 ≤ i by omega)
    obtain ⟨k, rfl⟩ := Int.eq_ofNat_of_zero_le (show 0 ≤ j by omega)
    refine (vander10_yes n k W (by omega) (by omega) (by omega) (by omega)).mono fun e w1 ⟨x, he, h1⟩ => ⟨x, 0, he, h1.2, ?_⟩
    exact (rvander10_yes n k w1 (by omega) (by omega) (by omega) (by omega)).mono fun e w2 ⟨y, he, h2⟩ => ⟨y, he, ans_two h1 h2⟩
theorem tw10_cauchy (i j : Int) (W : World) (hj : j ≤ 9223372036854775807) :
    Calls Try.prog 19 #[.int .i64 i, .int .i64 j] W fun e w1 => ∃ x z, e = .returned (.tuple #[x, .int .i64 z]) ∧ Below W.heap.size W w1 ∧
      Calls Try.prog 45 #[.int .i64 i, .int .i64 j] w1 fun e w2 => ∃ y, e = .returned (.tuple #[y, .int .i64 z]) ∧ Below W.heap.size W w2 ∧ Hid (Eq10 w2 x y) := by
  by_cases h : i < 1 ∨ j < 1 ∨ 256 < i + j
  · refine (cauchy10_no i j W hj h).mono fun e w1 ⟨he, hw⟩ => ⟨_, 100, he, by rw [hw]; exact Below.refl _ _, ?_⟩
    rw [hw]
    exact (rcauchy10_no i j W h).mono fun e w2 ⟨he, hw⟩ => ⟨_, he, by rw [hw]; exact Below.refl _ _, 0, _, _, lb_nil10 _, lb_nil10 _⟩
  · obtain ⟨n, rfl⟩ := Int.eq_ofNat_of_zero_le (show 0 ≤ i by omega)
    obtain ⟨k, rfl⟩ := Int.eq_ofNat_of_zero_le (show 0 ≤ j by omega)
    refine (cauchy10_yes n k W (by omega) (by omega) (by omega)).mono fun e w1 ⟨x, he, h1⟩ => ⟨x, 0, he, h1.2, ?_⟩
    exact (rcauchy10_yes n k w1 (by omega) (by omega) (by omega)).mono fun e w2 ⟨y, he, h2⟩ => ⟨y, he, ans_two h1 h2⟩
/-- what a step came in with. -/
structure In10 (W : World) (vA vB vR : Value) (j : Int) : Prop where
  a : Lm9 W vA
  b : Lm9 W vB
  j : j ≤ 9223372036854775807
  r : ∃ x n c R, vR = .slice x n c ∧ Qi W vR n R ∧ 8 * n ≤ 140737488351232
theorem In10.below {W W' : World} {vA vB vR : Value} {j : Int} (h : In10 W vA vB vR j) (hb : Below W.heap.size W W') : In10 W' vA vB vR j := ⟨h.a.below hb, h.b.below hb, h.j, by obtain ⟨x, n, c, R, h1, h2, h3⟩ := h.r; exact ⟨x, n, c, R, h1, h2.below hb, h3⟩⟩
theorem below_drewM {B : Nat} {w w' : World} (h : Below B w w') (m : Nat) : Below B w (w'.drewN m) := by
  induction m with
  | zero => exact h
  | succ m ih => exact ih.drew
set_option maxHeartbeats 2000000 in
set_option maxRecDepth 100000 in
theorem makes10_ident (k : Int) (vA vB : Value) (i j l m : Int) (vR : Value) (w : World) (h : In10 w vA vB vR j)  :
    Calls Try.prog 21 #[.agg #[.int .i64 2, vA, vB, .int .i64 i, .int .i64 j, .int .i64 l, .int .i64 m, vR]] w fun e w' => e = .returned (.bool true) ∧ Below w.heap.size w w' := by
  have a0 := balloc10 w (.cells #[.int .i64 2, vA, vB, .int .i64 i, .int .i64 j, .int .i64 l, .int .i64 m, vR] 29)
  have HB : Hid (∀ W, Below (w.alloc (.cells #[.int .i64 2, vA, vB, .int .i64 i, .int .i64 j, .int .i64 l, .int .i64 m, vR] 29)).heap.size (w.alloc (.cells #[.int .i64 2, vA, vB, .int .i64 i, .int .i64 j, .int .i64 l, .int .i64 m, vR] 29)) W → Bo10 W w.heap.size 2 vA vB i j l m vR) := fun W hW => bo10_new w 2 vA vB i j l m vR hW
  obtain ⟨y0, y1, y2, y3, y4, -⟩ := HB.out _ (Below.refl _ _)
  have c1 := tw10_ident i (w.alloc (.cells #[.int .i64 2, vA, vB, .int .i64 i, .int .i64 j, .int .i64 l, .int .i64 m, vR] 29))
  have HA : Hid (Below w.heap.size w (w.alloc (.cells #[.int .i64 2, vA, vB, .int .i64 i, .int .i64 j, .int .i64 l, .int .i64 m, vR] 29))) := a0
  obtain ⟨xA, nA, cA, rfl⟩ := lm_form h.a
  obtain ⟨xB, nB, cB, rfl⟩ := lm_form h.b
  clear h a0
  go_enter Try.func21, Try.ntmps21
  go_wp2_with (first
    | (go_at_call 33; (with_reducible refine c1.mono ?_); rintro e w1 ⟨x, z, rfl, b1, c2⟩; obtain ⟨z0, z1, z2, z3, z4, -⟩ := HB.out w1 b1; clear c1 b1)
    | (go_at_call 43; (with_reducible refine c2.mono ?_); rintro e w2 ⟨y, rfl, b2, HQ⟩; have HC : Hid (Below w.heap.size w w2) := bthen10 HA.out b2; have c3 := eq10_same HQ; clear c2 b2)
    | (go_at_call 14; (with_reducible refine c3.mono ?_); rintro e w3 ⟨rfl, q, rfl⟩; clear c3))
  go_ret
  exact ⟨rfl, below_drewM HC.out q⟩
set_option maxHeartbeats 2000000 in
set_option maxRecDepth 100000 in
theorem makes10_vander (k : Int) (vA vB : Value) (i j l m : Int) (vR : Value) (w : World) (h : In10 w vA vB vR j)  :
    Calls Try.prog 21 #[.agg #[.int .i64 3, vA, vB, .int .i64 i, .int .i64 j, .int .i64 l, .int .i64 m, vR]] w fun e w' => e = .returned (.bool true) ∧ Below w.heap.size w w' := by
  have a0 := balloc10 w (.cells #[.int .i64 3, vA, vB, .int .i64 i, .int .i64 j, .int .i64 l, .int .i64 m, vR] 29)
  have HB : Hid (∀ W, Below (w.alloc (.cells #[.int .i64 3, vA, vB, .int .i64 i, .int .i64 j, .int .i64 l, .int .i64 m, vR] 29)).heap.size (w.alloc (.cells #[.int .i64 3, vA, vB, .int .i64 i, .int .i64 j, .int .i64 l, .int .i64 m, vR] 29)) W → Bo10 W w.heap.size 3 vA vB i j l m vR) := fun W hW => bo10_new w 3 vA vB i j l m vR hW
  obtain ⟨y0, y1, y2, y3, y4, -⟩ := HB.out _ (Below.refl _ _)
  have c1 := tw10_vander i j (w.alloc (.cells #[.int .i64 3, vA, vB, .int .i64 i, .int .i64 j, .int .i64 l, .int .i64 m, vR] 29))
  have HA : Hid (Below w.heap.size w (w.alloc (.cells #[.int .i64 3, vA, vB, .int .i64 i, .int .i64 j, .int .i64 l, .int .i64 m, vR] 29))) := a0
  obtain ⟨xA, nA, cA, rfl⟩ := lm_form h.a
  obtain ⟨xB, nB, cB, rfl⟩ := lm_form h.b
  clear h a0
  go_enter Try.func21, Try.ntmps21
  go_wp2_with (first
    | (go_at_call 20; (with_reducible refine c1.mono ?_); rintro e w1 ⟨x, z, rfl, b1, c2⟩; obtain ⟨z0, z1, z2, z3, z4, -⟩ := HB.out w1 b1; clear c1 b1)
    | (go_at_call 44; (with_reducible refine c2.mono ?_); rintro e w2 ⟨y, rfl, b2, HQ⟩; have HC : Hid (Below w.heap.size w w2) := bthen10 HA.out b2; have c3 := eq10_same HQ; clear c2 b2)
    | (go_at_call 14; (with_reducible refine c3.mono ?_); rintro e w3 ⟨rfl, q, rfl⟩; clear c3))
  go_ret
  exact ⟨rfl, below_drewM HC.out q⟩
set_option maxHeartbeats 2000000 in
set_option maxRecDepth 100000 in
theorem makes10_cauchy (k : Int) (vA vB : Value) (i j l m : Int) (vR : Value) (w : World) (h : In10 w vA vB vR j) (d1 : (k == 1) = false) (d2 : (k == 2) = false) (d3 : (k == 3) = false) :
    Calls Try.prog 21 #[.agg #[.int .i64 k, vA, vB, .int .i64 i, .int .i64 j, .int .i64 l, .int .i64 m, vR]] w fun e w' => e = .returned (.bool true) ∧ Below w.heap.size w w' := by
  have a0 := balloc10 w (.cells #[.int .i64 k, vA, vB, .int .i64 i, .int .i64 j, .int .i64 l, .int .i64 m, vR] 29)
  have HB : Hid (∀ W, Below (w.alloc (.cells #[.int .i64 k, vA, vB, .int .i64 i, .int .i64 j, .int .i64 l, .int .i64 m, vR] 29)).heap.size (w.alloc (.cells #[.int .i64 k, vA, vB, .int .i64 i, .int .i64 j, .int .i64 l, .int .i64 m, vR] 29)) W → Bo10 W w.heap.size k vA vB i j l m vR) := fun W hW => bo10_new w k vA vB i j l m vR hW
  obtain ⟨y0, y1, y2, y3, y4, -⟩ := HB.out _ (Below.refl _ _)
  have c1 := tw10_cauchy i j (w.alloc (.cells #[.int .i64 k, vA, vB, .int .i64 i, .int .i64 j, .int .i64 l, .int .i64 m, vR] 29)) h.j
  have HA : Hid (Below w.heap.size w (w.alloc (.cells #[.int .i64 k, vA, vB, .int .i64 i, .int .i64 j, .int .i64 l, .int .i64 m, vR] 29))) := a0
  obtain ⟨xA, nA, cA, rfl⟩ := lm_form h.a
  obtain ⟨xB, nB, cB, rfl⟩ := lm_form h.b
  clear h a0
  go_enter Try.func21, Try.ntmps21
  go_wp2_with (first
    | (go_at_call 19; (with_reducible refine c1.mono ?_); rintro e w1 ⟨x, z, rfl, b1, c2⟩; obtain ⟨z0, z1, z2, z3, z4, -⟩ := HB.out w1 b1; clear c1 b1)
    | (go_at_call 45; (with_reducible refine c2.mono ?_); rintro e w2 ⟨y, rfl, b2, HQ⟩; have HC : Hid (Below w.heap.size w w2) := bthen10 HA.out b2; have c3 := eq10_same HQ; clear c2 b2)
    | (go_at_call 14; (with_reducible refine c3.mono ?_); rintro e w3 ⟨rfl, q, rfl⟩; clear c3))
  go_ret
  exact ⟨rfl, below_drewM HC.out q⟩
theorem rcheck10_yes (v : Value) (m : Nat) (n : Nat → Nat) (S : Nat → Nat → Nat) (w : World) (h : Lb w v m n S) (z : Int) (hz : (z = 0 ∧ Fm m n) ∨ (z = 100 ∧ ¬ Fm m n)) :
    Calls Try.prog 42 #[v] w fun e w' => e = .returned (.int .i64 z) ∧ ∃ q, w' = w.drewN q := by
  refine (rcheck10 v m n S w h).mono fun e w' ⟨⟨e0, he, h1⟩, hq⟩ => ⟨?_, hq⟩
  rw [he]
  rcases hz with ⟨rfl, hf⟩ | ⟨rfl, hf⟩ <;> rcases h1 with ⟨rfl, h2⟩ | ⟨rfl, h2⟩
  · rfl
  · exact absurd hf h2
  · exact absurd h2 hf
  · rfl
theorem check10_z (v : Value) (m : Nat) (n : Nat → Nat) (S : Nat → Nat → Nat) (w : World) (h : Lb w v m n S) (z : Int) (hz : (z = 0 ∧ Fm m n) ∨ (z = 100 ∧ ¬ Fm m n)) :
    Calls Try.prog 34 #[v] w fun e w' => e = .returned (.int .i64 z) ∧ w' = w := by
  rcases hz with ⟨rfl, hf⟩ | ⟨rfl, hf⟩
  · exact check10_yes v m n S w h hf
  · exact check10_no v m n S w h hf
set_option maxHeartbeats 2000000 in
set_option maxRecDepth 100000 in
theorem makes10_check (vA vB : Value) (i j l m : Int) (vR : Value) (w : World) (h : In10 w vA vB vR j) :
    Calls Try.prog 21 #[.agg #[.int .i64 1, vA, vB, .int .i64 i, .int .i64 j, .int .i64 l, .int .i64 m, vR]] w fun e w' => e = .returned (.bool true) ∧ Below w.heap.size w w' := by
  have a0 := balloc10 w (.cells #[.int .i64 1, vA, vB, .int .i64 i, .int .i64 j, .int .i64 l, .int .i64 m, vR] 29)
  obtain ⟨W0, hW0⟩ : ∃ W0, W0 = w.alloc (.cells #[.int .i64 1, vA, vB, .int .i64 i, .int .i64 j, .int .i64 l, .int .i64 m, vR] 29) := ⟨_, rfl⟩
  have HB : Hid (∀ W, Below W0.heap.size W0 W → Bo10 W w.heap.size 1 vA vB i j l m vR) := fun W hW => by rw [hW0] at hW; exact bo10_new w 1 vA vB i j l m vR hW
  obtain ⟨mA, nA, SA, hA1, hA2, hA3⟩ := h.a.below a0
  rw [← hW0] at hA1 a0
  obtain ⟨z, hz⟩ : ∃ z : Int, (z = 0 ∧ Fm mA nA) ∨ (z = 100 ∧ ¬ Fm mA nA) := by
    by_cases hf : Fm mA nA
    · exact ⟨0, .inl ⟨rfl, hf⟩⟩
    · exact ⟨100, .inr ⟨rfl, hf⟩⟩
  have c1 : Calls Try.prog 12 #[vA] W0.drew fun e w1 => ∃ t, e = .returned t ∧ w1.cell? ⟨w.heap.size, 1, none⟩ = some vA ∧
      Calls Try.prog 34 #[t] w1 fun e w2 => e = .returned (.int .i64 z) ∧ w2.cell? ⟨w.heap.size, 1, none⟩ = some vA ∧
      Calls Try.prog 42 #[vA] w2 fun e w3 => e = .returned (.int .i64 z) ∧ w3.cell? ⟨w.heap.size, 1, none⟩ = some vA ∧ Hid (Below w.heap.size w w3) := by
    have bd : Below W0.heap.size W0 W0.drew := (Below.refl _ _).drew
    refine (twin10_any vA mA nA SA W0.drew (Lb.below hA1 bd) (by omega) (fun i hi => Nat.le_trans (hA3 i hi) (by decide))).mono fun e w1 ⟨he, ht⟩ => ⟨_, he, ?_, ?_⟩
    · exact (HB.out w1 (bthen10 bd ht.bel)).2.1
    have b1 : Below W0.heap.size W0 w1 := bthen10 bd ht.bel
    refine (check10_z _ mA nA SA w1 (ht.cs (by unfold big; omega)).lb z hz).mono fun e w2 ⟨he, hw⟩ => ⟨he, ?_, ?_⟩
    · rw [hw]; exact (HB.out w1 b1).2.1
    rw [hw]
    refine (rcheck10_yes vA mA nA SA w1 (Lb.below hA1 b1) z hz).mono fun e w3 ⟨he, q, hw⟩ => ⟨he, ?_, ?_⟩
    · rw [hw]; exact (HB.out _ (below_drewM b1 q)).2.1
    · rw [hw]; exact below_drewM (bthen10 a0 b1) q
  have HW : Hid (W0 = w.alloc (.cells #[.int .i64 1, vA, vB, .int .i64 i, .int .i64 j, .int .i64 l, .int .i64 m, vR] 29)) := hW0
  obtain ⟨y0, y1, -⟩ := HB.out W0 (Below.refl _ _)
  obtain ⟨xA, nA', cA, rfl⟩ := lm_form h.a
  obtain ⟨xB, nB', cB, rfl⟩ := lm_form h.b
  clear h a0 hA1 hA2 hA3 hz hW0
  go_enter Try.func21, Try.ntmps21
  go_upto_region 4 with (fail)
  rw [← HW.out]
  go_wp2
  refine region_planI (fun w' => w'.cell? ⟨w.heap.size, 1, none⟩ = some (.slice xA nA' cA)) [0, 1, 4, 5, 2, 3, 6, 7, 8] [4, 0, 0, 2] 75 y1 (by kernel_rfl) (by kernel_rfl) (fun _ a d v _ h => by cases d <;> exact h) ?_
  simp only [atI, List.getElem?_cons_zero, List.getElem?_cons_succ]
  clear y0 y1
  refine planH_step ?A1 rfl (fun w' hS => ?s1) rfl (fun K hK => ?n1)
  case s1 =>
    have y9 := hS
    simp only [List.take_succ_cons, List.take_zero]
    repeat still_step
    exact rfl
  case n1 =>
  go_simp
  go_wp2_with (go_at_call 12; (with_reducible refine c1.mono ?_); rintro e x1 ⟨t, rfl, u1, c2⟩)
  clear c1
  refine hK _ _ u1 ?_
  clear hK K u1
  refine planH_step ?A2 rfl (fun w' hS => ?s2) rfl (fun K hK => ?n2)
  case s2 =>
    simp only [List.take_zero]
    exact rfl
  case n2 =>
  go_simp
  go_wp2_with (go_at_call 34; (with_reducible refine c2.mono ?_); rintro e x2 ⟨rfl, u2, c3⟩)
  clear c2
  refine hK _ _ u2 ?_
  clear hK K u2
  refine planH_step ?A3 rfl (fun w' hS => ?s3) rfl (fun K hK => ?n3)
  case s3 =>
    simp only [List.take_zero]
    exact rfl
  case n3 =>
  go_simp
  go_wp2_with (go_at_call 42; (with_reducible refine c3.mono ?_); rintro e x3 ⟨rfl, u3, HX⟩)
  clear c3
  refine hK _ _ u3 ?_
  clear hK K u3
  refine planH_last ?A4 rfl (fun w' hS => ?s4) rfl ?n4
  case s4 =>
    simp only [List.take_succ_cons, List.take_zero]
    repeat still_step
    exact rfl
  case n4 =>
  go_wp2
  go_ret
  exact ⟨rfl, HX.out⟩
end Go.Proofs.Ytdnhidachdjgaaa
