import Derived.Test.YtidcdbjhkgpjcaaDoorLbx
import Derived.Test.YtidcdbjhkgpjcaaDoorLak
import Derived.Test.YtidcdbjhkgpjcaaDoorLmf
namespace Go.Proofs.YtidcdbjhkgpjcaaDoor
open Go.RowKit Gf2
set_option linter.unusedVariables false

set_option maxHeartbeats 2000000 in
set_option maxRecDepth 100000 in
theorem refTo13_no (v : Value) (n : Nat) (F : Nat → Nat) (w : World) (h : Q6 w v n F) (hn : ¬ pw2 n 256) :
    Calls Tryd.prog 23 #[v] w fun e w' => e = .returned (.tuple #[.slice none 0 0, .int .i64 130]) ∧ w' = w := by
  obtain ⟨hb0, hF, a, cap, rfl, hc1, hc2, h4⟩ := h
  have c1 : Calls Tryd.prog 39 #[.int .i64 (n : Int), .int .i64 256] w fun e w' => e = .returned (.bool false) ∧ w' = w :=
    (refpower13 n 256 (by decide) w).mono fun e w' ⟨⟨_, h2⟩, hw⟩ => ⟨h2 hn, hw⟩
  clear hb0 hF hc1 hc2 h4 hn
  go_enter Tryd.func23, Tryd.ntmps23
  go_wp2_with (go_at_call 39; ((with_reducible refine (c1).mono ?_); rintro e w' ⟨rfl, rfl⟩))
  go_ret2
  exact ⟨rfl, rfl⟩
set_option maxHeartbeats 2000000 in
set_option maxRecDepth 100000 in
theorem refFrom13_no (v : Value) (n : Nat) (F : Nat → Nat) (w : World) (h : Q6 w v n F) (hn : ¬ pw2 n 256) :
    Calls Tryd.prog 24 #[v] w fun e w' => e = .returned (.tuple #[.slice none 0 0, .int .i64 130]) ∧ w' = w := by
  obtain ⟨hb0, hF, a, cap, rfl, hc1, hc2, h4⟩ := h
  have c1 : Calls Tryd.prog 39 #[.int .i64 (n : Int), .int .i64 256] w fun e w' => e = .returned (.bool false) ∧ w' = w :=
    (refpower13 n 256 (by decide) w).mono fun e w' ⟨⟨_, h2⟩, hw⟩ => ⟨h2 hn, hw⟩
  clear hb0 hF hc1 hc2 h4 hn
  go_enter Tryd.func24, Tryd.ntmps24
  go_wp2_with (go_at_call 39; ((with_reducible refine (c1).mono ?_); rintro e w' ⟨rfl, rfl⟩))
  go_ret2
  exact ⟨rfl, rfl⟩
theorem lists_to (i j : Int) (x : Nat) (d : Option Addr) (n c : Nat) (w : World) (hv : Bm13 w (.slice d n c)) (hT : Tzt w) :
    Calls Tryd.prog 19 #[.slice d n c] (bx13 w 7 i j x (.slice d n c)).drew fun e w1 => ∃ (g : Nat) (a1 : Option Addr) (n1 : Nat) (er : Int), e = .returned (.slice (some ⟨g, 0, none⟩) n n) ∧ (w1.cell? ⟨w.heap.size, 4, none⟩ = some (.slice d n c) ∧ w1.cell? ⟨w.heap.size, 0, none⟩ = some (.int .i64 7)) ∧
      Calls Tryd.prog 21 #[.int .i64 7, .slice (some ⟨g, 0, none⟩) n n] w1 fun e w2 => e = .returned (.tuple #[.slice a1 n1 n1, .int .i64 er]) ∧ (w2.cell? ⟨w.heap.size, 4, none⟩ = some (.slice d n c) ∧ w2.cell? ⟨w.heap.size, 0, none⟩ = some (.int .i64 7)) ∧
      Calls Tryd.prog 23 #[.slice d n c] w2 fun e w3 => ∃ a2 : Option Addr, e = .returned (.tuple #[.slice a2 n1 n1, .int .i64 er]) ∧
      Calls Tryd.prog 9 #[.slice a1 n1 n1, .slice a2 n1 n1] w3 fun e w4 => e = .returned (.bool true) ∧ Hid (Below w.heap.size w w4) := by
  obtain ⟨m, F, hq, hm⟩ := hv
  obtain rfl : n = m := by obtain ⟨-, -, a, cap, e, -⟩ := hq; cases e; rfl
  have b0 := bx13_b w 7 i j x (.slice d n c)
  have b1 : Below w.heap.size w (bx13 w 7 i j x (.slice d n c)).drew := b0.drew
  by_cases hp : pw2 n 256
  · obtain ⟨k, hk, hk2⟩ := hp
    have hk8 : k ≤ 8 := pow_le256 (hk ▸ hk2)
    refine (twin13_any _ n F _ (hq.below b1) (by omega)).mono fun e w1 ⟨he, h1, hb1⟩ => ⟨_, some ⟨w1.heap.size, 0, none⟩, n, 0, he, ?_, ?_⟩
    · have := bx13_cell w 7 i j x (.slice d n c) (below_undraw hb1)
      exact ⟨this.2.2, this.1⟩
    have b2 := bthen13 b1 hb1
    refine (asked13_7 _ _ _ _ _ (tomono13_yes _ k n F hk hk2 w1 h1.all (hT.below b2))).mono fun e w2 ⟨he, h2, hb2⟩ => ⟨he, ?_, ?_⟩
    · have := bx13_cell w 7 i j x (.slice d n c) (bthen13 (below_undraw hb1) hb2)
      exact ⟨this.2.2, this.1⟩
    have b3 := bthen13 b2 hb2
    refine (refTo13_yes _ k n F hk hk8 w2 (hq.below b3)).mono fun e w3 ⟨g3, he, h3, hb3⟩ => ⟨_, he, ?_⟩
    refine (same13_true _ _ n (tol n k F) w3 (h2.below hb3).all (h3.all.congr (fun y hy => (to_bp hk (by omega) hq.2.1 hy).symm))).mono fun e w4 ⟨he, m, hw⟩ => ⟨he, ?_⟩
    rw [hw]
    exact below_drewN (bthen13 b3 hb3) m
  · refine (twin13_any _ n F _ (hq.below b1) (by omega)).mono fun e w1 ⟨he, h1, hb1⟩ => ⟨_, none, 0, 130, he, ?_, ?_⟩
    · have := bx13_cell w 7 i j x (.slice d n c) (below_undraw hb1)
      exact ⟨this.2.2, this.1⟩
    have b2 := bthen13 b1 hb1
    refine (asked13_7 _ _ _ _ _ (tomono13_no _ n F w1 h1.all hp)).mono fun e w2 ⟨he, hw2⟩ => ⟨he, ?_, ?_⟩
    · have := bx13_cell w 7 i j x (.slice d n c) (W := w2) (by rw [hw2]; exact below_undraw hb1)
      exact ⟨this.2.2, this.1⟩
    have b3 : Below w.heap.size w w2 := by rw [hw2]; exact b2
    refine (refTo13_no _ n F w2 (hq.below b3) hp).mono fun e w3 ⟨he, hw3⟩ => ⟨none, he, ?_⟩
    refine (same13_true _ _ 0 (fun _ => 0) w3 (q6_nil' w3) (q6_nil' w3)).mono fun e w4 ⟨he, m, hw⟩ => ⟨he, ?_⟩
    rw [hw, hw3]
    exact below_drewN b3 m
set_option maxHeartbeats 8000000 in
set_option maxRecDepth 100000 in
theorem lists13_7 (i j : Int) (x : Nat) (d : Option Addr) (n c : Nat) (w : World) (hv : Bm13 w (.slice d n c)) (hT : Tzt w) :
    Calls Tryd.prog 7 #[.agg #[.int .i64 7, .int .i64 i, .int .i64 j, .int .u16 (x : Int), .slice d n c]] w fun e w' => e = .returned (.bool true) ∧ Below w.heap.size w w' := by
  have c1 := lists_to i j x d n c w hv hT
  unfold bx13 at c1
  have q0 := bx13_cell w 7 i j x (.slice d n c) (Below.refl _ _)
  unfold bx13 at q0
  obtain ⟨q0, -, q4⟩ := q0
  clear hv hT
  go_enter Tryd.func7, Tryd.ntmps7
  go_wp2
  refine region_planI (fun w' => w'.cell? ⟨w.heap.size, 4, none⟩ = some (.slice d n c) ∧ w'.cell? ⟨w.heap.size, 0, none⟩ = some (.int .i64 7)) [0, 1, 2, 3, 4, 5, 6, 7, 8, 9, 10] [4, 0, 5] 100 ⟨q4, q0⟩ (by kernel_rfl) (by kernel_rfl) (fun _ a d v _ h => by cases d <;> exact h) ?_
  simp only [atI, List.getElem?_cons_zero, List.getElem?_cons_succ]
  refine planH_step ?A1 rfl (fun w' hS => ?s1) rfl (fun K hK => ?n1)
  case s1 =>
    obtain ⟨z4, z3⟩ := hS
    simp only [List.take_succ_cons, List.take_zero]
    repeat still_step
    exact rfl
  case n1 =>
  go_simp
  go_wp2_with (go_at_call 19; (with_reducible refine c1.mono ?_); rintro e x1 ⟨g, a1, n1, er, rfl, hS1, c2⟩)
  refine hK _ _ hS1 ?_
  clear hK K c1 hS1
  refine planH_step ?A2 rfl (fun w' hS => ?s2) rfl (fun K hK => ?n2)
  case s2 =>
    simp only [List.take_zero]
    repeat still_step
    exact rfl
  case n2 =>
  go_simp
  go_wp2_with (go_at_call 21; (with_reducible refine c2.mono ?_); rintro e x2 ⟨rfl, hS2, c3⟩)
  refine hK _ _ hS2 ?_
  clear hK K c2
  obtain ⟨r4, r0⟩ := hS2
  refine planH_last ?A3 rfl (fun w' hS => ?s3) rfl ?n3
  case s3 =>
    simp only [List.take_succ_cons, List.take_zero]
    repeat still_step
    exact rfl
  case n3 =>
  clear q0 q4
  go_wp2_with (first | (go_at_call 23; ((with_reducible refine (c3).mono ?_); (rintro e x3 ⟨a2, rfl, c4⟩))) | (go_at_call 9; ((with_reducible refine (c4).mono ?_); (rintro e x4 ⟨rfl, HB⟩))))
  go_ret
  exact ⟨ret_bool (by simp), HB.out⟩
theorem lists_from (i j : Int) (x : Nat) (d : Option Addr) (n c : Nat) (w : World) (hv : Bm13 w (.slice d n c)) (hT : Tzt w) :
    Calls Tryd.prog 19 #[.slice d n c] (bx13 w 8 i j x (.slice d n c)).drew fun e w1 => ∃ (g : Nat) (a1 : Option Addr) (n1 : Nat) (er : Int), e = .returned (.slice (some ⟨g, 0, none⟩) n n) ∧ (w1.cell? ⟨w.heap.size, 4, none⟩ = some (.slice d n c) ∧ w1.cell? ⟨w.heap.size, 0, none⟩ = some (.int .i64 8)) ∧
      Calls Tryd.prog 21 #[.int .i64 8, .slice (some ⟨g, 0, none⟩) n n] w1 fun e w2 => e = .returned (.tuple #[.slice a1 n1 n1, .int .i64 er]) ∧ (w2.cell? ⟨w.heap.size, 4, none⟩ = some (.slice d n c) ∧ w2.cell? ⟨w.heap.size, 0, none⟩ = some (.int .i64 8)) ∧
      Calls Tryd.prog 24 #[.slice d n c] w2 fun e w3 => ∃ a2 : Option Addr, e = .returned (.tuple #[.slice a2 n1 n1, .int .i64 er]) ∧
      Calls Tryd.prog 9 #[.slice a1 n1 n1, .slice a2 n1 n1] w3 fun e w4 => e = .returned (.bool true) ∧ Hid (Below w.heap.size w w4) := by
  obtain ⟨m, F, hq, hm⟩ := hv
  obtain rfl : n = m := by obtain ⟨-, -, a, cap, e, -⟩ := hq; cases e; rfl
  have b0 := bx13_b w 8 i j x (.slice d n c)
  have b1 : Below w.heap.size w (bx13 w 8 i j x (.slice d n c)).drew := b0.drew
  by_cases hp : pw2 n 256
  · obtain ⟨k, hk, hk2⟩ := hp
    have hk8 : k ≤ 8 := pow_le256 (hk ▸ hk2)
    refine (twin13_any _ n F _ (hq.below b1) (by omega)).mono fun e w1 ⟨he, h1, hb1⟩ => ⟨_, some ⟨w1.heap.size, 0, none⟩, n, 0, he, ?_, ?_⟩
    · have := bx13_cell w 8 i j x (.slice d n c) (below_undraw hb1)
      exact ⟨this.2.2, this.1⟩
    have b2 := bthen13 b1 hb1
    refine (asked13_8 _ _ _ _ _ (frommono13_yes _ k n F hk hk2 w1 h1.all (hT.below b2))).mono fun e w2 ⟨he, h2, hb2⟩ => ⟨he, ?_, ?_⟩
    · have := bx13_cell w 8 i j x (.slice d n c) (bthen13 (below_undraw hb1) hb2)
      exact ⟨this.2.2, this.1⟩
    have b3 := bthen13 b2 hb2
    refine (refFrom13_yes _ k n F hk hk8 (fun y hy => h2.2.1 y hy) w2 (hq.below b3)).mono fun e w3 ⟨g3, he, h3, hb3⟩ => ⟨_, he, ?_⟩
    refine (same13_true _ _ n (fol n k k F) w3 (h2.below hb3).all h3.all).mono fun e w4 ⟨he, m, hw⟩ => ⟨he, ?_⟩
    rw [hw]
    exact below_drewN (bthen13 b3 hb3) m
  · refine (twin13_any _ n F _ (hq.below b1) (by omega)).mono fun e w1 ⟨he, h1, hb1⟩ => ⟨_, none, 0, 130, he, ?_, ?_⟩
    · have := bx13_cell w 8 i j x (.slice d n c) (below_undraw hb1)
      exact ⟨this.2.2, this.1⟩
    have b2 := bthen13 b1 hb1
    refine (asked13_8 _ _ _ _ _ (frommono13_no _ n F w1 h1.all hp)).mono fun e w2 ⟨he, hw2⟩ => ⟨he, ?_, ?_⟩
    · have := bx13_cell w 8 i j x (.slice d n c) (W := w2) (by rw [hw2]; exact below_undraw hb1)
      exact ⟨this.2.2, this.1⟩
    have b3 : Below w.heap.size w w2 := by rw [hw2]; exact b2
    refine (refFrom13_no _ n F w2 (hq.below b3) hp).mono fun e w3 ⟨he, hw3⟩ => ⟨none, he, ?_⟩
    refine (same13_true _ _ 0 (fun _ => 0) w3 (q6_nil' w3) (q6_nil' w3)).mono fun e w4 ⟨he, m, hw⟩ => ⟨he, ?_⟩
    rw [hw, hw3]
    exact below_drewN b3 m
set_option maxHeartbeats 8000000 in
set_option maxRecDepth 100000 in
theorem lists13_8 (i j : Int) (x : Nat) (d : Option Addr) (n c : Nat) (w : World) (hv : Bm13 w (.slice d n c)) (hT : Tzt w) :
    Calls Tryd.prog 7 #[.agg #[.int .i64 8, .int .i64 i, .int .i64 j, .int .u16 (x : Int), .slice d n c]] w fun e w' => e = .returned (.bool true) ∧ Below w.heap.size w w' := by
  have c1 := lists_from i j x d n c w hv hT
  unfold bx13 at c1
  have q0 := bx13_cell w 8 i j x (.slice d n c) (Below.refl _ _)
  unfold bx13 at q0
  obtain ⟨q0, -, q4⟩ := q0
  clear hv hT
  go_enter Tryd.func7, Tryd.ntmps7
  go_wp2
  refine region_planI (fun w' => w'.cell? ⟨w.heap.size, 4, none⟩ = some (.slice d n c) ∧ w'.cell? ⟨w.heap.size, 0, none⟩ = some (.int .i64 8)) [0, 1, 2, 3, 4, 5, 6, 7, 8, 9, 10] [4, 0, 5] 100 ⟨q4, q0⟩ (by kernel_rfl) (by kernel_rfl) (fun _ a d v _ h => by cases d <;> exact h) ?_
  simp only [atI, List.getElem?_cons_zero, List.getElem?_cons_succ]
  refine planH_step ?A1 rfl (fun w' hS => ?s1) rfl (fun K hK => ?n1)
  case s1 =>
    obtain ⟨z4, z3⟩ := hS
    simp only [List.take_succ_cons, List.take_zero]
    repeat still_step
    exact rfl
  case n1 =>
  go_simp
  go_wp2_with (go_at_call 19; (with_reducible refine c1.mono ?_); rintro e x1 ⟨g, a1, n1, er, rfl, hS1, c2⟩)
  refine hK _ _ hS1 ?_
  clear hK K c1 hS1
  refine planH_step ?A2 rfl (fun w' hS => ?s2) rfl (fun K hK => ?n2)
  case s2 =>
    simp only [List.take_zero]
    repeat still_step
    exact rfl
  case n2 =>
  go_simp
  go_wp2_with (go_at_call 21; (with_reducible refine c2.mono ?_); rintro e x2 ⟨rfl, hS2, c3⟩)
  refine hK _ _ hS2 ?_
  clear hK K c2
  obtain ⟨r4, r0⟩ := hS2
  refine planH_last ?A3 rfl (fun w' hS => ?s3) rfl ?n3
  case s3 =>
    simp only [List.take_succ_cons, List.take_zero]
    repeat still_step
    exact rfl
  case n3 =>
  clear q0 q4
  go_wp2_with (first | (go_at_call 24; ((with_reducible refine (c3).mono ?_); (rintro e x3 ⟨a2, rfl, c4⟩))) | (go_at_call 9; ((with_reducible refine (c4).mono ?_); (rintro e x4 ⟨rfl, HB⟩))))
  go_ret
  exact ⟨ret_bool (by simp), HB.out⟩
end Go.Proofs.YtidcdbjhkgpjcaaDoor
