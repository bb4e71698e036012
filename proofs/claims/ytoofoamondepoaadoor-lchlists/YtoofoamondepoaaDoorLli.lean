import Derived.Test.YtoofoamondepoaaDoorLeb
import Derived.Test.YtoofoamondepoaaDoorLec
import Derived.Test.YtoofoamondepoaaDoorLed
import Derived.Test.YtoofoamondepoaaDoorLal
import Derived.Test.YtoofoamondepoaaDoorEsk
namespace Go.Proofs.YtoofoamondepoaaDoor
open Go.RowKit Gf2
set_option linter.unusedVariables false

theorem eval13_size2 (a : Option Addr) (n cap : Nat) (x : Int) (w : World) (hn : 65536 < n) :
    Calls Tryd.prog 11 #[.slice a n cap, .int .u16 x] w fun e w' => e = .returned (.tuple #[.int .u16 0, .int .i64 5]) ∧ w' = w := by
  have D1 : decide ((65536 : Int) < (n : Int)) = true := by simp; omega
  clear hn
  go_enter Tryd.func11, Tryd.ntmps11
  go_wp2
  go_ret2
  exact ⟨rfl, rfl⟩
/-- what Eval answers. -/
def evn (n x : Nat) (F : Nat → Nat) : Nat := if n ≤ 65536 then sxx x F n else 0
def eve (n : Nat) : Nat := if n ≤ 65536 then 0 else 5
theorem evn_lt (n x : Nat) (F : Nat → Nat) : evn n x F < 65536 := by
  unfold evn; split
  · exact sxx_lt _ _ _
  · decide
theorem eval13_any (v : Value) (n x : Nat) (F : Nat → Nat) (w : World) (h : Q6 w v n F) (hx : x < 65536) (hC : Cant w) :
    Calls Tryd.prog 11 #[v, .int .u16 (x : Int)] w fun e w' => e = .returned (.tuple #[.int .u16 (evn n x F : Nat), .int .i64 (eve n : Nat)]) ∧ Below w.heap.size w w' := by
  unfold evn eve
  by_cases hn : n ≤ 65536
  · rw [if_pos hn, if_pos hn]
    exact eval13_yes v n x F w h hn hx hC
  · rw [if_neg hn, if_neg hn]
    obtain ⟨-, -, a, cap, rfl, -⟩ := h
    exact (eval13_size2 a n cap x w (by omega)).mono fun e w' ⟨h1, h2⟩ => ⟨h1, by rw [h2]; exact Below.refl _ _⟩
theorem refEval13_any (v : Value) (n x : Nat) (F : Nat → Nat) (w : World) (h : Q6 w v n F) (hx : x < 65536) :
    Calls Tryd.prog 45 #[v, .int .u16 (x : Int)] w fun e w' => e = .returned (.tuple #[.int .u16 (evn n x F : Nat), .int .i64 (eve n : Nat)]) ∧ Below w.heap.size w w' := by
  unfold evn eve
  by_cases hn : n ≤ 65536
  · rw [if_pos hn, if_pos hn]
    exact refEval13_yes v n x F w h hn hx
  · rw [if_neg hn, if_neg hn]
    obtain ⟨-, -, a, cap, rfl, -⟩ := h
    exact (refEval13_no a n cap x w (by omega)).mono fun e w' ⟨h1, h2⟩ => ⟨h1, by rw [h2]; exact Below.refl _ _⟩
/-- the box of a step. -/
def bx13 (w : World) (k i j : Int) (x : Nat) (v : Value) : World := w.alloc (.cells #[.int .i64 k, .int .i64 i, .int .i64 j, .int .u16 (x : Int), v] 55)
theorem bx13_b (w : World) (k i j : Int) (x : Nat) (v : Value) : Below w.heap.size w (bx13 w k i j x v) := below_alloc _ _
theorem bx13_cell (w : World) (k i j : Int) (x : Nat) (v : Value) {W : World} (h : Below (bx13 w k i j x v).heap.size (bx13 w k i j x v) W) : W.cell? ⟨w.heap.size, 0, none⟩ = some (.int .i64 k) ∧ W.cell? ⟨w.heap.size, 3, none⟩ = some (.int .u16 (x : Int)) ∧ W.cell? ⟨w.heap.size, 4, none⟩ = some v := by
  refine ⟨?_, ?_, ?_⟩
  · rw [h.cell (p := ⟨w.heap.size, 0, none⟩) (by simp [bx13])]; unfold bx13; rw [cell_of_row _ _ _ _ _ _ (heap_alloc_new _ _)]; rfl
  · rw [h.cell (p := ⟨w.heap.size, 3, none⟩) (by simp [bx13])]; unfold bx13; rw [cell_of_row _ _ _ _ _ _ (heap_alloc_new _ _)]; rfl
  · rw [h.cell (p := ⟨w.heap.size, 4, none⟩) (by simp [bx13])]; unfold bx13; rw [cell_of_row _ _ _ _ _ _ (heap_alloc_new _ _)]; rfl
theorem below_undraw {X W : World} (h : Below X.drew.heap.size X.drew W) : Below X.heap.size X W := ⟨h.os, h.tape, h.output, h.size, h.block⟩
theorem lists_eval (k i j : Int) (x : Nat) (d : Option Addr) (n c : Nat) (w : World) (hx : x < 65536) (hv : Bm13 w (.slice d n c)) (hC : Cant w) :
    Calls Tryd.prog 20 #[.slice d n c] (bx13 w k i j x (.slice d n c)).drew fun e w1 => ∃ g E er, e = .returned (.slice (some ⟨g, 0, none⟩) n n) ∧ (w1.cell? ⟨w.heap.size, 4, none⟩ = some (.slice d n c) ∧ w1.cell? ⟨w.heap.size, 3, none⟩ = some (.int .u16 (x : Int))) ∧
      Calls Tryd.prog 11 #[.slice (some ⟨g, 0, none⟩) n n, .int .u16 (x : Int)] w1 fun e w2 => e = .returned (.tuple #[.int .u16 (E : Nat), .int .i64 (er : Nat)]) ∧ (w2.cell? ⟨w.heap.size, 4, none⟩ = some (.slice d n c) ∧ w2.cell? ⟨w.heap.size, 3, none⟩ = some (.int .u16 (x : Int))) ∧
      Calls Tryd.prog 45 #[.slice d n c, .int .u16 (x : Int)] w2 fun e w3 => e = .returned (.tuple #[.int .u16 (E : Nat), .int .i64 (er : Nat)]) ∧ Hid (Below w.heap.size w w3) := by
  obtain ⟨m, F, hq, hm⟩ := hv
  obtain rfl : n = m := by obtain ⟨-, -, a, cap, e, -⟩ := hq; cases e; rfl
  have b0 := bx13_b w k i j x (.slice d n c)
  have b1 : Below w.heap.size w (bx13 w k i j x (.slice d n c)).drew := b0.drew
  refine (twin13_any _ n F _ (hq.below b1) (by omega)).mono fun e w1 ⟨he, h1, hb1⟩ => ⟨_, evn n x F, eve n, he, ?_, ?_⟩
  · have := bx13_cell w k i j x (.slice d n c) (below_undraw hb1)
    exact ⟨this.2.2, this.2.1⟩
  have b2 := bthen13 b1 hb1
  refine (eval13_any _ n x F w1 h1.all hx (hC.below b2)).mono fun e w2 ⟨he, hb2⟩ => ⟨he, ?_, ?_⟩
  · have := bx13_cell w k i j x (.slice d n c) (bthen13 (below_undraw hb1) hb2)
    exact ⟨this.2.2, this.2.1⟩
  have b3 := bthen13 b2 hb2
  exact (refEval13_any _ n x F w2 (hq.below b3) hx).mono fun e w3 ⟨he, hb3⟩ => ⟨he, bthen13 b3 hb3⟩
set_option maxHeartbeats 8000000 in
set_option maxRecDepth 100000 in
theorem lists13_5 (i j : Int) (x : Nat) (d : Option Addr) (n c : Nat) (w : World) (hx : x < 65536) (hv : Bm13 w (.slice d n c)) (hC : Cant w) :
    Calls Tryd.prog 32 #[.agg #[.int .i64 5, .int .i64 i, .int .i64 j, .int .u16 (x : Int), .slice d n c]] w fun e w' => e = .returned (.bool true) ∧ Below w.heap.size w w' := by
  have c1 := lists_eval 5 i j x d n c w hx hv hC
  unfold bx13 at c1
  have q0 := bx13_cell w 5 i j x (.slice d n c) (Below.refl _ _)
  unfold bx13 at q0
  obtain ⟨-, q3, q4⟩ := q0
  clear hx hv hC
  go_enter Tryd.func32, Tryd.ntmps32
  go_wp2
  refine region_planI (fun w' => w'.cell? ⟨w.heap.size, 4, none⟩ = some (.slice d n c) ∧ w'.cell? ⟨w.heap.size, 3, none⟩ = some (.int .u16 (x : Int))) [0, 1, 3, 4, 2, 5, 6, 7, 8, 9, 10] [4, 0, 5] 100 ⟨q4, q3⟩ (by kernel_rfl) (by kernel_rfl) (fun _ a d v _ h => by cases d <;> exact h) ?_
  simp only [atI, List.getElem?_cons_zero, List.getElem?_cons_succ]
  refine planH_step ?A1 rfl (fun w' hS => ?s1) rfl (fun K hK => ?n1)
  case s1 =>
    obtain ⟨z4, z3⟩ := hS
    simp only [List.take_succ_cons, List.take_zero]
    repeat still_step
    exact rfl
  case n1 =>
  go_simp
  go_wp2_with (go_at_call 20; (with_reducible refine c1.mono ?_); rintro e x1 ⟨g, E, er, rfl, hS1, c2⟩)
  refine hK _ _ hS1 ?_
  clear hK K c1 hS1
  refine planH_step ?A2 rfl (fun w' hS => ?s2) rfl (fun K hK => ?n2)
  case s2 =>
    simp only [List.take_zero]
    repeat still_step
    exact rfl
  case n2 =>
  go_simp
  go_wp2_with (go_at_call 11; (with_reducible refine c2.mono ?_); rintro e x2 ⟨rfl, hS2, c3⟩)
  refine hK _ _ hS2 ?_
  clear hK K c2
  obtain ⟨r4, r3⟩ := hS2
  refine planH_last ?A3 rfl (fun w' hS => ?s3) rfl ?n3
  case s3 =>
    simp only [List.take_succ_cons, List.take_zero]
    repeat still_step
    exact rfl
  case n3 =>
  clear q3 q4
  go_wp2_with (go_at_call 45; ((with_reducible refine (c3).mono ?_); (rintro e x3 ⟨rfl, HB⟩)))
  go_ret
  exact ⟨ret_bool (by simp), HB.out⟩

set_option maxHeartbeats 2000000 in
set_option maxRecDepth 100000 in
theorem asked13_6 (v u : Value) (er : Int) (w : World) (Q : World → Prop) (c1 : Calls Tryd.prog 12 #[v] w fun e w' => e = .returned (.tuple #[u, .int .i64 er]) ∧ Q w') :
    Calls Tryd.prog 21 #[.int .i64 6, v] w fun e w' => e = .returned (.tuple #[u, .int .i64 er]) ∧ Q w' := by
  go_enter Tryd.func21, Tryd.ntmps21
  go_wp2_with (go_at_call 12; ((with_reducible refine (c1).mono ?_); (rintro e w9 ⟨rfl, hq⟩)))
  go_ret2
  exact ⟨rfl, hq⟩
theorem q6_nil (w : World) : Q6 w (.slice none 0 0) 0 (fun _ => 0) := ⟨by decide, fun i hi => absurd hi (Nat.not_lt_zero _), none, 0, rfl, Nat.le_refl _, by decide, fun h => absurd h (Nat.lt_irrefl _)⟩
theorem lists_deriv (i j : Int) (x : Nat) (d : Option Addr) (n c : Nat) (w : World) (hv : Bm13 w (.slice d n c)) (hT : Tzt w) :
    Calls Tryd.prog 20 #[.slice d n c] (bx13 w 6 i j x (.slice d n c)).drew fun e w1 => ∃ (g : Nat) (a1 : Option Addr) (n1 : Nat) (a2 : World → Option Addr) (er : Int), e = .returned (.slice (some ⟨g, 0, none⟩) n n) ∧ (w1.cell? ⟨w.heap.size, 4, none⟩ = some (.slice d n c) ∧ w1.cell? ⟨w.heap.size, 0, none⟩ = some (.int .i64 6)) ∧
      Calls Tryd.prog 21 #[.int .i64 6, .slice (some ⟨g, 0, none⟩) n n] w1 fun e w2 => e = .returned (.tuple #[.slice a1 n1 n1, .int .i64 er]) ∧ (w2.cell? ⟨w.heap.size, 4, none⟩ = some (.slice d n c) ∧ w2.cell? ⟨w.heap.size, 0, none⟩ = some (.int .i64 6)) ∧
      Calls Tryd.prog 46 #[.slice d n c] w2 fun e w3 => (e = .returned (.tuple #[.slice (a2 w2) n1 n1, .int .i64 er])) ∧
      Calls Tryd.prog 22 #[.slice a1 n1 n1, .slice (a2 w2) n1 n1] w3 fun e w4 => e = .returned (.bool true) ∧ Hid (Below w.heap.size w w4) := by
  obtain ⟨m, F, hq, hm⟩ := hv
  obtain rfl : n = m := by obtain ⟨-, -, a, cap, e, -⟩ := hq; cases e; rfl
  have b0 := bx13_b w 6 i j x (.slice d n c)
  have b1 : Below w.heap.size w (bx13 w 6 i j x (.slice d n c)).drew := b0.drew
  by_cases hp : pw2 n 65536
  · obtain ⟨k, hk, hk2⟩ := hp
    have hk16 : k ≤ 16 := by
      apply Decidable.byContradiction
      intro h
      have : 2 ^ 17 ≤ 2 ^ k := Nat.pow_le_pow_right (by decide) (by omega)
      omega
    refine (twin13_any _ n F _ (hq.below b1) (by omega)).mono fun e w1 ⟨he, h1, hb1⟩ => ⟨_, some ⟨w1.heap.size, 0, none⟩, n, fun w2 => some ⟨w2.heap.size, 0, none⟩, 0, he, ?_, ?_⟩
    · have := bx13_cell w 6 i j x (.slice d n c) (below_undraw hb1)
      exact ⟨this.2.2, this.1⟩
    have b2 := bthen13 b1 hb1
    refine (asked13_6 _ _ _ _ _ (derivative13_yes _ k n F hk hk16 w1 h1.all (hT.below b2))).mono fun e w2 ⟨he, h2, hb2⟩ => ⟨he, ?_, ?_⟩
    · have := bx13_cell w 6 i j x (.slice d n c) (bthen13 (below_undraw hb1) hb2)
      exact ⟨this.2.2, this.1⟩
    have b3 := bthen13 b2 hb2
    refine (refDerivative13_yes _ k n F hk hk16 w2 (hq.below b3)).mono fun e w3 ⟨he, h3, hb3⟩ => ⟨he, ?_⟩
    refine (same13_true _ _ n (dvs k F) w3 (h2.below hb3).all h3.all).mono fun e w4 ⟨he, m, hw⟩ => ⟨he, ?_⟩
    rw [hw]
    exact below_drewN (bthen13 b3 hb3) m
  · refine (twin13_any _ n F _ (hq.below b1) (by omega)).mono fun e w1 ⟨he, h1, hb1⟩ => ⟨_, none, 0, fun _ => none, 130, he, ?_, ?_⟩
    · have := bx13_cell w 6 i j x (.slice d n c) (below_undraw hb1)
      exact ⟨this.2.2, this.1⟩
    have b2 := bthen13 b1 hb1
    refine (asked13_6 _ _ _ _ _ (derivative13_no _ n F w1 h1.all hp)).mono fun e w2 ⟨he, hw2⟩ => ⟨he, ?_, ?_⟩
    · have := bx13_cell w 6 i j x (.slice d n c) (W := w2) (by rw [hw2]; exact below_undraw hb1)
      exact ⟨this.2.2, this.1⟩
    have b3 : Below w.heap.size w w2 := by rw [hw2]; exact b2
    refine (refDerivative13_no _ n F w2 (hq.below b3) hp).mono fun e w3 ⟨he, hw3⟩ => ⟨he, ?_⟩
    refine (same13_true _ _ 0 (fun _ => 0) w3 (q6_nil w3) (q6_nil w3)).mono fun e w4 ⟨he, m, hw⟩ => ⟨he, ?_⟩
    rw [hw, hw3]
    exact below_drewN b3 m
set_option maxHeartbeats 8000000 in
set_option maxRecDepth 100000 in
theorem lists13_6 (i j : Int) (x : Nat) (d : Option Addr) (n c : Nat) (w : World) (hv : Bm13 w (.slice d n c)) (hT : Tzt w) :
    Calls Tryd.prog 32 #[.agg #[.int .i64 6, .int .i64 i, .int .i64 j, .int .u16 (x : Int), .slice d n c]] w fun e w' => e = .returned (.bool true) ∧ Below w.heap.size w w' := by
  have c1 := lists_deriv i j x d n c w hv hT
  unfold bx13 at c1
  have q0 := bx13_cell w 6 i j x (.slice d n c) (Below.refl _ _)
  unfold bx13 at q0
  obtain ⟨q0, -, q4⟩ := q0
  clear hv hT
  go_enter Tryd.func32, Tryd.ntmps32
  go_wp2
  refine region_planI (fun w' => w'.cell? ⟨w.heap.size, 4, none⟩ = some (.slice d n c) ∧ w'.cell? ⟨w.heap.size, 0, none⟩ = some (.int .i64 6)) [0, 1, 2, 3, 4, 5, 6, 7, 8, 9, 10] [4, 0, 5] 100 ⟨q4, q0⟩ (by kernel_rfl) (by kernel_rfl) (fun _ a d v _ h => by cases d <;> exact h) ?_
  simp only [atI, List.getElem?_cons_zero, List.getElem?_cons_succ]
  refine planH_step ?A1 rfl (fun w' hS => ?s1) rfl (fun K hK => ?n1)
  case s1 =>
    obtain ⟨z4, z3⟩ := hS
    simp only [List.take_succ_cons, List.take_zero]
    repeat still_step
    exact rfl
  case n1 =>
  go_simp
  go_wp2_with (go_at_call 20; (with_reducible refine c1.mono ?_); rintro e x1 ⟨g, a1, n1, a2, er, rfl, hS1, c2⟩)
  refine hK _ _ hS1 ?_
  clear hK K c1 hS1
  refine planH_step ?A2 rfl (fun w' hS => ?s2) rfl (fun K hK => ?n2)
  case s2 =>
    simp only [List.take_zero]
    repeat still_step
    exact rfl
  case n2 =>
  go_simp
  go_wp2_with (go_at_call 21; (with_reducible refine c2.mono ?_); rintro e x2 ⟨rfl, hS2, c3⟩)
  refine hK _ _ hS2 ?_
  clear hK K c2
  obtain ⟨r4, r0⟩ := hS2
  refine planH_last ?A3 rfl (fun w' hS => ?s3) rfl ?n3
  case s3 =>
    simp only [List.take_succ_cons, List.take_zero]
    repeat still_step
    exact rfl
  case n3 =>
  clear q0 q4
  go_wp2_with (first | (go_at_call 46; ((with_reducible refine (c3).mono ?_); (rintro e x3 ⟨rfl, c4⟩))) | (go_at_call 22; ((with_reducible refine (c4).mono ?_); (rintro e x4 ⟨rfl, HB⟩))))
  go_ret
  exact ⟨ret_bool (by simp), HB.out⟩
end Go.Proofs.YtoofoamondepoaaDoor
