import Derived.Test.YthfpadkihommaaaMca
namespace Go.Proofs.Ythfpadkihommaaa
open Go.RowKit Gf2
set_option linter.unusedVariables false

theorem box_below (w : World) (o : Obj) : Below w.heap.size w (w.alloc o) := (Below.refl _ _).alloc (Nat.le_refl _) _
theorem cau_awake (Mi Ki : Int) (v1 v2 : Value) (w : World) : Calls Try.prog 26 #[] (w.alloc (.cells #[.int .i64 Mi, .int .i64 Ki, v1, v2] 50)) fun e w1 => e = .returned (.bool true) ∧ Below w.heap.size w w1 ∧ (w1.cell? ⟨w.heap.size, 0, none⟩ = some (.int .i64 Mi) ∧ w1.cell? ⟨w.heap.size, 1, none⟩ = some (.int .i64 Ki) ∧ w1.cell? ⟨w.heap.size, 2, none⟩ = some v1 ∧ w1.cell? ⟨w.heap.size, 3, none⟩ = some v2) := by
  refine (awake10 _).mono ?_
  rintro e w1 ⟨rfl, hb1⟩
  have hc : ∀ i, w1.cell? ⟨w.heap.size, i, none⟩ = _ := fun i => (hb1.cell (p := ⟨w.heap.size, i, none⟩) (by simp)).trans (cell_of_row _ _ i _ _ _ (heap_alloc_new _ _))
  exact ⟨rfl, (box_below w _).trans (hb1.mono (box_below w _).size), hc 0, hc 1, hc 2, hc 3⟩
set_option maxHeartbeats 2000000 in
set_option maxRecDepth 100000 in
theorem cau_out0 (Mi Ki : Int) (a1 a2 : Option Addr) (k1 c1 k2 c2 : Nat) (w : World)  (h0 : Mi < 1) :
    Calls Try.prog 7 #[.agg #[.int .i64 Mi, .int .i64 Ki, .slice a1 k1 c1, .slice a2 k2 c2]] w fun e w' => e = .returned (.bool true) ∧ Below w.heap.size w w' := by
  have c0 := cau_awake Mi Ki (.slice a1 k1 c1) (.slice a2 k2 c2) w
  have d0 : decide (Mi < 1) = true := by simp; omega
  clear h0
  go_enter Try.func7, Try.ntmps7
  go_wp2_with (go_at_call 26; (with_reducible refine c0.mono ?_); rintro e w1 ⟨rfl, hb1, z0, z1, z2, z3⟩; clear c0; have HB : Hid _ := hb1; clear hb1)
  go_quiet (fail)
  go_wp2
  go_ret
  exact ⟨rfl, below_drewN HB.out _⟩
set_option maxHeartbeats 2000000 in
set_option maxRecDepth 100000 in
theorem cau_out1 (Mi Ki : Int) (a1 a2 : Option Addr) (k1 c1 k2 c2 : Nat) (w : World) (h0 : ¬ (Mi < 1)) (h1 : Ki < 1) :
    Calls Try.prog 7 #[.agg #[.int .i64 Mi, .int .i64 Ki, .slice a1 k1 c1, .slice a2 k2 c2]] w fun e w' => e = .returned (.bool true) ∧ Below w.heap.size w w' := by
  have c0 := cau_awake Mi Ki (.slice a1 k1 c1) (.slice a2 k2 c2) w
  have d0 : decide (Mi < 1) = false := by simp; omega
  have d1 : decide (Ki < 1) = true := by simp; omega
  clear h0 h1
  go_enter Try.func7, Try.ntmps7
  go_wp2_with (go_at_call 26; (with_reducible refine c0.mono ?_); rintro e w1 ⟨rfl, hb1, z0, z1, z2, z3⟩; clear c0; have HB : Hid _ := hb1; clear hb1)
  go_quiet (fail)
  go_wp2
  go_ret
  exact ⟨rfl, below_drewN HB.out _⟩
set_option maxHeartbeats 2000000 in
set_option maxRecDepth 100000 in
theorem cau_out2 (Mi Ki : Int) (a1 a2 : Option Addr) (k1 c1 k2 c2 : Nat) (w : World) (h0 : ¬ (Mi < 1)) (h1 : ¬ (Ki < 1)) (h2 : 256 < Mi) :
    Calls Try.prog 7 #[.agg #[.int .i64 Mi, .int .i64 Ki, .slice a1 k1 c1, .slice a2 k2 c2]] w fun e w' => e = .returned (.bool true) ∧ Below w.heap.size w w' := by
  have c0 := cau_awake Mi Ki (.slice a1 k1 c1) (.slice a2 k2 c2) w
  have d0 : decide (Mi < 1) = false := by simp; omega
  have d1 : decide (Ki < 1) = false := by simp; omega
  have d2 : decide (256 < Mi) = true := by simp; omega
  clear h0 h1 h2
  go_enter Try.func7, Try.ntmps7
  go_wp2_with (go_at_call 26; (with_reducible refine c0.mono ?_); rintro e w1 ⟨rfl, hb1, z0, z1, z2, z3⟩; clear c0; have HB : Hid _ := hb1; clear hb1)
  go_quiet (fail)
  go_wp2
  go_ret
  exact ⟨rfl, below_drewN HB.out _⟩
set_option maxHeartbeats 2000000 in
set_option maxRecDepth 100000 in
theorem cau_out3 (Mi Ki : Int) (a1 a2 : Option Addr) (k1 c1 k2 c2 : Nat) (w : World) (h0 : ¬ (Mi < 1)) (h1 : ¬ (Ki < 1)) (h2 : ¬ (256 < Mi)) (h3 : 256 < Ki) :
    Calls Try.prog 7 #[.agg #[.int .i64 Mi, .int .i64 Ki, .slice a1 k1 c1, .slice a2 k2 c2]] w fun e w' => e = .returned (.bool true) ∧ Below w.heap.size w w' := by
  have c0 := cau_awake Mi Ki (.slice a1 k1 c1) (.slice a2 k2 c2) w
  have d0 : decide (Mi < 1) = false := by simp; omega
  have d1 : decide (Ki < 1) = false := by simp; omega
  have d2 : decide (256 < Mi) = false := by simp; omega
  have d3 : decide (256 < Ki) = true := by simp; omega
  clear h0 h1 h2 h3
  go_enter Try.func7, Try.ntmps7
  go_wp2_with (go_at_call 26; (with_reducible refine c0.mono ?_); rintro e w1 ⟨rfl, hb1, z0, z1, z2, z3⟩; clear c0; have HB : Hid _ := hb1; clear hb1)
  go_quiet (fail)
  go_wp2
  go_ret
  exact ⟨rfl, below_drewN HB.out _⟩
set_option maxHeartbeats 2000000 in
set_option maxRecDepth 100000 in
theorem cau_out4 (Mi Ki : Int) (a1 a2 : Option Addr) (k1 c1 k2 c2 : Nat) (w : World) (h0 : ¬ (Mi < 1)) (h1 : ¬ (Ki < 1)) (h2 : ¬ (256 < Mi)) (h3 : ¬ (256 < Ki)) (h4 : 256 < Mi + Ki) :
    Calls Try.prog 7 #[.agg #[.int .i64 Mi, .int .i64 Ki, .slice a1 k1 c1, .slice a2 k2 c2]] w fun e w' => e = .returned (.bool true) ∧ Below w.heap.size w w' := by
  have c0 := cau_awake Mi Ki (.slice a1 k1 c1) (.slice a2 k2 c2) w
  have d0 : decide (Mi < 1) = false := by simp; omega
  have d1 : decide (Ki < 1) = false := by simp; omega
  have d2 : decide (256 < Mi) = false := by simp; omega
  have d3 : decide (256 < Ki) = false := by simp; omega
  have d4 : decide (256 < Mi + Ki) = true := by simp; omega
  have W0 : wrap64 (Mi + Ki) = Mi + Ki := by unfold wrap64; omega
  clear h0 h1 h2 h3 h4
  go_enter Try.func7, Try.ntmps7
  go_wp2_with (go_at_call 26; (with_reducible refine c0.mono ?_); rintro e w1 ⟨rfl, hb1, z0, z1, z2, z3⟩; clear c0; have HB : Hid _ := hb1; clear hb1)
  go_quiet (fail)
  go_wp2
  go_ret
  exact ⟨rfl, below_drewN HB.out _⟩
set_option maxHeartbeats 2000000 in
set_option maxRecDepth 100000 in
theorem cau_out5 (Mi Ki : Int) (a1 a2 : Option Addr) (k1 c1 k2 c2 : Nat) (w : World) (h0 : ¬ (Mi < 1)) (h1 : ¬ (Ki < 1)) (h2 : ¬ (256 < Mi)) (h3 : ¬ (256 < Ki)) (h4 : ¬ (256 < Mi + Ki)) (h5 : k1 ≠ k2) :
    Calls Try.prog 7 #[.agg #[.int .i64 Mi, .int .i64 Ki, .slice a1 k1 c1, .slice a2 k2 c2]] w fun e w' => e = .returned (.bool true) ∧ Below w.heap.size w w' := by
  have c0 := cau_awake Mi Ki (.slice a1 k1 c1) (.slice a2 k2 c2) w
  have d0 : decide (Mi < 1) = false := by simp; omega
  have d1 : decide (Ki < 1) = false := by simp; omega
  have d2 : decide (256 < Mi) = false := by simp; omega
  have d3 : decide (256 < Ki) = false := by simp; omega
  have d4 : decide (256 < Mi + Ki) = false := by simp; omega
  have d5 : ((k1 : Int) != (k2 : Int)) = true := by simp; omega
  have e5 : ((k1 : Int) == (k2 : Int)) = false := by simp; omega
  have W0 : wrap64 (Mi + Ki) = Mi + Ki := by unfold wrap64; omega
  clear h0 h1 h2 h3 h4 h5
  go_enter Try.func7, Try.ntmps7
  go_wp2_with (go_at_call 26; (with_reducible refine c0.mono ?_); rintro e w1 ⟨rfl, hb1, z0, z1, z2, z3⟩; clear c0; have HB : Hid _ := hb1; clear hb1)
  go_quiet (fail)
  go_wp2
  go_ret
  exact ⟨rfl, below_drewN HB.out _⟩
set_option maxHeartbeats 2000000 in
set_option maxRecDepth 100000 in
theorem cau_out6 (Mi Ki : Int) (a1 a2 : Option Addr) (k1 c1 k2 c2 : Nat) (w : World) (h0 : ¬ (Mi < 1)) (h1 : ¬ (Ki < 1)) (h2 : ¬ (256 < Mi)) (h3 : ¬ (256 < Ki)) (h4 : ¬ (256 < Mi + Ki)) (h5 : ¬ (k1 ≠ k2)) (h6 : (k1 : Int) < 1) :
    Calls Try.prog 7 #[.agg #[.int .i64 Mi, .int .i64 Ki, .slice a1 k1 c1, .slice a2 k2 c2]] w fun e w' => e = .returned (.bool true) ∧ Below w.heap.size w w' := by
  have c0 := cau_awake Mi Ki (.slice a1 k1 c1) (.slice a2 k2 c2) w
  have d0 : decide (Mi < 1) = false := by simp; omega
  have d1 : decide (Ki < 1) = false := by simp; omega
  have d2 : decide (256 < Mi) = false := by simp; omega
  have d3 : decide (256 < Ki) = false := by simp; omega
  have d4 : decide (256 < Mi + Ki) = false := by simp; omega
  have d5 : ((k1 : Int) != (k2 : Int)) = false := by simp; omega
  have e5 : ((k1 : Int) == (k2 : Int)) = true := by simp; omega
  have d6 : decide ((k1 : Int) < 1) = true := by simp; omega
  have W0 : wrap64 (Mi + Ki) = Mi + Ki := by unfold wrap64; omega
  clear h0 h1 h2 h3 h4 h5 h6
  go_enter Try.func7, Try.ntmps7
  go_wp2_with (go_at_call 26; (with_reducible refine c0.mono ?_); rintro e w1 ⟨rfl, hb1, z0, z1, z2, z3⟩; clear c0; have HB : Hid _ := hb1; clear hb1)
  go_quiet (fail)
  go_wp2
  go_ret
  exact ⟨rfl, below_drewN HB.out _⟩
set_option maxHeartbeats 2000000 in
set_option maxRecDepth 100000 in
theorem cau_out7 (Mi Ki : Int) (a1 a2 : Option Addr) (k1 c1 k2 c2 : Nat) (w : World) (h0 : ¬ (Mi < 1)) (h1 : ¬ (Ki < 1)) (h2 : ¬ (256 < Mi)) (h3 : ¬ (256 < Ki)) (h4 : ¬ (256 < Mi + Ki)) (h5 : ¬ (k1 ≠ k2)) (h6 : ¬ ((k1 : Int) < 1)) (h7 : 16 < (k1 : Int)) :
    Calls Try.prog 7 #[.agg #[.int .i64 Mi, .int .i64 Ki, .slice a1 k1 c1, .slice a2 k2 c2]] w fun e w' => e = .returned (.bool true) ∧ Below w.heap.size w w' := by
  have c0 := cau_awake Mi Ki (.slice a1 k1 c1) (.slice a2 k2 c2) w
  have d0 : decide (Mi < 1) = false := by simp; omega
  have d1 : decide (Ki < 1) = false := by simp; omega
  have d2 : decide (256 < Mi) = false := by simp; omega
  have d3 : decide (256 < Ki) = false := by simp; omega
  have d4 : decide (256 < Mi + Ki) = false := by simp; omega
  have d5 : ((k1 : Int) != (k2 : Int)) = false := by simp; omega
  have e5 : ((k1 : Int) == (k2 : Int)) = true := by simp; omega
  have d6 : decide ((k1 : Int) < 1) = false := by simp; omega
  have d7 : decide (16 < (k1 : Int)) = true := by simp; omega
  have W0 : wrap64 (Mi + Ki) = Mi + Ki := by unfold wrap64; omega
  clear h0 h1 h2 h3 h4 h5 h6 h7
  go_enter Try.func7, Try.ntmps7
  go_wp2_with (go_at_call 26; (with_reducible refine c0.mono ?_); rintro e w1 ⟨rfl, hb1, z0, z1, z2, z3⟩; clear c0; have HB : Hid _ := hb1; clear hb1)
  go_quiet (fail)
  go_wp2
  go_ret
  exact ⟨rfl, below_drewN HB.out _⟩
end Go.Proofs.Ythfpadkihommaaa
