import Derived.Test.YthfpadkihommaaaMrt
namespace Go.Proofs.Ythfpadkihommaaa
open Go.RowKit Gf2
set_option linter.unusedVariables false

set_option maxHeartbeats 4000000 in
set_option maxRecDepth 100000 in
theorem red10_a (u : Value) (m : Nat) (n : Nat → Nat) (S : Nat → Nat → Nat) (w : World) (h : Lb w u m n S) (hf : ¬ Fm m n) :
    Calls Try.prog 4 #[u] w fun e w' => e = .returned (.bool true) ∧ Below w.heap.size w w' := by
  have q1 := red_first w
  have HS : Hid (∀ W, Below w.heap.size w W → Calls Try.prog 11 #[u] W fun e W4 => e = .returned (.int .i64 0) ∧ Below w.heap.size w W4) := fun W hb => (side10_no u m n S W (h.below hb) hf).mono fun e W4 ⟨h1, q, h2⟩ => ⟨h1, h2 ▸ below_drewN hb q⟩
  clear h hf
  go_enter Try.func4, Try.ntmps4
  go_wp2_with (first
    | (go_at_call 18; (with_reducible refine q1.mono ?_); rintro e W1 ⟨v1, p1, rfl, q2⟩; clear q1)
    | (go_at_call 10; (with_reducible refine q2.mono ?_); rintro e W2 ⟨rfl, q3⟩; clear q2)
    | (go_at_call 19; (with_reducible refine q3.mono ?_); rintro e W3 ⟨rfl, hb3⟩; clear q3; have q4 := HS.out W3 hb3; clear hb3)
    | (go_at_call 11; (with_reducible refine q4.mono ?_); rintro e W4 ⟨rfl, hb4⟩; clear q4; have HB4 : Hid _ := hb4; clear hb4))
  go_ret
  exact ⟨rfl, HB4.out⟩
set_option maxHeartbeats 4000000 in
set_option maxRecDepth 100000 in
theorem red10_b (u : Value) (m c : Nat) (S : Nat → Nat → Nat) (w : World) (h : Lb w u m (fun _ => c) S) (hf : Fm m (fun _ => c)) (hc : 64 < m ∨ 64 < c) :
    Calls Try.prog 4 #[u] w fun e w' => e = .returned (.bool true) ∧ Below w.heap.size w w' := by
  have q1 := red_first w
  have HS : Hid (∀ W, Below w.heap.size w W → Calls Try.prog 11 #[u] W fun e W4 => e = .returned (.int .i64 (m : Int)) ∧ Below w.heap.size w W4) := fun W hb => (side10_yes u m _ S W (h.below hb) hf).mono fun e W4 ⟨h1, q, h2⟩ => ⟨h1, h2 ▸ below_drewN hb q⟩
  obtain ⟨b, o, cap, rfl⟩ := h.head hf.1
  have HZ : Hid (∀ W, Below w.heap.size w W → ∃ x y, W.cell? ⟨b, o, none⟩ = some (.slice x c y)) := fun W hb => (h.below hb).first hf.1
  have i0 : (0 : Int) < (m : Int) := Int.ofNat_lt.2 hf.1
  have j1 : ((m : Int) == 0) = false := by have := hf.1; simp; omega
  clear h hf
  by_cases hm : 64 < m
  · have k2 : decide (64 < (m : Int)) = true := by simp; omega
    clear hc hm
    go_enter Try.func4, Try.ntmps4
    go_wp2_with (first
      | (go_at_call 18; (with_reducible refine q1.mono ?_); rintro e W1 ⟨v1, p1, rfl, q2⟩; clear q1)
      | (go_at_call 10; (with_reducible refine q2.mono ?_); rintro e W2 ⟨rfl, q3⟩; clear q2)
      | (go_at_call 19; (with_reducible refine q3.mono ?_); rintro e W3 ⟨rfl, hb3⟩; clear q3; have q4 := HS.out W3 hb3; clear hb3)
      | (go_at_call 11; (with_reducible refine q4.mono ?_); rintro e W4 ⟨rfl, hb4⟩; clear q4; obtain ⟨x0, y0, z0⟩ := HZ.out W4 hb4; have HB4 : Hid _ := hb4; clear hb4))
    go_ret
    exact ⟨rfl, HB4.out⟩
  · have k2 : decide (64 < (m : Int)) = false := by simp; omega
    have k3 : decide (64 < (c : Int)) = true := by simp; omega
    clear hc hm
    go_enter Try.func4, Try.ntmps4
    go_wp2_with (first
      | (go_at_call 18; (with_reducible refine q1.mono ?_); rintro e W1 ⟨v1, p1, rfl, q2⟩; clear q1)
      | (go_at_call 10; (with_reducible refine q2.mono ?_); rintro e W2 ⟨rfl, q3⟩; clear q2)
      | (go_at_call 19; (with_reducible refine q3.mono ?_); rintro e W3 ⟨rfl, hb3⟩; clear q3; have q4 := HS.out W3 hb3; clear hb3)
      | (go_at_call 11; (with_reducible refine q4.mono ?_); rintro e W4 ⟨rfl, hb4⟩; clear q4; obtain ⟨x0, y0, z0⟩ := HZ.out W4 hb4; have HB4 : Hid _ := hb4; clear hb4))
    go_ret
    exact ⟨rfl, HB4.out⟩
end Go.Proofs.Ythfpadkihommaaa
