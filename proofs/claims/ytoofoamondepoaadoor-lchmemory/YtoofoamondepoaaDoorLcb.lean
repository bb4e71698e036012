import Derived.Test.YtoofoamondepoaaDoorLca
namespace Go.Proofs.YtoofoamondepoaaDoor
open Go.RowKit Gf2
set_option linter.unusedVariables false

set_option maxHeartbeats 2000000 in
set_option maxRecDepth 100000 in
theorem same13_true (u v : Value) (n : Nat) (F : Nat → Nat) (w : World) (h : Q6 w u n F) (k : Q6 w v n F) :
    Calls Tryd.prog 22 #[u, v] w fun e w' => e = .returned (.bool true) ∧ ∃ m, w' = w.drewN m := by
  obtain ⟨hn, hF, a, cap, rfl, -, -, h4⟩ := h
  obtain ⟨-, -, c, cap', rfl, -, -, k4⟩ := k
  go_enter Tryd.func22, Tryd.ntmps22
  go_wp2
  go_loopw [5] (fun i wr => ∃ k m : Nat, k ≤ n ∧ i = .int .i64 k ∧ wr = w.drewN m) (fun i _ => n - (intOf i).toNat)
  case atStart => exact ⟨0, 0, Nat.zero_le _, rfl, rfl⟩
  case round =>
    obtain ⟨k, m, hk, rfl, hw⟩ := hrel
    by_cases hlt : k < n
    · obtain ⟨b, o, rfl, -, hc⟩ := h4 (by omega)
      obtain ⟨b', o', rfl, -, hc'⟩ := k4 (by omega)
      have q1 : wr.cell? ⟨b, o + k, none⟩ = some (.int .u16 (F k : Nat)) := by rw [hw]; exact hc k hlt
      have q2 : wr.cell? ⟨b', o' + k, none⟩ = some (.int .u16 (F k : Nat)) := by rw [hw]; exact hc' k hlt
      have HW : Hid (wr = w.drewN m) := hw
      have ib : ((k : Nat) : Int) < (n : Int) := by omega
      have W1 := wrap_succ8 (j := k) (by omega)
      have HN : Hid (n ≤ big) := hn
      clear hc hc' hw h4 k4 hF hn
      go_wp2
      go_quiet (fail)
      go_wp2
      go_roundw
      case rel => exact ⟨k + 1, m + nq, hlt, by first | rfl | (rw [W1]; rfl), by rw [HW.out, World.drewN_drewN]⟩
      case measure => first | exact meas_lt8 hlt | (rw [W1]; exact meas_lt8 hlt)
    · have hk5 : k = n := by omega
      subst hk5
      subst hw
      go_wp2
      go_ret
      exact ⟨rfl, _, rfl⟩


set_option maxHeartbeats 2000000 in
set_option maxRecDepth 100000 in
theorem twin13_any (v : Value) (n : Nat) (F : Nat → Nat) (w : World) (h : Q6 w v n F) (hn : 2 * n ≤ 140737488355328) :
    Calls Tryd.prog 20 #[v] w fun e w' => e = .returned (.slice (some ⟨w.heap.size, 0, none⟩) n n) ∧ R6 w' w.heap.size n F ∧ Below w.heap.size w w' := by
  have hmk := make_w6 n hn
  have r0 := made_r6 n (by omega) w
  have b0 := made_b6 n w
  obtain ⟨-, hF, a, cap, rfl, -, -, h4⟩ := h
  obtain ⟨w1, hrun, hR, ho⟩ := copy6w _ r0 (a := a) (cap' := cap) (S := F) hF (fun h0 => by
    obtain ⟨b, o, e, hl, hc⟩ := h4 h0
    exact ⟨b, o, e, fun i hi => (b0.cell (p := ⟨b, o + i, none⟩) hl).trans (hc i hi)⟩)
  have HR : Hid (R6 w1 w.heap.size n F ∧ Below w.heap.size w w1) := ⟨hR, b0.trans (ho.below (Nat.le_refl _))⟩
  clear h4 hR ho r0 b0 hn hF
  go_enter Tryd.func20, Tryd.ntmps20
  go_wp2
  go_ret
  exact ⟨rfl, HR.out⟩
set_option maxHeartbeats 2000000 in
set_option maxRecDepth 100000 in
theorem copied13_any (v : Value) (n : Nat) (F : Nat → Nat) (w : World) (h : Q6 w v n F) (hn : 2 * n ≤ 140737488355328) :
    Calls Tryd.prog 25 #[v] w fun e w' => e = .returned (.slice (some ⟨w.heap.size, 0, none⟩) n n) ∧ R6 w' w.heap.size n F ∧ Below w.heap.size w w' := by
  have hmk := make_w6 n hn
  have r0 := made_r6 n (by omega) w
  have b0 := made_b6 n w
  obtain ⟨-, hF, a, cap, rfl, -, -, h4⟩ := h
  obtain ⟨w1, hrun, hR, ho⟩ := copy6w _ r0 (a := a) (cap' := cap) (S := F) hF (fun h0 => by
    obtain ⟨b, o, e, hl, hc⟩ := h4 h0
    exact ⟨b, o, e, fun i hi => (b0.cell (p := ⟨b, o + i, none⟩) hl).trans (hc i hi)⟩)
  have HR : Hid (R6 w1 w.heap.size n F ∧ Below w.heap.size w w1) := ⟨hR, b0.trans (ho.below (Nat.le_refl _))⟩
  clear h4 hR ho r0 b0 hn hF
  go_enter Tryd.func25, Tryd.ntmps25
  go_wp2
  go_ret
  exact ⟨rfl, HR.out⟩
end Go.Proofs.YtoofoamondepoaaDoor
