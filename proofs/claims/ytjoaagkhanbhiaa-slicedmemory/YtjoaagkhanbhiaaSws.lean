import Derived.Test.YtjoaagkhanbhiaaSbd
namespace Go.Proofs.Ytjoaagkhanbhiaa
open Go.RowKit Gf2
set_option linter.unusedVariables false

set_option maxHeartbeats 2000000 in
set_option maxRecDepth 100000 in
theorem samew7_true (u v : Value) (n : Nat) (F : Nat → Nat) (w : World) (h : Rq w u n F) (k : Rq w v n F) :
    Calls Try.prog 6 #[u, v] w fun e w' => e = .returned (.bool true) ∧ ∃ m, w' = w.drewN m := by
  obtain ⟨hn, hF, a, cap, rfl, -, -, h4⟩ := h
  obtain ⟨-, -, c, cap', rfl, -, -, k4⟩ := k
  go_enter Try.func6, Try.ntmps6
  go_wp2
  go_loopw [5] (fun i wr => ∃ k m : Nat, k ≤ n ∧ i = .int .i64 k ∧ wr = w.drewN m) (fun i _ => n - (intOf i).toNat)
  case atStart => exact ⟨0, 0, Nat.zero_le _, rfl, rfl⟩
  case round =>
    obtain ⟨k, m, hk, rfl, hw⟩ := hrel
    by_cases hlt : k < n
    · obtain ⟨b, o, rfl, -, hc⟩ := h4 (by omega)
      obtain ⟨b', o', rfl, -, hc'⟩ := k4 (by omega)
      have q1 : wr.cell? ⟨b, o + k, none⟩ = some (.int .u64 (F k : Nat)) := by rw [hw]; exact hc k hlt
      have q2 : wr.cell? ⟨b', o' + k, none⟩ = some (.int .u64 (F k : Nat)) := by rw [hw]; exact hc' k hlt
      have HW : Hid (wr = w.drewN m) := hw
      have ib : ((k : Nat) : Int) < (n : Int) := by omega
      have W1 := wrap_succ8 (j := k) (by omega)
      have HN : Hid (n ≤ big) := hn
      clear hc hc' hw h4 k4 hF hn
      go_wp2
      go_quiet (fail)
      go_wp2
      go_roundw
      case rel => exact ⟨k + 1, m + nq, hlt, by first | rfl | (rw [W1]; rfl), by rw [HW.out, World.drewN_drewN]⟩
      case measure => first | exact meas_lt8 hlt | (rw [W1]; exact meas_lt8 hlt)
    · have hk5 : k = n := by omega
      subst hk5
      subst hw
      go_wp2
      go_ret
      exact ⟨rfl, _, rfl⟩
end Go.Proofs.Ytjoaagkhanbhiaa
