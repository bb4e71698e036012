import Derived.Test.YtfbgcednodnioabDoorKaa
import Derived.Test.YtfbgcednodnioabDoorIap
import Derived.BigQuiet
namespace Go.Proofs.YtfbgcednodnioabDoor
open Go.RowKit Gf2
set_option linter.unusedVariables false

-- layer 22: same; nil sources and sinks (laid by wip/genzpa.py)
set_option maxHeartbeats 2000000 in
set_option maxRecDepth 100000 in
theorem sb22 (u v : Value) (n n' : Nat) (F G : Nat → Nat) (w : World) (h : Rb w u n F) (k : Rb w v n' G) :
    Calls Tryd.prog 9 #[u, v] w fun e w' => ∃ b : Bool, e = .returned (.bool b) ∧ (b = true ↔ n = n' ∧ ∀ i, i < n → F i = G i) ∧ ∃ m, w' = w.drewN m := by
  obtain ⟨hn, hF, a, cap, rfl, -, -, h4⟩ := h
  obtain ⟨hn', -, c, cap', rfl, -, -, k4⟩ := k
  by_cases hnn : n = n'
  case neg =>
    have hI : ¬ ((n : Int) = (n' : Int)) := by omega
    clear h4 k4
    go_enter Tryd.func9, Tryd.ntmps9
    go_wp2
    go_ret
    exact ⟨false, rfl, ⟨fun h => (by cases h), fun h => absurd h.1 hnn⟩, 0, rfl⟩
  case pos =>
    subst hnn
    go_enter Tryd.func9, Tryd.ntmps9
    go_wp2
    go_loopw [5] (fun i wr => ∃ k m : Nat, k ≤ n ∧ i = .int .i64 k ∧ wr = w.drewN m ∧ ∀ i, i < k → F i = G i) (fun i _ => n - (intOf i).toNat)
    case atStart => exact ⟨0, 0, Nat.zero_le _, rfl, rfl, fun i hi => absurd hi (Nat.not_lt_zero _)⟩
    case round =>
      obtain ⟨k, m, hk, rfl, hw, hE⟩ := hrel
      by_cases hlt : k < n
      · obtain ⟨b, o, rfl, -, hc⟩ := h4 (by omega)
        obtain ⟨b', o', rfl, -, hc'⟩ := k4 (by omega)
        have q1 : wr.cell? ⟨b, o + k, none⟩ = some (.int .u8 (F k : Nat)) := by rw [hw]; exact hc k hlt
        have q2 : wr.cell? ⟨b', o' + k, none⟩ = some (.int .u8 (G k : Nat)) := by rw [hw]; exact hc' k hlt
        have HW : Hid (wr = w.drewN m ∧ ∀ i, i < k → F i = G i) := ⟨hw, hE⟩
        have ib : ((k : Nat) : Int) < (n : Int) := by omega
        have W1 := wrap_succ8 (j := k) (by omega)
        have HN : Hid (n ≤ big) := hn
        by_cases hfg : F k = G k
        · rw [← hfg] at q2
          have Hfg : Hid (F k = G k) := hfg
          clear hc hc' hw h4 k4 hF hn hE hfg hn'
          go_wp2
          go_quiet (fail)
          go_wp2
          go_roundw
          case rel =>
            refine ⟨k + 1, m + nq, hlt, by first | rfl | (rw [W1]; rfl), by rw [HW.out.1, World.drewN_drewN], fun i hi => ?_⟩
            by_cases e : i = k
            · rw [e]; exact Hfg.out
            · exact HW.out.2 i (by omega)
          case measure => first | exact meas_lt8 hlt | (rw [W1]; exact meas_lt8 hlt)
        · have hI : ¬ (((F k : Nat) : Int) = ((G k : Nat) : Int)) := by omega
          have Hfg : Hid (¬ F k = G k) := hfg
          clear hc hc' hw h4 k4 hF hn hE hfg hn'
          go_wp2
          go_quiet (fail)
          go_wp2
          go_ret
          exact ⟨false, rfl, ⟨fun h => (by cases h), fun h => absurd (h.2 k hlt) Hfg.out⟩, m + nq, by rw [HW.out.1, World.drewN_drewN]⟩
      · have hk5 : k = n := by omega
        subst hk5
        subst hw
        go_wp2
        go_ret
        exact ⟨true, rfl, ⟨fun _ => ⟨by trivial, hE⟩, fun _ => rfl⟩, _, rfl⟩
theorem sb22_true (u v : Value) (n : Nat) (F G : Nat → Nat) (w : World) (h : Rb w u n F) (k : Rb w v n G) (e : ∀ i, i < n → F i = G i) :
    Calls Tryd.prog 9 #[u, v] w fun e w' => e = .returned (.bool true) ∧ ∃ m, w' = w.drewN m :=
  (sb22 u v n n F G w h k).mono fun _ w' ⟨b, h1, h2, h3⟩ => ⟨by rw [h1, h2.2 ⟨rfl, e⟩], h3⟩
set_option maxHeartbeats 2000000 in
set_option maxRecDepth 100000 in
theorem readnil22 (w : World) (v : Value) : Calls Tryd.prog 13 #[.pointer none, v] w fun e w' => e = .returned (.tuple #[.int .i64 0, .iface 57 (.int .i64 1)]) ∧ w' = w := by
  go_enter Tryd.func13, Tryd.ntmps13
  go_wp2
  go_ret2
  exact ⟨rfl, rfl⟩
set_option maxHeartbeats 2000000 in
set_option maxRecDepth 100000 in
theorem writenil22 (w : World) (v : Value) : Calls Tryd.prog 17 #[.pointer none, v] w fun e w' => e = .returned (.tuple #[.int .i64 0, .iface 57 (.int .i64 1)]) ∧ w' = w := by
  go_enter Tryd.func17, Tryd.ntmps17
  go_wp2
  go_ret2
  exact ⟨rfl, rfl⟩
set_option maxHeartbeats 2000000 in
set_option maxRecDepth 100000 in
theorem srcfailnil22 (w : World) : Calls Tryd.prog 16 #[.pointer none] w fun e w' => e = .returned .nilIface ∧ w' = w := by
  go_enter Tryd.func16, Tryd.ntmps16
  go_wp2
  go_ret
  exact ⟨rfl, rfl⟩
set_option maxHeartbeats 2000000 in
set_option maxRecDepth 100000 in
theorem snkfailnil22 (w : World) : Calls Tryd.prog 8 #[.pointer none] w fun e w' => e = .returned .nilIface ∧ w' = w := by
  go_enter Tryd.func8, Tryd.ntmps8
  go_wp2
  go_ret
  exact ⟨rfl, rfl⟩
set_option maxHeartbeats 2000000 in
set_option maxRecDepth 100000 in
theorem bytesnil22 (w : World) : Calls Tryd.prog 10 #[.pointer none] w fun e w' => e = .returned (.slice none 0 0) ∧ w' = w := by
  go_enter Tryd.func10, Tryd.ntmps10
  go_wp2
  go_ret
  exact ⟨rfl, rfl⟩
set_option maxHeartbeats 2000000 in
set_option maxRecDepth 100000 in
theorem putnil22 (w : World) (v : Value) : Calls Tryd.prog 7 #[.nilIface, v] w fun e w' => e = .returned (.tuple #[.int .i64 0, .iface 57 (.int .i64 1)]) ∧ w' = w := by
  go_enter Tryd.func7, Tryd.ntmps7
  go_wp2
  go_ret2
  exact ⟨rfl, rfl⟩
end Go.Proofs.YtfbgcednodnioabDoor
