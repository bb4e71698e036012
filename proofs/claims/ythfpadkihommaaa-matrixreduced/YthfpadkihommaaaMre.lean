import Derived.Test.YthfpadkihommaaaMyc
import Derived.Test.YthfpadkihommaaaMxo
import Derived.Test.YthfpadkihommaaaGmd
import Derived.BigQuiet
namespace Go.Proofs.Ythfpadkihommaaa
open Go.RowKit Gf2
set_option linter.unusedVariables false

set_option maxHeartbeats 2000000 in
set_option maxRecDepth 100000 in
theorem sameInts10_true (u v : Value) (n : Nat) (F G : Nat → Int) (w : World) (h : Qi w u n F) (k : Qi w v n G) (hn : n ≤ 1000) (e : ∀ i, i < n → F i = G i) :
    Calls Try.prog 19 #[u, v] w fun e w' => e = .returned (.bool true) ∧ ∃ q, w' = w.drewN q := by
  obtain ⟨-, -, a, cap, rfl, -, -, h4⟩ := h
  obtain ⟨-, -, a', cap', rfl, -, -, k4⟩ := k
  go_enter Try.func19, Try.ntmps19
  go_wp2
  go_loopw [5] (fun i wr => ∃ k q : Nat, k ≤ n ∧ i = .int .i64 k ∧ Hid (wr = w.drewN q)) (fun i _ => n - (intOf i).toNat)
  case atStart => exact ⟨0, 0, Nat.zero_le _, rfl, rfl⟩
  case round =>
    obtain ⟨k, q, hk, rfl, hw⟩ := hrel
    by_cases hlt : k < n
    · obtain ⟨b, o, rfl, -, hc⟩ := h4 (by omega)
      obtain ⟨b', o', rfl, -, hc'⟩ := k4 (by omega)
      have q1 : wr.cell? ⟨b, o + k, none⟩ = some (.int .i64 (F k)) := by rw [hw.out]; exact hc k hlt
      have q2 : wr.cell? ⟨b', o' + k, none⟩ = some (.int .i64 (F k)) := by rw [hw.out, e k hlt]; exact hc' k hlt
      have ib : ((k : Nat) : Int) < (n : Int) := Int.ofNat_lt.2 hlt
      have W1 := wrap_lt8 hlt hn
      have HX : Hid (k < n) := hlt
      generalize F k = x at q1 q2
      clear hc hc' h4 k4 hn e hlt hk
      go_wp2
      go_quiet (fail)
      go_wp2
      go_roundw
      case rel => exact ⟨k + 1, q + nq, HX.out, by first | rfl | (rw [W1]; rfl), by show _ = _; rw [hw.out, World.drewN_drewN]⟩
      case measure => first | exact meas_lt8 HX.out | (rw [W1]; exact meas_lt8 HX.out)
    · have hkm : k = n := by omega
      subst hkm
      have HQ : Hid (∃ q, wr = w.drewN q) := ⟨q, hw.out⟩
      clear hw h4 k4 e hn hlt hk
      go_wp2
      go_ret
      exact ⟨rfl, HQ.out⟩
set_option maxHeartbeats 2000000 in
set_option maxRecDepth 100000 in
theorem ends10_true (u v : Value) (n : Nat) (F G : Nat → Nat) (w : World) (h : Rb w u n F) (k : Rb w v n G) (hn : n ≤ 1000) (e : sx n (fun j => fm 285 (F j) (G j)) = 0) :
    Calls Try.prog 24 #[u, v] w fun e w' => e = .returned (.bool true) ∧ ∃ q, w' = w.drewN q := by
  obtain ⟨-, hF, a, cap, rfl, -, -, h4⟩ := h
  obtain ⟨-, hG, a', cap', rfl, -, -, k4⟩ := k
  go_enter Try.func24, Try.ntmps24
  go_wp2
  go_loopw [5, 6] (fun s i wr => ∃ k q : Nat, k ≤ n ∧ s = .int .u8 (sx k (fun j => fm 285 (F j) (G j)) : Nat) ∧ i = .int .i64 k ∧ Hid (wr = w.drewN q)) (fun _ i _ => n - (intOf i).toNat)
  case atStart => exact ⟨0, 0, Nat.zero_le _, rfl, rfl, rfl⟩
  case round =>
    obtain ⟨k, q, hk, rfl, rfl, hw⟩ := hrel
    by_cases hlt : k < n
    · obtain ⟨b, o, rfl, -, hc⟩ := h4 (by omega)
      obtain ⟨b', o', rfl, -, hc'⟩ := k4 (by omega)
      have q1 : wr.cell? ⟨b, o + k, none⟩ = some (.int .u8 (F k : Nat)) := by rw [hw.out]; exact hc k hlt
      have q2 : wr.cell? ⟨b', o' + k, none⟩ = some (.int .u8 (G k : Nat)) := by rw [hw.out]; exact hc' k hlt
      have ib : ((k : Nat) : Int) < (n : Int) := Int.ofNat_lt.2 hlt
      have W1 := wrap_lt8 hlt hn
      have c5 := fun y => gmul_nat (F k) (G k) y (hF k hlt) (hG k hlt)
      have XX := u8_xor_nat (sx k (fun j => fm 285 (F j) (G j))) (fm 285 (F k) (G k)) (sx_lt (d := 8) (fun _ _ => fm8_lt _ _)) (fm8_lt _ _)
      have HX : Hid (k < n) := hlt
      have HE : Hid (sx (k + 1) (fun j => fm 285 (F j) (G j)) = sx k (fun j => fm 285 (F j) (G j)) ^^^ fm 285 (F k) (G k)) := rfl
      generalize sx k (fun j => fm 285 (F j) (G j)) = s at XX HE ⊢
      generalize fm 285 (F k) (G k) = d at XX HE c5
      generalize F k = x at q1 c5
      generalize G k = y at q2 c5
      clear hc hc' h4 k4 hn e hlt hk hF hG
      go_wp2
      go_quiet ((go_at_call 25; with_reducible exact Calls.quiet_of_same (c5 _)))
      go_wp2
      go_roundw
      case rel => exact ⟨k + 1, q + nq, HX.out, by rw [HE.out], by first | rfl | (rw [W1]; rfl), by show _ = _; rw [hw.out, World.drewN_drewN]⟩
      case measure => first | exact meas_lt8 HX.out | (rw [W1]; exact meas_lt8 HX.out)
    · have hkm : k = n := by omega
      subst hkm
      have HQ : Hid (∃ q, wr = w.drewN q) := ⟨q, hw.out⟩
      rw [e]
      clear hw h4 k4 e hn hlt hk hF hG
      go_wp2
      go_ret
      exact ⟨rfl, HQ.out⟩
end Go.Proofs.Ythfpadkihommaaa
