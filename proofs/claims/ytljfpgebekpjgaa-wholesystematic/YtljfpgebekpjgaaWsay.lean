import Derived.Test.YtljfpgebekpjgaaWsax
import Derived.Test.YtljfpgebekpjgaaWsat
import Derived.BigQuiet
import Derived.Laws.BytesArg
namespace Go.Proofs.Ytljfpgebekpjgaa
open Go.RowKit Gf2
set_option linter.unusedVariables false

theorem rows11q {w : World} {u : Value} {m n : Nat} {S : Nat → Nat → Nat} (h : Lb w u m (fun _ => n) S) (h0 : 1 ≤ m) (h1 : 1 ≤ n) : ∃ b o cap, ∃ BX OX CX : Nat → Nat, u = .slice (some ⟨b, o, none⟩) m cap ∧ ∀ y, Below w.heap.size w y → ∀ i, i < m → y.cell? ⟨b, o + i, none⟩ = some (.slice (some ⟨BX i, OX i, none⟩) n (CX i)) ∧ Rb y (.slice (some ⟨BX i, OX i, none⟩) n (CX i)) n (S i) := by
  obtain ⟨V, ⟨hnb, a, cap, rfl, -, -, h4⟩, hV⟩ := h
  obtain ⟨b, o, rfl, hbl, hc⟩ := h4 h0
  have each : ∀ i, ∃ bx ox cx, i < m → V i = .slice (some ⟨bx, ox, none⟩) n cx := fun i => by
    by_cases hi : i < m
    · obtain ⟨_, _, x, cx, e, h5, _, h6⟩ := hV i hi
      obtain ⟨bx, ox, e1, _⟩ := h6 h1
      exact ⟨bx, ox, cx, fun _ => by rw [e, e1]⟩
    · exact ⟨0, 0, 0, fun h => absurd h hi⟩
  obtain ⟨BX, h1⟩ := Classical.skolem.1 each
  obtain ⟨OX, h2⟩ := Classical.skolem.1 h1
  obtain ⟨CX, h3⟩ := Classical.skolem.1 h2
  refine ⟨b, o, cap, BX, OX, CX, rfl, fun y hy i hi => ?_⟩
  have e := h3 i hi
  have hr := (hV i hi).rb.below hy
  rw [e] at hr
  exact ⟨by rw [← e, ← hc i hi]; exact hy.cell (p := ⟨b, o + i, none⟩) hbl.1, hr⟩
/-- a list of bytes as a text. -/
def sb11 (n : Nat) (S : Nat → Nat) : ByteArray := strOfNums ((List.range n).map (fun i => (S i : Int)))
theorem sb11_congr {n : Nat} {S T : Nat → Nat} (e : ∀ i, i < n → S i = T i) : sb11 n S = sb11 n T := by
  unfold sb11
  congr 1
  apply List.map_congr_left
  intro i hi
  rw [e i (List.mem_range.1 hi)]
theorem str11 {w : World} {b o n cap : Nat} {S : Nat → Nat} (h : Rb w (.slice (some ⟨b, o, none⟩) n cap) n S) (h1 : 1 ≤ n) (q : Nat) :
    (convert 28 9 (.slice (some ⟨b, o, none⟩) n cap)).run Try.prog (w.drewN q) = .ok (.string (sb11 n S)) (w.drewN q) := by
  obtain ⟨-, -, x, cx, e, -, -, h4⟩ := h
  cases e
  obtain ⟨b', o', e, hc⟩ := h4 h1
  cases e
  refine run_convert_bytes_arg (P := Try.prog) (w.drewN q) 28 5 Try.underlying28 Try.underlying5 b o n cap _ (by simp) (fun i hi => ?_) 9 Try.underlying9
  have hc := hc.2 i hi
  refine Eq.trans hc ?_
  simp [List.getD, hi]
set_option maxHeartbeats 2000000 in
set_option maxRecDepth 100000 in
theorem same11_true (u v : Value) (m c : Nat) (S T : Nat → Nat → Nat) (w : World) (h : Lb w u m (fun _ => c) S) (k : Lb w v m (fun _ => c) T) (hm : 1 ≤ m) (hm2 : m ≤ 1000) (hc : 1 ≤ c) (e : ∀ i, i < m → ∀ j, j < c → S i j = T i j) :
    Calls Try.prog 8 #[u, v] w fun e w' => e = .returned (.bool true) ∧ ∃ q, w' = w.drewN q := by
  obtain ⟨b, o, cap, BX, OX, CX, rfl, hU⟩ := rows11q h hm hc
  obtain ⟨b', o', cap', BY, OY, CY, rfl, hV⟩ := rows11q k hm hc
  have HU : Hid _ := hU
  have HV : Hid _ := hV
  have HN : Hid (1 ≤ m ∧ m ≤ 1000 ∧ 1 ≤ c) := ⟨hm, hm2, hc⟩
  have HE : Hid (∀ i, i < m → sb11 c (T i) = sb11 c (S i)) := fun i hi => sb11_congr (fun j hj => (e i hi j hj).symm)
  clear hU hV hm hm2 hc h k e
  go_enter Try.func8, Try.ntmps8
  go_wp2
  go_loopw [13] (fun i wr => ∃ r q : Nat, r ≤ m ∧ i = .int .i64 r ∧ Hid (wr = w.drewN q)) (fun i _ => m - (intOf i).toNat)
  case atStart => exact ⟨0, 0, Nat.zero_le _, rfl, rfl⟩
  case round =>
    obtain ⟨r, q, hr, rfl, hw⟩ := hrel
    by_cases hlt : r < m
    · have hbr : Below w.heap.size w wr := by rw [hw.out]; exact below_drewN (Below.refl _ _) q
      obtain ⟨q1, r1⟩ := HU.out wr hbr r hlt
      obtain ⟨q2, r2⟩ := HV.out wr hbr r hlt
      have kc1 := str11 r1 HN.out.2.2
      have kc2 := str11 r2 HN.out.2.2
      rw [HE.out r hlt] at kc2
      have ib : ((r : Nat) : Int) < (m : Int) := Int.ofNat_lt.2 hlt
      have W1 := wrap_lt8 hlt HN.out.2.1
      have HX : Hid (r < m) := hlt
      generalize sb11 c (S r) = s at kc1 kc2
      generalize BX r = bx at q1 kc1
      generalize OX r = ox at q1 kc1
      generalize CX r = cx at q1 kc1
      generalize BY r = bx' at q2 kc2
      generalize OY r = ox' at q2 kc2
      generalize CY r = cx' at q2 kc2
      clear r1 r2 hbr HU HV HE hlt hr
      go_wp2
      go_quiet (fail)
      go_wp2
      go_roundw
      case rel => exact ⟨r + 1, q + nq, HX.out, by first | rfl | (rw [W1]; rfl), by show _ = _; rw [hw.out, World.drewN_drewN]⟩
      case measure => first | exact meas_lt8 HX.out | (rw [W1]; exact meas_lt8 HX.out)
    · have hkm : r = m := by omega
      subst hkm
      have HQ : Hid (∃ q, wr = w.drewN q) := ⟨q, hw.out⟩
      clear hw HU HV HE hlt hr
      go_wp2
      go_ret
      exact ⟨rfl, HQ.out⟩
end Go.Proofs.Ytljfpgebekpjgaa
