import Derived.Test.YtbcjpcdipcomiaaDoorAj4
import Derived.Test.YtbcjpcdipcomiaaDoorApz
namespace Go.Proofs.YtbcjpcdipcomiaaDoor
open Go.RowKit Gf2
set_option linter.unusedVariables false

theorem Q6.drewNr {w : World} {v : Value} {n : Nat} {F : Nat → Nat} (h : Q6 w v n F) (m : Nat) : Q6 (w.drewN m) v n F := by
  obtain ⟨h1, h2, a, cap, h3, h5, h6, h4⟩ := h
  exact ⟨h1, h2, a, cap, h3, h5, h6, h4⟩
theorem pow16r {c k : Nat} (h : c = 2 ^ k) (hc : c ≤ 65536) : k ≤ 16 := by
  rcases Nat.lt_or_ge 16 k with h9 | h9
  · have := Nat.pow_le_pow_right (n := 2) (by decide) (show 17 ≤ k from h9)
    omega
  · exact h9
set_option maxHeartbeats 2000000 in
set_option maxRecDepth 100000 in
theorem words14 (u v : Value) (n : Nat) (F : Nat → Nat) (w : World) (h : Q6 w u n F) (k : Q6 w v n F) :
    Calls Tryd.prog 5 #[u, v] w fun e w' => e = .returned (.bool true) ∧ ∃ m, w' = w.drewN m := by
  obtain ⟨hn, hF, a, cap, rfl, -, -, h4⟩ := h
  obtain ⟨-, -, c, cap', rfl, -, -, k4⟩ := k
  go_enter Tryd.func5, Tryd.ntmps5
  go_wp2
  go_loopw [13] (fun i wr => ∃ k m : Nat, k ≤ n ∧ i = .int .i64 k ∧ wr = w.drewN m) (fun i _ => n - (intOf i).toNat)
  case atStart => exact ⟨0, 0, Nat.zero_le _, rfl, rfl⟩
  case round =>
    obtain ⟨k, m, hk, rfl, hw⟩ := hrel
    by_cases hlt : k < n
    · obtain ⟨b, o, rfl, -, hc⟩ := h4 (by omega)
      obtain ⟨b', o', rfl, -, hc'⟩ := k4 (by omega)
      have q1 : wr.cell? ⟨b, o + k, none⟩ = some (.int .u16 (F k : Nat)) := by rw [hw]; exact hc k hlt
      have q2 : wr.cell? ⟨b', o' + k, none⟩ = some (.int .u16 (F k : Nat)) := by rw [hw]; exact hc' k hlt
      have HW : Hid (wr = w.drewN m) := hw
      have ib : ((k : Nat) : Int) < (n : Int) := by omega
      have W1 := wrap_succ8 (j := k) (by omega)
      clear hc hc' hw h4 k4 hF hn
      go_wp2
      go_quiet (fail)
      go_wp2
      go_roundw
      case rel => exact ⟨k + 1, m + nq, hlt, by first | rfl | (rw [W1]; rfl), by rw [HW.out, World.drewN_drewN]⟩
      case measure => first | exact meas_lt8 hlt | (rw [W1]; exact meas_lt8 hlt)
    · have hk5 : k = n := by omega
      subst hk5
      subst hw
      go_wp2
      go_ret
      exact ⟨rfl, _, rfl⟩
/-- copy into a row, out of a list of any length. -/
theorem copy6p (w : World) {g N : Nat} {F : Nat → Nat} (hr : R6 w g N F) {a : Option Addr} {n cap : Nat} {S : Nat → Nat} (h : Q6 w (.slice a n cap) n S) :
    ∃ (w' : World) (z : Nat), (Builtin.copy_ #[22, 22] 3 #[.slice (some ⟨g, 0, none⟩) N N, .slice a n cap]).run Tryd.prog w = .ok (goInt z) w' ∧ R6 w' g N (fun i => if i < n then S i else F i) ∧ Only g w w' := by
  obtain ⟨-, hS, a', cap', e, -, -, h4⟩ := h
  cases e
  by_cases h0 : n = 0
  · subst h0
    exact ⟨w, 0, run_copy_none (P := Tryd.prog) _ 22 22 3 26 _ a N N 0 cap Tryd.underlying22 info_w6s (by simp), hr.congr (fun i hi => by rw [if_neg (Nat.not_lt_zero _)]), Only.refl _ _⟩
  · obtain ⟨b, p, rfl, hl, hcell⟩ := h4 (by omega)
    obtain ⟨h1, h2, c, hc, hs, hv⟩ := hr
    obtain ⟨z, hz⟩ : ∃ z, z = Nat.min n N := ⟨_, rfl⟩
    have z1 : z ≤ n := by rw [hz]; exact Nat.min_le_left _ _
    have z2 : z ≤ N := by rw [hz]; exact Nat.min_le_right _ _
    have z3 : z < N → z = n := fun h => by
      have : Nat.min n N = n ∨ Nat.min n N = N := by
        rcases Nat.le_total n N with h9 | h9
        · exact .inl (Nat.min_eq_left h9)
        · exact .inr (Nat.min_eq_right h9)
      omega
    obtain ⟨cs, hcs⟩ : ∃ cs : List Value, cs = (List.range z).map (fun i => Value.int .u16 ((S i : Nat) : Int)) := ⟨_, rfl⟩
    have hlen : cs.length = z := by rw [hcs]; simp
    have hget : ∀ j, j < z → cs[j]? = some (Value.int .u16 ((S j : Nat) : Int)) := fun j hj => by rw [hcs]; simp [hj]
    have hr := run_copy_row (P := Tryd.prog) w 22 22 3 26 g 0 N N ⟨b, p, none⟩ n cap c 26 cs Tryd.underlying22 info_w6s hc (by rw [hlen, hz])
      (fun j u hu => by
        have hj : j < z := by
          rcases Nat.lt_or_ge j z with h9 | h9
          · exact h9
          · rw [List.getElem?_eq_none (by omega)] at hu; cases hu
        rw [hget j hj] at hu
        cases hu
        have ea : (⟨b, p, none⟩ : Addr).add j = ⟨b, p + j, none⟩ := by unfold Addr.add; split <;> simp_all
        rw [ea]
        exact hcell j (by omega)) (by rw [hlen, hs]; omega) (fun u hu => by
        rw [hcs] at hu
        obtain ⟨x, _, rfl⟩ := List.mem_map.1 hu
        rfl)
    rw [hlen] at hr
    refine ⟨_, z, hr, ⟨h1, fun i hi => ?_, _, setRow_heap _ _ _ _ _ _ hc, ?_, fun i hi => ?_⟩, (Only.refl _ _).setRow _⟩
    · dsimp only
      split
      · exact hS i (by assumption)
      · exact h2 i hi
    · simp [hlen, hs]; omega
    · rw [List.getElem?_toArray]
      simp only [List.take_zero, List.nil_append, Nat.zero_add]
      by_cases e : i < z
      · rw [List.getElem?_append_left (by rw [hlen]; exact e), hget i e, if_pos (by omega)]
      · rw [List.getElem?_append_right (by rw [hlen]; omega), hlen, List.getElem?_drop, if_neg (by omega), show z + (i - z) = i by omega, Array.getElem?_toList]
        exact hv i hi
theorem sq_nums {B n : Nat} (h : B < 1024) : wrap64 ((B : Int) * 2) = ((2 * B : Nat) : Int) := by unfold wrap64; omega
theorem meas_sq {B : Nat} (h0 : 0 < B) (h : B < 1024) : 1024 - (intOf (Value.int .i64 ((2 * B : Nat) : Int))).toNat < 1024 - (intOf (Value.int .i64 (B : Int))).toNat := by
  simp only [intOf]; omega
theorem pow_1024 {B k : Nat} (h : B = 2 ^ k) (hB : B < 1024) : 2 * B ≤ 1024 := by
  have hk : k < 10 := by
    rcases Nat.lt_or_ge k 10 with h9 | h9
    · exact h9
    · have := Nat.pow_le_pow_right (n := 2) (by decide) h9
      omega
  have := Nat.pow_le_pow_right (n := 2) (by decide) (show k ≤ 9 by omega)
  omega
set_option maxHeartbeats 4000000 in
set_option maxRecDepth 100000 in
theorem square14 (a : Option Addr) (n cap : Nat) (F : Nat → Nat) (w : World) (h : Q6 w (.slice a n cap) n F) :
    Calls Tryd.prog 6 #[.slice a n cap, .int .i64 1024] w fun e w' => ∃ k N : Nat, e = .returned (.slice (some ⟨w.heap.size, 0, none⟩) N N) ∧ Hid (N = 2 ^ k ∧ N ≤ 1024 ∧ R6 w' w.heap.size N (fun i => if i < n then F i else 0) ∧ Below w.heap.size w w') := by
  have HQ : Hid (Q6 w (.slice a n cap) n F) := h
  clear h
  go_enter Tryd.func6, Tryd.ntmps6
  go_wp2
  go_loopw [5] (fun bv wr => ∃ k B : Nat, Hid (B = 2 ^ k ∧ B ≤ 1024) ∧ bv = .int .i64 B ∧ wr = w) (fun bv _ => 1024 - (intOf bv).toNat)
  case atStart => exact ⟨0, 1, ⟨rfl, by decide⟩, rfl, rfl⟩
  case round =>
    obtain ⟨k, B, hB, rfl, hw⟩ := hrel
    have B0 : 0 < B := by rw [hB.out.1]; exact Nat.two_pow_pos k
    by_cases hlt : B < n ∧ B < 1024
    · have t1 : (B : Int) < (n : Int) := by omega
      have t2 : (B : Int) < 1024 := by omega
      have HL : Hid (0 < B ∧ B < 1024 ∧ 2 * B ≤ 1024) := ⟨B0, hlt.2, pow_1024 hB.out.1 hlt.2⟩
      have HW : Hid (wr = w) := hw
      have W2 := sq_nums (n := n) hlt.2
      clear hw hlt B0
      go_wp2
      go_roundw
      case rel => exact ⟨k + 1, 2 * B, ⟨by rw [hB.out.1, Nat.pow_succ, Nat.mul_comm], HL.out.2.2⟩, by first | rfl | (rw [W2]; rfl) | rw [W2] | rw [dbl14], HW.out⟩
      case measure => first | exact meas_sq HL.out.1 HL.out.2.1 | (rw [W2]; exact meas_sq HL.out.1 HL.out.2.1) | (rw [dbl14]; exact meas_sq HL.out.1 HL.out.2.1)
    · have hle := hB.out.2
      have hmk := make_w6 B (by omega) w
      have r0 := made_r6 B (by omega) w
      have b0 := made_b6 B w
      obtain ⟨w1, z, hcp, r1, o1⟩ := copy6p _ r0 (HQ.out.below b0)
      have HV : Hid (R6 w1 w.heap.size B (fun i => if i < n then F i else 0) ∧ Below w.heap.size w w1) := ⟨r1, b0.trans (o1.below (Nat.le_refl _))⟩
      subst hw
      clear r0 b0 r1 o1 B0
      by_cases h1 : B < n
      · have t1 : (B : Int) < (n : Int) := by omega
        have t2 : ¬ (B : Int) < 1024 := by omega
        clear hlt hle
        go_wp2
        go_ret
        exact ⟨k, B, rfl, hB.out.1, hB.out.2, HV.out⟩
      · have t1 : ¬ (B : Int) < (n : Int) := by omega
        clear hlt hle
        go_wp2
        go_ret
        exact ⟨k, B, rfl, hB.out.1, hB.out.2, HV.out⟩
end Go.Proofs.YtbcjpcdipcomiaaDoor
