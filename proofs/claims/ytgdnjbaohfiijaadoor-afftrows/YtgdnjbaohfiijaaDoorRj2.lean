import Derived.Test.YtgdnjbaohfiijaaDoorRj1
import Derived.Test.YtgdnjbaohfiijaaDoorAfftBackWalk
namespace Go.Proofs.YtgdnjbaohfiijaaDoor
open Go.RowKit Gf2
set_option linter.unusedVariables false

-- layer 14: the document's Power, Coset, Elements, Forward, Inverse, Extend
theorem rp_wrap {B : Nat} (h : B ≤ 65536) : wrap64 (2 * (B : Int)) = ((2 * B : Nat) : Int) := by unfold wrap64; omega
theorem rp_meas {B : Nat} (h0 : 0 < B) (h : B ≤ 65536) : 131072 - (intOf (Value.int .i64 ((2 * B : Nat) : Int))).toNat < 131072 - (intOf (Value.int .i64 (B : Int))).toNat := by
  simp only [intOf]; omega
theorem pow_le16r {j : Nat} (h : j ≤ 16) : 2 ^ j ≤ 65536 := Nat.pow_le_pow_right (n := 2) (by decide) h
theorem pow_up {j k : Nat} (h : j < k) : 2 * 2 ^ j ≤ 2 ^ k := by
  have := Nat.pow_le_pow_right (n := 2) (by decide) (show j + 1 ≤ k from h)
  rw [Nat.pow_succ] at this
  omega
set_option maxHeartbeats 4000000 in
set_option maxRecDepth 100000 in
theorem refPow_yes (k n : Nat) (hn : n = 2 ^ k) (hk : k ≤ 16) (w : World) :
    Calls Tryd.prog 31 #[.int .i64 (n : Int)] w fun e w' => e = .returned (.bool true) ∧ w' = w := by
  have HK : Hid (n = 2 ^ k ∧ k ≤ 16) := ⟨hn, hk⟩
  clear hn hk
  go_enter Tryd.func31, Tryd.ntmps31
  go_wp2
  go_loopw [3] (fun bv wr => ∃ j B : Nat, Hid (j ≤ k ∧ B = 2 ^ j) ∧ bv = .int .i64 B ∧ wr = w) (fun bv _ => 131072 - (intOf bv).toNat)
  case atStart => exact ⟨0, 1, ⟨Nat.zero_le _, rfl⟩, rfl, rfl⟩
  case round =>
    obtain ⟨j, B, hB, rfl, hw⟩ := hrel
    have B0 : 0 < B := by rw [hB.out.2]; exact Nat.two_pow_pos j
    have B1 : B ≤ 65536 := by rw [hB.out.2]; exact pow_le16r (Nat.le_trans hB.out.1 HK.out.2)
    have t1 : (B : Int) ≤ 65536 := by omega
    have HW : Hid (wr = w) := hw
    by_cases hjk : j = k
    · obtain rfl : B = n := by rw [hB.out.2, HK.out.1, hjk]
      subst hw
      clear hB B0 B1 HW
      go_wp2
      go_ret
      exact ⟨rfl, rfl⟩
    · have hne : B ≠ n := by
        rw [hB.out.2, HK.out.1]
        have := pow_up (show j < k by have := hB.out.1; omega)
        have := Nat.two_pow_pos j
        omega
      have t2 : ((B : Int) == (n : Int)) = false := by simp; omega
      have t3 : (B : Int) ≠ (n : Int) := by omega
      have HV : Hid (j + 1 ≤ k ∧ 2 * B = 2 ^ (j + 1) ∧ 0 < B ∧ B ≤ 65536) := ⟨by have := hB.out.1; omega, by rw [hB.out.2, Nat.pow_succ, Nat.mul_comm], B0, B1⟩
      have W2 := rp_wrap B1
      clear hw hB B0 B1 hne hjk
      go_wp2
      go_roundw
      case rel => exact ⟨j + 1, 2 * B, ⟨HV.out.1, HV.out.2.1⟩, by first | rfl | (rw [W2]; rfl) | rw [W2], HW.out⟩
      case measure => first | exact rp_meas HV.out.2.2.1 HV.out.2.2.2 | (rw [W2]; exact rp_meas HV.out.2.2.1 HV.out.2.2.2)
set_option maxHeartbeats 4000000 in
set_option maxRecDepth 100000 in
theorem refPow_no (n : Int) (hn : ∀ m : Nat, n = m → ¬ pw2 m 65536) (w : World) :
    Calls Tryd.prog 31 #[.int .i64 n] w fun e w' => e = .returned (.bool false) ∧ w' = w := by
  have HK : Hid (∀ m : Nat, n = m → ¬ pw2 m 65536) := hn
  clear hn
  go_enter Tryd.func31, Tryd.ntmps31
  go_wp2
  go_loopw [3] (fun bv wr => ∃ j B : Nat, Hid (j ≤ 17 ∧ B = 2 ^ j) ∧ bv = .int .i64 B ∧ wr = w) (fun bv _ => 131072 - (intOf bv).toNat)
  case atStart => exact ⟨0, 1, ⟨Nat.zero_le _, rfl⟩, rfl, rfl⟩
  case round =>
    obtain ⟨j, B, hB, rfl, hw⟩ := hrel
    have B0 : 0 < B := by rw [hB.out.2]; exact Nat.two_pow_pos j
    have HW : Hid (wr = w) := hw
    by_cases hj : j ≤ 16
    · have B1 : B ≤ 65536 := by rw [hB.out.2]; exact pow_le16r hj
      have t1 : (B : Int) ≤ 65536 := by omega
      have hne : n ≠ (B : Int) := fun e => HK.out B e ⟨j, hB.out.2, B1⟩
      have t2 : ((B : Int) == n) = false := by simp; omega
      have t3 : (B : Int) ≠ n := fun e => hne e.symm
      have HV : Hid (j + 1 ≤ 17 ∧ 2 * B = 2 ^ (j + 1) ∧ 0 < B ∧ B ≤ 65536) := ⟨by omega, by rw [hB.out.2, Nat.pow_succ, Nat.mul_comm], B0, B1⟩
      have W2 := rp_wrap B1
      clear hw hB B0 B1 hne hj
      go_wp2
      go_roundw
      case rel => exact ⟨j + 1, 2 * B, ⟨HV.out.1, HV.out.2.1⟩, by first | rfl | (rw [W2]; rfl) | rw [W2], HW.out⟩
      case measure => first | exact rp_meas HV.out.2.2.1 HV.out.2.2.2 | (rw [W2]; exact rp_meas HV.out.2.2.1 HV.out.2.2.2)
    · obtain rfl : j = 17 := by have := hB.out.1; omega
      obtain rfl : B = 131072 := hB.out.2
      have t1 : ¬ ((131072 : Nat) : Int) ≤ 65536 := by decide
      subst hw
      clear hB B0 hj HW
      go_wp2
      go_ret
      exact ⟨rfl, rfl⟩
theorem rc_wrap {m p : Nat} (h1 : m ≤ 65536) (h2 : p ≤ 65536) : wrap64 ((m : Int) + (p : Int)) = ((m + p : Nat) : Int) := by unfold wrap64; omega
set_option maxHeartbeats 4000000 in
set_option maxRecDepth 100000 in
theorem refCoset (s : Int) (n p : Nat) (hn : 0 < n) (w : World) :
    Calls Tryd.prog 32 #[.int .i64 s, .int .i64 (n : Int), .int .i64 (p : Int)] w fun e w' => e = .returned (.bool (decide (Beg s n p))) ∧ w' = w := by
  by_cases h0 : 0 ≤ s
  · obtain ⟨m, rfl⟩ := Int.eq_ofNat_of_zero_le h0
    by_cases h1 : m ≤ 65536
    · have a1 : (m : Int) ≤ 65536 := by omega
      by_cases h2 : p ≤ 65536
      · have a2 : (p : Int) ≤ 65536 := by omega
        by_cases h3 : m + p ≤ 65536
        · have a3 : (m : Int) + (p : Int) ≤ 65536 := by omega
          have tm : (m : Int).tmod (n : Int) = ((m % n : Nat) : Int) := by rw [Int.tmod_eq_emod_of_nonneg (by omega)]; rfl
          have n0 : ((n : Int) == 0) = false := by simp; omega
          have n1 : (n : Int) ≠ 0 := by omega
          have hB : decide (Beg (m : Int) n p) = decide (m % n = 0) := by
            have e : ((m : Int) % (n : Int) = 0) ↔ m % n = 0 := by
              rw [show ((m : Int) % (n : Int)) = ((m % n : Nat) : Int) by simp]; omega
            unfold Beg
            by_cases a : m % n = 0 <;> simp [a, e] <;> omega
          rw [hB]
          obtain ⟨R, hR⟩ : ∃ R, R = m % n := ⟨_, rfl⟩
          rw [← hR] at tm ⊢
          by_cases a : R = 0
          · subst a
            clear hB hR h1 h2 h3 hn
            go_enter Tryd.func32, Tryd.ntmps32
            go_wp2
            go_ret
            exact ⟨rfl, rfl⟩
          · have a2 : ((R : Int) == 0) = false := by simp; omega
            rw [show decide (R = 0) = false by simpa using a]
            clear hB hR h1 h2 h3 hn
            go_enter Tryd.func32, Tryd.ntmps32
            go_wp2
            go_ret
            exact ⟨rfl, rfl⟩
        · have a3 : ¬ (m : Int) + (p : Int) ≤ 65536 := by omega
          rw [show decide (Beg (m : Int) n p) = false by unfold Beg; simp; omega]
          clear h1 h2 h3 hn
          go_enter Tryd.func32, Tryd.ntmps32
          go_wp2
          go_ret
          exact ⟨rfl, rfl⟩
      · have a2 : ¬ (p : Int) ≤ 65536 := by omega
        rw [show decide (Beg (m : Int) n p) = false by unfold Beg; simp; omega]
        clear h1 h2 hn
        go_enter Tryd.func32, Tryd.ntmps32
        go_wp2
        go_ret
        exact ⟨rfl, rfl⟩
    · have a1 : ¬ (m : Int) ≤ 65536 := by omega
      rw [show decide (Beg (m : Int) n p) = false by unfold Beg; simp; omega]
      clear h1 hn
      go_enter Tryd.func32, Tryd.ntmps32
      go_wp2
      go_ret
      exact ⟨rfl, rfl⟩
  · rw [show decide (Beg s n p) = false by unfold Beg; simp [h0]]
    clear hn
    go_enter Tryd.func32, Tryd.ntmps32
    go_wp2
    go_ret
    exact ⟨rfl, rfl⟩
end Go.Proofs.YtgdnjbaohfiijaaDoor
namespace Go.Proofs.YtgdnjbaohfiijaaDoor
open Go.RowKit Gf2
set_option linter.unusedVariables false

-- layer 14: the document's Forward and Inverse (laid by wip/genrfd.py)
theorem elems14 (w : World) : Calls Tryd.prog 34 #[] w fun e w' => ∃ g C : Nat, e = .returned (.slice (some ⟨g, 0, none⟩) 65536 C) ∧ We14 w' g ∧ Below w.heap.size w w' :=
  (refElements_any w).mono fun e w' ⟨g, cap, he, h1, h2, h3⟩ => ⟨g, cap, he, ⟨h2, fun i hi => by
    rw [h1.cellAt i (by omega)]
    exact vU_get (wes_get hi)⟩, h3⟩
set_option maxHeartbeats 4000000 in
set_option maxRecDepth 100000 in
theorem refForward14 (b o cap k n s : Nat) (F : Nat → Nat) (w : World) (h : Q6 w (.slice (some ⟨b, o, none⟩) n cap) n F) (hk : k ≤ 16) (hn : n = 2 ^ k) (hd : n ∣ s) (hs : s + n ≤ 65536) :
    Calls Tryd.prog 13 #[.slice (some ⟨b, o, none⟩) n cap, .int .i64 (s : Int)] w fun e w' => ∃ g C G, e = .returned (.tuple #[.slice (some ⟨g, 0, none⟩) n C, .int .i64 0]) ∧ n ≤ C ∧ w.heap.size ≤ g ∧ R6 w' g C G ∧ (∀ i, i < n → G i = fw s k F k i) ∧ Below w.heap.size w w' := by
  have k1 := refPow_yes k n hn hk w
  have k2 := refCoset (s : Int) n n (by rw [hn]; exact Nat.two_pow_pos k) w
  rw [show decide (Beg (s : Int) n n) = true from decide_eq_true (beg_of hd hs)] at k2
  have k3 : Calls Tryd.prog 34 #[] w fun e w1 => ∃ gw cw' : Nat, e = .returned (.slice (some ⟨gw, 0, none⟩) 65536 cw') ∧
      Calls Tryd.prog 33 #[.slice (some ⟨b, o, none⟩) n cap, .int .i64 (s : Int), .slice (some ⟨gw, 0, none⟩) 65536 cw'] w1 fun e w2 => ∃ g C : Nat, e = .returned (.slice (some ⟨g, 0, none⟩) n C) ∧ Hid (∃ G, n ≤ C ∧ w.heap.size ≤ g ∧ R6 w2 g C G ∧ (∀ i, i < n → G i = fw s k F k i) ∧ Below w.heap.size w w2) := by
    refine (elems14 w).mono fun e w1 ⟨gw, cw', he, hw, b1⟩ => ⟨gw, cw', he, ?_⟩
    refine (refvals gw cw' k b o cap n s F w1 hk hn hs (h.below b1) hw).mono fun e w2 ⟨g, C, G, he, hC, hg, hR, hG, b2⟩ => ⟨g, C, he, G, hC, Nat.le_trans b1.size hg, hR, fun i hi => ?_, bthen13 b1 b2⟩
    rw [hG i hi]
    rw [hn] at hd hs hi
    exact vl_fw hk hd hs (fun x hx => h.2.1 x (by rw [hn]; exact hx)) hi
  clear h hk hn hd hs
  go_enter Tryd.func13, Tryd.ntmps13
  go_wp2_with (first
    | (go_at_call 31; (with_reducible refine k1.mono ?_); rintro e w' ⟨rfl, rfl⟩)
    | (go_at_call 32; (with_reducible refine k2.mono ?_); rintro e w' ⟨rfl, rfl⟩)
    | (go_at_call 34; (with_reducible refine k3.mono ?_); rintro e w1 ⟨gw, cw', rfl, k4⟩)
    | (go_at_call 33; (with_reducible refine k4.mono ?_); rintro e w2 ⟨g, C, rfl, HG⟩))
  go_ret2
  obtain ⟨G, hG⟩ := HG.out
  exact ⟨g, C, G, rfl, hG⟩
set_option maxHeartbeats 4000000 in
set_option maxRecDepth 100000 in
theorem refForward14_no (a : Option Addr) (n cap : Nat) (s : Int) (z : Int) (w : World) (hz : (¬ pw2 n 65536 ∧ z = 130) ∨ (pw2 n 65536 ∧ ¬ Beg s n n ∧ z = 140)) :
    Calls Tryd.prog 13 #[.slice a n cap, .int .i64 s] w fun e w' => e = .returned (.tuple #[.slice none 0 0, .int .i64 z]) ∧ w' = w := by
  rcases hz with ⟨h1, rfl⟩ | ⟨⟨k, h1, h2⟩, h3, rfl⟩
  · have k1 := refPow_no (n : Int) (fun m e => by rw [show m = n by omega]; exact h1) w
    clear h1
    go_enter Tryd.func13, Tryd.ntmps13
    go_wp2_with (go_at_call 31; ((with_reducible refine (k1).mono ?_); rintro e w' ⟨rfl, rfl⟩))
    go_ret2
    exact ⟨rfl, rfl⟩
  · have k1 := refPow_yes k n h1 (pow16 h1 h2) w
    have k2 := refCoset s n n (by rw [h1]; exact Nat.two_pow_pos k) w
    rw [show decide (Beg s n n) = false from decide_eq_false h3] at k2
    clear h1 h2 h3
    go_enter Tryd.func13, Tryd.ntmps13
    go_wp2_with (first | (go_at_call 31; ((with_reducible refine (k1).mono ?_); rintro e w' ⟨rfl, rfl⟩)) | (go_at_call 32; ((with_reducible refine (k2).mono ?_); rintro e w' ⟨rfl, rfl⟩)))
    go_ret2
    exact ⟨rfl, rfl⟩
set_option maxHeartbeats 4000000 in
set_option maxRecDepth 100000 in
theorem refInverse14 (b o cap k n s : Nat) (F : Nat → Nat) (w : World) (h : Q6 w (.slice (some ⟨b, o, none⟩) n cap) n F) (hk : k ≤ 16) (hn : n = 2 ^ k) (hd : n ∣ s) (hs : s + n ≤ 65536) :
    Calls Tryd.prog 14 #[.slice (some ⟨b, o, none⟩) n cap, .int .i64 (s : Int)] w fun e w' => ∃ g C G, e = .returned (.tuple #[.slice (some ⟨g, 0, none⟩) n C, .int .i64 0]) ∧ n ≤ C ∧ w.heap.size ≤ g ∧ R6 w' g C G ∧ (∀ i, i < n → G i = iw s F k i) ∧ Below w.heap.size w w' := by
  have k1 := refPow_yes k n hn hk w
  have k2 := refCoset (s : Int) n n (by rw [hn]; exact Nat.two_pow_pos k) w
  rw [show decide (Beg (s : Int) n n) = true from decide_eq_true (beg_of hd hs)] at k2
  have k3 : Calls Tryd.prog 34 #[] w fun e w1 => ∃ gw cw' : Nat, e = .returned (.slice (some ⟨gw, 0, none⟩) 65536 cw') ∧
      Calls Tryd.prog 35 #[.slice (some ⟨b, o, none⟩) n cap, .int .i64 (s : Int), .slice (some ⟨gw, 0, none⟩) 65536 cw'] w1 fun e w2 => ∃ g C : Nat, e = .returned (.slice (some ⟨g, 0, none⟩) n C) ∧ Hid (∃ G, n ≤ C ∧ w.heap.size ≤ g ∧ R6 w2 g C G ∧ (∀ i, i < n → G i = iw s F k i) ∧ Below w.heap.size w w2) := by
    refine (elems14 w).mono fun e w1 ⟨gw, cw', he, hw, b1⟩ => ⟨gw, cw', he, ?_⟩
    refine (refcoef gw cw' k b o cap n s F w1 hk hn hs (h.below b1) hw).mono fun e w2 ⟨g, C, G, he, hC, hg, hR, hG, b2⟩ => ⟨g, C, he, G, hC, Nat.le_trans b1.size hg, hR, fun i hi => ?_, bthen13 b1 b2⟩
    rw [hG i hi]
    rw [hn] at hd hs hi
    exact cl_iw hk hd hs (fun x hx => h.2.1 x (by rw [hn]; exact hx)) hi
  clear h hk hn hd hs
  go_enter Tryd.func14, Tryd.ntmps14
  go_wp2_with (first
    | (go_at_call 31; (with_reducible refine k1.mono ?_); rintro e w' ⟨rfl, rfl⟩)
    | (go_at_call 32; (with_reducible refine k2.mono ?_); rintro e w' ⟨rfl, rfl⟩)
    | (go_at_call 34; (with_reducible refine k3.mono ?_); rintro e w1 ⟨gw, cw', rfl, k4⟩)
    | (go_at_call 35; (with_reducible refine k4.mono ?_); rintro e w2 ⟨g, C, rfl, HG⟩))
  go_ret2
  obtain ⟨G, hG⟩ := HG.out
  exact ⟨g, C, G, rfl, hG⟩
set_option maxHeartbeats 4000000 in
set_option maxRecDepth 100000 in
theorem refInverse14_no (a : Option Addr) (n cap : Nat) (s : Int) (z : Int) (w : World) (hz : (¬ pw2 n 65536 ∧ z = 130) ∨ (pw2 n 65536 ∧ ¬ Beg s n n ∧ z = 140)) :
    Calls Tryd.prog 14 #[.slice a n cap, .int .i64 s] w fun e w' => e = .returned (.tuple #[.slice none 0 0, .int .i64 z]) ∧ w' = w := by
  rcases hz with ⟨h1, rfl⟩ | ⟨⟨k, h1, h2⟩, h3, rfl⟩
  · have k1 := refPow_no (n : Int) (fun m e => by rw [show m = n by omega]; exact h1) w
    clear h1
    go_enter Tryd.func14, Tryd.ntmps14
    go_wp2_with (go_at_call 31; ((with_reducible refine (k1).mono ?_); rintro e w' ⟨rfl, rfl⟩))
    go_ret2
    exact ⟨rfl, rfl⟩
  · have k1 := refPow_yes k n h1 (pow16 h1 h2) w
    have k2 := refCoset s n n (by rw [h1]; exact Nat.two_pow_pos k) w
    rw [show decide (Beg s n n) = false from decide_eq_false h3] at k2
    clear h1 h2 h3
    go_enter Tryd.func14, Tryd.ntmps14
    go_wp2_with (first | (go_at_call 31; ((with_reducible refine (k1).mono ?_); rintro e w' ⟨rfl, rfl⟩)) | (go_at_call 32; ((with_reducible refine (k2).mono ?_); rintro e w' ⟨rfl, rfl⟩)))
    go_ret2
    exact ⟨rfl, rfl⟩
end Go.Proofs.YtgdnjbaohfiijaaDoor
namespace Go.Proofs.YtgdnjbaohfiijaaDoor
open Go.RowKit Gf2
set_option linter.unusedVariables false

-- layer 14: Extend and Fold, the document's and refused
theorem beg_nat {s : Int} {n p : Nat} (h : Beg s n p) : ∃ m : Nat, s = m ∧ n ∣ m ∧ m + p ≤ 65536 := by
  obtain ⟨h1, h2, h3⟩ := h
  obtain ⟨m, rfl⟩ := Int.eq_ofNat_of_zero_le h1
  refine ⟨m, rfl, ?_, by omega⟩
  have e : ((m : Int) % (n : Int)) = ((m % n : Nat) : Int) := by simp
  exact Nat.dvd_of_mod_eq_zero (by omega)
set_option maxHeartbeats 4000000 in
set_option maxRecDepth 100000 in
theorem refExt14 (b o cap k n s t : Nat) (F : Nat → Nat) (w : World) (h : Q6 w (.slice (some ⟨b, o, none⟩) n cap) n F) (hk : k ≤ 16) (hn : n = 2 ^ k) (hd : n ∣ s) (hs : s + n ≤ 65536) (hd2 : n ∣ t) (hs2 : t + n ≤ 65536) :
    Calls Tryd.prog 17 #[.slice (some ⟨b, o, none⟩) n cap, .int .i64 (s : Int), .int .i64 (t : Int)] w fun e w' => ∃ g C G, e = .returned (.tuple #[.slice (some ⟨g, 0, none⟩) n C, .int .i64 0]) ∧ n ≤ C ∧ w.heap.size ≤ g ∧ R6 w' g C G ∧ (∀ i, i < n → G i = ex s t k F i) ∧ Below w.heap.size w w' := by
  have k1 := refPow_yes k n hn hk w
  have hp : 0 < n := by rw [hn]; exact Nat.two_pow_pos k
  have k2 := refCoset (s : Int) n n hp w
  rw [show decide (Beg (s : Int) n n) = true from decide_eq_true (beg_of hd hs)] at k2
  have k2' := refCoset (t : Int) n n hp w
  rw [show decide (Beg (t : Int) n n) = true from decide_eq_true (beg_of hd2 hs2)] at k2'
  have k3 : Calls Tryd.prog 34 #[] w fun e w1 => ∃ gw cw' : Nat, e = .returned (.slice (some ⟨gw, 0, none⟩) 65536 cw') ∧
      Calls Tryd.prog 35 #[.slice (some ⟨b, o, none⟩) n cap, .int .i64 (s : Int), .slice (some ⟨gw, 0, none⟩) 65536 cw'] w1 fun e w2 => ∃ g C : Nat, e = .returned (.slice (some ⟨g, 0, none⟩) n C) ∧
      Calls Tryd.prog 33 #[.slice (some ⟨g, 0, none⟩) n C, .int .i64 (t : Int), .slice (some ⟨gw, 0, none⟩) 65536 cw'] w2 fun e w3 => ∃ g' C' : Nat, e = .returned (.slice (some ⟨g', 0, none⟩) n C') ∧ Hid (∃ G, n ≤ C' ∧ w.heap.size ≤ g' ∧ R6 w3 g' C' G ∧ (∀ i, i < n → G i = ex s t k F i) ∧ Below w.heap.size w w3) := by
    refine (elems14 w).mono fun e w1 ⟨gw, cw', he, hw, b1⟩ => ⟨gw, cw', he, ?_⟩
    refine (refcoef gw cw' k b o cap n s F w1 hk hn hs (h.below b1) hw).mono fun e w2 ⟨g, C, G, he, hC, hg, hR, hG, b2⟩ => ⟨g, C, he, ?_⟩
    have q : Q6 w2 (.slice (some ⟨g, 0, none⟩) n C) n (iw s F k) := hR.q6 hC hC hR.1 (fun i hi => by
      rw [hG i hi]
      rw [hn] at hd hs hi
      exact cl_iw hk hd hs (fun x hx => h.2.1 x (by rw [hn]; exact hx)) hi)
    refine (refvals gw cw' k g 0 C n t _ w2 hk hn hs2 q (hw.below b2)).mono fun e w3 ⟨g', C', G', he, hC', hg', hR', hG', b3⟩ => ⟨g', C', he, G', hC', Nat.le_trans (Nat.le_trans b1.size b2.size) hg', hR', fun i hi => ?_, bthen13 (bthen13 b1 b2) b3⟩
    rw [hG' i hi]
    rw [hn] at hd2 hs2 hi
    exact vl_fw hk hd2 hs2 (fun x hx => q.2.1 x (by rw [hn]; exact hx)) hi
  clear h hk hn hd hs hd2 hs2 hp
  go_enter Tryd.func17, Tryd.ntmps17
  go_wp2_with (first
    | (go_at_call 31; (with_reducible refine k1.mono ?_); rintro e w' ⟨rfl, rfl⟩)
    | (go_at_call 32; first | ((with_reducible refine k2.mono ?_); rintro e w' ⟨rfl, rfl⟩) | ((with_reducible refine k2'.mono ?_); rintro e w' ⟨rfl, rfl⟩))
    | (go_at_call 34; (with_reducible refine k3.mono ?_); rintro e w1 ⟨gw, cw', rfl, k4⟩)
    | (go_at_call 35; (with_reducible refine k4.mono ?_); rintro e w2 ⟨g, C, rfl, k5⟩)
    | (go_at_call 33; (with_reducible refine k5.mono ?_); rintro e w3 ⟨g', C', rfl, HG⟩))
  go_ret2
  obtain ⟨G, hG⟩ := HG.out
  exact ⟨g', C', G, rfl, hG⟩
set_option maxHeartbeats 4000000 in
set_option maxRecDepth 100000 in
theorem refExt14_no (a : Option Addr) (n cap : Nat) (s t z : Int) (w : World) (hz : (¬ pw2 n 65536 ∧ z = 130) ∨ (pw2 n 65536 ∧ ¬ (Beg s n n ∧ Beg t n n) ∧ z = 140)) :
    Calls Tryd.prog 17 #[.slice a n cap, .int .i64 s, .int .i64 t] w fun e w' => e = .returned (.tuple #[.slice none 0 0, .int .i64 z]) ∧ w' = w := by
  rcases hz with ⟨h1, rfl⟩ | ⟨⟨k, h1, h2⟩, h3, rfl⟩
  · have k1 := refPow_no (n : Int) (fun m e => by rw [show m = n by omega]; exact h1) w
    clear h1
    go_enter Tryd.func17, Tryd.ntmps17
    go_wp2_with (go_at_call 31; ((with_reducible refine (k1).mono ?_); rintro e w' ⟨rfl, rfl⟩))
    go_ret2
    exact ⟨rfl, rfl⟩
  · have k1 := refPow_yes k n h1 (pow16 h1 h2) w
    have hp : 0 < n := by rw [h1]; exact Nat.two_pow_pos k
    have k2 := refCoset s n n hp w
    have k2' := refCoset t n n hp w
    by_cases h4 : Beg s n n
    · rw [show decide (Beg s n n) = true from decide_eq_true h4] at k2
      rw [show decide (Beg t n n) = false from decide_eq_false (fun h5 => h3 ⟨h4, h5⟩)] at k2'
      clear h1 h2 h3 hp h4
      go_enter Tryd.func17, Tryd.ntmps17
      go_wp2_with (first | (go_at_call 31; ((with_reducible refine (k1).mono ?_); rintro e w' ⟨rfl, rfl⟩)) | (go_at_call 32; first | ((with_reducible refine (k2).mono ?_); rintro e w' ⟨rfl, rfl⟩) | ((with_reducible refine (k2').mono ?_); rintro e w' ⟨rfl, rfl⟩)))
      go_ret2
      exact ⟨rfl, rfl⟩
    · rw [show decide (Beg s n n) = false from decide_eq_false h4] at k2
      clear h1 h2 h3 hp h4 k2'
      go_enter Tryd.func17, Tryd.ntmps17
      go_wp2_with (first | (go_at_call 31; ((with_reducible refine (k1).mono ?_); rintro e w' ⟨rfl, rfl⟩)) | (go_at_call 32; ((with_reducible refine (k2).mono ?_); rintro e w' ⟨rfl, rfl⟩)))
      go_ret2
      exact ⟨rfl, rfl⟩
set_option maxHeartbeats 4000000 in
set_option maxRecDepth 100000 in
theorem ext14_no (a : Option Addr) (n cap : Nat) (F : Nat → Nat) (s t z : Int) (w0 w : World) (hB : Bs w0 w) (hq : Q6 w (.slice a n cap) n F) (hz : (¬ pw2 n 65536 ∧ z = 130) ∨ (pw2 n 65536 ∧ ¬ (Beg s n n ∧ Beg t n n) ∧ z = 140)) (h64 : n ≤ 9223372036854775807) :
    Calls Tryd.prog 16 #[.slice a n cap, .int .i64 s, .int .i64 t] w fun e w' => e = .returned (.tuple #[.slice none 0 0, .int .i64 z]) ∧ Below w.heap.size w w' := by
  have hz0 : (z == 0) = false := by rcases hz with ⟨-, rfl⟩ | ⟨-, -, rfl⟩ <;> rfl
  by_cases h : pw2 n 65536 ∧ Beg s n n
  · obtain ⟨⟨k, h1, h2⟩, h3⟩ := h
    obtain ⟨m, rfl, hd, hs⟩ := beg_nat h3
    have hz' : z = 140 ∧ ¬ Beg t n n := by
      rcases hz with ⟨h9, -⟩ | ⟨-, h9, e⟩
      · exact absurd ⟨k, h1, h2⟩ h9
      · exact ⟨e, fun h8 => h9 ⟨h3, h8⟩⟩
    have k1 : Calls Tryd.prog 9 #[.slice a n cap, .int .i64 (m : Int)] w fun e w1 => e = .returned (.tuple #[.slice (some ⟨w.heap.size, 0, none⟩) n n, .int .i64 0]) ∧
        Calls Tryd.prog 8 #[.slice (some ⟨w.heap.size, 0, none⟩) n n, .int .i64 t] w1 fun e w2 => e = .returned (.tuple #[.slice none 0 0, .int .i64 z]) ∧ Hid (Below w.heap.size w w2) := by
      refine (inv14 _ k n m F w0 w hB hq (pow16 h1 h2) h1 hd hs).mono fun e w1 ⟨he, r1, b1⟩ => ⟨he, ?_⟩
      exact (fwd14_no _ n n t z w1 (.inr ⟨⟨k, h1, h2⟩, hz'.2, hz'.1⟩) h64).mono fun e w2 ⟨he, hw⟩ => ⟨he, by subst hw; exact b1⟩
    clear hB hq hz h64 h1 h2 h3 hd hs hz'
    go_enter Tryd.func16, Tryd.ntmps16
    go_wp2_with (first | (go_at_call 9; ((with_reducible refine (k1).mono ?_); (rintro e w1 ⟨rfl, k2⟩))) | (go_at_call 8; ((with_reducible refine (k2).mono ?_); (rintro e w2 ⟨rfl, HV⟩))))
    go_ret2
    exact ⟨rfl, HV.out⟩
  · have k1 := inv14_no a n cap s z w (by
      rcases hz with h9 | ⟨h8, h9, e⟩
      · exact .inl h9
      · exact .inr ⟨h8, fun h7 => h ⟨h8, h7⟩, e⟩) h64
    clear hB hq hz h64 h
    go_enter Tryd.func16, Tryd.ntmps16
    go_wp2_with (go_at_call 9; ((with_reducible refine (k1).mono ?_); rintro e w' ⟨rfl, rfl⟩))
    go_ret2
    exact ⟨rfl, Below.refl _ _⟩
end Go.Proofs.YtgdnjbaohfiijaaDoor
