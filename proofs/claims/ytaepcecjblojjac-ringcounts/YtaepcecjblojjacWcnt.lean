import Derived.Test.YtaepcecjblojjacWalke
import Derived.Test.YtaepcecjblojjacGff
namespace Go.Proofs.Ytaepcecjblojjac
open Go.RowKit Gf2

theorem count_end {d k : Nat} (h1 : 1 ≤ d) (h2 : d ≤ 10) (hk : k = 2 ^ (d + 1) - 2) : (((sumF d k : Nat) : Int) == wrap64 (2 ^ d)) = true := by
  have h := sum_gauss ⟨d, by omega⟩ h1
  simp only at h
  rw [hk, h]
  have hb : 2 ^ d ≤ 1024 := by
    have : 2 ^ d ≤ 2 ^ 10 := Nat.pow_le_pow_right (by decide) h2
    have e : (2 : Nat) ^ 10 = 1024 := rfl
    omega
  have e : ((2 : Int) ^ d) = ((2 ^ d : Nat) : Int) := by simp
  rw [e]
  generalize 2 ^ d = q at *
  unfold wrap64
  simp only [beq_iff_eq]
  omega

set_option maxHeartbeats 2000000 in
theorem ringCounts_any (n : Int) (w : World) :
    Calls Try.prog 3 #[.int .i64 n] w fun e w' => e = .returned (.bool true) ∧ w' = w := by
  have hb : -10 < n.tmod 10 ∧ n.tmod 10 < 10 := by
    constructor
    · rcases Int.le_total 0 n with h | h
      · have := Int.tmod_nonneg 10 h; omega
      · have h2 := Int.tmod_lt_of_pos (-n) (b := 10) (by decide)
        rw [Int.neg_tmod] at h2
        omega
    · exact Int.tmod_lt_of_pos n (by decide)
  by_cases hn : n.tmod 10 < 0
  · obtain ⟨d, hd, hd1, hd2⟩ : ∃ d : Nat, n.tmod 10 + 10 + 1 = (d : Int) ∧ 1 ≤ d ∧ d ≤ 10 :=
      ⟨(n.tmod 10 + 10 + 1).toNat, by omega, by omega, by omega⟩
    have hq : 4 ≤ 2 ^ (d + 1) ∧ 2 ^ (d + 1) ≤ 2048 := by
      constructor
      · have : 2 ^ 2 ≤ 2 ^ (d + 1) := Nat.pow_le_pow_right (by omega) (by omega)
        omega
      · have : 2 ^ (d + 1) ≤ 2 ^ 11 := Nat.pow_le_pow_right (by decide) (by omega)
        have e : (2 : Nat) ^ 11 = 2048 := rfl
        omega
    go_enter Try.func3, Try.ntmps3
    go_wp2
    try rw [hd]
    clear hn
    go_loop [4, 5] (fun s p => ∃ k : Nat, 2 ≤ k ∧ k ≤ 2 ^ (d + 1) ∧ s = .int .i64 (sumF d (k - 2) : Nat) ∧ p = .int .u64 (k : Int)) (fun _ p => 2048 - (intOf p).toNat)
    case atStart => exact ⟨2, by omega, by omega, rfl, rfl⟩
    case round =>
      obtain ⟨k, hk0, hk, rfl, rfl⟩ := hrel
      clear hd hb
      have hs := sumF_le (d := d) (k - 2) (by omega)
      have hl : len k ≤ 64 := len_le.2 (by omega)
      have hl2 : 2 ≤ len k := lt_len.2 (by omega)
      have c1 := high_nat k w (by omega)
      by_cases hc : len k ≤ d + 1
      · have hk2 : k < 2 ^ (d + 1) := len_le.1 hc
        have HK : Hid (k + 1 ≤ 2 ^ (d + 1)) := hk2
        have hk3 : k < 2048 := by omega
        have hmod : isMod k 32 = true := isMod_mk (by omega)
        have c2 := irreducible_yes k w (by omega) hmod
        clear hk2 hk hq hmod
        by_cases hm : d % (len k - 1) = 0
        · have T : ((d : Int) % ((len k : Int) - 1) == 0) = true := by
            have e : (d : Int) % ((len k : Int) - 1) = ((d % (len k - 1) : Nat) : Int) := by
              rw [Int.natCast_emod, Int.natCast_sub (by omega)]; rfl
            rw [e, hm]; rfl
          have HM : Hid (d % (len k - 1) = 0) := hm
          clear hm
          cases hi : irr k with
          | true =>
            rw [hi] at c2
            have HS : Hid (sumF d (k + 1 - 2) = sumF d (k - 2) + (len k - 1)) := by
              show sumF d (k + 1 - 2) = sumF d (k - 2) + (len k - 1)
              rw [show k + 1 - 2 = (k - 2) + 1 by omega]
              simp only [sumF, term, show k - 2 + 2 = k by omega, if_pos HM.out, if_pos hi]
            clear hi
            go_wp2_with (first | (go_at_call 5; with_reducible refine c1.mono ?_; rintro e w' ⟨rfl, rfl⟩) | (go_at_call 6; with_reducible refine c2.mono ?_; rintro e w' ⟨rfl, rfl⟩))
            go_round
            case rel => exact ⟨k + 1, by omega, HK.out, by rw [HS.out]; go_num, by go_num⟩
            case measure => simp [intOf]; omega
          | false =>
            rw [hi] at c2
            have HS : Hid (sumF d (k + 1 - 2) = sumF d (k - 2)) := by
              show sumF d (k + 1 - 2) = sumF d (k - 2)
              rw [show k + 1 - 2 = (k - 2) + 1 by omega]
              simp only [sumF, term, show k - 2 + 2 = k by omega, if_pos HM.out]
              rw [if_neg (by rw [hi]; decide)]; rfl
            clear hi
            go_wp2_with (first | (go_at_call 5; with_reducible refine c1.mono ?_; rintro e w' ⟨rfl, rfl⟩) | (go_at_call 6; with_reducible refine c2.mono ?_; rintro e w' ⟨rfl, rfl⟩))
            go_round
            case rel => exact ⟨k + 1, by omega, HK.out, by rw [HS.out], by go_num⟩
            case measure => simp [intOf]; omega
        · have T : ((d : Int) % ((len k : Int) - 1) == 0) = false := by
            have e : (d : Int) % ((len k : Int) - 1) = ((d % (len k - 1) : Nat) : Int) := by
              rw [Int.natCast_emod, Int.natCast_sub (by omega)]; rfl
            rw [e]; simp; omega
          have HS : Hid (sumF d (k + 1 - 2) = sumF d (k - 2)) := by
            show sumF d (k + 1 - 2) = sumF d (k - 2)
            rw [show k + 1 - 2 = (k - 2) + 1 by omega]
            simp only [sumF, term, show k - 2 + 2 = k by omega, if_neg hm]; rfl
          clear hm
          go_wp2_with (go_at_call 5; with_reducible refine c1.mono ?_; rintro e w' ⟨rfl, rfl⟩)
          go_round
          case rel => exact ⟨k + 1, by omega, HK.out, by rw [HS.out], by go_num⟩
          case measure => simp [intOf]; omega
      · have HE : Hid (k - 2 = 2 ^ (d + 1) - 2) := by
          show k - 2 = 2 ^ (d + 1) - 2
          have : ¬ k < 2 ^ (d + 1) := fun h => hc (len_le.2 h)
          omega
        clear hq hk
        go_wp2_with (go_at_call 5; with_reducible refine c1.mono ?_; rintro e w' ⟨rfl, rfl⟩)
        go_ret
        exact ⟨ret_bool (count_end hd1 hd2 HE.out), rfl⟩
  · obtain ⟨d, hd, hd1, hd2⟩ : ∃ d : Nat, n.tmod 10 + 1 = (d : Int) ∧ 1 ≤ d ∧ d ≤ 10 :=
      ⟨(n.tmod 10 + 1).toNat, by omega, by omega, by omega⟩
    have hq : 4 ≤ 2 ^ (d + 1) ∧ 2 ^ (d + 1) ≤ 2048 := by
      constructor
      · have : 2 ^ 2 ≤ 2 ^ (d + 1) := Nat.pow_le_pow_right (by omega) (by omega)
        omega
      · have : 2 ^ (d + 1) ≤ 2 ^ 11 := Nat.pow_le_pow_right (by decide) (by omega)
        have e : (2 : Nat) ^ 11 = 2048 := rfl
        omega
    go_enter Try.func3, Try.ntmps3
    go_wp2
    try rw [hd]
    clear hn
    go_loop [4, 5] (fun s p => ∃ k : Nat, 2 ≤ k ∧ k ≤ 2 ^ (d + 1) ∧ s = .int .i64 (sumF d (k - 2) : Nat) ∧ p = .int .u64 (k : Int)) (fun _ p => 2048 - (intOf p).toNat)
    case atStart => exact ⟨2, by omega, by omega, rfl, rfl⟩
    case round =>
      obtain ⟨k, hk0, hk, rfl, rfl⟩ := hrel
      clear hd hb
      have hs := sumF_le (d := d) (k - 2) (by omega)
      have hl : len k ≤ 64 := len_le.2 (by omega)
      have hl2 : 2 ≤ len k := lt_len.2 (by omega)
      have c1 := high_nat k w (by omega)
      by_cases hc : len k ≤ d + 1
      · have hk2 : k < 2 ^ (d + 1) := len_le.1 hc
        have HK : Hid (k + 1 ≤ 2 ^ (d + 1)) := hk2
        have hk3 : k < 2048 := by omega
        have hmod : isMod k 32 = true := isMod_mk (by omega)
        have c2 := irreducible_yes k w (by omega) hmod
        clear hk2 hk hq hmod
        by_cases hm : d % (len k - 1) = 0
        · have T : ((d : Int) % ((len k : Int) - 1) == 0) = true := by
            have e : (d : Int) % ((len k : Int) - 1) = ((d % (len k - 1) : Nat) : Int) := by
              rw [Int.natCast_emod, Int.natCast_sub (by omega)]; rfl
            rw [e, hm]; rfl
          have HM : Hid (d % (len k - 1) = 0) := hm
          clear hm
          cases hi : irr k with
          | true =>
            rw [hi] at c2
            have HS : Hid (sumF d (k + 1 - 2) = sumF d (k - 2) + (len k - 1)) := by
              show sumF d (k + 1 - 2) = sumF d (k - 2) + (len k - 1)
              rw [show k + 1 - 2 = (k - 2) + 1 by omega]
              simp only [sumF, term, show k - 2 + 2 = k by omega, if_pos HM.out, if_pos hi]
            clear hi
            go_wp2_with (first | (go_at_call 5; with_reducible refine c1.mono ?_; rintro e w' ⟨rfl, rfl⟩) | (go_at_call 6; with_reducible refine c2.mono ?_; rintro e w' ⟨rfl, rfl⟩))
            go_round
            case rel => exact ⟨k + 1, by omega, HK.out, by rw [HS.out]; go_num, by go_num⟩
            case measure => simp [intOf]; omega
          | false =>
            rw [hi] at c2
            have HS : Hid (sumF d (k + 1 - 2) = sumF d (k - 2)) := by
              show sumF d (k + 1 - 2) = sumF d (k - 2)
              rw [show k + 1 - 2 = (k - 2) + 1 by omega]
              simp only [sumF, term, show k - 2 + 2 = k by omega, if_pos HM.out]
              rw [if_neg (by rw [hi]; decide)]; rfl
            clear hi
            go_wp2_with (first | (go_at_call 5; with_reducible refine c1.mono ?_; rintro e w' ⟨rfl, rfl⟩) | (go_at_call 6; with_reducible refine c2.mono ?_; rintro e w' ⟨rfl, rfl⟩))
            go_round
            case rel => exact ⟨k + 1, by omega, HK.out, by rw [HS.out], by go_num⟩
            case measure => simp [intOf]; omega
        · have T : ((d : Int) % ((len k : Int) - 1) == 0) = false := by
            have e : (d : Int) % ((len k : Int) - 1) = ((d % (len k - 1) : Nat) : Int) := by
              rw [Int.natCast_emod, Int.natCast_sub (by omega)]; rfl
            rw [e]; simp; omega
          have HS : Hid (sumF d (k + 1 - 2) = sumF d (k - 2)) := by
            show sumF d (k + 1 - 2) = sumF d (k - 2)
            rw [show k + 1 - 2 = (k - 2) + 1 by omega]
            simp only [sumF, term, show k - 2 + 2 = k by omega, if_neg hm]; rfl
          clear hm
          go_wp2_with (go_at_call 5; with_reducible refine c1.mono ?_; rintro e w' ⟨rfl, rfl⟩)
          go_round
          case rel => exact ⟨k + 1, by omega, HK.out, by rw [HS.out], by go_num⟩
          case measure => simp [intOf]; omega
      · have HE : Hid (k - 2 = 2 ^ (d + 1) - 2) := by
          show k - 2 = 2 ^ (d + 1) - 2
          have : ¬ k < 2 ^ (d + 1) := fun h => hc (len_le.2 h)
          omega
        clear hq hk
        go_wp2_with (go_at_call 5; with_reducible refine c1.mono ?_; rintro e w' ⟨rfl, rfl⟩)
        go_ret
        exact ⟨ret_bool (count_end hd1 hd2 HE.out), rfl⟩
end Go.Proofs.Ytaepcecjblojjac
