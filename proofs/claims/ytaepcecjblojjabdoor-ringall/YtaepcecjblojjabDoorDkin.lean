import Derived.Test.YtaepcecjblojjabDoorDres
import Derived.Test.YtaepcecjblojjabDoorGfk
import Derived.Test.YtaepcecjblojjabDoorDall
namespace Go.Proofs.YtaepcecjblojjabDoor
open Go.RowKit Gf2

theorem half_div (L : Nat) : (((L : Int)) / 2) = ((L / 2 : Nat) : Int) := by omega

set_option maxHeartbeats 1000000 in
theorem refIrr_nat (p : Nat) (w : World) (hp : p < 18446744073709551616) (h : isMod p 32 = true) :
    Calls Tryd.prog 50 #[.int .u64 (p : Int)] w fun e w' => e = .returned (.bool (irr p)) ∧ w' = w := by
  have hm := isMod_true h
  obtain ⟨L, hL⟩ : ∃ L, len p = L + 1 := ⟨len p - 1, by omega⟩
  have c0 : ∀ w, Calls Tryd.prog 22 #[.int .u64 (p : Int)] w fun e w' => e = .returned (.int .i64 (L : Int)) ∧ w' = w := fun w => by
    have h := refDegree_nat p w hp
    rw [hL, show (((L + 1 : Nat) : Int) - 1) = (L : Int) by omega] at h
    exact h
  have hL32 : L ≤ 32 := by omega
  have HT : Hid (Irr p ↔ ∀ c, 2 ≤ len c → 2 * (len c - 1) ≤ L → ¬ dv c p) := by
    have := irr_trial (p := p) hm.1
    rw [hL] at this
    exact this
  have HI : Hid (irr p = true ↔ Irr p) := irr_eq hm.1 hm.2
  clear hL hm h
  go_enter Tryd.func50, Tryd.ntmps50
  go_wp2_with (go_at_call 22; with_reducible refine (c0 _).mono ?_; rintro e w1 ⟨rfl, rfl⟩)
  go_loop [4] (fun x => ∃ c : Nat, 2 ≤ c ∧ c ≤ 2 ^ 17 ∧ (∀ d, 2 ≤ d → d < c → ¬ dv d p) ∧ x = .int .u64 c) (fun x => 2 ^ 17 + 1 - (intOf x).toNat)
  case atStart => exact ⟨2, by decide, by decide, fun d h1 h2 => by omega, rfl⟩
  case round =>
    obtain ⟨c, hc1, hc2, hc, rfl⟩ := hrel
    have HC : Hid (∀ d, 2 ≤ d → d < c → ¬ dv d p) := hc
    clear hc
    have e17 : (2 : Nat) ^ 17 = 131072 := rfl
    rw [e17] at hc2 ⊢
    have hlc : len c ≤ 64 := len_le.2 (by omega)
    have hlc2 : 2 ≤ len c := lt_len.2 (by omega)
    have c1 := fun w => refDegree_nat c w (by omega)
    have c2 := fun w => rest_nat p c w hp (by omega) (by omega)
    by_cases hle : 2 * (len c - 1) ≤ L
    · have hc17 : c + 1 ≤ 131072 := by
        have : c < 2 ^ 17 := len_le.1 (by omega)
        omega
      by_cases hd : pmod p c = 0
      · have T : (((pmod p c : Nat) : Int) == 0) = true := by rw [hd]; rfl
        have HR : Hid (irr p = false) := by
          show irr p = false
          have h1 := (pmod_eq_zero (by omega)).1 hd
          cases hi : irr p with
          | false => rfl
          | true => exact absurd h1 ((HT.out.1 (HI.out.1 hi)) c hlc2 hle)
        clear hd
        go_wp2_with (first | (go_at_call 22; with_reducible refine (c1 _).mono ?_; rintro e w1 ⟨rfl, rfl⟩) | (go_at_call 56; with_reducible refine (c2 _).mono ?_; rintro e w1 ⟨rfl, rfl⟩))
        go_ret
        exact ⟨ret_bool HR.out.symm, rfl⟩
      · have T : (((pmod p c : Nat) : Int) == 0) = false := by simp; omega
        have HC2 : Hid (∀ d, 2 ≤ d → d < c + 1 → ¬ dv d p) := by
          show ∀ d, 2 ≤ d → d < c + 1 → ¬ dv d p
          intro d h1 h2
          by_cases h3 : d < c
          · exact HC.out d h1 h3
          · have : d = c := by omega
            subst this
            exact fun h4 => hd ((pmod_eq_zero (by omega)).2 h4)
        clear hd
        go_wp2_with (first | (go_at_call 22; with_reducible refine (c1 _).mono ?_; rintro e w1 ⟨rfl, rfl⟩) | (go_at_call 56; with_reducible refine (c2 _).mono ?_; rintro e w1 ⟨rfl, rfl⟩))
        go_round
        case rel => exact ⟨c + 1, by omega, by omega, HC2.out, by go_num⟩
        case measure => simp [intOf]; omega
    · have HR : Hid (irr p = true) := by
        show irr p = true
        rw [HI.out, HT.out]
        intro d h1 h2 h3
        refine HC.out d ?_ ?_ h3
        · have := lt_len.1 (show 1 < len d by omega)
          omega
        · have h4 : d < 2 ^ (len c - 1) := len_le.1 (by omega)
          have h5 : 2 ^ (len c - 1) ≤ c := lt_len.1 (by omega)
          omega
      go_wp2_with (go_at_call 22; with_reducible refine (c1 _).mono ?_; rintro e w1 ⟨rfl, rfl⟩)
      go_ret
      exact ⟨ret_bool HR.out.symm, rfl⟩

set_option maxHeartbeats 400000 in
theorem refIrreducible_yes (p : Nat) (w : World) (hp : p < 18446744073709551616) (h : isMod p 32 = true) :
    Calls Tryd.prog 35 #[.int .u64 (p : Int)] w fun e w' => e = .returned (.tuple #[.bool (irr p), .int .i64 0]) ∧ w' = w := by
  go_enter Tryd.func35, Tryd.ntmps35
  go_wp2_with (first | (go_at_call 48; refine (modulus_nat _ 32 _ hp).mono ?_; rw [h]; rintro e w' ⟨rfl, rfl⟩) | (go_at_call 50; refine (refIrr_nat _ _ hp h).mono ?_; rintro e w' ⟨rfl, rfl⟩))
  go_ret2
  exact ⟨rfl, rfl⟩
set_option maxHeartbeats 400000 in
theorem refIrreducible_no (p : Nat) (w : World) (hp : p < 18446744073709551616) (h : isMod p 32 = false) :
    Calls Tryd.prog 35 #[.int .u64 (p : Int)] w fun e w' => e = .returned (.tuple #[.bool false, .int .i64 11]) ∧ w' = w := by
  go_enter Tryd.func35, Tryd.ntmps35
  go_wp2_with (go_at_call 48; refine (modulus_nat _ 32 _ hp).mono ?_; rw [h]; rintro e w' ⟨rfl, rfl⟩)
  go_ret2
  exact ⟨rfl, rfl⟩

set_option maxRecDepth 200000 in
set_option maxHeartbeats 1000000 in
theorem refOrd_yes (a p n : Nat) (w : World) (ha : a < 18446744073709551616) (hp : p < 18446744073709551616) (h : isMod p 16 = true) (hn : IsOrd a p n) (hb : n ≤ 65535) :
    Calls Tryd.prog 51 #[.int .u64 (a : Int), .int .u64 (p : Int)] w fun e w' => e = .returned (.int .i64 (n : Int)) ∧ w' = w := by
  have hp0 := isMod_ne h
  have hm := isMod_true h
  have hn1 := hn.1
  have h1 := pmod_lt_32 a hp0 (by omega)
  have c2 := fun w => rest_nat a p w ha hp hp0
  go_enter Tryd.func51, Tryd.ntmps51
  go_wp2_with (go_at_call 56; with_reducible refine (c2 _).mono ?_; rintro e w1 ⟨rfl, rfl⟩)
  go_loop [5, 6] (fun z i => ∃ m z' : Nat, 1 ≤ m ∧ m ≤ n ∧ z' < 4294967296 ∧ z' = pmod (pw a m) p ∧ i = .int .i64 m ∧ z = .int .u64 z') (fun _ i => n - (intOf i).toNat)
  case atStart => exact ⟨1, pmod a p, by decide, hn1, h1, by rw [pw_one], rfl, rfl⟩
  case round =>
    obtain ⟨m, z, m1, m2, hz, hz', rfl, rfl⟩ := hrel
    have HZ : Hid (z = pmod (pw a m) p) := hz'
    clear hz'
    have D : decide ((m : Int) < 65536) = true := by simp; omega
    by_cases h0 : z = 1
    · have : m = n := by
        apply Classical.byContradiction
        intro hc
        exact hn.2.2 m m1 (by omega) (by rw [← HZ.out]; exact h0)
      subst this
      subst h0
      go_wp2
      go_ret
      exact ⟨rfl, rfl⟩
    · have hlt : m < n := by
        apply Classical.byContradiction
        intro hc
        apply h0
        have : m = n := by omega
        rw [HZ.out, this]; exact hn.2.1
      have T : ((z : Int) == 1) = false := by simp; omega
      have t := pmod_lt_32 (mul (pmod a p) z) hp0 (show len p ≤ 33 by omega)
      have c3 := fun w => refTimes_nat (pmod a p) z p w (by omega) (by omega) hp hp0 (by omega)
      have HT : Hid (pmod (mul (pmod a p) z) p = pmod (pw a (m + 1)) p) := by
        show pmod (mul (pmod a p) z) p = pmod (pw a (m + 1)) p
        rw [HZ.out, pmod_mul_both _ _ hp0]; rfl
      clear h0
      go_wp2_with (go_at_call 49; with_reducible refine (c3 _).mono ?_; rintro e w1 ⟨rfl, rfl⟩)
      go_round
      case rel => exact ⟨m + 1, _, by omega, by omega, t, HT.out, by go_num, rfl⟩
      case measure => simp [intOf]; omega

set_option maxRecDepth 200000 in
set_option maxHeartbeats 1000000 in
theorem refOrd_none (a p : Nat) (w : World) (ha : a < 18446744073709551616) (hp : p < 18446744073709551616) (h : isMod p 16 = true) (hn : ∀ n, 1 ≤ n → pmod (pw a n) p ≠ 1) :
    Calls Tryd.prog 51 #[.int .u64 (a : Int), .int .u64 (p : Int)] w fun e w' => e = .returned (.int .i64 0) ∧ w' = w := by
  have hp0 := isMod_ne h
  have hm := isMod_true h
  have h1 := pmod_lt_32 a hp0 (by omega)
  have c2 := fun w => rest_nat a p w ha hp hp0
  go_enter Tryd.func51, Tryd.ntmps51
  go_wp2_with (go_at_call 56; with_reducible refine (c2 _).mono ?_; rintro e w1 ⟨rfl, rfl⟩)
  go_loop [5, 6] (fun z i => ∃ m z' : Nat, 1 ≤ m ∧ m ≤ 65536 ∧ z' < 4294967296 ∧ z' = pmod (pw a m) p ∧ i = .int .i64 m ∧ z = .int .u64 z') (fun _ i => 65536 - (intOf i).toNat)
  case atStart => exact ⟨1, pmod a p, by decide, by decide, h1, by rw [pw_one], rfl, rfl⟩
  case round =>
    obtain ⟨m, z, m1, m2, hz, hz', rfl, rfl⟩ := hrel
    have HZ : Hid (z = pmod (pw a m) p) := hz'
    clear hz'
    by_cases hlt : m < 65536
    · have D : decide ((m : Int) < 65536) = true := by simp; omega
      have h0 : z ≠ 1 := by rw [HZ.out]; exact hn m m1
      have T : ((z : Int) == 1) = false := by simp; omega
      have t := pmod_lt_32 (mul (pmod a p) z) hp0 (show len p ≤ 33 by omega)
      have c3 := fun w => refTimes_nat (pmod a p) z p w (by omega) (by omega) hp hp0 (by omega)
      have HT : Hid (pmod (mul (pmod a p) z) p = pmod (pw a (m + 1)) p) := by
        show pmod (mul (pmod a p) z) p = pmod (pw a (m + 1)) p
        rw [HZ.out, pmod_mul_both _ _ hp0]; rfl
      clear h0 hn
      go_wp2_with (go_at_call 49; with_reducible refine (c3 _).mono ?_; rintro e w1 ⟨rfl, rfl⟩)
      go_round
      case rel => exact ⟨m + 1, _, by omega, by omega, t, HT.out, by go_num, rfl⟩
      case measure => simp [intOf]; omega
    · clear hn
      have D : decide ((m : Int) < 65536) = false := by simp; omega
      go_wp2
      go_ret
      exact ⟨rfl, rfl⟩
end Go.Proofs.YtaepcecjblojjabDoor
