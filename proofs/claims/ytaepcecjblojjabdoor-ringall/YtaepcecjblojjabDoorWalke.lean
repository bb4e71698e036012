import Derived.Test.YtaepcecjblojjabDoorWalkd
import Derived.Test.YtaepcecjblojjabDoorGfe
namespace Go.Proofs.YtaepcecjblojjabDoor
open Go.RowKit Gf2

set_option maxHeartbeats 400000 in
theorem order_no (a p : Nat) (w : World) (hp : p < 18446744073709551616) (h : isMod p 16 = false) :
    Calls Tryd.prog 36 #[.int .u64 (a : Int), .int .u64 (p : Int)] w fun e w' => e = .returned (.tuple #[.int .i64 0, .int .i64 11]) ∧ w' = w := by
  go_enter Tryd.func36, Tryd.ntmps36
  go_wp2_with (go_at_call 12; refine (isModulus_nat _ 16 _ hp (by decide)).mono ?_; rw [h]; rintro e w' ⟨rfl, rfl⟩)
  go_ret2
  exact ⟨rfl, rfl⟩

set_option maxHeartbeats 400000 in
theorem order_none (a p : Nat) (w : World) (ha : a < 18446744073709551616) (hp : p < 18446744073709551616) (h : isMod p 16 = true) (hg : pgcd a p ≠ 1) :
    Calls Tryd.prog 36 #[.int .u64 (a : Int), .int .u64 (p : Int)] w fun e w' => e = .returned (.tuple #[.int .i64 0, .int .i64 12]) ∧ w' = w := by
  have T : (((pgcd a p : Nat) : Int) != 1) = true := by simp; omega
  clear hg
  go_enter Tryd.func36, Tryd.ntmps36
  go_wp2_with (first | (go_at_call 12; refine (isModulus_nat _ 16 _ hp (by decide)).mono ?_; rw [h]; rintro e w' ⟨rfl, rfl⟩) | (go_at_call 25; refine (gcd_nat _ _ _ ha hp).mono ?_; rintro e w' ⟨rfl, rfl⟩))
  go_ret2
  exact ⟨rfl, rfl⟩

set_option maxHeartbeats 400000 in
theorem order_yes (a p n : Nat) (w : World) (ha : a < 18446744073709551616) (hp : p < 18446744073709551616) (h : isMod p 16 = true) (hg : pgcd a p = 1) (hn : IsOrd a p n) (hb : n ≤ 65535) :
    Calls Tryd.prog 36 #[.int .u64 (a : Int), .int .u64 (p : Int)] w fun e w' => e = .returned (.tuple #[.int .i64 (n : Int), .int .i64 0]) ∧ w' = w := by
  have hp0 := isMod_ne h
  have hm := isMod_true h
  have h1 := pmod_lt a hp0 hp
  have hn1 := hn.1
  have c1 := gcd_nat a p w ha hp
  rw [hg] at c1
  have c1 : Calls Tryd.prog 25 #[.int .u64 (a : Int), .int .u64 (p : Int)] w fun e w' => e = .returned (.int .u64 1) ∧ w' = w := c1
  have c2 := remainder_nat a p w ha hp hp0
  clear hg
  go_enter Tryd.func36, Tryd.ntmps36
  go_wp2_with (first | (go_at_call 12; refine (isModulus_nat _ 16 _ hp (by decide)).mono ?_; rw [h]; rintro e w' ⟨rfl, rfl⟩) | (go_at_call 25; with_reducible refine c1.mono ?_; rintro e w' ⟨rfl, rfl⟩) | (go_at_call 14; with_reducible refine c2.mono ?_; rintro e w' ⟨rfl, rfl⟩))
  go_loop [7, 8] (fun i z => ∃ m z' : Nat, 1 ≤ m ∧ m ≤ n ∧ z' < 18446744073709551616 ∧ z' = pmod (pw a m) p ∧ i = .int .i64 m ∧ z = .int .u64 z') (fun i _ => n - (intOf i).toNat)
  case atStart => exact ⟨1, pmod a p, by decide, hn1, h1, by rw [pw_one], rfl, rfl⟩
  case round =>
    obtain ⟨m, z, m1, m2, hz, hz', rfl, rfl⟩ := hrel
    have HZ : Hid (z = pmod (pw a m) p) := hz'
    clear hz'
    by_cases h0 : z = 1
    · have : m = n := by
        apply Classical.byContradiction
        intro hc
        exact hn.2.2 m m1 (by omega) (by rw [← HZ.out]; exact h0)
      subst this
      subst h0
      go_wp2
      go_ret2
      exact ⟨rfl, rfl⟩
    · have hlt : m < n := by
        apply Classical.byContradiction
        intro hc
        apply h0
        have : m = n := by omega
        rw [HZ.out, this]; exact hn.2.1
      have T : ((z : Int) != 1) = true := by simp; omega
      have t := tm_lt z (pmod a p) hp0 hp
      have HT : Hid (tm z (pmod a p) p = pmod (pw a (m + 1)) p) := by
        show tm z (pmod a p) p = pmod (pw a (m + 1)) p
        rw [tm_eq (by omega) (by rw [HZ.out]; exact len_pmod _ hp0) (len_pmod _ hp0), HZ.out, pmod_mul_both _ _ hp0, mul_comm]
        rfl
      go_wp2_with (go_at_call 13; refine (times_tm _ _ _ _ hz h1 hp hp0).mono ?_; rintro e w' ⟨rfl, rfl⟩)
      go_round
      case rel => exact ⟨m + 1, tm z (pmod a p) p, by omega, by omega, t, HT.out, by go_num, rfl⟩
      case measure => simp [intOf]; omega

/-- Order answers, whatever comes: a number from 0 to 65535, and an error. -/
theorem order_some (a p : Nat) (w : World) (ha : a < 18446744073709551616) (hp : p < 18446744073709551616) :
    ∃ o ee : Nat, o ≤ 65535 ∧ Calls Tryd.prog 36 #[.int .u64 (a : Int), .int .u64 (p : Int)] w fun e w' => e = .returned (.tuple #[.int .i64 (o : Int), .int .i64 (ee : Int)]) ∧ w' = w := by
  cases h : isMod p 16 with
  | false => exact ⟨0, 11, by decide, order_no a p w hp h⟩
  | true =>
    by_cases hg : pgcd a p = 1
    · have hm := isMod_true h
      obtain ⟨n, hn, hb⟩ := ord_exists hm.1 (by omega) hg
      have hb2 : n ≤ 65535 := by
        have : 2 ^ (len p - 1) ≤ 2 ^ 16 := Nat.pow_le_pow_right (by decide) (by omega)
        have e : (2 : Nat) ^ 16 = 65536 := rfl
        omega
      exact ⟨n, 0, hb2, order_yes a p n w ha hp h hg hn hb2⟩
    · exact ⟨0, 12, by decide, order_none a p w ha hp h hg⟩

theorem isMod_16_32 {p : Nat} (h : isMod p 16 = true) : isMod p 32 = true := by
  have := isMod_true h
  exact isMod_mk (by omega)

set_option maxHeartbeats 400000 in
theorem primitive_no (p : Nat) (w : World) (hp : p < 18446744073709551616) (h : isMod p 16 = false) :
    Calls Tryd.prog 38 #[.int .u64 (p : Int)] w fun e w' => e = .returned (.tuple #[.bool false, .int .i64 11]) ∧ w' = w := by
  go_enter Tryd.func38, Tryd.ntmps38
  go_wp2_with (go_at_call 12; refine (isModulus_nat _ 16 _ hp (by decide)).mono ?_; rw [h]; rintro e w' ⟨rfl, rfl⟩)
  go_ret2
  exact ⟨rfl, rfl⟩

set_option maxHeartbeats 400000 in
theorem primitive_red (p : Nat) (w : World) (hp : p < 18446744073709551616) (h : isMod p 16 = true) (hi : irr p = false) :
    Calls Tryd.prog 38 #[.int .u64 (p : Int)] w fun e w' => e = .returned (.tuple #[.bool false, .int .i64 0]) ∧ w' = w := by
  have c1 := irreducible_yes p w hp (isMod_16_32 h)
  rw [hi] at c1
  go_enter Tryd.func38, Tryd.ntmps38
  go_wp2_with (first | (go_at_call 12; refine (isModulus_nat _ 16 _ hp (by decide)).mono ?_; rw [h]; rintro e w' ⟨rfl, rfl⟩) | (go_at_call 34; with_reducible refine c1.mono ?_; rintro e w' ⟨rfl, rfl⟩))
  go_ret2
  exact ⟨rfl, rfl⟩

/-- is the order of x what it must be? -/
def primB (p o : Nat) : Bool := decide (o = 2 ^ (len p - 1) - 1)
theorem ret2_bool {a b : Bool} {i : Int} (h : a = b) : Ending.returned (.tuple #[.bool a, .int .i64 i]) = .returned (.tuple #[.bool b, .int .i64 i]) := by rw [h]
theorem pow_bound {p : Nat} (h1 : 2 ≤ len p) (h2 : len p ≤ 17) : 2 ≤ 2 ^ (len p - 1) ∧ 2 ^ (len p - 1) ≤ 65536 := by
  constructor
  · have : 2 ^ 1 ≤ 2 ^ (len p - 1) := Nat.pow_le_pow_right (by omega) (by omega)
    omega
  · have : 2 ^ (len p - 1) ≤ 2 ^ 16 := Nat.pow_le_pow_right (by decide) (by omega)
    have e : (2 : Nat) ^ 16 = 65536 := rfl
    omega
theorem wrap_all {p : Nat} (h1 : 2 ≤ len p) (h2 : len p ≤ 17) : wrap64 (wrap64 (2 ^ (len p - 1)) - 1) = ((2 ^ (len p - 1) - 1 : Nat) : Int) := by
  obtain ⟨b1, b2⟩ := pow_bound h1 h2
  have e : ((2 : Int) ^ (len p - 1)) = ((2 ^ (len p - 1) : Nat) : Int) := by simp
  rw [e]
  generalize 2 ^ (len p - 1) = q at *
  unfold wrap64
  omega
theorem primB_eq {p o : Nat} (h1 : 2 ≤ len p) (h2 : len p ≤ 17) : ((o : Int) == wrap64 (wrap64 (2 ^ (len p - 1)) - 1)) = primB p o := by
  rw [wrap_all h1 h2, Bool.eq_iff_iff]
  unfold primB
  simp only [beq_iff_eq, decide_eq_true_eq]
  omega

set_option maxHeartbeats 400000 in
theorem primitive_irr (p o ee : Nat) (w : World) (hp : p < 18446744073709551616) (h : isMod p 16 = true) (hi : irr p = true)
    (c2 : Calls Tryd.prog 36 #[.int .u64 2, .int .u64 (p : Int)] w fun e w' => e = .returned (.tuple #[.int .i64 (o : Int), .int .i64 (ee : Int)]) ∧ w' = w) :
    Calls Tryd.prog 38 #[.int .u64 (p : Int)] w fun e w' => e = .returned (.tuple #[.bool (primB p o), .int .i64 0]) ∧ w' = w := by
  have c1 := irreducible_yes p w hp (isMod_16_32 h)
  rw [hi] at c1
  have hm := isMod_true h
  go_enter Tryd.func38, Tryd.ntmps38
  go_wp2_with (first | (go_at_call 12; refine (isModulus_nat _ 16 _ hp (by decide)).mono ?_; rw [h]; rintro e w' ⟨rfl, rfl⟩) | (go_at_call 34; with_reducible refine c1.mono ?_; rintro e w' ⟨rfl, rfl⟩) | (go_at_call 36; with_reducible refine c2.mono ?_; rintro e w' ⟨rfl, rfl⟩) | (go_at_call 8; refine (degree_nat _ _ hp).mono ?_; rintro e w' ⟨rfl, rfl⟩))
  go_ret2
  exact ⟨ret2_bool (primB_eq hm.1 hm.2), rfl⟩
end Go.Proofs.YtaepcecjblojjabDoor
