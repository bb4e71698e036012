import Derived.Test.YtaepcecjblojjabWfer
namespace Go.Proofs.Ytaepcecjblojjab
open Go.RowKit Gf2

/-- a product of two from degree 1 on is not irreducible. -/
theorem irr_product {a b : Nat} (ha : 2 ≤ len a) (hb : 2 ≤ len b) (h33 : len (mul a b) ≤ 33) : irr (mul a b) = false := by
  have ha0 : a ≠ 0 := len_pos.1 (by omega)
  have hb0 : b ≠ 0 := len_pos.1 (by omega)
  have l := len_mul ha0 hb0
  cases h : irr (mul a b) with
  | false => rfl
  | true =>
    exfalso
    have hI := irr_sound (by omega) h33 h
    rcases hI.2 b ⟨a, rfl⟩ with e | e
    · rw [e, len_one] at hb; omega
    · rw [← e] at l; omega

/-- the last test: one remainder is 0 just where one of the other two is. -/
theorem prime_test {a b p : Nat} (h : Irr p) (h33 : len p ≤ 33) :
    (decide (pmod (mul a b) p = 0)) = (decide (pmod a p = 0) || decide (pmod b p = 0)) := by
  have hp := h.ne
  rw [Bool.eq_iff_iff]
  simp only [decide_eq_true_eq, Bool.or_eq_true]
  rw [pmod_eq_zero hp, pmod_eq_zero hp, pmod_eq_zero hp]
  constructor
  · intro e; exact irr_prime h (by omega) e
  · rintro (e | e)
    · exact dv_mul_right _ e
    · exact dv_mul_left _ e

/-- behind the first part: p is asked. -/
theorem eq_dec (n : Nat) : (((n : Nat) : Int) == 0) = decide (n = 0) := by
  rw [Bool.eq_iff_iff]; simp

set_option maxHeartbeats 1000000 in
theorem ringPrime_yes (a b p : Nat) (w : World) (ha : a < 4294967296) (hb : b < 4294967296) (hp : p < 18446744073709551616) (h1 : isMod p 32 = true) (h2 : irr p = true) :
    Calls Try.prog 7 #[.int .u32 (a : Int), .int .u32 (b : Int), .int .u64 (p : Int)] w fun e w' => e = .returned (.bool true) ∧ w' = w := by
  have c0 := irr7 w
  have hx := mul_lt64 ha hb
  have c1 := mul_nat a b w ha hb
  have hlx : len (mul a b) ≤ 64 := len_le.2 hx
  have hla : len a ≤ 32 := len_le.2 ha
  have hlb : len b ≤ 32 := len_le.2 hb
  have k1 := high_nat a w (by omega)
  have k2 := high_nat b w (by omega)
  have k3 := high_nat (mul a b) w hx
  have hm := isMod_true h1
  have hI := irr_sound (p := p) hm.1 hm.2 h2
  have hp0 := hI.ne
  have c3 := irreducible_yes p w hp h1
  rw [h2] at c3
  have d1 := divmod_nat (mul a b) p w hx hp hp0
  have d2 := divmod_nat a p w (by omega) hp hp0
  have d3 := divmod_nat b p w (by omega) hp hp0
  have pt := prime_test (a := a) (b := b) hI hm.2
  have E1 := eq_dec (pmod a p)
  have E2 := eq_dec (pmod b p)
  have E3 := eq_dec (pmod (mul a b) p)
  rw [← E1, ← E2, ← E3] at pt
  clear E1 E2 E3 hI h1 h2 hm
  by_cases hA1 : 2 ≤ len a
  · by_cases hA2 : 2 ≤ len b
    · by_cases hA3 : len (mul a b) ≤ 33
      · have hm : isMod (mul a b) 32 = true := isMod_mk ⟨by
          have := len_mul (a := a) (b := b) (len_pos.1 (by omega)) (len_pos.1 (by omega)); omega, hA3⟩
        have c2 := irreducible_yes (mul a b) w hx hm
        rw [irr_product hA1 hA2 hA3] at c2
        have D1 : decide ((len (mul a b) : Int) - 1 ≤ 32) = true := by simp; omega
        clear hm
        go_enter Try.func7, Try.ntmps7
        go_wp2_with (first | (go_at_call 15; first | (with_reducible refine c0.mono ?_; rintro e w' ⟨rfl, rfl⟩) | (with_reducible refine c2.mono ?_; rintro e w' ⟨rfl, rfl⟩) | (with_reducible refine c3.mono ?_; rintro e w' ⟨rfl, rfl⟩)) | (go_at_call 13; with_reducible refine c1.mono ?_; rintro e w' ⟨rfl, rfl⟩) | (go_at_call 11; first | (with_reducible refine k1.mono ?_; rintro e w' ⟨rfl, rfl⟩) | (with_reducible refine k2.mono ?_; rintro e w' ⟨rfl, rfl⟩) | (with_reducible refine k3.mono ?_; rintro e w' ⟨rfl, rfl⟩)) | (go_at_call 9; first | (with_reducible refine d1.mono ?_; rintro e w' ⟨rfl, rfl⟩) | (with_reducible refine d2.mono ?_; rintro e w' ⟨rfl, rfl⟩) | (with_reducible refine d3.mono ?_; rintro e w' ⟨rfl, rfl⟩)))
        all_goals
          go_ret
          exact ⟨rfl, rfl⟩
      · have c2 := c0
        have D1 : decide ((len (mul a b) : Int) - 1 ≤ 32) = false := by simp; omega
        go_enter Try.func7, Try.ntmps7
        go_wp2_with (first | (go_at_call 15; first | (with_reducible refine c0.mono ?_; rintro e w' ⟨rfl, rfl⟩) | (with_reducible refine c2.mono ?_; rintro e w' ⟨rfl, rfl⟩) | (with_reducible refine c3.mono ?_; rintro e w' ⟨rfl, rfl⟩)) | (go_at_call 13; with_reducible refine c1.mono ?_; rintro e w' ⟨rfl, rfl⟩) | (go_at_call 11; first | (with_reducible refine k1.mono ?_; rintro e w' ⟨rfl, rfl⟩) | (with_reducible refine k2.mono ?_; rintro e w' ⟨rfl, rfl⟩) | (with_reducible refine k3.mono ?_; rintro e w' ⟨rfl, rfl⟩)) | (go_at_call 9; first | (with_reducible refine d1.mono ?_; rintro e w' ⟨rfl, rfl⟩) | (with_reducible refine d2.mono ?_; rintro e w' ⟨rfl, rfl⟩) | (with_reducible refine d3.mono ?_; rintro e w' ⟨rfl, rfl⟩)))
        all_goals
          go_ret
          exact ⟨rfl, rfl⟩
    · have c2 := c0
      have D1 : decide ((1 : Int) ≤ (len b : Int) - 1) = false := by simp; omega
      go_enter Try.func7, Try.ntmps7
      go_wp2_with (first | (go_at_call 15; first | (with_reducible refine c0.mono ?_; rintro e w' ⟨rfl, rfl⟩) | (with_reducible refine c2.mono ?_; rintro e w' ⟨rfl, rfl⟩) | (with_reducible refine c3.mono ?_; rintro e w' ⟨rfl, rfl⟩)) | (go_at_call 13; with_reducible refine c1.mono ?_; rintro e w' ⟨rfl, rfl⟩) | (go_at_call 11; first | (with_reducible refine k1.mono ?_; rintro e w' ⟨rfl, rfl⟩) | (with_reducible refine k2.mono ?_; rintro e w' ⟨rfl, rfl⟩) | (with_reducible refine k3.mono ?_; rintro e w' ⟨rfl, rfl⟩)) | (go_at_call 9; first | (with_reducible refine d1.mono ?_; rintro e w' ⟨rfl, rfl⟩) | (with_reducible refine d2.mono ?_; rintro e w' ⟨rfl, rfl⟩) | (with_reducible refine d3.mono ?_; rintro e w' ⟨rfl, rfl⟩)))
      all_goals
        go_ret
        exact ⟨rfl, rfl⟩
  · have c2 := c0
    have D1 : decide ((1 : Int) ≤ (len a : Int) - 1) = false := by simp; omega
    go_enter Try.func7, Try.ntmps7
    go_wp2_with (first | (go_at_call 15; first | (with_reducible refine c0.mono ?_; rintro e w' ⟨rfl, rfl⟩) | (with_reducible refine c2.mono ?_; rintro e w' ⟨rfl, rfl⟩) | (with_reducible refine c3.mono ?_; rintro e w' ⟨rfl, rfl⟩)) | (go_at_call 13; with_reducible refine c1.mono ?_; rintro e w' ⟨rfl, rfl⟩) | (go_at_call 11; first | (with_reducible refine k1.mono ?_; rintro e w' ⟨rfl, rfl⟩) | (with_reducible refine k2.mono ?_; rintro e w' ⟨rfl, rfl⟩) | (with_reducible refine k3.mono ?_; rintro e w' ⟨rfl, rfl⟩)) | (go_at_call 9; first | (with_reducible refine d1.mono ?_; rintro e w' ⟨rfl, rfl⟩) | (with_reducible refine d2.mono ?_; rintro e w' ⟨rfl, rfl⟩) | (with_reducible refine d3.mono ?_; rintro e w' ⟨rfl, rfl⟩)))
    all_goals
      go_ret
      exact ⟨rfl, rfl⟩

set_option maxHeartbeats 1000000 in
theorem ringPrime_no (a b p : Nat) (ee : Int) (w : World) (ha : a < 4294967296) (hb : b < 4294967296)
    (c3 : Calls Try.prog 15 #[.int .u64 (p : Int)] w fun e w' => e = .returned (.tuple #[.bool false, .int .i64 ee]) ∧ w' = w) :
    Calls Try.prog 7 #[.int .u32 (a : Int), .int .u32 (b : Int), .int .u64 (p : Int)] w fun e w' => e = .returned (.bool true) ∧ w' = w := by
  have c0 := irr7 w
  have hx := mul_lt64 ha hb
  have c1 := mul_nat a b w ha hb
  have hlx : len (mul a b) ≤ 64 := len_le.2 hx
  have hla : len a ≤ 32 := len_le.2 ha
  have hlb : len b ≤ 32 := len_le.2 hb
  have k1 := high_nat a w (by omega)
  have k2 := high_nat b w (by omega)
  have k3 := high_nat (mul a b) w hx
  by_cases hA1 : 2 ≤ len a
  · by_cases hA2 : 2 ≤ len b
    · by_cases hA3 : len (mul a b) ≤ 33
      · have hm : isMod (mul a b) 32 = true := isMod_mk ⟨by
          have := len_mul (a := a) (b := b) (len_pos.1 (by omega)) (len_pos.1 (by omega)); omega, hA3⟩
        have c2 := irreducible_yes (mul a b) w hx hm
        rw [irr_product hA1 hA2 hA3] at c2
        have D1 : decide ((len (mul a b) : Int) - 1 ≤ 32) = true := by simp; omega
        clear hm
        go_enter Try.func7, Try.ntmps7
        go_wp2_with (first | (go_at_call 15; first | (with_reducible refine c0.mono ?_; rintro e w' ⟨rfl, rfl⟩) | (with_reducible refine c2.mono ?_; rintro e w' ⟨rfl, rfl⟩) | (with_reducible refine c3.mono ?_; rintro e w' ⟨rfl, rfl⟩)) | (go_at_call 13; with_reducible refine c1.mono ?_; rintro e w' ⟨rfl, rfl⟩) | (go_at_call 11; first | (with_reducible refine k1.mono ?_; rintro e w' ⟨rfl, rfl⟩) | (with_reducible refine k2.mono ?_; rintro e w' ⟨rfl, rfl⟩) | (with_reducible refine k3.mono ?_; rintro e w' ⟨rfl, rfl⟩)))
        all_goals
          go_ret
          exact ⟨rfl, rfl⟩
      · have c2 := c0
        have D1 : decide ((len (mul a b) : Int) - 1 ≤ 32) = false := by simp; omega
        go_enter Try.func7, Try.ntmps7
        go_wp2_with (first | (go_at_call 15; first | (with_reducible refine c0.mono ?_; rintro e w' ⟨rfl, rfl⟩) | (with_reducible refine c2.mono ?_; rintro e w' ⟨rfl, rfl⟩) | (with_reducible refine c3.mono ?_; rintro e w' ⟨rfl, rfl⟩)) | (go_at_call 13; with_reducible refine c1.mono ?_; rintro e w' ⟨rfl, rfl⟩) | (go_at_call 11; first | (with_reducible refine k1.mono ?_; rintro e w' ⟨rfl, rfl⟩) | (with_reducible refine k2.mono ?_; rintro e w' ⟨rfl, rfl⟩) | (with_reducible refine k3.mono ?_; rintro e w' ⟨rfl, rfl⟩)))
        all_goals
          go_ret
          exact ⟨rfl, rfl⟩
    · have c2 := c0
      have D1 : decide ((1 : Int) ≤ (len b : Int) - 1) = false := by simp; omega
      go_enter Try.func7, Try.ntmps7
      go_wp2_with (first | (go_at_call 15; first | (with_reducible refine c0.mono ?_; rintro e w' ⟨rfl, rfl⟩) | (with_reducible refine c2.mono ?_; rintro e w' ⟨rfl, rfl⟩) | (with_reducible refine c3.mono ?_; rintro e w' ⟨rfl, rfl⟩)) | (go_at_call 13; with_reducible refine c1.mono ?_; rintro e w' ⟨rfl, rfl⟩) | (go_at_call 11; first | (with_reducible refine k1.mono ?_; rintro e w' ⟨rfl, rfl⟩) | (with_reducible refine k2.mono ?_; rintro e w' ⟨rfl, rfl⟩) | (with_reducible refine k3.mono ?_; rintro e w' ⟨rfl, rfl⟩)))
      all_goals
        go_ret
        exact ⟨rfl, rfl⟩
  · have c2 := c0
    have D1 : decide ((1 : Int) ≤ (len a : Int) - 1) = false := by simp; omega
    go_enter Try.func7, Try.ntmps7
    go_wp2_with (first | (go_at_call 15; first | (with_reducible refine c0.mono ?_; rintro e w' ⟨rfl, rfl⟩) | (with_reducible refine c2.mono ?_; rintro e w' ⟨rfl, rfl⟩) | (with_reducible refine c3.mono ?_; rintro e w' ⟨rfl, rfl⟩)) | (go_at_call 13; with_reducible refine c1.mono ?_; rintro e w' ⟨rfl, rfl⟩) | (go_at_call 11; first | (with_reducible refine k1.mono ?_; rintro e w' ⟨rfl, rfl⟩) | (with_reducible refine k2.mono ?_; rintro e w' ⟨rfl, rfl⟩) | (with_reducible refine k3.mono ?_; rintro e w' ⟨rfl, rfl⟩)))
    all_goals
      go_ret
      exact ⟨rfl, rfl⟩

theorem ringPrime_any (a b p : Nat) (w : World) (ha : a < 4294967296) (hb : b < 4294967296) (hp : p < 18446744073709551616) :
    Calls Try.prog 7 #[.int .u32 (a : Int), .int .u32 (b : Int), .int .u64 (p : Int)] w fun e w' => e = .returned (.bool true) ∧ w' = w := by
  cases h1 : isMod p 32 with
  | true =>
    cases h2 : irr p with
    | true => exact ringPrime_yes a b p w ha hb hp h1 h2
    | false =>
      have c := irreducible_yes p w hp h1
      rw [h2] at c
      exact ringPrime_no a b p 0 w ha hb c
  | false => exact ringPrime_no a b p 11 w ha hb (irreducible_no p w hp h1)
end Go.Proofs.Ytaepcecjblojjab
