import Derived.Test.YtaepcecjblojjabWalkd
namespace Go.Proofs.Ytaepcecjblojjab
open Go.RowKit Gf2

theorem pgcd_lt32 {a b : Nat} (ha : a < 4294967296) (hb : b < 4294967296) : pgcd a b < 4294967296 := by
  have h1 : len a ≤ 32 := len_le.2 ha
  have h2 : len b ≤ 32 := len_le.2 hb
  apply (len_le (n := 32)).1
  by_cases h : a = 0
  · subst h
    by_cases h' : b = 0
    · subst h'; decide
    · have := (dv_len (pgcd_dv 0 b).2 h').2; omega
  · have := (dv_len (pgcd_dv a b).1 h).2; omega
theorem mul_lt64 {a b : Nat} (ha : a < 4294967296) (hb : b < 4294967296) : mul a b < 18446744073709551616 := by
  have h1 : len a ≤ 32 := len_le.2 ha
  have h2 : len b ≤ 32 := len_le.2 hb
  have := len_mul_le a b
  exact (len_le (n := 64)).1 (by omega)

set_option maxHeartbeats 1000000 in
theorem ringGreatest_any (a b c : Nat) (w : World) (ha : a < 4294967296) (hb : b < 4294967296) (hc : c < 4294967296) :
    Calls Try.prog 4 #[.int .u32 (a : Int), .int .u32 (b : Int), .int .u32 (c : Int)] w fun e w' => e = .returned (.bool true) ∧ w' = w := by
  have c0 : Calls Try.prog 12 #[.int .u64 6, .int .u64 5] w fun e w' => e = .returned (.int .u64 3) ∧ w' = w := by
    have h := gcd_nat 6 5 w (by decide) (by decide)
    rw [show pgcd 6 5 = 3 by decide] at h
    exact h
  have c1 := gcd_nat a b w (by omega) (by omega)
  by_cases h0 : c = 0
  · subst h0
    go_enter Try.func4, Try.ntmps4
    go_wp2_with (go_at_call 12; refine c0.mono ?_; rintro e w' ⟨rfl, rfl⟩)
    go_ret
    exact ⟨rfl, rfl⟩
  · have T0 : ((c : Int) == 0) = false := by simp; omega
    by_cases hab : a = 0 ∧ b = 0
    · obtain ⟨rfl, rfl⟩ := hab
      have c1 : Calls Try.prog 12 #[.int .u64 0, .int .u64 0] w fun e w' => e = .returned (.int .u64 0) ∧ w' = w := by
        rw [show pgcd 0 0 = 0 by decide] at c1
        exact c1
      go_enter Try.func4, Try.ntmps4
      go_wp2_with (go_at_call 12; first | (with_reducible refine c0.mono ?_; rintro e w' ⟨rfl, rfl⟩) | (with_reducible refine c1.mono ?_; rintro e w' ⟨rfl, rfl⟩))
      go_ret
      exact ⟨rfl, rfl⟩
    · have hg0 : pgcd a b ≠ 0 := pgcd_ne_zero (by omega)
      have hg := pgcd_lt32 ha hb
      have m1 := (pmod_eq_zero hg0).2 (pgcd_dv a b).1
      have m2 := (pmod_eq_zero hg0).2 (pgcd_dv a b).2
      have c2 := divmod_nat a (pgcd a b) w (by omega) (by omega) hg0
      have c3 := divmod_nat b (pgcd a b) w (by omega) (by omega) hg0
      rw [m1] at c2
      rw [m2] at c3
      have c4 := mul_nat a c w ha hc
      have c5 := mul_nat b c w hb hc
      have c6 := mul_nat (pgcd a b) c w hg hc
      have c7 := gcd_nat (mul a c) (mul b c) w (mul_lt64 ha hc) (mul_lt64 hb hc)
      rw [pgcd_mul h0] at c7
      clear m1 m2
      by_cases haz : a = 0
      · have T1 : ((a : Int) == 0) = true := by simp; omega
        have T2 : ((b : Int) == 0) = false := by simp; omega
        clear haz hab
        go_enter Try.func4, Try.ntmps4
        go_wp2_with (first | (go_at_call 12; first | (with_reducible refine c0.mono ?_; rintro e w' ⟨rfl, rfl⟩) | (with_reducible refine c1.mono ?_; rintro e w' ⟨rfl, rfl⟩) | (with_reducible refine c7.mono ?_; rintro e w' ⟨rfl, rfl⟩)) | (go_at_call 9; first | (with_reducible refine c2.mono ?_; rintro e w' ⟨rfl, rfl⟩) | (with_reducible refine c3.mono ?_; rintro e w' ⟨rfl, rfl⟩)) | (go_at_call 13; first | (with_reducible refine c4.mono ?_; rintro e w' ⟨rfl, rfl⟩) | (with_reducible refine c5.mono ?_; rintro e w' ⟨rfl, rfl⟩) | (with_reducible refine c6.mono ?_; rintro e w' ⟨rfl, rfl⟩)))
        go_ret
        exact ⟨ret_bool (by simp), rfl⟩
      · have T1 : ((a : Int) == 0) = false := by simp; omega
        go_enter Try.func4, Try.ntmps4
        go_wp2_with (first | (go_at_call 12; first | (with_reducible refine c0.mono ?_; rintro e w' ⟨rfl, rfl⟩) | (with_reducible refine c1.mono ?_; rintro e w' ⟨rfl, rfl⟩) | (with_reducible refine c7.mono ?_; rintro e w' ⟨rfl, rfl⟩)) | (go_at_call 9; first | (with_reducible refine c2.mono ?_; rintro e w' ⟨rfl, rfl⟩) | (with_reducible refine c3.mono ?_; rintro e w' ⟨rfl, rfl⟩)) | (go_at_call 13; first | (with_reducible refine c4.mono ?_; rintro e w' ⟨rfl, rfl⟩) | (with_reducible refine c5.mono ?_; rintro e w' ⟨rfl, rfl⟩) | (with_reducible refine c6.mono ?_; rintro e w' ⟨rfl, rfl⟩)))
        go_ret
        exact ⟨ret_bool (by simp), rfl⟩
end Go.Proofs.Ytaepcecjblojjab
