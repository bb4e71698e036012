import Derived.Test.YtaepcecjblojjabWalkc
namespace Go.Proofs.Ytaepcecjblojjab
open Go.RowKit Gf2

set_option maxHeartbeats 1000000 in
theorem ringDivides_any (a b : Nat) (w : World) (ha : a < 18446744073709551616) (hb : b < 18446744073709551616) :
    Calls Try.prog 3 #[.int .u64 (a : Int), .int .u64 (b : Int)] w fun e w' => e = .returned (.bool true) ∧ w' = w := by
  by_cases hb0 : b = 0
  · subst hb0
    go_enter Try.func3, Try.ntmps3
    go_wp2_with (first | (go_at_call 8; refine (awake_any _).mono ?_; rintro e w' ⟨rfl, rfl⟩) | (go_at_call 9; refine (divmod_zero _ _).mono ?_; rintro e w' ⟨rfl, rfl⟩))
    go_ret
    exact ⟨rfl, rfl⟩
  · have hq := pdiv_lt a b ha hb0
    have hr := pmod_lt a hb0 hb
    have ho : len (pdiv a b) + len b ≤ 65 := by
      have := len_pdiv (a := a) hb0
      have : len a ≤ 64 := len_le.2 ha
      have : len b ≤ 64 := len_le.2 hb
      omega
    have hm : mul (pdiv a b) b < 18446744073709551616 := by
      have := len_mul_le (pdiv a b) b
      exact (len_le (n := 64)).1 (by omega)
    have X := u64_xor_nat (mul (pdiv a b) b) (pmod a b) hm hr
    rw [← div_spec a hb0] at X
    have hl := len_pmod a hb0
    have hlb : len b ≤ 64 := len_le.2 hb
    go_enter Try.func3, Try.ntmps3
    go_wp2_with (first | (go_at_call 8; refine (awake_any _).mono ?_; rintro e w' ⟨rfl, rfl⟩) | (go_at_call 9; refine (divmod_nat _ _ _ ha hb hb0).mono ?_; rintro e w' ⟨rfl, rfl⟩) | (go_at_call 10; refine (over_yes _ _ _ hq hb ho).mono ?_; rintro e w' ⟨rfl, rfl⟩) | (go_at_call 11; refine (high_nat _ _ (by assumption)).mono ?_; rintro e w' ⟨rfl, rfl⟩))
    go_ret
    exact ⟨ret_bool (by simp <;> omega), rfl⟩
end Go.Proofs.Ytaepcecjblojjab
