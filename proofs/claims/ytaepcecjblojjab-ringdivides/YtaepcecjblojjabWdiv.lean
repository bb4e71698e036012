import Derived.Test.YtaepcecjblojjabWalkc
import Derived.OpenShut
namespace Go.Proofs.Ytaepcecjblojjab
open Go.RowKit Gf2

theorem nat_u64 {a : Int} (h : (Lit.int .u64 a).wf = true) : ∃ n : Nat, a = n ∧ n < 18446744073709551616 := by
  have := bounds_u64 h
  exact ⟨a.toNat, by omega, by omega⟩
theorem nat_u32 {a : Int} (h : (Lit.int .u32 a).wf = true) : ∃ n : Nat, a = n ∧ n < 4294967296 := by
  have := bounds_u32 h
  exact ⟨a.toNat, by omega, by omega⟩

theorem len_pdiv {a b : Nat} (hb : b ≠ 0) : len (pdiv a b) + len b ≤ max (len a) (len b) + 1 := by
  by_cases hq : pdiv a b = 0
  · rw [hq, len_zero]; omega
  · have h := div_spec a hb
    have hr := len_pmod a hb
    have l := len_mul hq hb
    have lq := len_pos.2 hq
    have e : len (mul (pdiv a b) b ^^^ pmod a b) = len (mul (pdiv a b) b) := by
      rw [Nat.xor_comm]; exact len_xor_of_lt (by omega)
    rw [← h] at e
    omega
theorem pdiv_lt (a b : Nat) (ha : a < 18446744073709551616) (hb0 : b ≠ 0) : pdiv a b < 18446744073709551616 := by
  have h := len_pdiv (a := a) hb0
  have h1 : len a ≤ 64 := len_le.2 ha
  have h2 := len_pos.2 hb0
  apply (len_le (n := 64)).1
  by_cases hq : pdiv a b = 0
  · rw [hq, len_zero]; omega
  · by_cases hc : len b ≤ len a
    · omega
    · have : len (pdiv a b) ≤ 1 := by omega
      omega

set_option maxHeartbeats 1000000 in
theorem ringDivides_any (a b : Nat) (w : World) (ha : a < 18446744073709551616) (hb : b < 18446744073709551616) :
    Calls Try.prog 3 #[.int .u64 (a : Int), .int .u64 (b : Int)] w fun e w' => e = .returned (.bool true) ∧ w' = w := by
  by_cases hb0 : b = 0
  · subst hb0
    go_enter Try.func3, Try.ntmps3
    go_wp2_with (first | (go_at_call 8; refine (awake_any _).mono ?_; rintro e w' ⟨rfl, rfl⟩) | (go_at_call 9; refine (divmod_zero _ _).mono ?_; rintro e w' ⟨rfl, rfl⟩))
    go_ret
    exact ⟨rfl, rfl⟩
  · have hq := pdiv_lt a b ha hb0
    have hr := pmod_lt a hb0 hb
    have ho : len (pdiv a b) + len b ≤ 65 := by
      have := len_pdiv (a := a) hb0
      have : len a ≤ 64 := len_le.2 ha
      have : len b ≤ 64 := len_le.2 hb
      omega
    have hm : mul (pdiv a b) b < 18446744073709551616 := by
      have := len_mul_le (pdiv a b) b
      exact (len_le (n := 64)).1 (by omega)
    have X := u64_xor_nat (mul (pdiv a b) b) (pmod a b) hm hr
    rw [← div_spec a hb0] at X
    have hl := len_pmod a hb0
    have hlb : len b ≤ 64 := len_le.2 hb
    go_enter Try.func3, Try.ntmps3
    go_wp2_with (first | (go_at_call 8; refine (awake_any _).mono ?_; rintro e w' ⟨rfl, rfl⟩) | (go_at_call 9; refine (divmod_nat _ _ _ ha hb hb0).mono ?_; rintro e w' ⟨rfl, rfl⟩) | (go_at_call 10; refine (over_yes _ _ _ hq hb ho).mono ?_; rintro e w' ⟨rfl, rfl⟩) | (go_at_call 11; refine (high_nat _ _ (by assumption)).mono ?_; rintro e w' ⟨rfl, rfl⟩))
    go_ret
    exact ⟨ret_bool (by simp <;> omega), rfl⟩
end Go.Proofs.Ytaepcecjblojjab
