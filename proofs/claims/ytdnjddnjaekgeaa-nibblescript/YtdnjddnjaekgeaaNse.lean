import Derived.Test.YtdnjddnjaekgeaaNsd
namespace Go.Proofs.Ytdnjddnjaekgeaa
open Go.RowKit Gf2
set_option linter.unusedVariables false

/-- n modulo K, from 0 on. -/
def plc (x : Int) (K : Nat) : Nat := (x % (K : Int)).toNat
theorem plc_lt {x : Int} {K : Nat} (h : 0 < K) : plc x K < K := by
  unfold plc
  have h1 := Int.emod_lt_of_pos x (show (0 : Int) < (K : Int) by omega)
  have h2 := Int.emod_nonneg x (show (K : Int) ≠ 0 by omega)
  omega
theorem tmod_any (n : Int) (K : Nat) : n.tmod K = if 0 ≤ n then n % K else -((-n) % K) := by
  by_cases h : 0 ≤ n
  · rw [if_pos h, Int.tmod_eq_emod_of_nonneg h]
  · rw [if_neg h]
    have := Int.neg_tmod (-n) K
    rw [Int.neg_neg] at this
    rw [this, Int.tmod_eq_emod_of_nonneg (by omega)]
theorem plc_neg {x : Int} {K : Nat} (hK : 0 < K) (hKm : K ≤ 5864062014634) (h : x.tmod K < 0) : wrap64 (x.tmod K + (K : Int)) = (plc x K : Nat) := by
  rw [tmod_any] at h ⊢
  by_cases h0 : 0 ≤ x
  · rw [if_pos h0] at h
    have := Int.emod_nonneg x (show (K : Int) ≠ 0 by omega)
    omega
  · rw [if_neg h0] at h ⊢
    have h1 := Int.emod_lt_of_pos (-x) (show (0 : Int) < (K : Int) by omega)
    have h2 := Int.emod_nonneg (-x) (show (K : Int) ≠ 0 by omega)
    have e : x % (K : Int) = -((-x) % K) + K := by
      have a1 := Int.emod_add_mul_ediv (-x) K
      have a2 : x = (-((-x) % K) + K) + (K : Int) * (-((-x) / K) - 1) := by
        rw [Int.mul_sub, Int.mul_neg, Int.mul_one]
        omega
      conv => lhs; rw [a2]
      rw [Int.add_mul_emod_self_left]
      exact Int.emod_eq_of_lt (by omega) (by omega)
    unfold plc
    rw [e]
    unfold wrap64
    omega
theorem plc_pos {x : Int} {K : Nat} (hK : 0 < K) (h : 0 ≤ x.tmod K) : x.tmod K = (plc x K : Nat) := by
  have h9 := tmod_any x K
  by_cases h0 : 0 ≤ x
  · rw [if_pos h0] at h9
    have := Int.emod_nonneg x (show (K : Int) ≠ 0 by omega)
    unfold plc
    omega
  · rw [if_neg h0] at h9
    have h2 := Int.emod_nonneg (-x) (show (K : Int) ≠ 0 by omega)
    have h3 : (-x) % (K : Int) = 0 := by omega
    have h4 : x % (K : Int) = 0 := by
      have := Int.emod_emod_of_dvd
      have d : (K : Int) ∣ -x := Int.dvd_of_emod_eq_zero h3
      exact Int.emod_eq_zero_of_dvd (Int.dvd_neg.1 d)
    unfold plc
    omega

set_option maxHeartbeats 400000 in
theorem place6_int (x : Int) (K : Nat) (w : World) (hK : 0 < K) (hKm : K ≤ 5864062014634) :
    Calls Try.prog 19 #[.int .i64 x, .int .i64 (K : Int)] w fun e w' => e = .returned (.int .i64 (plc x K : Nat)) ∧ w' = w := by
  have k0 : ((K : Int) == 0) = false := by simp <;> omega
  have k1 : ((K : Int) == -1) = false := by simp <;> omega
  by_cases h : x.tmod K < 0
  · have e1 := plc_neg hK hKm h
    clear hKm
    go_enter Try.func19, Try.ntmps19
    go_wp2
    go_ret
    exact ⟨by first | rfl | (simp; exact e1) | simp, by first | rfl | simp⟩
  · have e1 := plc_pos (x := x) hK (by omega)
    clear hKm
    go_enter Try.func19, Try.ntmps19
    go_wp2
    go_ret
    exact ⟨by first | rfl | (simp; exact e1) | simp, by first | rfl | simp⟩
end Go.Proofs.Ytdnjddnjaekgeaa
