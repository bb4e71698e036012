import Derived.Test.YtngmhlpdkbekgaaWalkc
import Derived.Test.YtngmhlpdkbekgaaGfc
namespace Go.Proofs.Ytngmhlpdkbekgaa
open Go.RowKit Gf2

set_option maxHeartbeats 400000 in
theorem cofactor_any (a b : Nat) (w : World) (ha : a < 18446744073709551616) (hb : b < 18446744073709551616) :
    Calls Try.prog 38 #[.int .u64 (a : Int), .int .u64 (b : Int)] w fun e w' => e = .returned (.tuple #[.int .u64 ((cofF (len b) a b 1 0).1 : Nat), .int .u64 (cof a b : Nat)]) ∧ w' = w := by
  unfold cof
  go_enter Try.func38, Try.ntmps38
  go_wp2
  go_loop [0, 1, 5, 6] (fun p q r s => ∃ A B u x n : Nat, A < 18446744073709551616 ∧ B < 18446744073709551616 ∧ u < 18446744073709551616 ∧ x < 18446744073709551616 ∧ len B ≤ n ∧ cofF n A B u x = cofF (len b) a b 1 0 ∧ p = .int .u64 A ∧ q = .int .u64 B ∧ r = .int .u64 u ∧ s = .int .u64 x) (fun _ y _ _ => len (intOf y).toNat)
  case atStart => exact ⟨a, b, 1, 0, len b, ha, hb, by decide, by decide, Nat.le_refl _, rfl, rfl, rfl, rfl, rfl⟩
  case round =>
    obtain ⟨A, B, u, x, n, hA, hB, hu, hx, hn, hg, rfl, rfl, rfl, rfl⟩ := hrel
    have HG : Hid (cofF n A B u x = cofF (len b) a b 1 0) := hg
    clear hg
    by_cases h0 : B = 0
    · subst h0
      go_wp2
      go_ret2
      rw [← HG.out]
      have e : cofF n A 0 u x = (A, u) := by cases n <;> simp [cofF]
      rw [e]
      exact ⟨rfl, rfl⟩
    · have h1 := len_pmod A h0
      have h2 := pmod_lt A h0 hB
      have h3 := pdiv_lt A B hA h0
      have h4 := prod_lt (pdiv A B) x
      have X := u64_xor_nat u _ hu h4
      have h5 := xor_lt64 hu h4
      go_wp2_with (first | (go_at_call 50; refine (divide_nat _ _ _ hA hB h0).mono ?_; rintro e w' ⟨rfl, rfl⟩) | (go_at_call 49; refine (product_nat _ _ _ h3 hx).mono ?_; rintro e w' ⟨rfl, rfl⟩))
      go_round
      case rel =>
        cases n with
        | zero => omega
        | succ n => exact ⟨B, pmod A B, x, u ^^^ prod (pdiv A B) x, n, hB, h2, hx, h5, by omega, by rw [← HG.out]; simp [cofF, h0], rfl, rfl, rfl, rfl⟩
      case measure => simp only [intOf, Int.toNat_natCast]; exact h1

theorem cofactor_nat (a b : Nat) (w : World) (ha : a < 18446744073709551616) (hb : b < 18446744073709551616) (hb0 : b ≠ 0) :
    Calls Try.prog 38 #[.int .u64 (a : Int), .int .u64 (b : Int)] w fun e w' => e = .returned (.tuple #[.int .u64 (pgcd a b : Nat), .int .u64 (cof a b : Nat)]) ∧ w' = w := by
  have h := cofactor_any a b w ha hb
  rw [(cof_spec hb0 (len_le.2 hb)).1] at h
  exact h

theorem tm_lt (a b : Nat) {p : Nat} (hp0 : p ≠ 0) (hp : p < 18446744073709551616) : tm a b p < 18446744073709551616 := pmod_lt _ hp0 hp

theorem times_tm (a b p : Nat) (w : World) (ha : a < 18446744073709551616) (hb : b < 18446744073709551616) (hp : p < 18446744073709551616) (hp0 : p ≠ 0) :
    Calls Try.prog 36 #[.int .u64 (a : Int), .int .u64 (b : Int), .int .u64 (p : Int)] w fun e w' => e = .returned (.int .u64 (tm a b p : Nat)) ∧ w' = w := times_nat a b p w ha hb hp hp0

end Go.Proofs.Ytngmhlpdkbekgaa
