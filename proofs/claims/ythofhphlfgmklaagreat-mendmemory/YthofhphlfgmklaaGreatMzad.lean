import Derived.Test.YthofhphlfgmklaaGreatMzac
import Derived.OpenShut
import Derived.Test.YthofhphlfgmklaaGreatMzaa
namespace Go.Proofs.YthofhphlfgmklaaGreat
open Go.RowKit Gf2

set_option maxHeartbeats 400000 in
theorem remainder_nat (a b : Nat) (w : World) (ha : a < 18446744073709551616) (hb : b < 18446744073709551616) (hb0 : b ≠ 0) :
    Calls Tryz.prog 99 #[.int .u64 (a : Int), .int .u64 (b : Int)] w fun e w' => e = .returned (.int .u64 (pmod a b : Nat)) ∧ w' = w := by
  go_enter Tryz.func99, Tryz.ntmps99
  go_wp2_with (go_at_call 106; refine (divide_nat _ _ _ ha hb hb0).mono ?_; rintro e w' ⟨rfl, rfl⟩)
  go_ret
  exact ⟨rfl, rfl⟩

set_option maxHeartbeats 400000 in
theorem times_nat (a b p : Nat) (w : World) (ha : a < 18446744073709551616) (hb : b < 18446744073709551616) (hp : p < 18446744073709551616) (hp0 : p ≠ 0) :
    Calls Tryz.prog 98 #[.int .u64 (a : Int), .int .u64 (b : Int), .int .u64 (p : Int)] w fun e w' => e = .returned (.int .u64 (pmod (prod a b) p : Nat)) ∧ w' = w := by
  go_enter Tryz.func98, Tryz.ntmps98
  go_wp2_with (first | (go_at_call 105; refine (product_nat _ _ _ ha hb).mono ?_; rintro e w' ⟨rfl, rfl⟩) | (go_at_call 99; refine (remainder_nat _ _ _ (prod_lt _ _) hp hp0).mono ?_; rintro e w' ⟨rfl, rfl⟩))
  go_ret
  exact ⟨rfl, rfl⟩

/-- a degree from 1 to g? -/
def isMod (p : Nat) (g : Nat) : Bool := decide (2 ≤ len p ∧ len p ≤ g + 1)

set_option maxHeartbeats 400000 in
theorem isModulus_nat (p g : Nat) (w : World) (hp : p < 18446744073709551616) (_hg : g ≤ 64) :
    Calls Tryz.prog 97 #[.int .u64 (p : Int), .int .i64 (g : Int)] w fun e w' => e = .returned (.bool (isMod p g)) ∧ w' = w := by
  have hlp : len p ≤ 64 := len_le.2 hp
  by_cases h1 : 2 ≤ len p
  · by_cases h2 : len p ≤ g + 1
    · have e : isMod p g = true := by simp [isMod, h1, h2]
      rw [e]; clear e
      go_enter Tryz.func97, Tryz.ntmps97
      go_wp2_with (go_at_call 104; refine (degree_nat _ _ hp).mono ?_; rintro e w' ⟨rfl, rfl⟩)
      go_ret
      exact ⟨ret_bool (by simp; omega), rfl⟩
    · have e : isMod p g = false := by simp [isMod, h2]
      rw [e]; clear e
      go_enter Tryz.func97, Tryz.ntmps97
      go_wp2_with (go_at_call 104; refine (degree_nat _ _ hp).mono ?_; rintro e w' ⟨rfl, rfl⟩)
      go_ret
      exact ⟨ret_bool (by simp; omega), rfl⟩
  · have e : isMod p g = false := by simp [isMod, h1]
    rw [e]; clear e
    go_enter Tryz.func97, Tryz.ntmps97
    go_wp2_with (go_at_call 104; refine (degree_nat _ _ hp).mono ?_; rintro e w' ⟨rfl, rfl⟩)
    go_ret
    exact ⟨rfl, rfl⟩

theorem isMod_true {p g : Nat} (h : isMod p g = true) : 2 ≤ len p ∧ len p ≤ g + 1 := by simpa [isMod] using h
theorem isMod_ne {p g : Nat} (h : isMod p g = true) : p ≠ 0 := by
  rintro rfl; have := isMod_true h; rw [len_zero] at this; omega

set_option maxHeartbeats 400000 in
theorem mulmod_yes (a b p : Nat) (w : World) (ha : a < 18446744073709551616) (hb : b < 18446744073709551616) (hp : p < 18446744073709551616) (h : isMod p 32 = true) :
    Calls Tryz.prog 83 #[.int .u64 (a : Int), .int .u64 (b : Int), .int .u64 (p : Int)] w fun e w' => e = .returned (.tuple #[.int .u64 (pmod (prod (pmod a p) (pmod b p)) p : Nat), .int .i64 0]) ∧ w' = w := by
  have hp0 := isMod_ne h
  have h1 := pmod_lt a hp0 hp
  have h2 := pmod_lt b hp0 hp
  go_enter Tryz.func83, Tryz.ntmps83
  go_wp2_with (first | (go_at_call 97; refine (isModulus_nat _ 32 _ hp (by decide)).mono ?_; rw [h]; rintro e w' ⟨rfl, rfl⟩) | (go_at_call 99; refine (remainder_nat _ _ _ (by assumption) hp hp0).mono ?_; rintro e w' ⟨rfl, rfl⟩) | (go_at_call 98; refine (times_nat _ _ _ _ h1 h2 hp hp0).mono ?_; rintro e w' ⟨rfl, rfl⟩))
  go_ret2
  exact ⟨rfl, rfl⟩

end Go.Proofs.YthofhphlfgmklaaGreat
namespace Go.Proofs.YthofhphlfgmklaaGreat
open Go.RowKit Gf2

set_option maxHeartbeats 400000 in
theorem cofactor_any (a b : Nat) (w : World) (ha : a < 18446744073709551616) (hb : b < 18446744073709551616) :
    Calls Tryz.prog 100 #[.int .u64 (a : Int), .int .u64 (b : Int)] w fun e w' => e = .returned (.tuple #[.int .u64 ((cofF (len b) a b 1 0).1 : Nat), .int .u64 (cof a b : Nat)]) ∧ w' = w := by
  unfold cof
  go_enter Tryz.func100, Tryz.ntmps100
  go_wp2
  go_loop [0, 1, 5, 6] (fun p q r s => ∃ A B u x n : Nat, A < 18446744073709551616 ∧ B < 18446744073709551616 ∧ u < 18446744073709551616 ∧ x < 18446744073709551616 ∧ len B ≤ n ∧ cofF n A B u x = cofF (len b) a b 1 0 ∧ p = .int .u64 A ∧ q = .int .u64 B ∧ r = .int .u64 u ∧ s = .int .u64 x) (fun _ y _ _ => len (intOf y).toNat)
  case atStart => exact ⟨a, b, 1, 0, len b, ha, hb, by decide, by decide, Nat.le_refl _, rfl, rfl, rfl, rfl, rfl⟩
  case round =>
    obtain ⟨A, B, u, x, n, hA, hB, hu, hx, hn, hg, rfl, rfl, rfl, rfl⟩ := hrel
    have HG : Hid (cofF n A B u x = cofF (len b) a b 1 0) := hg
    clear hg
    by_cases h0 : B = 0
    · subst h0
      go_wp2
      go_ret2
      rw [← HG.out]
      have e : cofF n A 0 u x = (A, u) := by cases n <;> simp [cofF]
      rw [e]
      exact ⟨rfl, rfl⟩
    · have h1 := len_pmod A h0
      have h2 := pmod_lt A h0 hB
      have h3 := pdiv_lt A B hA h0
      have h4 := prod_lt (pdiv A B) x
      have X := u64_xor_nat u _ hu h4
      have h5 := xor_lt64 hu h4
      go_wp2_with (first | (go_at_call 106; refine (divide_nat _ _ _ hA hB h0).mono ?_; rintro e w' ⟨rfl, rfl⟩) | (go_at_call 105; refine (product_nat _ _ _ h3 hx).mono ?_; rintro e w' ⟨rfl, rfl⟩))
      go_round
      case rel =>
        cases n with
        | zero => omega
        | succ n => exact ⟨B, pmod A B, x, u ^^^ prod (pdiv A B) x, n, hB, h2, hx, h5, by omega, by rw [← HG.out]; simp [cofF, h0], rfl, rfl, rfl, rfl⟩
      case measure => simp only [intOf, Int.toNat_natCast]; exact h1

theorem cofactor_nat (a b : Nat) (w : World) (ha : a < 18446744073709551616) (hb : b < 18446744073709551616) (hb0 : b ≠ 0) :
    Calls Tryz.prog 100 #[.int .u64 (a : Int), .int .u64 (b : Int)] w fun e w' => e = .returned (.tuple #[.int .u64 (pgcd a b : Nat), .int .u64 (cof a b : Nat)]) ∧ w' = w := by
  have h := cofactor_any a b w ha hb
  rw [(cof_spec hb0 (len_le.2 hb)).1] at h
  exact h

end Go.Proofs.YthofhphlfgmklaaGreat
namespace Go.Proofs.YthofhphlfgmklaaGreat
open Go.RowKit Gf2

set_option maxHeartbeats 400000 in
theorem invmod_yes (a p : Nat) (w : World) (ha : a < 18446744073709551616) (hp : p < 18446744073709551616) (h : isMod p 32 = true) (hg : pgcd (pmod a p) p = 1) :
    Calls Tryz.prog 84 #[.int .u64 (a : Int), .int .u64 (p : Int)] w fun e w' => e = .returned (.tuple #[.int .u64 (cof (pmod a p) p : Nat), .int .i64 0]) ∧ w' = w := by
  have hp0 := isMod_ne h
  have h1 := pmod_lt a hp0 hp
  have c1 := remainder_nat a p w ha hp hp0
  have c2 := cofactor_nat (pmod a p) p w h1 hp hp0
  rw [hg] at c2
  have c2 : Calls Tryz.prog 100 #[.int .u64 ((pmod a p : Nat) : Int), .int .u64 (p : Int)] w fun e w' => e = .returned (.tuple #[.int .u64 1, .int .u64 (cof (pmod a p) p : Nat)]) ∧ w' = w := c2
  clear hg
  go_enter Tryz.func84, Tryz.ntmps84
  go_wp2_with (first | (go_at_call 97; refine (isModulus_nat _ 32 _ hp (by decide)).mono ?_; rw [h]; rintro e w' ⟨rfl, rfl⟩) | (go_at_call 99; with_reducible refine c1.mono ?_; rintro e w' ⟨rfl, rfl⟩) | (go_at_call 100; with_reducible refine c2.mono ?_; rintro e w' ⟨rfl, rfl⟩))
  go_ret2
  exact ⟨rfl, rfl⟩

end Go.Proofs.YthofhphlfgmklaaGreat
