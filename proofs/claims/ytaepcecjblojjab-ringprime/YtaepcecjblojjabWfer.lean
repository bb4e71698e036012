import Derived.Test.YtaepcecjblojjabWgcd
import Derived.Test.YtaepcecjblojjabGfd
namespace Go.Proofs.Ytaepcecjblojjab
open Go.RowKit Gf2

set_option maxHeartbeats 400000 in
theorem invmod_yes (a p : Nat) (w : World) (ha : a < 18446744073709551616) (hp : p < 18446744073709551616) (h : isMod p 32 = true) (hg : pgcd (pmod a p) p = 1) :
    Calls Try.prog 17 #[.int .u64 (a : Int), .int .u64 (p : Int)] w fun e w' => e = .returned (.tuple #[.int .u64 (cof (pmod a p) p : Nat), .int .i64 0]) ∧ w' = w := by
  have hp0 := isMod_ne h
  have h1 := pmod_lt a hp0 hp
  have c1 := remainder_nat a p w ha hp hp0
  have c2 := cofactor_nat (pmod a p) p w h1 hp hp0
  rw [hg] at c2
  have c2 : Calls Try.prog 23 #[.int .u64 ((pmod a p : Nat) : Int), .int .u64 (p : Int)] w fun e w' => e = .returned (.tuple #[.int .u64 1, .int .u64 (cof (pmod a p) p : Nat)]) ∧ w' = w := c2
  clear hg
  go_enter Try.func17, Try.ntmps17
  go_wp2_with (first | (go_at_call 24; refine (isModulus_nat _ 32 _ hp (by decide)).mono ?_; rw [h]; rintro e w' ⟨rfl, rfl⟩) | (go_at_call 21; with_reducible refine c1.mono ?_; rintro e w' ⟨rfl, rfl⟩) | (go_at_call 23; with_reducible refine c2.mono ?_; rintro e w' ⟨rfl, rfl⟩))
  go_ret2
  exact ⟨rfl, rfl⟩

set_option maxHeartbeats 400000 in
theorem invmod_none (a p : Nat) (w : World) (ha : a < 18446744073709551616) (hp : p < 18446744073709551616) (h : isMod p 32 = true) (hg : pgcd (pmod a p) p ≠ 1) :
    Calls Try.prog 17 #[.int .u64 (a : Int), .int .u64 (p : Int)] w fun e w' => e = .returned (.tuple #[.int .u64 0, .int .i64 12]) ∧ w' = w := by
  have hp0 := isMod_ne h
  have h1 := pmod_lt a hp0 hp
  have c1 := remainder_nat a p w ha hp hp0
  have c2 := cofactor_nat (pmod a p) p w h1 hp hp0
  have T : (((pgcd (pmod a p) p : Nat) : Int) != 1) = true := by simp; omega
  clear hg
  go_enter Try.func17, Try.ntmps17
  go_wp2_with (first | (go_at_call 24; refine (isModulus_nat _ 32 _ hp (by decide)).mono ?_; rw [h]; rintro e w' ⟨rfl, rfl⟩) | (go_at_call 21; with_reducible refine c1.mono ?_; rintro e w' ⟨rfl, rfl⟩) | (go_at_call 23; with_reducible refine c2.mono ?_; rintro e w' ⟨rfl, rfl⟩))
  go_ret2
  exact ⟨rfl, rfl⟩

theorem pgcd_pmod {a p : Nat} (hp : p ≠ 0) : pgcd (pmod a p) p = pgcd a p := by
  rw [pgcd_comm (pmod a p) p, pgcd_step hp]

/-- the inverse is the power by two less than the field's number. -/
theorem inv_fermat {a p : Nat} (h : Irr p) (h33 : len p ≤ 33) (ha : ¬ dv p a) : cof (pmod a p) p = pmod (pw a (2 ^ (len p - 1) - 2)) p := by
  have hp := h.ne
  have h1 := h.1
  have hg : pgcd a p = 1 := by
    rcases irr_gcd h a with g | g
    · exact g
    · exact absurd g ha
  have hg' : pgcd (pmod a p) p = 1 := by rw [pgcd_pmod hp]; exact hg
  obtain ⟨e1, e2⟩ := inv_exists hp (by omega) hg'
  have hq : 2 ≤ 2 ^ (len p - 1) := by
    have : 2 ^ 1 ≤ 2 ^ (len p - 1) := Nat.pow_le_pow_right (by omega) (by omega)
    omega
  have f := fermat h (by omega) ha
  have e3 : 2 ^ (len p - 1) - 1 = (2 ^ (len p - 1) - 2) + 1 := by omega
  rw [e3] at f
  simp only [pw] at f
  have a1 : pmod (mul a (cof (pmod a p) p)) p = 1 := by
    have := (pmod_eq_iff hp).2 e1
    rw [mul_comm, pmod_mul_left _ _ hp] at this
    rw [this]; exact pmod_small (by rw [len_one]; omega)
  have a2 : dv p (mul a (cof (pmod a p) p) ^^^ mul a (pw a (2 ^ (len p - 1) - 2))) := (pmod_eq_iff hp).1 (by rw [a1, f])
  have a3 := (pmod_eq_iff hp).2 (cancel hp (by omega) hg a2)
  rw [pmod_small e2] at a3
  exact a3

theorem irr7 (w : World) : Calls Try.prog 15 #[.int .u64 7] w fun e w' => e = .returned (.tuple #[.bool true, .int .i64 0]) ∧ w' = w := by
  have h := irreducible_yes 7 w (by decide) (by decide)
  rw [show irr 7 = true by decide] at h
  exact h

theorem wrap_pow {d : Nat} (hd : d ≤ 32) : IntKind.u64.wrap (2 ^ d) = ((2 ^ d : Nat) : Int) := by
  have e : ((2 : Int) ^ d) = ((2 ^ d : Nat) : Int) := by simp
  rw [e]
  apply wrap_nat
  have : 2 ^ d ≤ 2 ^ 32 := Nat.pow_le_pow_right (by decide) hd
  have : (2 : Nat) ^ 32 = 4294967296 := rfl
  omega

theorem wrap_pow2 {d : Nat} (hd : d ≤ 32) (h2 : 2 ≤ 2 ^ d) : IntKind.u64.wrap (IntKind.u64.wrap (2 ^ d) - 2) = ((2 ^ d - 2 : Nat) : Int) := by
  rw [wrap_pow hd]
  have : 2 ^ d ≤ 2 ^ 32 := Nat.pow_le_pow_right (by decide) hd
  have e32 : (2 : Nat) ^ 32 = 4294967296 := rfl
  have e : ((2 ^ d : Nat) : Int) - 2 = ((2 ^ d - 2 : Nat) : Int) := by omega
  rw [e]
  apply wrap_nat
  omega

set_option maxHeartbeats 1000000 in
theorem ringFermat_any (a p : Nat) (w : World) (ha : a < 18446744073709551616) (hp : p < 18446744073709551616) :
    Calls Try.prog 6 #[.int .u64 (a : Int), .int .u64 (p : Int)] w fun e w' => e = .returned (.bool true) ∧ w' = w := by
  have c0 := irr7 w
  have c1 := high_nat p w hp
  have hlp : len p ≤ 64 := len_le.2 hp
  by_cases h : isMod p 32 = true
  · have hm := isMod_true h
    have c2 := irreducible_yes p w hp h
    by_cases hi : irr p = true
    · have hI := irr_sound (p := p) (by omega) (by omega) hi
      rw [hi] at c2
      have hp0 := hI.ne
      have c3 := divmod_nat a p w ha hp hp0
      have hd : len p - 1 ≤ 32 := by omega
      have hq2 : 2 ≤ 2 ^ (len p - 1) := by
        have : 2 ^ 1 ≤ 2 ^ (len p - 1) := Nat.pow_le_pow_right (by omega) (by omega)
        omega
      have hq : 2 ^ (len p - 1) ≤ 4294967296 := by
        have : 2 ^ (len p - 1) ≤ 2 ^ 32 := Nat.pow_le_pow_right (by decide) hd
        have e : (2 : Nat) ^ 32 = 4294967296 := rfl
        omega
      have c4 := powmod_yes a (2 ^ (len p - 1)) p w ha (by omega) hp h
      have c5 := powmod_yes a (2 ^ (len p - 1) - 2) p w ha (by omega) hp h
      rw [powM_spec (by omega) (by omega)] at c4 c5
      rw [fermat' a hI (by omega), ← wrap_pow hd] at c4
      rw [← wrap_pow2 hd hq2] at c5
      have D1 : decide ((len p : Int) - 1 ≤ 32) = true := by simp; omega
      by_cases hr : pmod a p = 0
      · have hg : pgcd (pmod a p) p ≠ 1 := by
          rw [hr, pgcd_comm, pgcd_zero]; intro e; rw [e, len_one] at hm; omega
        have c6 := invmod_none a p w ha hp h hg
        clear hg
        go_enter Try.func6, Try.ntmps6
        go_wp2_with (first | (go_at_call 15; first | (with_reducible refine c0.mono ?_; rintro e w' ⟨rfl, rfl⟩) | (with_reducible refine c2.mono ?_; rintro e w' ⟨rfl, rfl⟩)) | (go_at_call 11; with_reducible refine c1.mono ?_; rintro e w' ⟨rfl, rfl⟩) | (go_at_call 9; with_reducible refine c3.mono ?_; rintro e w' ⟨rfl, rfl⟩) | (go_at_call 16; with_reducible refine c4.mono ?_; rintro e w' ⟨rfl, rfl⟩) | (go_at_call 17; with_reducible refine c6.mono ?_; rintro e w' ⟨rfl, rfl⟩))
        go_ret
        exact ⟨rfl, rfl⟩
      · have hdv : ¬ dv p a := fun e => hr ((pmod_eq_zero hp0).2 e)
        have hg : pgcd (pmod a p) p = 1 := by
          rw [pgcd_pmod hp0]
          rcases irr_gcd hI a with g | g
          · exact g
          · exact absurd g hdv
        have c6 := invmod_yes a p w ha hp h hg
        rw [inv_fermat hI (by omega) hdv] at c6
        have T : (((pmod a p : Nat) : Int) == 0) = false := by simp; omega
        clear hg hdv hr
        go_enter Try.func6, Try.ntmps6
        go_wp2_with (first | (go_at_call 15; first | (with_reducible refine c0.mono ?_; rintro e w' ⟨rfl, rfl⟩) | (with_reducible refine c2.mono ?_; rintro e w' ⟨rfl, rfl⟩)) | (go_at_call 11; with_reducible refine c1.mono ?_; rintro e w' ⟨rfl, rfl⟩) | (go_at_call 9; with_reducible refine c3.mono ?_; rintro e w' ⟨rfl, rfl⟩) | (go_at_call 16; first | (with_reducible refine c4.mono ?_; rintro e w' ⟨rfl, rfl⟩) | (with_reducible refine c5.mono ?_; rintro e w' ⟨rfl, rfl⟩)) | (go_at_call 17; with_reducible refine c6.mono ?_; rintro e w' ⟨rfl, rfl⟩))
        go_ret
        exact ⟨ret_bool (by simp), rfl⟩
    · have hi' : irr p = false := by simpa using hi
      have D1 : decide ((len p : Int) - 1 ≤ 32) = true := by simp; omega
      rw [hi'] at c2
      clear hi
      go_enter Try.func6, Try.ntmps6
      go_wp2_with (first | (go_at_call 15; first | (with_reducible refine c0.mono ?_; rintro e w' ⟨rfl, rfl⟩) | (with_reducible refine c2.mono ?_; rintro e w' ⟨rfl, rfl⟩)) | (go_at_call 11; with_reducible refine c1.mono ?_; rintro e w' ⟨rfl, rfl⟩))
      go_ret
      exact ⟨rfl, rfl⟩
  · have h' : isMod p 32 = false := by simpa using h
    have hm := isMod_false h'
    have c2 := irreducible_no p w hp h'
    clear h
    by_cases h1 : 2 ≤ len p
    · have D1 : decide ((len p : Int) - 1 ≤ 32) = false := by simp; omega
      go_enter Try.func6, Try.ntmps6
      go_wp2_with (first | (go_at_call 15; first | (with_reducible refine c0.mono ?_; rintro e w' ⟨rfl, rfl⟩) | (with_reducible refine c2.mono ?_; rintro e w' ⟨rfl, rfl⟩)) | (go_at_call 11; with_reducible refine c1.mono ?_; rintro e w' ⟨rfl, rfl⟩))
      go_ret
      exact ⟨rfl, rfl⟩
    · go_enter Try.func6, Try.ntmps6
      go_wp2_with (first | (go_at_call 15; first | (with_reducible refine c0.mono ?_; rintro e w' ⟨rfl, rfl⟩) | (with_reducible refine c2.mono ?_; rintro e w' ⟨rfl, rfl⟩)) | (go_at_call 11; with_reducible refine c1.mono ?_; rintro e w' ⟨rfl, rfl⟩))
      go_ret
      exact ⟨rfl, rfl⟩
end Go.Proofs.Ytaepcecjblojjab
