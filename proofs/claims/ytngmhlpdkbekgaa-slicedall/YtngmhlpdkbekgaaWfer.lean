import Derived.Test.YtngmhlpdkbekgaaWgcd
import Derived.Test.YtngmhlpdkbekgaaGfd
namespace Go.Proofs.Ytngmhlpdkbekgaa
open Go.RowKit Gf2

set_option maxHeartbeats 400000 in
theorem invmod_yes (a p : Nat) (w : World) (ha : a < 18446744073709551616) (hp : p < 18446744073709551616) (h : isMod p 32 = true) (hg : pgcd (pmod a p) p = 1) :
    Calls Try.prog 24 #[.int .u64 (a : Int), .int .u64 (p : Int)] w fun e w' => e = .returned (.tuple #[.int .u64 (cof (pmod a p) p : Nat), .int .i64 0]) ∧ w' = w := by
  have hp0 := isMod_ne h
  have h1 := pmod_lt a hp0 hp
  have c1 := remainder_nat a p w ha hp hp0
  have c2 := cofactor_nat (pmod a p) p w h1 hp hp0
  rw [hg] at c2
  have c2 : Calls Try.prog 38 #[.int .u64 ((pmod a p : Nat) : Int), .int .u64 (p : Int)] w fun e w' => e = .returned (.tuple #[.int .u64 1, .int .u64 (cof (pmod a p) p : Nat)]) ∧ w' = w := c2
  clear hg
  go_enter Try.func24, Try.ntmps24
  go_wp2_with (first | (go_at_call 35; refine (isModulus_nat _ 32 _ hp (by decide)).mono ?_; rw [h]; rintro e w' ⟨rfl, rfl⟩) | (go_at_call 37; with_reducible refine c1.mono ?_; rintro e w' ⟨rfl, rfl⟩) | (go_at_call 38; with_reducible refine c2.mono ?_; rintro e w' ⟨rfl, rfl⟩))
  go_ret2
  exact ⟨rfl, rfl⟩

set_option maxHeartbeats 400000 in
theorem invmod_none (a p : Nat) (w : World) (ha : a < 18446744073709551616) (hp : p < 18446744073709551616) (h : isMod p 32 = true) (hg : pgcd (pmod a p) p ≠ 1) :
    Calls Try.prog 24 #[.int .u64 (a : Int), .int .u64 (p : Int)] w fun e w' => e = .returned (.tuple #[.int .u64 0, .int .i64 12]) ∧ w' = w := by
  have hp0 := isMod_ne h
  have h1 := pmod_lt a hp0 hp
  have c1 := remainder_nat a p w ha hp hp0
  have c2 := cofactor_nat (pmod a p) p w h1 hp hp0
  have T : (((pgcd (pmod a p) p : Nat) : Int) != 1) = true := by simp; omega
  clear hg
  go_enter Try.func24, Try.ntmps24
  go_wp2_with (first | (go_at_call 35; refine (isModulus_nat _ 32 _ hp (by decide)).mono ?_; rw [h]; rintro e w' ⟨rfl, rfl⟩) | (go_at_call 37; with_reducible refine c1.mono ?_; rintro e w' ⟨rfl, rfl⟩) | (go_at_call 38; with_reducible refine c2.mono ?_; rintro e w' ⟨rfl, rfl⟩))
  go_ret2
  exact ⟨rfl, rfl⟩

theorem pgcd_pmod {a p : Nat} (hp : p ≠ 0) : pgcd (pmod a p) p = pgcd a p := by
  rw [pgcd_comm (pmod a p) p, pgcd_step hp]

/-- the inverse is the power by two less than the field's number. -/
theorem inv_fermat {a p : Nat} (h : Irr p) (h33 : len p ≤ 33) (ha : ¬ dv p a) : cof (pmod a p) p = pmod (pw a (2 ^ (len p - 1) - 2)) p := by
  have hp := h.ne
  have h1 := h.1
  have hg : pgcd a p = 1 := by
    rcases irr_gcd h a with g | g
    · exact g
    · exact absurd g ha
  have hg' : pgcd (pmod a p) p = 1 := by rw [pgcd_pmod hp]; exact hg
  obtain ⟨e1, e2⟩ := inv_exists hp (by omega) hg'
  have hq : 2 ≤ 2 ^ (len p - 1) := by
    have : 2 ^ 1 ≤ 2 ^ (len p - 1) := Nat.pow_le_pow_right (by omega) (by omega)
    omega
  have f := fermat h (by omega) ha
  have e3 : 2 ^ (len p - 1) - 1 = (2 ^ (len p - 1) - 2) + 1 := by omega
  rw [e3] at f
  simp only [pw] at f
  have a1 : pmod (mul a (cof (pmod a p) p)) p = 1 := by
    have := (pmod_eq_iff hp).2 e1
    rw [mul_comm, pmod_mul_left _ _ hp] at this
    rw [this]; exact pmod_small (by rw [len_one]; omega)
  have a2 : dv p (mul a (cof (pmod a p) p) ^^^ mul a (pw a (2 ^ (len p - 1) - 2))) := (pmod_eq_iff hp).1 (by rw [a1, f])
  have a3 := (pmod_eq_iff hp).2 (cancel hp (by omega) hg a2)
  rw [pmod_small e2] at a3
  exact a3

theorem wrap_pow {d : Nat} (hd : d ≤ 32) : IntKind.u64.wrap (2 ^ d) = ((2 ^ d : Nat) : Int) := by
  have e : ((2 : Int) ^ d) = ((2 ^ d : Nat) : Int) := by simp
  rw [e]
  apply wrap_nat
  have : 2 ^ d ≤ 2 ^ 32 := Nat.pow_le_pow_right (by decide) hd
  have : (2 : Nat) ^ 32 = 4294967296 := rfl
  omega

theorem wrap_pow2 {d : Nat} (hd : d ≤ 32) (h2 : 2 ≤ 2 ^ d) : IntKind.u64.wrap (IntKind.u64.wrap (2 ^ d) - 2) = ((2 ^ d - 2 : Nat) : Int) := by
  rw [wrap_pow hd]
  have : 2 ^ d ≤ 2 ^ 32 := Nat.pow_le_pow_right (by decide) hd
  have e32 : (2 : Nat) ^ 32 = 4294967296 := rfl
  have e : ((2 ^ d : Nat) : Int) - 2 = ((2 ^ d - 2 : Nat) : Int) := by omega
  rw [e]
  apply wrap_nat
  omega

end Go.Proofs.Ytngmhlpdkbekgaa
