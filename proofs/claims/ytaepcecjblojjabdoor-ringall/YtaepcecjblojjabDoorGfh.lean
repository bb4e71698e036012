import Derived.Test.YtaepcecjblojjabDoorGfe
namespace Go.Proofs.YtaepcecjblojjabDoor
namespace Gf2

theorem mul_two_left (x : Nat) : mul 2 x = 2 * x := by
  have := two_mul' 1 x
  rw [one_mul] at this
  exact this
theorem dv_two {y : Nat} : dv 2 y ↔ y % 2 = 0 := by
  constructor
  · rintro ⟨c, rfl⟩; rw [mul_comm, mul_two_left]; omega
  · intro h; exact ⟨y / 2, by rw [mul_comm, mul_two_left]; omega⟩
theorem pgcd_two {e : Nat} (he : e % 2 = 1) : pgcd 2 e = 1 := by
  obtain ⟨h1, h2⟩ := pgcd_dv 2 e
  generalize pgcd 2 e = g at *
  have hl := (dv_len h1 (by decide)).2
  have h0 := (dv_len h1 (by decide)).1
  have hlt : g < 2 ^ 2 := len_le.1 (by rw [show len 2 = 2 by decide] at hl; exact hl)
  have : g = 1 ∨ g = 2 ∨ g = 3 := by omega
  rcases this with rfl | rfl | rfl
  · rfl
  · have := dv_two.1 h2; omega
  · have := (pmod_eq_zero (by decide)).2 h1
    revert this; decide
theorem pgcd_two_odd {x y : Nat} (hy : y % 2 = 1) (hy64 : y < 18446744073709551616) : pgcd (2 * x) y = pgcd x y := by
  have hy0 : y ≠ 0 := by omega
  apply Eq.symm
  apply pgcd_unique
  · rw [← mul_two_left]; exact dv_mul_left _ (pgcd_dv x y).1
  · exact (pgcd_dv x y).2
  · intro e h1 h2
    obtain ⟨he0, hel⟩ := dv_len h2 hy0
    have hl : len y ≤ 64 := len_le.2 hy64
    have hodd : e % 2 = 1 := by
      rcases Nat.mod_two_eq_zero_or_one e with h | h
      · have := dv_two.1 (dv_trans (dv_two.2 h) h2); omega
      · exact h
    refine dv_pgcd ?_ h2
    have := cancel (a := 2) (b := x) (c := 0) he0 (by omega) (pgcd_two hodd) (by rw [mul_zero, Nat.xor_zero, mul_two_left]; exact h1)
    rwa [Nat.xor_zero] at this
theorem pgcd_two_odd' {x y : Nat} (hx : x % 2 = 1) (hx64 : x < 18446744073709551616) : pgcd x (2 * y) = pgcd x y := by
  rw [pgcd_comm, pgcd_two_odd hx hx64, pgcd_comm]
theorem pgcd_xor_left (a b : Nat) : pgcd (a ^^^ b) b = pgcd a b := by
  apply pgcd_unique
  · have h1 := (pgcd_dv (a ^^^ b) b).1
    have h2 := (pgcd_dv (a ^^^ b) b).2
    exact dv_of_xor h1 h2
  · exact (pgcd_dv _ _).2
  · intro e h1 h2; exact dv_pgcd (dv_xor h1 h2) h2
theorem pgcd_xor_right (a b : Nat) : pgcd a (b ^^^ a) = pgcd a b := by
  rw [pgcd_comm, pgcd_xor_left, pgcd_comm]
theorem pgcd_both (x y : Nat) : pgcd (2 * x) (2 * y) = 2 * pgcd x y := by
  have := pgcd_mul (c := 2) (by decide) x y
  rw [mul_comm x, mul_comm y, mul_two_left, mul_two_left, mul_comm, mul_two_left] at this
  exact this
theorem pgcd_zero_left (b : Nat) : pgcd 0 b = b := by rw [pgcd_comm]; rfl

/-- the measure of the binary loop. -/
def gm (a b : Nat) : Nat := 2 * (len a + len b) + (if a % 2 = 1 ∧ b % 2 = 1 then 1 else 0)

theorem len_le_of_strip {a a' : Nat} (h : a' ≤ a) : len a' ≤ len a := by
  rw [len_le]; exact Nat.lt_of_le_of_lt h (lt_two_pow_len a)

end Gf2
end Go.Proofs.YtaepcecjblojjabDoor
