import Derived.Test.YtfbgcednodnioabDoorWgcd
import Derived.Test.YtfbgcednodnioabDoorGfd
namespace Go.Proofs.YtfbgcednodnioabDoor
open Go.RowKit Gf2

theorem pgcd_pmod {a p : Nat} (hp : p ≠ 0) : pgcd (pmod a p) p = pgcd a p := by
  rw [pgcd_comm (pmod a p) p, pgcd_step hp]

/-- the inverse is the power by two less than the field's number. -/
theorem inv_fermat {a p : Nat} (h : Irr p) (h33 : len p ≤ 33) (ha : ¬ dv p a) : cof (pmod a p) p = pmod (pw a (2 ^ (len p - 1) - 2)) p := by
  have hp := h.ne
  have h1 := h.1
  have hg : pgcd a p = 1 := by
    rcases irr_gcd h a with g | g
    · exact g
    · exact absurd g ha
  have hg' : pgcd (pmod a p) p = 1 := by rw [pgcd_pmod hp]; exact hg
  obtain ⟨e1, e2⟩ := inv_exists hp (by omega) hg'
  have hq : 2 ≤ 2 ^ (len p - 1) := by
    have : 2 ^ 1 ≤ 2 ^ (len p - 1) := Nat.pow_le_pow_right (by omega) (by omega)
    omega
  have f := fermat h (by omega) ha
  have e3 : 2 ^ (len p - 1) - 1 = (2 ^ (len p - 1) - 2) + 1 := by omega
  rw [e3] at f
  simp only [pw] at f
  have a1 : pmod (mul a (cof (pmod a p) p)) p = 1 := by
    have := (pmod_eq_iff hp).2 e1
    rw [mul_comm, pmod_mul_left _ _ hp] at this
    rw [this]; exact pmod_small (by rw [len_one]; omega)
  have a2 : dv p (mul a (cof (pmod a p) p) ^^^ mul a (pw a (2 ^ (len p - 1) - 2))) := (pmod_eq_iff hp).1 (by rw [a1, f])
  have a3 := (pmod_eq_iff hp).2 (cancel hp (by omega) hg a2)
  rw [pmod_small e2] at a3
  exact a3

theorem wrap_pow {d : Nat} (hd : d ≤ 32) : IntKind.u64.wrap (2 ^ d) = ((2 ^ d : Nat) : Int) := by
  have e : ((2 : Int) ^ d) = ((2 ^ d : Nat) : Int) := by simp
  rw [e]
  apply wrap_nat
  have : 2 ^ d ≤ 2 ^ 32 := Nat.pow_le_pow_right (by decide) hd
  have : (2 : Nat) ^ 32 = 4294967296 := rfl
  omega

theorem wrap_pow2 {d : Nat} (hd : d ≤ 32) (h2 : 2 ≤ 2 ^ d) : IntKind.u64.wrap (IntKind.u64.wrap (2 ^ d) - 2) = ((2 ^ d - 2 : Nat) : Int) := by
  rw [wrap_pow hd]
  have : 2 ^ d ≤ 2 ^ 32 := Nat.pow_le_pow_right (by decide) hd
  have e32 : (2 : Nat) ^ 32 = 4294967296 := rfl
  have e : ((2 ^ d : Nat) : Int) - 2 = ((2 ^ d - 2 : Nat) : Int) := by omega
  rw [e]
  apply wrap_nat
  omega

end Go.Proofs.YtfbgcednodnioabDoor
