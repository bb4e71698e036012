import Derived.Test.YthebaclellimaabRDoorWhfi
import Derived.Test.YthebaclellimaabRDoorWalki
namespace Go.Proofs.YthebaclellimaabRDoor
open Go.RowKit Gf2

theorem rr_hs {a : Nat} (ha : a < 65536) : rr (hs 65581 a) = a / 2 * 2 ∧ re (hs 65581 a) = 0 := by
  have ht := fld16.tr_hs ha
  obtain ⟨h1, h2⟩ := rr_yes ht
  refine ⟨?_, h2⟩
  rw [h1]
  refine (root16_only (by omega) (by omega) ?_).symm
  rcases Nat.mod_two_eq_zero_or_one a with e | e
  · rw [show a / 2 * 2 = a by omega]
  · have h3 : (a ^^^ 1) % 2 = 0 := by rw [xor_one_mod, e]
    have h4 : (a ^^^ 1) / 2 = a / 2 := by rw [half_xor]; simp
    rw [show a / 2 * 2 = a ^^^ 1 by omega, fld16.hs_xor, fld16.hs_one, Nat.xor_zero]
theorem and_fffe {a : Nat} (ha : a < 65536) : bits BinOp.and IntKind.u16 (a : Int) 65534 = ((a / 2 * 2 : Nat) : Int) := by
  have h := u16_and_nat a 65534 ha (by decide)
  have e : a &&& 65534 = a / 2 * 2 := by
    have := nat_hi16_1 a
    rw [this]; omega
  rw [e] at h
  exact h

end Go.Proofs.YthebaclellimaabRDoor
