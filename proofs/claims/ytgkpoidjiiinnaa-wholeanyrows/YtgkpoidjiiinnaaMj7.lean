import Derived.Test.YtgkpoidjiiinnaaMyc
namespace Go.Proofs.Ytgkpoidjiiinnaa
open Go.RowKit Gf2
set_option linter.unusedVariables false

/-- the inverse of 2. -/
theorem two_inv : (elm 1 (fun _ _ => 2) 1).t = 1 ∧ sol 1 (fun _ _ => 2) idm 0 0 = 142 := by decide +kernel
theorem two_same : ∀ r, r < 1 → ∀ i, i < (fun _ : Nat => 1) r → sol 1 (fun _ _ => 2) idm r i = (fun _ _ : Nat => 142) r i := fun r hr i hi => by
  obtain rfl : r = 0 := by omega
  have hi : i < 1 := hi
  obtain rfl : i = 0 := by omega
  exact two_inv.2
/-- what Invert answers is the inverse. -/
theorem sol_inverse {n : Nat} {S : Nat → Nat → Nat} (hS : ∀ i j, S i j < 256) (ht : (elm n S n).t = n) : (∀ r i, r < n → i < n → mm n (sol n S idm) S r i = idm r i) ∧ ∀ r i, r < n → i < n → mm n S (sol n S idm) r i = idm r i := by
  have R := red_elm (m := n) (M := bes n S idm) (bes_lt hS idm_lt) n
  have full := R.full (by rw [bes_t]; exact ht)
  exact R.like.inverse (fun i j _ hj => if_pos hj) (fun i j _ _ => by show bes n S idm i (n + j) = idm i j; unfold bes; rw [if_neg (by omega), Nat.add_sub_cancel_left]) full (fun i j _ _ => rfl) hS (fun i j => R.lt i (n + j))
/-- what Solve answers of a and a * x is x. -/
theorem sol_solve {n k : Nat} {S T : Nat → Nat → Nat} (hS : ∀ i j, S i j < 256) (hT : ∀ i j, T i j < 256) (ht : (elm n S n).t = n) : ∀ r, r < n → ∀ i, i < (fun _ : Nat => k) r → sol n S (mm n S T) r i = T r i := by
  have R := red_elm (m := n) (M := bes n S (mm n S T)) (bes_lt hS (fun i j => mm_lt _ _ _ i j)) n
  have full := R.full (by rw [bes_t]; exact ht)
  have := R.like.solve (A := S) (X := T) (k := k) (fun i j _ hj => if_pos hj) (fun i j _ _ => by show bes n S (mm n S T) i (n + j) = mm n S T i j; unfold bes; rw [if_neg (by omega), Nat.add_sub_cancel_left]) full hT
  exact fun r hr i hi => this r i hr hi
end Go.Proofs.Ytgkpoidjiiinnaa
