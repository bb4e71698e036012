import Derived.Test.YtaepcecjblojjabDoorGfd
namespace Go.Proofs.YtaepcecjblojjabDoor
namespace Gf2

/-- a sum modulo 2 of m terms. -/
def par (f : Nat → Nat) : Nat → Nat
  | 0 => 0
  | m + 1 => (par f m + f m) % 2

theorem par_lt (f : Nat → Nat) (m : Nat) : par f m < 2 := by
  cases m with
  | zero => show 0 < 2; decide
  | succ m => exact Nat.mod_lt _ (by decide)

theorem par_front (f : Nat → Nat) (m : Nat) : par f (m + 1) = (f 0 + par (fun i => f (i + 1)) m) % 2 := by
  induction m with
  | zero => simp [par]
  | succ m ih =>
    have : par f (m + 1 + 1) = (par f (m + 1) + f (m + 1)) % 2 := rfl
    rw [this, ih]
    have : par (fun i => f (i + 1)) (m + 1) = (par (fun i => f (i + 1)) m + f (m + 1)) % 2 := rfl
    rw [this]; omega

theorem par_congr {f g : Nat → Nat} (m : Nat) (h : ∀ i, i < m → f i = g i) : par f m = par g m := by
  induction m with
  | zero => rfl
  | succ m ih => simp only [par]; rw [ih (fun i hi => h i (by omega)), h m (by omega)]

theorem bit_eq (a j : Nat) : a / 2 ^ j % 2 = (a.testBit j).toNat := by
  rw [Nat.testBit_eq_decide_div_mod_eq]
  rcases Nat.mod_two_eq_zero_or_one (a / 2 ^ j) with h | h <;> simp [h]

theorem bit_xor (a b j : Nat) : (a ^^^ b) / 2 ^ j % 2 = (a / 2 ^ j % 2 + b / 2 ^ j % 2) % 2 := by
  rw [bit_eq, bit_eq, bit_eq, Nat.testBit_xor]
  cases a.testBit j <;> cases b.testBit j <;> rfl

theorem bit_succ (a j : Nat) : a / 2 ^ (j + 1) % 2 = a / 2 / 2 ^ j % 2 := by
  rw [Nat.div_div_eq_div_mul, Nat.pow_succ, Nat.mul_comm 2]

/-- the product's coefficient, by its definition. -/
theorem mul_bit (j : Nat) : ∀ a b, mul a b / 2 ^ j % 2 = par (fun i => (a / 2 ^ i % 2) * (b / 2 ^ (j - i) % 2)) (j + 1) := by
  induction j with
  | zero =>
    intro a b
    rw [mul_step, bit_xor]
    simp only [par, Nat.pow_zero, Nat.div_one, Nat.sub_self]
    rcases Nat.mod_two_eq_zero_or_one a with h | h <;> simp [h]
  | succ j ih =>
    intro a b
    rw [mul_step, bit_xor, par_front]
    have e1 : 2 * mul (a / 2) b / 2 ^ (j + 1) % 2 = mul (a / 2) b / 2 ^ j % 2 := by
      rw [bit_succ]; congr 2; omega
    rw [e1, ih]
    have e2 : (if a % 2 = 1 then b else 0) / 2 ^ (j + 1) % 2 = (a / 2 ^ 0 % 2) * (b / 2 ^ (j + 1 - 0) % 2) := by
      rw [Nat.pow_zero, Nat.div_one]
      rcases Nat.mod_two_eq_zero_or_one a with h | h <;> simp [h]
    rw [e2]
    have e3 : par (fun i => (a / 2 / 2 ^ i % 2) * (b / 2 ^ (j - i) % 2)) (j + 1) = par (fun i => (a / 2 ^ (i + 1) % 2) * (b / 2 ^ (j + 1 - (i + 1)) % 2)) (j + 1) := by
      apply par_congr
      intro i _
      rw [bit_succ, show j + 1 - (i + 1) = j - i by omega]
    rw [e3]

end Gf2
end Go.Proofs.YtaepcecjblojjabDoor
