import Derived.Test.YtidcdbjhkgpjcaaDoorDhfm
namespace Go.Proofs.YtidcdbjhkgpjcaaDoor
open Go.RowKit Gf2

/-- powers by squares: one round. -/
theorem pow_round {a p r : Nat} : (if r % 2 = 1 then fm 65581 (fm 65581 p a) (fp 65581 (fm 65581 a a) (r / 2)) else fm 65581 p (fp 65581 (fm 65581 a a) (r / 2))) = fm 65581 p (fp 65581 a r) := by
  have e : fp 65581 (fm 65581 a a) (r / 2) = fp 65581 a (2 * (r / 2)) := by rw [fld16.fp_mul, fp_two]
  rw [e]
  split
  · next h =>
    have h2 : r = 1 + 2 * (r / 2) := by omega
    conv => rhs; rw [h2, fld16.fp_add]
    rw [fld16.fm_assoc]
    congr 1
    unfold fp fm
    rw [pw_one, pmod_mul_left _ _ fld16.ne]
  · next h =>
    have h2 : r = 2 * (r / 2) := by omega
    rw [← h2]

/-- the exponent modulo 65535. -/
def eh (n : Int) : Nat := (n % 65535).toNat
theorem eh_lt (n : Int) : eh n < 65535 := by unfold eh; omega
theorem tmod_65535 (n : Int) : n.tmod 65535 = if 0 ≤ n then n % 65535 else -((-n) % 65535) := by
  split
  · next h => exact Int.tmod_eq_emod_of_nonneg h
  · next h =>
    have : n.tmod 65535 = -((-n).tmod 65535) := by rw [Int.neg_tmod, Int.neg_neg]
    rw [this, Int.tmod_eq_emod_of_nonneg (by omega)]
theorem eh_neg {n : Int} (h : n.tmod 65535 < 0) : wrap64 (n.tmod 65535 + 65535) = (eh n : Nat) := by
  rw [tmod_65535] at h ⊢
  unfold eh wrap64
  split at h <;> split <;> omega
theorem eh_pos {n : Int} (h : 0 ≤ n.tmod 65535) : n.tmod 65535 = (eh n : Nat) := by
  rw [tmod_65535] at h ⊢
  unfold eh
  split at h <;> split <;> omega

/-- what Inv, Div, Pow, Log answer, 0 too. -/
def hi (a : Nat) : Nat := if a = 0 then 0 else fi 65581 a
def he (a : Nat) : Nat := if a = 0 then 20 else 0
def hd (a b : Nat) : Nat := if b = 0 then 0 else fm 65581 a (fi 65581 b)
def hp (a : Nat) (n : Int) : Nat := if a = 0 then (if n = 0 then 1 else 0) else fp 65581 a (eh n)
def hpe (a : Nat) (n : Int) : Nat := if a = 0 ∧ n < 0 then 20 else 0
def l16 (a : Nat) : Nat := lg 65581 16 a
def hl (a : Nat) : Nat := if a = 0 then 0 else l16 a
theorem fi_fp16 {a : Nat} (ha : a < 65536) (h0 : a ≠ 0) : fi 65581 a = fp 65581 a 65534 := fld16.fi_fp ha h0

end Go.Proofs.YtidcdbjhkgpjcaaDoor
