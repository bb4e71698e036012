import Derived.Test.YtfbgcednodnioabDoorWfer
import Derived.Test.YtfbgcednodnioabDoorGfm
namespace Go.Proofs.YtfbgcednodnioabDoor
open Go.RowKit Gf2

theorem nat_u8 {a : Int} (h : (Lit.int .u8 a).wf = true) : ∃ n : Nat, a = n ∧ n < 256 := by
  have := bounds_u8 h
  exact ⟨a.toNat, by omega, by omega⟩
theorem fm8_lt (a b : Nat) : fm 285 a b < 256 := fld8.fm_lt a b
theorem fp8_lt (a b : Nat) : fp 285 a b < 256 := fld8.fp_lt a b
theorem fi8_lt {a : Nat} (ha : a < 256) (h0 : a ≠ 0) : fi 285 a < 256 := fld8.fi_lt ha h0

/-- the exponent: n less a multiple of 255. -/
def er (n : Int) : Nat := (n % 255).toNat
theorem er_lt (n : Int) : er n < 255 := by unfold er; omega

theorem tmod_255 (n : Int) : n.tmod 255 = if 0 ≤ n then n % 255 else -((-n) % 255) := by
  split
  · next h => exact Int.tmod_eq_emod_of_nonneg h
  · next h =>
    have : n.tmod 255 = -((-n).tmod 255) := by rw [Int.neg_tmod, Int.neg_neg]
    rw [this, Int.tmod_eq_emod_of_nonneg (by omega)]
theorem er_neg {n : Int} (h : n.tmod 255 < 0) : wrap64 (n.tmod 255 + 255) = (er n : Nat) := by
  rw [tmod_255] at h ⊢
  unfold er wrap64
  split at h <;> split <;> omega
theorem er_pos {n : Int} (h : 0 ≤ n.tmod 255) : n.tmod 255 = (er n : Nat) := by
  rw [tmod_255] at h ⊢
  unfold er
  split at h <;> split <;> omega

/-- what Pow answers. -/
def gp (a : Nat) (n : Int) : Nat := if a = 0 then (if n = 0 then 1 else 0) else fp 285 a (er n)
def ge (a : Nat) (n : Int) : Nat := if a = 0 ∧ n < 0 then 20 else 0
theorem gp_lt (a : Nat) (n : Int) : gp a n < 256 := by
  unfold gp
  have := fp8_lt a (er n)
  split
  · split <;> omega
  · exact this
theorem gp_ne {a : Nat} (n : Int) (h : a ≠ 0) : gp a n = fp 285 a (er n) := by unfold gp; rw [if_neg h]
theorem ge_ne {a : Nat} (n : Int) (h : a ≠ 0) : ge a n = 0 := by unfold ge; rw [if_neg (fun e => h e.1)]

/-- 2 times a by the shift. -/
def tw (a : Nat) : Nat := if 256 ≤ 2 * a then 2 * a ^^^ 285 else 2 * a
theorem tw_fm {a : Nat} (ha : a < 256) : fm 285 2 a = tw a := fld8.twice ha
theorem tw_lt {a : Nat} (ha : a < 256) : tw a < 256 := by rw [← tw_fm ha]; exact fm8_lt _ _

theorem i64_xor_nat (a b : Nat) (ha : a < 9223372036854775808) (hb : b < 9223372036854775808) : bits .xor .i64 (a : Int) (b : Int) = ((a ^^^ b : Nat) : Int) := by
  have hx : a ^^^ b < 2 ^ 63 := Nat.xor_lt_two_pow (by omega) (by omega)
  show IntKind.i64.wrap ((BitVec.ofInt 64 (a : Int) ^^^ BitVec.ofInt 64 (b : Int)).toNat : Int) = _
  rw [BitVec.toNat_xor, ofInt_u64 a (by omega), ofInt_u64 b (by omega), IntKind.wrap_i64]
  omega
theorem i64_and_nat (a b : Nat) (ha : a < 9223372036854775808) (hb : b < 9223372036854775808) : bits .and .i64 (a : Int) (b : Int) = ((a &&& b : Nat) : Int) := by
  have hx : a &&& b < 2 ^ 63 := Nat.and_lt_two_pow _ (by omega)
  show IntKind.i64.wrap ((BitVec.ofInt 64 (a : Int) &&& BitVec.ofInt 64 (b : Int)).toNat : Int) = _
  rw [BitVec.toNat_and, ofInt_u64 a (by omega), ofInt_u64 b (by omega), IntKind.wrap_i64]
  omega

end Go.Proofs.YtfbgcednodnioabDoor
