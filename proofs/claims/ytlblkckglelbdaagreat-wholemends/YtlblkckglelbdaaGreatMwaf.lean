import Derived.Test.YtlblkckglelbdaaGreatMwad
import Derived.Test.YtlblkckglelbdaaGreatMwaa
import Derived.Test.YtlblkckglelbdaaGreatMwae
namespace Go.Proofs.YtlblkckglelbdaaGreat
open Go.RowKit Gf2

theorem fm8_lt (a b : Nat) : fm 285 a b < 256 := fld8.fm_lt a b
theorem fp8_lt (a b : Nat) : fp 285 a b < 256 := fld8.fp_lt a b
theorem fi8_lt {a : Nat} (ha : a < 256) (h0 : a ≠ 0) : fi 285 a < 256 := fld8.fi_lt ha h0

theorem mulmod8 (a b : Nat) (w : World) (ha : a < 256) (hb : b < 256) :
    Calls Tryz.prog 118 #[.int .u64 (a : Int), .int .u64 (b : Int), .int .u64 285] w fun e w' => e = .returned (.tuple #[.int .u64 (fm 285 a b : Nat), .int .i64 0]) ∧ w' = w := by
  have h := mulmod_yes a b 285 w (by omega) (by omega) (by decide) (by decide)
  rw [fld8.small ha, fld8.small hb, prod_eq' (n := 8) (m := 8) ha hb (by decide)] at h
  exact h

set_option maxHeartbeats 400000 in
theorem gmul_nat (a b : Nat) (w : World) (ha : a < 256) (hb : b < 256) :
    Calls Tryz.prog 107 #[.int .u8 (a : Int), .int .u8 (b : Int)] w fun e w' => e = .returned (.int .u8 (fm 285 a b : Nat)) ∧ w' = w := by
  have c1 := mulmod8 a b w ha hb
  have l1 := fm8_lt a b
  go_enter Tryz.func107, Tryz.ntmps107
  go_wp2_with (go_at_call 118; with_reducible refine c1.mono ?_; rintro e w' ⟨rfl, rfl⟩)
  go_ret
  exact ⟨rfl, rfl⟩

/-- the exponent: n less a multiple of 255. -/
def er (n : Int) : Nat := (n % 255).toNat
/-- what Pow answers. -/
def gp (a : Nat) (n : Int) : Nat := if a = 0 then (if n = 0 then 1 else 0) else fp 285 a (er n)
def ge (a : Nat) (n : Int) : Nat := if a = 0 ∧ n < 0 then 20 else 0
/-- 2 times a by the shift. -/
def tw (a : Nat) : Nat := if 256 ≤ 2 * a then 2 * a ^^^ 285 else 2 * a
theorem tw_fm {a : Nat} (ha : a < 256) : fm 285 2 a = tw a := fld8.twice ha
theorem tw_lt {a : Nat} (ha : a < 256) : tw a < 256 := by rw [← tw_fm ha]; exact fm8_lt _ _

theorem i64_xor_nat (a b : Nat) (ha : a < 9223372036854775808) (hb : b < 9223372036854775808) : bits .xor .i64 (a : Int) (b : Int) = ((a ^^^ b : Nat) : Int) := by
  have hx : a ^^^ b < 2 ^ 63 := Nat.xor_lt_two_pow (by omega) (by omega)
  show IntKind.i64.wrap ((BitVec.ofInt 64 (a : Int) ^^^ BitVec.ofInt 64 (b : Int)).toNat : Int) = _
  rw [BitVec.toNat_xor, ofInt_u64 a (by omega), ofInt_u64 b (by omega), IntKind.wrap_i64]
  omega
theorem i64_and_nat (a b : Nat) (ha : a < 9223372036854775808) (hb : b < 9223372036854775808) : bits .and .i64 (a : Int) (b : Int) = ((a &&& b : Nat) : Int) := by
  have hx : a &&& b < 2 ^ 63 := Nat.and_lt_two_pow _ (by omega)
  show IntKind.i64.wrap ((BitVec.ofInt 64 (a : Int) &&& BitVec.ofInt 64 (b : Int)).toNat : Int) = _
  rw [BitVec.toNat_and, ofInt_u64 a (by omega), ofInt_u64 b (by omega), IntKind.wrap_i64]
  omega

end Go.Proofs.YtlblkckglelbdaaGreat
