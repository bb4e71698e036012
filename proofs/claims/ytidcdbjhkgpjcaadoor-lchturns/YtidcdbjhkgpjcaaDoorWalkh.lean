import Derived.Test.YtidcdbjhkgpjcaaDoorTj2
import Derived.Test.YtidcdbjhkgpjcaaDoorDhfr
namespace Go.Proofs.YtidcdbjhkgpjcaaDoor
open Go.RowKit Gf2

-- the contracts of gf16's plain calls
theorem nat_u16 {a : Int} (h : (Lit.int .u16 a).wf = true) : ∃ n : Nat, a = n ∧ n < 65536 := by
  have := bounds_u16 h
  exact ⟨a.toNat, by omega, by omega⟩
theorem fi16_lt {a : Nat} (ha : a < 65536) (h0 : a ≠ 0) : fi 65581 a < 65536 := fld16.fi_lt ha h0
theorem hi_lt {a : Nat} (ha : a < 65536) : hi a < 65536 := by
  unfold hi; split
  · decide
  · next h => exact fi16_lt ha h

theorem mulmod16 (a b : Nat) (w : World) (ha : a < 65536) (hb : b < 65536) :
    Calls Tryd.prog 45 #[.int .u64 (a : Int), .int .u64 (b : Int), .int .u64 65581] w fun e w' => e = .returned (.tuple #[.int .u64 (fm 65581 a b : Nat), .int .i64 0]) ∧ w' = w := by
  have h := mulmod_yes a b 65581 w (by omega) (by omega) (by decide) (by decide)
  rw [fld16.small ha, fld16.small hb, prod_eq' (n := 16) (m := 16) ha hb (by decide)] at h
  exact h

set_option maxHeartbeats 400000 in
set_option maxRecDepth 10000 in
theorem hmul_nat (a b : Nat) (w : World) (ha : a < 65536) (hb : b < 65536) :
    Calls Tryd.prog 35 #[.int .u16 (a : Int), .int .u16 (b : Int)] w fun e w' => e = .returned (.int .u16 (fm 65581 a b : Nat)) ∧ w' = w := by
  have c1 := mulmod16 a b w ha hb
  have l1 := fm16_lt a b
  go_enter Tryd.func35, Tryd.ntmps35
  go_wp2_with (go_at_call 45; ((with_reducible refine (c1).mono ?_); rintro e w' ⟨rfl, rfl⟩))
  go_ret
  exact ⟨rfl, rfl⟩

end Go.Proofs.YtidcdbjhkgpjcaaDoor
