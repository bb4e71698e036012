import Derived.Test.YtbcjpcdipcomiaaDoorDhba
namespace Go.Proofs.YtbcjpcdipcomiaaDoor
open Go.RowKit Gf2

/-- what Element answers. -/
def ew (i : Int) : Nat := if 0 ≤ i ∧ i ≤ 65535 then we i.toNat else 0
def ee (i : Int) : Nat := if 0 ≤ i ∧ i ≤ 65535 then 0 else 31
theorem ew_lt (i : Int) : ew i < 65536 := by
  unfold ew; split
  · exact we_lt _
  · decide

theorem meas_up {l k : Nat} (h : k < l) : l - (intOf (Value.int .i64 ((k : Int) + 1))).toNat < l - (intOf (Value.int .i64 (k : Int))).toNat := by
  simp [intOf]; omega
theorem double_next (e : Nat) : fp 65581 2 (e + 1) = if 65536 ≤ 2 * fp 65581 2 e then 2 * fp 65581 2 e ^^^ 65581 else 2 * fp 65581 2 e := by
  rw [fld16.fp_succ (by decide), fm_comm]
  exact fld16.twice (fp16_lt _ _)
theorem l16_lt (a : Nat) : l16 a < 65535 := lg_lt 65581 a (by decide)
theorem l16_spec {a : Nat} (ha : a < 65536) (h0 : a ≠ 0) : fp 65581 2 (l16 a) = a := fld16.lg_spec ord16' (by decide) ha h0
theorem l16_fp {n : Nat} (hn : n < 65535) : l16 (fp 65581 2 n) = n := fld16.lg_fp ord16' (by decide) hn

end Go.Proofs.YtbcjpcdipcomiaaDoor
