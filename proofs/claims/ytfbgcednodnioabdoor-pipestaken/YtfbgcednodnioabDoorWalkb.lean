import Derived.WalkKit
import Derived.WalkSpells
import Derived.WalkLawsBesides
import Derived.Test.YtfbgcednodnioabDoorWalka
import Derived.Test.YtfbgcednodnioabDoorGfb
namespace Go.Proofs.YtfbgcednodnioabDoor
open Go.RowKit Gf2

theorem ret_int {k : IntKind} {a b : Int} (h : a = b) : Ending.returned (.int k a) = .returned (.int k b) := by rw [h]

theorem ret_bool {a b : Bool} (h : a = b) : Ending.returned (.bool a) = .returned (.bool b) := by rw [h]

theorem wrap_two (x : Nat) : IntKind.u64.wrap ((x : Int) * 2) = ((x * 2 % 18446744073709551616 : Nat) : Int) := by
  rw [IntKind.wrap_u64]; omega
theorem and_one (y : Nat) (hy : y < 18446744073709551616) : bits .and .u64 (y : Int) 1 = ((y % 2 : Nat) : Int) := by
  have := u64_and_nat y 1 hy (by decide)
  rw [nat_mask1] at this
  exact this

theorem wrap_nat (x : Nat) (h : x < 18446744073709551616) : IntKind.u64.wrap (x : Int) = (x : Int) := by
  rw [IntKind.wrap_u64]; omega
theorem shift_xor (r b n : Nat) (hr : r < 18446744073709551616) (h : b * 2 ^ n < 18446744073709551616) :
    bits BinOp.xor IntKind.u64 (r : Int) (IntKind.u64.wrap ((b : Int) * 2 ^ n)) = ((r ^^^ b * 2 ^ n : Nat) : Int) := by
  have e : ((b : Int) * 2 ^ n) = ((b * 2 ^ n : Nat) : Int) := by simp
  rw [e, wrap_nat _ h, u64_xor_nat r _ hr h]
theorem shift_or (q n : Nat) (hr : q < 18446744073709551616) (h : 2 ^ n < 18446744073709551616) :
    bits BinOp.or IntKind.u64 (q : Int) (IntKind.u64.wrap (2 ^ n)) = ((q ||| 2 ^ n : Nat) : Int) := by
  have e : ((2 : Int) ^ n) = ((2 ^ n : Nat) : Int) := by simp
  rw [e, wrap_nat _ h, u64_or_nat q _ hr h]

end Go.Proofs.YtfbgcednodnioabDoor
