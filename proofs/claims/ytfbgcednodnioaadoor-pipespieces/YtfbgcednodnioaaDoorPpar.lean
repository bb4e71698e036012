import Derived.Test.YtfbgcednodnioaaDoorPpao
import Derived.Deep.Cut
import Derived.Deep.DeepCutAuto
import Derived.Test.YtfbgcednodnioaaDoorPpaq
import Derived.Laws.BitsLemmas
namespace Go.Proofs.YtfbgcednodnioaaDoor
open Go.RowKit Gf2
set_option linter.unusedVariables false

-- layer 22: a source beside the document's
def zn22 (z : Int) : Nat := (z % 1024).toNat
theorem zn22_lt (z : Int) : zn22 z < 1024 := by unfold zn22; omega
theorem and1023_22 (n : Int) : bits .and .i64 n 1023 = ((zn22 n : Nat) : Int) := by
  have h127 : (BitVec.ofInt 64 1023).toNat = 2 ^ 10 - 1 := by decide
  have key : (BitVec.ofInt 64 n &&& BitVec.ofInt 64 1023).toNat = (n % ((2 ^ 64 : Nat) : Int)).toNat % 2 ^ 10 := by
    rw [BitVec.toNat_and, BitVec.toNat_ofInt, h127, Nat.and_two_pow_sub_one_eq_mod]
  show IntKind.i64.wrap ((BitVec.ofInt 64 n &&& BitVec.ofInt 64 1023).toNat : Nat) = _
  rw [key, IntKind.wrap_i64]
  unfold zn22
  omega
/-- End lies where it lies. -/
def En22 (w : World) (x : Addr) : Prop := w.cell? ⟨0, 0, none⟩ = some (.iface 114 (.pointer (some x)))
section
variable {w wr w' : World} {x : Addr} {lo hi b n k f mb p t : Nat} {D : Nat → Nat} {C : Nat → Int} {fa code : Int}
end
end Go.Proofs.YtfbgcednodnioaaDoor
