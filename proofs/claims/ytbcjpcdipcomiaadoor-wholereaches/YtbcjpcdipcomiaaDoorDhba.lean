import Derived.Test.YtbcjpcdipcomiaaDoorDhro
import Derived.Deep.AppendLies
import Derived.ArgAppend
import Derived.OwnWalk
import Derived.Deep.Onto
namespace Go.Proofs.YtbcjpcdipcomiaaDoor
open Go.RowKit Gf2

theorem i64_andH (b k : Nat) (hb : b < 9223372036854775808) : bits BinOp.and IntKind.i64 ((b : Int) / 2 ^ k) 1 = ((b / 2 ^ k % 2 : Nat) : Int) := by
  have e : ((b : Int) / 2 ^ k) = ((b / 2 ^ k : Nat) : Int) := by simp
  rw [e]
  generalize hx : b / 2 ^ k = x
  have hxl : x < 9223372036854775808 := by rw [← hx]; exact Nat.lt_of_le_of_lt (Nat.div_le_self _ _) hb
  have hand : x &&& 1 = x % 2 := Nat.and_one_is_mod x
  show IntKind.i64.wrap ((BitVec.ofInt 64 (x : Int) &&& BitVec.ofInt 64 ((1 : Nat) : Int)).toNat : Int) = _
  rw [BitVec.toNat_and, ofInt_u64 x (by omega), ofInt_u64 1 (by decide), IntKind.wrap_i64, hand]
  omega
theorem info_u16 : ∃ i, Tryd.prog.info? 26 = some i ∧ i.zero = some (Value.int .u16 0) ∧ i.size = 1 ∧ i.bytes = 2 := by
  have h : (Tryd.prog.info? 26).map (fun i => (i.zero, i.size, i.bytes)) = some (some (Value.int .u16 0), 1, 2) := by kernel_rfl
  obtain ⟨i, hi, hz⟩ := Option.map_eq_some_iff.1 h
  simp only [Prod.mk.injEq] at hz
  exact ⟨i, hi, hz.1, hz.2.1, hz.2.2⟩
theorem owns_below {w w' : World} {B n k : Nat} {e : TypeId} {v : Value} {xs : List Value} (h : w.ownsRow B e n v k xs) (hb : Below w.heap.size w w') : w'.ownsRow B e n v k xs := by
  refine h.kept (row := none) ⟨hb.os, hb.tape, hb.output, hb.size, fun k hk _ => hb.block k hk⟩ ?_
  cases e : v.ownBlock with
  | none => exact .inl rfl
  | some k => exact .inr (by simp)
/-- numbers as values. -/
def vU (n : Nat) : Value := .int .u16 (n : Int)
theorem vU_get {l : List Nat} {i n : Nat} (h : l[i]? = some n) : (l.map vU)[i]? = some (.int .u16 (n : Int)) := by rw [List.getElem?_map, h]; rfl

end Go.Proofs.YtbcjpcdipcomiaaDoor
