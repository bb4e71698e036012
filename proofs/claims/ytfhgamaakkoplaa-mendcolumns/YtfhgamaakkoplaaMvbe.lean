import Derived.Test.YtfhgamaakkoplaaMval
import Derived.Deep.AppendLies
import Derived.Deep.OwnRows
import Derived.ArgAppend
import Derived.OwnWalk
import Derived.Deep.Onto
namespace Go.Proofs.Ytfhgamaakkoplaa
open Go.RowKit Gf2
set_option linter.unusedVariables false

theorem info_l9 : ∃ i, Try.prog.info? 25 = some i ∧ i.zero = some (Value.slice none 0 0) ∧ i.size = 1 ∧ i.bytes = 24 := by
  have h : (Try.prog.info? 25).map (fun i => (i.zero, i.size, i.bytes)) = some (some (Value.slice none 0 0), 1, 24) := by kernel_rfl
  obtain ⟨i, hi, hz⟩ := Option.map_eq_some_iff.1 h
  simp only [Prod.mk.injEq] at hz
  exact ⟨i, hi, hz.1, hz.2.1, hz.2.2⟩

/-- the lists V r as cells. -/
def lv9 (V : Nat → Value) (m : Nat) : List Value := (List.range m).map V
theorem lv9_len (V : Nat → Value) (m : Nat) : (lv9 V m).length = m := by simp [lv9]
theorem lv9_get (V : Nat → Value) {m r : Nat} (h : r < m) : (lv9 V m)[r]? = some (V r) := by simp [lv9, h]
theorem lv9_snoc (V X : Nat → Value) (m k : Nat) : lv9 V m ++ lv9 X k = lv9 (fun r => if r < m then V r else X (r - m)) (m + k) := by
  apply List.ext_getElem?
  intro r
  by_cases h : r < m
  · rw [List.getElem?_append_left (by rw [lv9_len]; exact h), lv9_get _ h, lv9_get _ (by omega), if_pos h]
  · rw [List.getElem?_append_right (by rw [lv9_len]; omega), lv9_len]
    by_cases h2 : r < m + k
    · rw [lv9_get _ (by omega), lv9_get _ h2, if_neg h]
    · rw [List.getElem?_eq_none (by rw [lv9_len]; omega), List.getElem?_eq_none (by rw [lv9_len]; omega)]
theorem lv9_congr {V V' : Nat → Value} {m : Nat} (h : ∀ r, r < m → V r = V' r) : lv9 V m = lv9 V' m := by
  unfold lv9
  apply List.map_congr_left
  intro r hr
  exact h r (List.mem_range.1 hr)

end Go.Proofs.Ytfhgamaakkoplaa
