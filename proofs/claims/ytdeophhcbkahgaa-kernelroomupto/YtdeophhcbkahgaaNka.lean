import Derived.Test.YtdeophhcbkahgaaNba
import Derived.Test.YtdeophhcbkahgaaWalkg
import Derived.Laws.Tables
namespace Go.Proofs.Ytdeophhcbkahgaa
open Go.RowKit Gf2
set_option linter.unusedVariables false

/-- a row of sixteen products, the first k of them laid: at i that of c and m * i. -/
def halfRow (c m k : Nat) : Array Value := ((List.range 16).map fun j => Value.int .u8 (if j < k then ((fm 285 c (j * m) : Nat) : Int) else 0)).toArray
theorem halfRow_size (c m k : Nat) : (halfRow c m k).size = 16 := by simp [halfRow]
theorem halfRow_get (c m k j : Nat) (h : j < 16) : (halfRow c m k)[j]? = some (Value.int .u8 (if j < k then ((fm 285 c (j * m) : Nat) : Int) else 0)) := by
  simp [halfRow, h]
theorem halfRow_zero (c m : Nat) : halfRow c m 0 = (List.replicate 16 (Value.int .u8 0)).toArray := by
  apply Array.ext_getElem?
  intro j
  by_cases h : j < 16
  · rw [halfRow_get _ _ _ _ h, List.getElem?_toArray, List.getElem?_replicate, if_pos h]; simp
  · rw [Array.getElem?_eq_none (by rw [halfRow_size]; omega), Array.getElem?_eq_none (by simp; omega)]
theorem halfRow_set (c m k : Nat) (h : k < 16) : (halfRow c m k).setIfInBounds k (Value.int .u8 ((fm 285 c (k * m) : Nat) : Int)) = halfRow c m (k + 1) := by
  apply Array.ext_getElem?
  intro j
  by_cases hj : j < 16
  · rw [halfRow_get _ _ _ _ hj, Array.getElem?_setIfInBounds]
    by_cases e : k = j
    · subst e
      rw [if_pos rfl, if_pos (by rw [halfRow_size]; exact h), if_pos (by omega)]
    · rw [if_neg e, halfRow_get _ _ _ _ hj]
      by_cases h1 : j < k
      · rw [if_pos h1, if_pos (by omega)]
      · rw [if_neg h1, if_neg (by omega)]
  · rw [Array.getElem?_eq_none (by simp [halfRow_size]; omega), Array.getElem?_eq_none (by rw [halfRow_size]; omega)]
theorem halfRow_all (c m k : Nat) : (halfRow c m k).all (·.oneCell') = true := by
  rw [Array.all_eq_true_iff_forall_mem]
  intro v hv
  simp [halfRow] at hv
  obtain ⟨j, -, rfl⟩ := hv
  rfl
/-- the first place is always nought: so one product is laid from the start. -/
theorem halfRow_one (c m : Nat) : halfRow c m 0 = halfRow c m 1 := by
  apply Array.ext_getElem?
  intro j
  by_cases h : j < 16
  · rw [halfRow_get _ _ _ _ h, halfRow_get _ _ _ _ h]
    by_cases e : j < 1
    · obtain rfl : j = 0 := by omega
      rw [if_neg (by omega), if_pos e, Nat.zero_mul, fld8.fm_zero]
      rfl
    · rw [if_neg (by omega), if_neg e]
  · rw [Array.getElem?_eq_none (by rw [halfRow_size]; omega), Array.getElem?_eq_none (by rw [halfRow_size]; omega)]
def pow2 (b : Nat) : Prop := b = 1 ∨ b = 2 ∨ b = 4 ∨ b = 8
theorem half_sum {b r m : Nat} (hb : pow2 b) (hm : m = 1 ∨ m = 16) (hr : r < b) : (b + r) * m = (b * m) ^^^ (r * m) := by
  have key : ∀ b ∈ [1, 2, 4, 8], ∀ m ∈ [1, 16], ∀ r, r < 8 → r < b → (b + r) * m = (b * m) ^^^ (r * m) := by decide
  refine key b ?_ m ?_ r ?_ hr
  · unfold pow2 at hb; simp; omega
  · simp; omega
  · unfold pow2 at hb; omega
theorem half_step {c b r m : Nat} (hb : pow2 b) (hm : m = 1 ∨ m = 16) (hr : r < b) : fm 285 c (b * m) ^^^ fm 285 c (r * m) = fm 285 c ((b + r) * m) := by
  rw [half_sum hb hm hr, fld8.fm_xor]
end Go.Proofs.Ytdeophhcbkahgaa
