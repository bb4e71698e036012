import Derived.Test.YthofhphlfgmklaaGreatMzam
import Derived.Test.YthofhphlfgmklaaGreatMzbj
namespace Go.Proofs.YthofhphlfgmklaaGreat
open Go.RowKit Gf2
set_option linter.unusedVariables false

-- layer 16: Whole, of the program and of the document
theorem sum_nat {f : Int} {k m : Nat} (h : prm f k m = 0) : ∃ s : Nat, Hid (s = k + m) ∧ s ≤ 65536 ∧ wrap64 ((k : Int) + (m : Int)) = (s : Int) := by
  have hv := (prm_ok.1 h).sum
  refine ⟨k + m, rfl, by omega, ?_⟩
  unfold wrap64; omega
theorem prm_nat {f k m : Int} (h : prm f k m = 0) : ∃ a b : Nat, k = a ∧ m = b := by
  have hv := prm_ok.1 h
  obtain ⟨a, rfl⟩ := Int.eq_ofNat_of_zero_le (show 0 ≤ k by have := hv.hk; omega)
  obtain ⟨b, rfl⟩ := Int.eq_ofNat_of_zero_le (show 0 ≤ m by have := hv.hm; omega)
  exact ⟨a, b, rfl, rfl⟩
/-- one list in a new list of lists. -/
theorem lone16 (w : World) (v : Value) (c : Nat) (n : Nat → Nat) (h : Ln w v c n) (T : TypeId) : ∀ t, t < 1 → (w.alloc (.cells #[v] T)).cell? ⟨w.heap.size, t, none⟩ = some ((fun _ => v) t) ∧ Ln (w.alloc (.cells #[v] T)) ((fun _ => v) t) ((fun _ => c) t) ((fun _ => n) t) := by
  intro t ht
  obtain rfl : t = 0 := by omega
  refine ⟨?_, h.below (balloc16 _ _)⟩
  rw [cell_of_row _ _ _ _ _ _ (heap_alloc_new w _)]
  rfl
end Go.Proofs.YthofhphlfgmklaaGreat
