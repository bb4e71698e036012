import Derived.Test.YtaepcecjblojjabDoorWalke
import Derived.Below
import Derived.Laws.Tables
import Derived.Laws.CopyOwn
namespace Go.Proofs.YtaepcecjblojjabDoor
open Go.RowKit Gf2

/-- the row of coefficients, the first k of them laid. -/
def bitRow (a k : Nat) : Array Value := ((List.range 64).map fun j => Value.int .i64 (if j < k then ((a / 2 ^ j % 2 : Nat) : Int) else 0)).toArray

theorem bitRow_size (a k : Nat) : (bitRow a k).size = 64 := by simp [bitRow]
theorem bitRow_get (a k j : Nat) (h : j < 64) : (bitRow a k)[j]? = some (Value.int .i64 (if j < k then ((a / 2 ^ j % 2 : Nat) : Int) else 0)) := by
  simp [bitRow, h]
theorem bitRow_zero (a : Nat) : bitRow a 0 = (List.replicate 64 (Value.int .i64 0)).toArray := by
  apply Array.ext_getElem?
  intro j
  by_cases h : j < 64
  · rw [bitRow_get _ _ _ h, List.getElem?_toArray, List.getElem?_replicate, if_pos h]; simp
  · rw [Array.getElem?_eq_none (by rw [bitRow_size]; omega), Array.getElem?_eq_none (by simp; omega)]
theorem bitRow_set (a k : Nat) (h : k < 64) : (bitRow a k).setIfInBounds k (Value.int .i64 ((a / 2 ^ k % 2 : Nat) : Int)) = bitRow a (k + 1) := by
  apply Array.ext_getElem?
  intro j
  by_cases hj : j < 64
  · rw [bitRow_get _ _ _ hj, Array.getElem?_setIfInBounds]
    by_cases e : k = j
    · subst e
      rw [if_pos rfl, if_pos (by rw [bitRow_size]; exact h), if_pos (by omega)]
    · rw [if_neg e, bitRow_get _ _ _ hj]
      by_cases h1 : j < k
      · rw [if_pos h1, if_pos (by omega)]
      · rw [if_neg h1, if_neg (by omega)]
  · rw [Array.getElem?_eq_none (by simp [bitRow_size]; omega), Array.getElem?_eq_none (by rw [bitRow_size]; omega)]

theorem bitRow_all (a k : Nat) : (bitRow a k).all (·.oneCell') = true := by
  rw [Array.all_eq_true_iff_forall_mem]
  intro v hv
  simp [bitRow] at hv
  obtain ⟨j, -, rfl⟩ := hv
  rfl
theorem setCell_size (w : World) (a : Addr) (v : Value) : (w.setCell a v).heap.size = w.heap.size := by simp
theorem bits_step (a k : Nat) : a / 2 ^ k / 2 = a / 2 ^ (k + 1) := by
  rw [Nat.div_div_eq_div_mul, Nat.pow_succ]

set_option maxHeartbeats 400000 in
theorem bits_nat (a : Nat) (w : World) (ha : a < 18446744073709551616) :
    Calls Tryd.prog 44 #[.int .u64 (a : Int)] w fun e w' => e = .returned (.agg (bitRow a 64)) ∧ Below w.heap.size w w' := by
  go_enter Tryd.func44, Tryd.ntmps44
  go_wp2
  go_loopw [0, 4] (fun x i wr => ∃ k y : Nat, k ≤ 64 ∧ y < 18446744073709551616 ∧ y = a / 2 ^ k ∧ x = .int .u64 y ∧ i = .int .i64 k ∧ wr.heap.size = w.heap.size + 2 ∧
      wr.heap[w.heap.size]? = some (.cells (bitRow a 0) 63 (0, 0)) ∧ wr.heap[w.heap.size + 1]? = some (.cells (bitRow a k) 63 (0, 0)) ∧ Below w.heap.size w wr) (fun _ i _ => 64 - (intOf i).toNat)
  case atStart =>
    refine ⟨0, a, by decide, ha, by simp, rfl, rfl, by simp, ?_, ?_, ((Below.refl _ _).alloc (Nat.le_refl _) _).alloc (by simp) _⟩
    · rw [heap_alloc2_old, bitRow_zero]; rfl
    · rw [heap_alloc2_new, bitRow_zero]; rfl
  case round =>
    obtain ⟨k, y, hk, hy, hya, rfl, rfl, hsz, h0, h1, hb⟩ := hrel
    have HY : Hid (y = a / 2 ^ k) := hya
    clear hya
    by_cases hlt : k < 64
    · have hc := cell_of_row wr (w.heap.size + 1) k _ 63 (0, 0) h1
      rw [bitRow_get _ _ _ hlt] at hc
      have hf := frozen_of_row wr (w.heap.size + 1) k _ 63 h1
      have HR : Hid (wr.heap[w.heap.size]? = some (.cells (bitRow a 0) 63 (0, 0)) ∧ wr.heap[w.heap.size + 1]? = some (.cells (bitRow a k) 63 (0, 0)) ∧ wr.heap.size = w.heap.size + 2) := ⟨h0, h1, hsz⟩
      clear h0 h1 hsz
      go_wp2
      go_roundw
      case rel =>
        obtain ⟨g0, g1, g2⟩ := HR.out
        have hy2 : ((y : Int) % 2) = ((a / 2 ^ k % 2 : Nat) : Int) := by rw [← HY.out]; omega
        refine ⟨k + 1, y / 2, by omega, by omega, by rw [HY.out, bits_step], by go_num, by go_num, by rw [setCell_size, g2], ?_, ?_, ?_⟩
        · rw [heap_setCell_other _ _ _ _ (by simp)]; exact g0
        · rw [hy2, heap_setCell_same _ _ _ _ _ _ g1, bitRow_set _ _ hlt]
        · exact hb.setCell (by simp) _
      case measure => simp [intOf]; omega
    · have hk64 : k = 64 := by omega
      subst hk64
      have i57 : (Tryd.prog.info? 63).map (·.size) = some (bitRow a 64).size := by rw [bitRow_size]; kernel_rfl
      have o57 : (bitRow a 0).size = (bitRow a 64).size := by rw [bitRow_size, bitRow_size]
      go_wp2_with (first | (refine wpList_load_row rfl 63 _ rfl (w.heap.size + 1) rfl 63 _ (0, 0) _ h1 Tryd.underlying63 rfl i57 ?_) | (refine wpList_store_row rfl 63 _ _ rfl w.heap.size (bitRow a 64) rfl rfl 63 _ h0 i57 o57 (bitRow_all a 64) ?_))
      refine bodyPost_ret (v := .agg (bitRow a 64)) ?_ rfl ⟨rfl, ?_⟩
      · exact results_cell_row (P := Tryd.prog) (fn := Tryd.f44) rfl _ _ w.heap.size 63 (bitRow a 64) (0, 0) _ rfl (setRow_heap _ _ _ _ _ _ h0) Tryd.underlying63 rfl i57
      · exact below_setRow hb (Nat.le_refl _) _
end Go.Proofs.YtaepcecjblojjabDoor
