import Derived.Test.YtdeophhcbkahgaaSlb
namespace Go.Proofs.Ytdeophhcbkahgaa
open Go.RowKit Gf2
set_option linter.unusedVariables false

/-- the columns of a factor, the first k of them laid. -/
def colRow (c k : Nat) : Array Value := ((List.range 8).map fun j => Value.int .u64 (if j < k then ((fm 285 c (2 ^ j) : Nat) : Int) else 0)).toArray
theorem colRow_size (c k : Nat) : (colRow c k).size = 8 := by simp [colRow]
theorem colRow_get (c k j : Nat) (h : j < 8) : (colRow c k)[j]? = some (Value.int .u64 (if j < k then ((fm 285 c (2 ^ j) : Nat) : Int) else 0)) := by
  simp [colRow, h]
theorem colRow_zero (c : Nat) : colRow c 0 = (List.replicate 8 (Value.int .u64 0)).toArray := by
  apply Array.ext_getElem?
  intro j
  by_cases h : j < 8
  · rw [colRow_get _ _ _ h, List.getElem?_toArray, List.getElem?_replicate, if_pos h]; simp
  · rw [Array.getElem?_eq_none (by rw [colRow_size]; omega), Array.getElem?_eq_none (by simp; omega)]
theorem colRow_set (c k : Nat) (h : k < 8) : (colRow c k).setIfInBounds k (Value.int .u64 ((fm 285 c (2 ^ k) : Nat) : Int)) = colRow c (k + 1) := by
  apply Array.ext_getElem?
  intro j
  by_cases hj : j < 8
  · rw [colRow_get _ _ _ hj, Array.getElem?_setIfInBounds]
    by_cases e : k = j
    · subst e
      rw [if_pos rfl, if_pos (by rw [colRow_size]; exact h), if_pos (by omega)]
    · rw [if_neg e, colRow_get _ _ _ hj]
      by_cases h1 : j < k
      · rw [if_pos h1, if_pos (by omega)]
      · rw [if_neg h1, if_neg (by omega)]
  · rw [Array.getElem?_eq_none (by simp [colRow_size]; omega), Array.getElem?_eq_none (by rw [colRow_size]; omega)]
theorem colRow_all (c k : Nat) : (colRow c k).all (·.oneCell') = true := by
  rw [Array.all_eq_true_iff_forall_mem]
  intro v hv
  simp [colRow] at hv
  obtain ⟨j, -, rfl⟩ := hv
  rfl
theorem info_col : (Try.prog.info? 138).map (·.size) = some 8 := by kernel_rfl
/-- a factor's columns in block b. -/
def Cb (c b : Nat) (w : World) : Prop := w.heap[b]? = some (.cells (colRow c 8) 138 (0, 0))
theorem Cb.lt {c b : Nat} {w : World} (h : Cb c b w) : b < w.heap.size := (Array.getElem?_eq_some_iff.1 h).1
theorem Cb.cell {c b : Nat} {w : World} (h : Cb c b w) {j : Nat} (hj : j < 8) : w.cell? ⟨b, j, none⟩ = some (.int .u64 (fm 285 c (2 ^ j) : Nat)) := by
  rw [cell_of_row w b j _ _ _ h, colRow_get _ _ _ hj, if_pos hj]
theorem Cb.keep {c b g : Nat} {w w' : World} (h : Cb c b w) (hk : Kp g w w') (hg : g ≠ b) : Cb c b w' := (hk.2 b h.lt (fun e => hg e.symm)).trans h
theorem Cb.drew {c b : Nat} {w : World} (h : Cb c b w) : Cb c b w.drew := h

set_option maxHeartbeats 2000000 in
set_option maxRecDepth 100000 in
theorem colsOf_nat (c : Nat) (w : World) (hc : c < 256) :
    Calls Try.prog 86 #[.int .u8 (c : Int)] w fun e w' => e = .returned (.agg (colRow c 8)) ∧ Below w.heap.size w w' := by
  have HC : Hid (c < 256) := hc
  clear hc
  go_enter Try.func86, Try.ntmps86
  go_wp2
  go_loopw [5] (fun i wr => ∃ b : Nat, b ≤ 8 ∧ i = .int .i64 b ∧ wr.heap.size = w.heap.size + 2 ∧
      wr.heap[w.heap.size]? = some (.cells (colRow c 0) 138 (0, 0)) ∧ wr.heap[w.heap.size + 1]? = some (.cells (colRow c b) 138 (0, 0)) ∧ Below w.heap.size w wr) (fun i _ => 8 - (intOf i).toNat)
  case atStart =>
    refine ⟨0, by decide, rfl, by simp, ?_, ?_, ((Below.refl _ _).alloc (Nat.le_refl _) _).alloc (by simp) _⟩
    · rw [heap_alloc2_old, colRow_zero]; rfl
    · rw [heap_alloc2_new, colRow_zero]; rfl
  case round =>
    obtain ⟨b, hb, rfl, hsz, h0, h1, hB⟩ := hrel
    by_cases hlt : b < 8
    · have i1 : ((b : Nat) : Int) < 8 := by omega
      have hp : 2 ^ b ≤ 128 := by have := Nat.pow_le_pow_right (n := 2) (by decide) (show b ≤ 7 by omega); simpa using this
      have e1 := one8 b hlt
      have cM := fun W => gmul_nat c (2 ^ b) W HC.out (by omega)
      have q2 := cell_of_row wr (w.heap.size + 1) b _ 138 (0, 0) h1
      rw [colRow_get _ _ _ hlt, if_neg (by omega)] at q2
      have z1 := frozen_of_row wr (w.heap.size + 1) b _ 138 h1
      have lv : fm 285 c (2 ^ b) < 256 := fm8_lt _ _
      have E2 : IntKind.u64.wrap ((fm 285 c (2 ^ b) : Nat) : Int) = ((fm 285 c (2 ^ b) : Nat) : Int) := by rw [IntKind.wrap_u64]; omega
      have new : (wr.setCell ⟨w.heap.size + 1, b, none⟩ (.int .u64 (fm 285 c (2 ^ b) : Nat))).heap[w.heap.size + 1]? = some (.cells (colRow c (b + 1)) 138 (0, 0)) := by
        rw [heap_setCell_same _ _ _ _ _ _ h1, colRow_set c b hlt]
      have old : (wr.setCell ⟨w.heap.size + 1, b, none⟩ (.int .u64 (fm 285 c (2 ^ b) : Nat))).heap[w.heap.size]? = some (.cells (colRow c 0) 138 (0, 0)) := by
        rw [heap_setCell_other _ _ _ _ (by simp)]; exact h0
      have HN : Hid ((wr.setCell ⟨w.heap.size + 1, b, none⟩ (.int .u64 (fm 285 c (2 ^ b) : Nat))).heap.size = w.heap.size + 2 ∧ (wr.setCell ⟨w.heap.size + 1, b, none⟩ (.int .u64 (fm 285 c (2 ^ b) : Nat))).heap[w.heap.size]? = some (.cells (colRow c 0) 138 (0, 0)) ∧ (wr.setCell ⟨w.heap.size + 1, b, none⟩ (.int .u64 (fm 285 c (2 ^ b) : Nat))).heap[w.heap.size + 1]? = some (.cells (colRow c (b + 1)) 138 (0, 0)) ∧ Below w.heap.size w (wr.setCell ⟨w.heap.size + 1, b, none⟩ (.int .u64 (fm 285 c (2 ^ b) : Nat)))) := ⟨by simp [hsz], old, new, hB.setCell (by simp) _⟩
      obtain ⟨v, hv⟩ : ∃ v, v = fm 285 c (2 ^ b) := ⟨_, rfl⟩
      rw [← hv] at cM HN E2 lv
      obtain ⟨P, hP⟩ : ∃ P : Nat, P = 2 ^ b := ⟨_, rfl⟩
      rw [← hP] at e1 cM
      clear new old h0 h1 hB hsz hv hP hp hb
      go_wp2_with (go_at_call 46; ((with_reducible refine (cM _).mono ?_); rintro e w9 ⟨rfl, hw9⟩; have hw9 := hw9.symm; subst hw9))
      go_roundw
      case rel => exact ⟨b + 1, hlt, by go_num, HN.out.1, HN.out.2.1, HN.out.2.2.1, HN.out.2.2.2⟩
      case measure => simp [intOf]; omega
    · have hb8 : b = 8 := by omega
      subst hb8
      have i53 : (Try.prog.info? 138).map (·.size) = some (colRow c 8).size := by rw [colRow_size]; exact info_col
      have o53 : (colRow c 0).size = (colRow c 8).size := by rw [colRow_size, colRow_size]
      go_wp2_with (first | (refine wpList_load_row rfl 138 _ rfl (w.heap.size + 1) rfl 138 _ (0, 0) _ h1 Try.underlying138 rfl i53 ?_) | (refine wpList_store_row rfl 138 _ _ rfl w.heap.size (colRow c 8) rfl rfl 138 _ h0 i53 o53 (colRow_all c 8) ?_))
      refine bodyPost_ret (v := .agg (colRow c 8)) ?_ rfl ⟨rfl, ?_⟩
      · exact results_cell_row (P := Try.prog) (fn := Try.f86) rfl _ _ w.heap.size 138 (colRow c 8) (0, 0) _ rfl (setRow_heap _ _ _ _ _ _ h0) Try.underlying138 rfl i53
      · exact below_setRow hB (Nat.le_refl _) _
end Go.Proofs.Ytdeophhcbkahgaa
