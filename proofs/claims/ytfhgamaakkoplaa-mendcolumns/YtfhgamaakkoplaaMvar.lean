import Derived.Test.YtfhgamaakkoplaaMvaf
import Derived.Below
import Derived.Laws.Tables
import Derived.Laws.CopyOwn
namespace Go.Proofs.Ytfhgamaakkoplaa
open Go.RowKit Gf2

theorem ord8' : IsOrd 2 285 (2 ^ 8 - 1) := ord_8
/-- the first k powers laid. -/
def Laid8 (A : Array Value) (k : Nat) : Prop := A.size = 766 ∧ (∀ j, j < 766 → ∃ v : Nat, v < 256 ∧ A[j]? = some (.int .u8 (v : Int))) ∧
  ∀ n, n < k → A[n]? = some (.int .u8 (fp 285 2 n : Nat)) ∧ A[n + 255]? = some (.int .u8 (fp 285 2 n : Nat)) ∧ A[510 + fp 285 2 n]? = some (.int .u8 (n : Nat))

theorem Laid8.zero : Laid8 (Array.replicate 766 (Value.int .u8 0)) 0 := by
  refine ⟨Array.size_replicate, fun j hj => ⟨0, by decide, ?_⟩, fun n hn => absurd hn (by omega)⟩
  rw [Array.getElem?_replicate, if_pos hj]; rfl

theorem zero_tab (w : World) : (zeroValue 115).run Try.prog w = .ok (.agg (Array.replicate 766 (Value.int .u8 0))) w := by
  kernel_rfl

theorem Laid8.put {A : Array Value} {k : Nat} (h : Laid8 A k) (hk : k < 255) :
    Laid8 (((A.setIfInBounds k (.int .u8 (fp 285 2 k : Nat))).setIfInBounds (k + 255) (.int .u8 (fp 285 2 k : Nat))).setIfInBounds (510 + fp 285 2 k) (.int .u8 (k : Nat))) (k + 1) := by
  obtain ⟨h1, h2, h3⟩ := h
  have hf := fp8_lt 2 k
  refine ⟨by simp [h1], fun j hj => ?_, fun n hn => ?_⟩
  · simp only [Array.getElem?_setIfInBounds, Array.size_setIfInBounds, h1]
    by_cases e3 : 510 + fp 285 2 k = j
    · exact ⟨k, by omega, by rw [if_pos e3, if_pos (by omega)]⟩
    · rw [if_neg e3]
      by_cases e2 : k + 255 = j
      · exact ⟨fp 285 2 k, hf, by rw [if_pos e2, if_pos (by omega)]⟩
      · rw [if_neg e2]
        by_cases e1 : k = j
        · exact ⟨fp 285 2 k, hf, by rw [if_pos e1, if_pos (by omega)]⟩
        · rw [if_neg e1]; exact h2 j hj
  · have hfn := fp8_lt 2 n
    simp only [Array.getElem?_setIfInBounds, Array.size_setIfInBounds, h1]
    by_cases e : n = k
    · subst e
      refine ⟨?_, ?_, ?_⟩
      · rw [if_neg (by omega), if_neg (by omega), if_pos rfl, if_pos (by omega)]
      · rw [if_neg (by omega), if_pos rfl, if_pos (by omega)]
      · rw [if_pos rfl, if_pos (by omega)]
    · have hn' : n < k := by omega
      obtain ⟨g1, g2, g3⟩ := h3 n hn'
      have hne : fp 285 2 k ≠ fp 285 2 n := fun e2 => e (fld8.inj ord8' (by decide) (by show n < 255; omega) (by show k < 255; omega) e2.symm)
      refine ⟨?_, ?_, ?_⟩
      · rw [if_neg (by omega), if_neg (by omega), if_neg (by omega)]; exact g1
      · rw [if_neg (by omega), if_neg (by omega), if_neg (by omega)]; exact g2
      · rw [if_neg (by omega), if_neg (by omega), if_neg (by omega)]; exact g3

set_option maxHeartbeats 2000000 in
set_option maxRecDepth 100000 in
theorem new_any (w : World) :
    Calls Try.prog 42 #[] w fun e w' => e = .returned (.pointer (some ⟨w.heap.size, 0, none⟩)) ∧ w'.heap.size = w.heap.size + 1 ∧ (∃ A, w'.heap[w.heap.size]? = some (.cells A 115 (0, 0)) ∧ Laid8 A 255) ∧ Below w.heap.size w w' := by
  have hz := fun w => zero_tab w
  go_enter Try.func42, Try.ntmps42
  go_wp2
  go_loopw [2, 6] (fun x i wr => ∃ k : Nat, k ≤ 255 ∧ x = .int .u8 (fp 285 2 k : Nat) ∧ i = .int .i64 k ∧ wr.heap.size = w.heap.size + 1 ∧
      (∃ A, wr.heap[w.heap.size]? = some (.cells A 115 (0, 0)) ∧ Laid8 A k) ∧ Below w.heap.size w wr) (fun _ i _ => 255 - (intOf i).toNat)
  case atStart =>
    refine ⟨0, by decide, rfl, rfl, by simp, ⟨_, ?_, Laid8.zero⟩, (Below.refl _ _).alloc (Nat.le_refl _) _⟩
    exact heap_alloc_new _ _
  case round =>
    obtain ⟨k, hk, rfl, rfl, hsz, ⟨A, hA, hL⟩, hb⟩ := hrel
    by_cases hlt : k < 255
    · have l1 := fp8_lt 2 k
      have c1 := fun w => gmul_nat (fp 285 2 k) 2 w l1 (by decide)
      have e1 := fld8.fp_succ (a := 2) (by decide) k
      rw [← e1] at c1
      clear e1
      have hL' := hL.put hlt
      obtain ⟨v0, -, e0⟩ := hL.2.1 k (by omega)
      obtain ⟨v1, -, e1⟩ := hL.2.1 (k + 255) (by omega)
      obtain ⟨v2, -, e2⟩ := hL.2.1 (510 + fp 285 2 k) (by omega)
      have q0 := cell_of_row wr w.heap.size k A _ _ hA
      have q1 := cell_of_row wr w.heap.size (k + 255) A _ _ hA
      have q2 := cell_of_row wr w.heap.size (510 + fp 285 2 k) A _ _ hA
      rw [e0] at q0
      rw [e1] at q1
      rw [e2] at q2
      have f0 := frozen_of_row wr w.heap.size k A _ hA
      have f1 := frozen_of_row wr w.heap.size (k + 255) A _ hA
      have f2 := frozen_of_row wr w.heap.size (510 + fp 285 2 k) A _ hA
      have HR : Hid (wr.heap[w.heap.size]? = some (.cells A 115 (0, 0)) ∧ wr.heap.size = w.heap.size + 1) := ⟨hA, hsz⟩
      have HL : Hid (Laid8 _ (k + 1)) := hL'
      clear hA hL hL' e0 e1 e2 hsz
      have c1 : ∀ w, Calls Try.prog 61 #[.int .u8 (fp 285 2 k : Nat), .int .u8 2] w fun e w' => e = .returned (.int .u8 (fp 285 2 (k + 1) : Nat)) ∧ w' = w := c1
      go_wp2_with (go_at_call 61; ((with_reducible refine (c1 _).mono ?_); rintro e w' ⟨rfl, rfl⟩))
      go_roundw
      case rel =>
        obtain ⟨g0, g1⟩ := HR.out
        refine ⟨k + 1, by omega, rfl, by go_num, by simp [g1], ⟨_, ?_, HL.out⟩, ((hb.setCell (by simp) _).setCell (by simp) _).setCell (by simp) _⟩
        exact heap_setCell_same _ _ _ _ _ _ (heap_setCell_same _ _ _ _ _ _ (heap_setCell_same _ _ _ _ _ _ g0))
      case measure => simp [intOf]; omega
    · have hk5 : k = 255 := by omega
      subst hk5
      go_wp2
      go_ret
      exact ⟨rfl, hsz, ⟨A, hA, hL⟩, hb⟩
end Go.Proofs.Ytfhgamaakkoplaa
