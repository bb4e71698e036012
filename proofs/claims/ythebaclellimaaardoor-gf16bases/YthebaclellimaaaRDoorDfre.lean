import Derived.Test.YthebaclellimaaaRDoorDgro
namespace Go.Proofs.YthebaclellimaaaRDoor
open Go.RowKit Gf2

theorem rowB {w : World} {g : Nat} (h : w.heap[g]? = some (.cells rB 39 (0, 0))) : w.rowIs g 39 16 (fun x => .int .u16 (cbn x : Nat)) :=
  ⟨rB, h, rB_size, fun _ hi => rB_get hi⟩

theorem cant_after {w w' : World} (h : Cant w) (hb : Below w.heap.size w w') : Cant w' := h.below hb

set_option maxHeartbeats 4000000 in
set_option maxRecDepth 100000 in
theorem fresh_any (w : World) (hC : Cant w) :
    Calls Tryd.prog 7 #[] w fun e w' => e = .returned (.bool true) ∧ Below w.heap.size w w' := by
  obtain ⟨w1, hw1⟩ : ∃ w1, w1 = afterB w := ⟨_, rfl⟩
  obtain ⟨w2, hw2⟩ : ∃ w2, w2 = afterB w1 := ⟨_, rfl⟩
  obtain ⟨w3, hw3⟩ : ∃ w3, w3 = afterB w2 := ⟨_, rfl⟩
  have hC0 : Hid (Cant w) := hC
  have c1 := hbasis_any w hC
  have hC1 := hC.afterB
  rw [← hw1] at c1 hC1
  have c2 := hbasis_any w1 hC1
  have hC2 := hC1.afterB
  rw [← hw2] at c2 hC2
  have c3 := hbasis_any w2 hC2
  have hC3 := hC2.afterB
  rw [← hw3] at c3 hC3
  have s1 : w1.heap.size = w.heap.size + 1 := by rw [hw1, afterB_size]
  have s2 : w2.heap.size = w.heap.size + 2 := by rw [hw2, afterB_size]; omega
  have s3 : w3.heap.size = w.heap.size + 3 := by rw [hw3, afterB_size]; omega
  have b1 : Below w.heap.size w w1 := by rw [hw1]; exact afterB_below w
  have b2 : Below w1.heap.size w1 w2 := by rw [hw2]; exact afterB_below w1
  have b3 : Below w2.heap.size w2 w3 := by rw [hw3]; exact afterB_below w2
  have n1 : w1.heap[w.heap.size]? = some (.cells rB 39 (0, 0)) := by rw [hw1]; exact afterB_new w
  have n2 : w2.heap[w1.heap.size]? = some (.cells rB 39 (0, 0)) := by rw [hw2]; exact afterB_new w1
  have n3 : w3.heap[w2.heap.size]? = some (.cells rB 39 (0, 0)) := by rw [hw3]; exact afterB_new w2
  rw [s1] at n2 c2
  rw [s2] at n3 c3
  have HB : Hid (∀ r, r < 3 → w3.heap[w.heap.size + r]? = some (.cells rB 39 (0, 0))) := by
    intro r hr
    match r, hr with
    | 0, _ => rw [b3.block _ (by omega), b2.block _ (by omega)]; exact n1
    | 1, _ => rw [b3.block _ (by omega)]; exact n2
    | 2, _ => exact n3
  have H3 : Hid (Below w.heap.size w w3 ∧ Cant w3) := ⟨(b1.trans (b2.mono (by omega))).trans (b3.mono (by omega)), hC3⟩
  clear hw1 hw2 hw3 hC hC1 hC2 hC3 b1 b2 b3 n1 n2 n3 s1 s2
  go_enter Tryd.func7, Tryd.ntmps7
  go_wp2_with (go_at_call 15; first | ((with_reducible refine (c1).mono ?_); (rintro e w9 ⟨rfl, hw9⟩; have hw9 := hw9.symm; subst hw9)) | ((with_reducible refine (c2).mono ?_); (rintro e w9 ⟨rfl, hw9⟩; have hw9 := hw9.symm; subst hw9)) | ((with_reducible refine (c3).mono ?_); (rintro e w9 ⟨rfl, hw9⟩; have hw9 := hw9.symm; subst hw9)))
  obtain ⟨w4, hw4⟩ : ∃ w4 : World, w4 = w3.alloc (.cells #[.slice (some ⟨w.heap.size, 0, none⟩) 16 16, .slice (some ⟨w.heap.size + 1, 0, none⟩) 16 16, .slice (some ⟨w.heap.size + 2, 0, none⟩) 16 16] 40) := ⟨_, rfl⟩
  have s4 : w4.heap.size = w.heap.size + 4 := by rw [hw4]; simp; omega
  have b4 : Below w3.heap.size w3 w4 := by rw [hw4]; exact (Below.refl _ _).alloc (Nat.le_refl _) _
  have key : ∀ k, k < 3 → w4.cell? ⟨(w.heap.size + 3), k, none⟩ = some (.slice (some ⟨w.heap.size + k, 0, none⟩) 16 16) := by
    intro k hk
    have hc := cell_of_row w4 (w.heap.size + 3) k _ 40 (0, 0) (by rw [hw4, ← s3]; exact heap_alloc_new _ _)
    match k, hk with
    | 0, _ => exact hc
    | 1, _ => exact hc
    | 2, _ => exact hc
  have LL : Lh w4 w.heap.size (w.heap.size + 3) 3 (fun r => w.heap.size + r) := ⟨key, fun r s _ _ e => by have e : w.heap.size + r = w.heap.size + s := e; omega, fun r hr e => by have e : w.heap.size + r = (w.heap.size + 3) := e; omega, fun r _ => Nat.le_add_right _ _, fun r hr => by show w.heap.size + r < _; omega, by omega⟩
  have RR : Rh w4 3 (fun r => w.heap.size + r) (fun _ x => (cbn x : Nat)) := fun r hr => rowB ((b4.block _ (by show w.heap.size + r < _; omega)).trans (HB.out r hr))
  have cg := grown_any w.heap.size (w.heap.size + 3) 3 3 (fun r => w.heap.size + r) _ w4 (by omega) (by omega) LL RR
  have HK : Hid (Lh w4 w.heap.size (w.heap.size + 3) 3 (fun r => w.heap.size + r) ∧ Rh w4 3 (fun r => w.heap.size + r) (fun _ x => (cbn x : Nat))) := ⟨LL, RR⟩
  have H4 : Hid (Below w.heap.size w w4 ∧ Cant w) := ⟨H3.out.1.trans (b4.mono (by omega)), hC0.out⟩
  rw [← hw4]
  have lN : Hid (w.heap.size ≤ w4.heap.size) := by rw [s4]; exact Nat.le_add_right _ _
  clear hw4 b4 key LL RR c1 c2 c3 H3 HB s4
  go_loopw [11] (fun iv wq => ∃ i : Nat, i ≤ 3 ∧ iv = .int .i64 i ∧ wq = w4) (fun iv _ => 3 - (intOf iv).toNat)
  case atStart => exact ⟨0, Nat.zero_le _, rfl, rfl⟩
  case round =>
    obtain ⟨i, hi, rfl, hwq⟩ := hrel
    by_cases hlt : i < 3
    · have iN : ((i : Nat) : Int) < 3 := by omega
      have q1 : wr.cell? ⟨(w.heap.size + 3), i, none⟩ = some (.slice (some ⟨w.heap.size + i, 0, none⟩) 16 16) := by rw [hwq]; exact HK.out.1.cell i hlt
      have q2 : wr.cell? ⟨w.heap.size + i, 0, none⟩ = some (.int .u16 1) := by rw [hwq]; exact (HK.out.2 i hlt).cell (i := 0) (by decide)
      have q3 : wr.cell? ⟨w.heap.size + i, 15, none⟩ = some (.int .u16 39198) := by rw [hwq]; exact (HK.out.2 i hlt).cell (i := 15) (by decide)
      have HQ : Hid (wr = w4) := hwq
      clear hwq cg
      go_wp2
      go_roundw
      case rel => exact ⟨i + 1, by omega, by go_num, HQ.out⟩
      case measure => simp [intOf]; omega
    · have hi3 : i = 3 := by omega
      subst hi3
      rw [← hwq] at cg H4 lN
      clear hwq HK
      go_wp2_with (first | (go_at_call 16; ((with_reducible refine (cg).mono ?_); (rintro e wG ⟨rfl, hbG⟩; have hCG := cant_after H4.out.2 (H4.out.1.trans hbG); have c5 := hbasis_any wG hCG; have q5 := cellB (afterB_new wG) (t := 0) (by decide); have q6 := cellB (afterB_new wG) (t := 15) (by decide); rw [show cbn 0 = 1 by decide] at q5; rw [show cbn 15 = 39198 by decide] at q6))) | (go_at_call 15; ((with_reducible refine (c5).mono ?_); (rintro e w9 ⟨rfl, hw9⟩; subst hw9))))
      go_ret
      exact ⟨rfl, (H4.out.1.trans hbG).trans ((afterB_below wG).mono (Nat.le_trans lN.out hbG.size))⟩
end Go.Proofs.YthebaclellimaaaRDoor
