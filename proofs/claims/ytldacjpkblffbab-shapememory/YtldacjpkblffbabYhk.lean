import Derived.Test.YtldacjpkblffbabYhj
namespace Go.Proofs.Ytldacjpkblffbab
open Go.RowKit Gf2
set_option linter.unusedVariables false

-- layer 16: awake
/-- three rows of two bytes that are written out, and the list of them. -/
def w3_16 (w : World) (a b c d e f : Nat) : World := ((w.alloc (.cells #[.int .u8 (a : Nat), .int .u8 (b : Nat)] 5)).alloc (.cells #[.int .u8 (c : Nat), .int .u8 (d : Nat)] 5)).alloc (.cells #[.int .u8 (e : Nat), .int .u8 (f : Nat)] 5)
theorem w3_size (w : World) (a b c d e f : Nat) : (w3_16 w a b c d e f).heap.size = w.heap.size + 3 := by unfold w3_16; simp
theorem lit3_16 (w : World) (a b c d e f : Nat) (ha : a < 256) (hb : b < 256) (hc : c < 256) (hd : d < 256) (he : e < 256) (hf : f < 256) (W : World)
    (hW : W = (w3_16 w a b c d e f).alloc (.cells #[.slice (some ⟨w.heap.size, 0, none⟩) 2 2, .slice (some ⟨w.heap.size + 1, 0, none⟩) 2 2, .slice (some ⟨w.heap.size + 2, 0, none⟩) 2 2] 24)) :
    Lb W (.slice (some ⟨w.heap.size + 3, 0, none⟩) 3 3) 3 (fun _ => 2) (fun i => fun j => [[a, b], [c, d], [e, f]].getD i [] |>.getD j 0) ∧ Below w.heap.size w W := by
  have r0 := lit_rw [a, b] w (fun x h => by simp at h; omega) (by simp)
  have r1 := lit_rw [c, d] (w.alloc (.cells #[.int .u8 (a : Nat), .int .u8 (b : Nat)] 5)) (fun x h => by simp at h; omega) (by simp)
  have r2 := lit_rw [e, f] ((w.alloc (.cells #[.int .u8 (a : Nat), .int .u8 (b : Nat)] 5)).alloc (.cells #[.int .u8 (c : Nat), .int .u8 (d : Nat)] 5)) (fun x h => by simp at h; omega) (by simp)
  have z1 : (w.alloc (.cells #[.int .u8 (a : Nat), .int .u8 (b : Nat)] 5)).heap.size = w.heap.size + 1 := by simp
  have z2 : ((w.alloc (.cells #[.int .u8 (a : Nat), .int .u8 (b : Nat)] 5)).alloc (.cells #[.int .u8 (c : Nat), .int .u8 (d : Nat)] 5)).heap.size = w.heap.size + 2 := by simp
  rw [z1] at r1
  rw [z2] at r2
  have s0 : Rw W w.heap.size 2 (fun i => [a, b].getD i 0) := by rw [hW]; exact rw_alloc (rw_alloc (rw_alloc r0 _) _) _
  have s1 : Rw W (w.heap.size + 1) 2 (fun i => [c, d].getD i 0) := by rw [hW]; exact rw_alloc (rw_alloc r1 _) _
  have s2 : Rw W (w.heap.size + 2) 2 (fun i => [e, f].getD i 0) := by rw [hW]; exact rw_alloc r2 _
  have hh : W.heap[w.heap.size + 3]? = some (.cells #[.slice (some ⟨w.heap.size, 0, none⟩) 2 2, .slice (some ⟨w.heap.size + 1, 0, none⟩) 2 2, .slice (some ⟨w.heap.size + 2, 0, none⟩) 2 2] 24 (0, 0)) := by
    rw [hW, ← w3_size w a b c d e f]; exact heap_alloc_new _ _
  have hsz : W.heap.size = w.heap.size + 4 := by rw [hW]; simp [w3_size]
  refine ⟨⟨fun i => .slice (some ⟨w.heap.size + i, 0, none⟩) 2 2, ⟨by unfold big; omega, _, _, rfl, by omega, by unfold big; omega, fun _ => ⟨w.heap.size + 3, 0, rfl, ⟨by omega, fun e => e⟩, fun i hi => ?_⟩⟩, fun i hi => ?_⟩, ?_⟩
  · rw [cell_of_row _ _ _ _ _ _ hh]
    have : i = 0 ∨ i = 1 ∨ i = 2 := by omega
    rcases this with rfl | rfl | rfl <;> rfl
  · have : i = 0 ∨ i = 1 ∨ i = 2 := by omega
    rcases this with rfl | rfl | rfl
    · exact s0.re (Nat.le_refl _) (Nat.le_refl _) (by unfold big; omega) (fun e => e)
    · exact s1.re (Nat.le_refl _) (Nat.le_refl _) (by unfold big; omega) (fun e => e)
    · exact s2.re (Nat.le_refl _) (Nat.le_refl _) (by unfold big; omega) (fun e => e)
  · rw [hW]
    unfold w3_16
    exact ((((Below.refl _ _).alloc (Nat.le_refl _) _).alloc (by simp) _).alloc (by simp; omega) _).alloc (by simp; omega) _
set_option maxHeartbeats 4000000 in
set_option maxRecDepth 100000 in
theorem awake16 (w : World) : Calls Try.prog 6 #[] w fun e w' => e = .returned (.bool true) ∧ Below w.heap.size w w' := by
  have i9 : ∀ n : Nat, n ≤ 9 → I64 (n : Int) := fun n hn => ⟨by omega, by omega⟩
  have c1 : ∀ x, Calls Try.prog 8 #[.int .i64 2, .int .i64 3, .int .i64 2, .int .i64 13] x fun e w' => e = .returned (.tuple #[.int .i64 6, .int .i64 0]) ∧ w' = x := fun x => by
    have h := length16 2 3 2 13 x (i9 3 (by decide))
    have e1 : lnv 2 3 2 13 = 6 := by decide +kernel
    have e2 : lne 2 3 2 13 = 0 := by decide +kernel
    rw [e1, e2] at h
    exact h
  have b0 : Below w.heap.size w (w.alloc (.cells #[.int .u8 1, .int .u8 2, .int .u8 3] 5)) := (Below.refl _ _).alloc (Nat.le_refl _) _
  have r0 : Rw (w.alloc (.cells #[.int .u8 1, .int .u8 2, .int .u8 3] 5)) w.heap.size 3 (fun i => [1, 2, 3].getD i 0) := lit_rw [1, 2, 3] w (by decide) (by decide)
  have c2 : Calls Try.prog 9 #[.int .i64 2, .int .i64 2, .int .i64 1, .slice (some ⟨w.heap.size, 0, none⟩) 3 3] (w.alloc (.cells #[.int .u8 1, .int .u8 2, .int .u8 3] 5)) fun e w' => ∃ u, e = .returned (.tuple #[u, .int .i64 0]) ∧ An16 (w.alloc (.cells #[.int .u8 1, .int .u8 2, .int .u8 3] 5)) w' u 3 2 (spl 2 3 (fun i => [1, 2, 3].getD i 0)) :=
    split16_yes 2 2 1 _ 3 _ _ (i9 2 (by decide)) r0.rb0 (by decide +kernel) (by decide +kernel)
  clear r0
  have HB : Hid (Below w.heap.size w (w.alloc (.cells #[.int .u8 1, .int .u8 2, .int .u8 3] 5))) := b0
  clear b0 i9
  go_enter Try.func6, Try.ntmps6
  go_wp2_with (first
    | (go_at_call 8; (with_reducible refine (c1 _).mono ?_); rintro e w9 ⟨rfl, hw9⟩; have hw9 := hw9.symm; subst hw9; clear hw9 c1)
    | (go_at_call 9; (with_reducible refine c2.mono ?_); rintro e w2 ⟨u, rfl, hA⟩; clear c2;
       obtain ⟨W, hW⟩ : ∃ W, W = (w3_16 w2 1 2 3 0 0 0).alloc (.cells #[.slice (some ⟨w2.heap.size, 0, none⟩) 2 2, .slice (some ⟨w2.heap.size + 1, 0, none⟩) 2 2, .slice (some ⟨w2.heap.size + 2, 0, none⟩) 2 2] 24) := ⟨_, rfl⟩;
       have hl := lit3_16 w2 1 2 3 0 0 0 (by decide) (by decide) (by decide) (by decide) (by decide) (by decide) W hW;
       have HE : Hid (Below w.heap.size w W) := (HB.out.trans (hA.bel.mono (by simp))).trans (hl.2.mono (by have := hA.bel.size; simp at this; omega));
       have c3 : Calls Try.prog 17 #[u, .slice (some ⟨w2.heap.size + 3, 0, none⟩) 3 3] W fun e w' => e = .returned (.bool true) ∧ ∃ m, w' = W.drewN m := (by
         obtain ⟨B, hcs⟩ := hA.cs
         exact sm16_true _ _ 3 (fun _ => 2) _ _ W (hcs.lb.below hl.2) hl.1 (by decide));
       rw [hW] at c3;
       have HW : Hid (W = _) := hW;
       clear hl hA hW)
    | (go_at_call 17; (refine c3.mono ?_); rintro e w3 ⟨rfl, q, rfl⟩; clear c3))
  go_ret
  exact ⟨rfl, by rw [← HW.out]; exact below_drewN HE.out _⟩
end Go.Proofs.Ytldacjpkblffbab
