import Derived.Test.YtoofoamondepoaaDoorLcf
namespace Go.Proofs.YtoofoamondepoaaDoor
open Go.RowKit Gf2
set_option linter.unusedVariables false

/-- four words. -/
def f4 (a b c d : Nat) (i : Nat) : Nat := if i = 0 then a else if i = 1 then b else if i = 2 then c else d
/-- four words written out. -/
theorem lit4 (w : World) (a b c d : Nat) (ha : a < 65536) (hb : b < 65536) (hc : c < 65536) (hd : d < 65536) :
    Q6 (w.alloc (.cells #[.int .u16 (a : Nat), .int .u16 (b : Nat), .int .u16 (c : Nat), .int .u16 (d : Nat)] 26)) (.slice (some ⟨w.heap.size, 0, none⟩) 4 4) 4 (f4 a b c d) := by
  refine ⟨by decide, fun i hi => ?_, _, _, rfl, by decide, by decide, fun _ => ⟨_, _, rfl, by simp, fun i hi => ?_⟩⟩
  · unfold f4
    split
    · exact ha
    · split
      · exact hb
      · split
        · exact hc
        · exact hd
  · rw [cell_of_row _ w.heap.size (0 + i) _ _ _ (heap_alloc_new _ _)]
    match i, hi with
    | 0, _ => rfl
    | 1, _ => rfl
    | 2, _ => rfl
    | 3, _ => rfl
theorem R6.all {w : World} {g N : Nat} {F : Nat → Nat} (h : R6 w g N F) : Q6 w (.slice (some ⟨g, 0, none⟩) N N) N F := h.q6 (Nat.le_refl _) (Nat.le_refl _) h.1 (fun _ _ => rfl)
theorem below_alloc (w : World) (o : Obj) : Below w.heap.size w (w.alloc o) := (Below.refl _ _).alloc (Nat.le_refl _) _
theorem bthen13 {w a b : World} (h : Below w.heap.size w a) (k : Below a.heap.size a b) : Below w.heap.size w b := h.trans (k.mono h.size)
theorem oc_3 : ∀ i, i < 4 → oc i 3 = f4 1 1 1 1 i := by decide +kernel
theorem dv_4 : ∀ i, i < 4 → dvs 2 (f4 9 1 2 4) i = f4 3 4 4 0 i := by decide +kernel
theorem awake_first (w : World) (hC : Cant w) (hT : Tzt w) :
    Calls Tryd.prog 16 #[.int .i64 3] w fun e w1 => e = .returned (.tuple #[.slice (some ⟨w.heap.size, 0, none⟩) 4 4, .int .i64 0]) ∧
      Calls Tryd.prog 22 #[.slice (some ⟨w.heap.size, 0, none⟩) 4 4, .slice (some ⟨w1.heap.size, 0, none⟩) 4 4] (w1.alloc (.cells #[.int .u16 1, .int .u16 1, .int .u16 1, .int .u16 1] 26)) fun e w2 => e = .returned (.bool true) ∧
      Calls Tryd.prog 12 #[.slice (some ⟨w2.heap.size, 0, none⟩) 4 4] (w2.alloc (.cells #[.int .u16 9, .int .u16 1, .int .u16 2, .int .u16 4] 26)) fun e w3 => e = .returned (.tuple #[.slice (some ⟨w2.heap.size + 1, 0, none⟩) 4 4, .int .i64 0]) ∧
      Calls Tryd.prog 22 #[.slice (some ⟨w2.heap.size + 1, 0, none⟩) 4 4, .slice (some ⟨w3.heap.size, 0, none⟩) 4 4] (w3.alloc (.cells #[.int .u16 3, .int .u16 4, .int .u16 4, .int .u16 0] 26)) fun e w4 => e = .returned (.bool true) ∧
      Calls Tryd.prog 18 #[.int .i64 2, .int .i64 7] w4 fun e w5 => e = .returned (.tuple #[.int .u16 1, .int .i64 0]) ∧ Hid (Below w.heap.size w w5) := by
  refine (linear13_yes 3 (by decide) w).mono fun e w1 ⟨he, h1, b1⟩ => ⟨he, ?_⟩
  have a1 := below_alloc w1 (.cells #[.int .u16 1, .int .u16 1, .int .u16 1, .int .u16 1] 26)
  refine (same13_true _ _ 4 (f4 1 1 1 1) _ ((h1.all.congr oc_3).below a1) (lit4 w1 1 1 1 1 (by decide) (by decide) (by decide) (by decide))).mono fun e w2 ⟨he, m, hw2⟩ => ⟨he, ?_⟩
  have b2 : Below w.heap.size w w2 := by rw [hw2]; exact below_drewN (bthen13 b1 a1) m
  have a2 := below_alloc w2 (.cells #[.int .u16 9, .int .u16 1, .int .u16 2, .int .u16 4] 26)
  have b3 := bthen13 b2 a2
  have c := derivative13_yes (.slice (some ⟨w2.heap.size, 0, none⟩) 4 4) 2 4 (f4 9 1 2 4) rfl (by decide) _ (lit4 w2 9 1 2 4 (by decide) (by decide) (by decide) (by decide)) (hT.below b3)
  rw [show (w2.alloc (.cells #[.int .u16 ((9 : Nat) : Int), .int .u16 ((1 : Nat) : Int), .int .u16 ((2 : Nat) : Int), .int .u16 ((4 : Nat) : Int)] 26)).heap.size = w2.heap.size + 1 by simp] at c
  refine c.mono fun e w3 ⟨he, h3, b4⟩ => ⟨he, ?_⟩
  have a3 := below_alloc w3 (.cells #[.int .u16 3, .int .u16 4, .int .u16 4, .int .u16 0] 26)
  have b5 : Below w.heap.size w w3 := b3.trans (b4.mono (by have := b3.size; simp at this; omega))
  refine (same13_true _ _ 4 (f4 3 4 4 0) _ ((h3.all.congr dv_4).below a3) (lit4 w3 3 4 4 0 (by decide) (by decide) (by decide) (by decide))).mono fun e w4 ⟨he, m4, hw4⟩ => ⟨he, ?_⟩
  have b6 : Below w.heap.size w w4 := by rw [hw4]; exact below_drewN (bthen13 b5 a3) m4
  refine (skew13_yes 2 7 (by decide) (by decide) w4 (hC.below b6)).mono fun e w5 ⟨he, hw5⟩ => ⟨?_, by rw [hw5]; exact b6⟩
  rw [he, show we (7 / 2 ^ 2) = 1 by decide]
  rfl
set_option maxHeartbeats 4000000 in
set_option maxRecDepth 100000 in
theorem awake13 (w : World) (hC : Cant w) (hT : Tzt w) :
    Calls Tryd.prog 13 #[] w fun e w' => e = .returned (.bool true) ∧ Below w.heap.size w w' := by
  have c1 := awake_first w hC hT
  clear hC hT
  go_enter Tryd.func13, Tryd.ntmps13
  go_wp2_with (first | (go_at_call 16; ((with_reducible refine (c1).mono ?_); (rintro e w1 ⟨rfl, c2⟩))) | (go_at_call 22; first | ((with_reducible refine (c2).mono ?_); (rintro e w2 ⟨rfl, c3⟩)) | ((with_reducible refine (c4).mono ?_); (rintro e w4 ⟨rfl, c5⟩))) | (go_at_call 12; ((with_reducible refine (c3).mono ?_); (rintro e w3 ⟨rfl, c4⟩))) | (go_at_call 18; ((with_reducible refine (c5).mono ?_); (rintro e w5 ⟨rfl, HB⟩))))
  go_ret
  exact ⟨rfl, HB.out⟩
end Go.Proofs.YtoofoamondepoaaDoor
