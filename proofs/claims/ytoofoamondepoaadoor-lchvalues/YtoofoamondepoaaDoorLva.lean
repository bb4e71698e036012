import Derived.Test.YtoofoamondepoaaDoorLrc
namespace Go.Proofs.YtoofoamondepoaaDoor
open Go.RowKit Gf2
set_option linter.unusedVariables false

theorem vanish13_anyB (i : Int) (x : Nat) (hx : x < 65536) (w : World) (hC : Cant w) :
    Calls Tryd.prog 15 #[.int .i64 i, .int .u16 (x : Int)] w fun e w' => e = .returned (.tuple #[.int .u16 (vv i x : Nat), .int .i64 (ve i : Nat)]) ∧ w' = w := vanish13_any i x hx w hC
set_option maxHeartbeats 4000000 in
set_option maxRecDepth 100000 in
theorem values13 (k i j : Int) (x : Nat) (d : Option Addr) (n c : Nat) (w : World) (hx : x < 65536) (hC : Cant w) :
    Calls Tryd.prog 31 #[.agg #[.int .i64 k, .int .i64 i, .int .i64 j, .int .u16 (x : Int), .slice d n c]] w fun e w' => e = .returned (.bool true) ∧ Below w.heap.size w w' := by
  have a0 := below_alloc w (.cells #[.int .i64 k, .int .i64 i, .int .i64 j, .int .u16 (x : Int), .slice d n c] 55)
  have hA : Hid (Below w.heap.size w (w.alloc (.cells #[.int .i64 k, .int .i64 i, .int .i64 j, .int .u16 (x : Int), .slice d n c] 55))) := a0
  have C0 := hC.below a0
  by_cases h1 : k = 1
  · subst h1
    have c1 := vanish13_any i x hx _ C0
    have c2 := refVanish13 i x hx (w.alloc (.cells #[.int .i64 1, .int .i64 i, .int .i64 j, .int .u16 (x : Int), .slice d n c] 55))
    clear a0 C0 hC
    go_enter Tryd.func31, Tryd.ntmps31
    go_wp2_with (first | (go_at_call 15; ((with_reducible refine (c1).mono ?_); (rintro e w9 ⟨rfl, hw9⟩; have hw9 := hw9.symm; subst hw9))) | (go_at_call 40; ((with_reducible refine (c2).mono ?_); (rintro e w8 ⟨rfl, hb8⟩))))
    go_ret
    exact ⟨ret_bool (by simp), bthen13 hA.out hb8⟩
  · have T1 : (k == 1) = false := by simpa using h1
    by_cases h2 : k = 2
    · subst h2
      by_cases hi : 0 ≤ i ∧ i ≤ 16
      · obtain ⟨I, rfl⟩ := Int.eq_ofNat_of_zero_le hi.1
        have hI : I ≤ 16 := by omega
        have c1 : Calls Tryd.prog 16 #[.int .i64 (I : Int)] (w.alloc (.cells #[.int .i64 2, .int .i64 (I : Int), .int .i64 j, .int .u16 (x : Int), .slice d n c] 55)) fun e w1 => ∃ g1, e = .returned (.tuple #[.slice (some ⟨g1, 0, none⟩) (I + 1) (I + 1), .int .i64 0]) ∧
            (∀ W, Below w1.heap.size w1 W → W.cell? ⟨w.heap.size, 1, none⟩ = some (.int .i64 (I : Int))) ∧
            Calls Tryd.prog 41 #[.int .i64 (I : Int)] w1 fun e w2 => ∃ g2, e = .returned (.tuple #[.slice (some ⟨g2, 0, none⟩) (I + 1) (I + 1), .int .i64 0]) ∧
            Calls Tryd.prog 22 #[.slice (some ⟨g1, 0, none⟩) (I + 1) (I + 1), .slice (some ⟨g2, 0, none⟩) (I + 1) (I + 1)] w2 fun e w3 => e = .returned (.bool true) ∧ Hid (Below w.heap.size w w3) := by
          refine (linear13_yes I hI _).mono fun e w1 ⟨he, h1, b1⟩ => ⟨_, he, fun W hW => ?_, ?_⟩
          · have hb := bthen13 b1 hW
            rw [hb.cell (p := ⟨w.heap.size, 1, none⟩) (by simp), cell_of_row _ _ _ _ _ _ (heap_alloc_new _ _)]
            rfl
          refine (refLinear13_yes I hI w1).mono fun e w2 ⟨g2, he, h2, b2⟩ => ⟨g2, he, ?_⟩
          refine (same13_true _ _ (I + 1) (fun t => oc t I) w2 (h1.below b2).all h2.all).mono fun e w3 ⟨he, m, hw3⟩ => ⟨he, ?_⟩
          rw [hw3]
          exact below_drewN (bthen13 (bthen13 a0 b1) b2) m
        clear a0 C0 hC hA hi hI
        go_enter Tryd.func31, Tryd.ntmps31
        go_wp2_with (first | (go_at_call 16; ((with_reducible refine (c1).mono ?_); (rintro e w1 ⟨g1, rfl, hcell, c2⟩; have hc1 := hcell w1 (Below.refl _ _)))) | (go_at_call 41; ((with_reducible refine (c2).mono ?_); (rintro e w2 ⟨g2, rfl, c3⟩))) | (go_at_call 22; ((with_reducible refine (c3).mono ?_); (rintro e w3 ⟨rfl, HB⟩))))
        go_ret
        exact ⟨rfl, HB.out⟩
      · have c1 := fun w => linear13_no i hi w
        have c2 := fun w => refLinear13_no i hi w
        have c3 := fun w => same13_true (.slice none 0 0) (.slice none 0 0) 0 (fun _ => 0) w ⟨by decide, fun i hi => absurd hi (Nat.not_lt_zero _), none, 0, rfl, Nat.le_refl _, by decide, fun h => absurd h (Nat.lt_irrefl _)⟩ ⟨by decide, fun i hi => absurd hi (Nat.not_lt_zero _), none, 0, rfl, Nat.le_refl _, by decide, fun h => absurd h (Nat.lt_irrefl _)⟩
        clear a0 C0 hC hi
        go_enter Tryd.func31, Tryd.ntmps31
        go_wp2_with (first | (go_at_call 16; ((with_reducible refine (c1 _).mono ?_); (rintro e w9 ⟨rfl, hw9⟩; have hw9 := hw9.symm; subst hw9))) | (go_at_call 41; ((with_reducible refine (c2 _).mono ?_); (rintro e w8 ⟨rfl, hw8⟩; have hw8 := hw8.symm; subst hw8))) | (go_at_call 22; ((with_reducible refine (c3 _).mono ?_); (rintro e w3 ⟨rfl, m, hw3⟩; subst hw3))))
        go_ret
        exact ⟨rfl, below_drewN hA.out m⟩
    · have T2 : (k == 2) = false := by simpa using h2
      by_cases h3 : k = 3
      · subst h3
        have c1 := skew13_any i j _ C0
        have c2 := refSkew13 i j (w.alloc (.cells #[.int .i64 3, .int .i64 i, .int .i64 j, .int .u16 (x : Int), .slice d n c] 55))
        clear a0 C0 hC
        go_enter Tryd.func31, Tryd.ntmps31
        go_wp2_with (first | (go_at_call 18; ((with_reducible refine (c1).mono ?_); (rintro e w9 ⟨rfl, hw9⟩; have hw9 := hw9.symm; subst hw9))) | (go_at_call 42; ((with_reducible refine (c2).mono ?_); (rintro e w8 ⟨rfl, hb8⟩))))
        go_ret
        exact ⟨ret_bool (by simp), bthen13 hA.out hb8⟩
      · have T3 : (k == 3) = false := by simpa using h3
        have c1 : Calls Tryd.prog 43 #[.int .i64 j, .int .u16 (x : Int)] (w.alloc (.cells #[.int .i64 k, .int .i64 i, .int .i64 j, .int .u16 (x : Int), .slice d n c] 55)) fun e w1 => e = .returned (.tuple #[.int .u16 (bsn j x : Nat), .int .i64 (bse j : Nat)]) ∧
            w1.cell? ⟨w.heap.size, 2, none⟩ = some (.int .i64 j) ∧ w1.cell? ⟨w.heap.size, 3, none⟩ = some (.int .u16 (x : Int)) ∧
            Calls Tryd.prog 44 #[.int .i64 j, .int .u16 (x : Int)] w1 fun e w2 => e = .returned (.tuple #[.int .u16 (bsn j x : Nat), .int .i64 (bse j : Nat)]) ∧ Hid (Below w.heap.size w w2) := by
          refine (basis13 j x hx _ C0).mono fun e w1 ⟨he, b1⟩ => ⟨he, ?_, ?_, ?_⟩
          · rw [b1.cell (p := ⟨w.heap.size, 2, none⟩) (by simp), cell_of_row _ _ _ _ _ _ (heap_alloc_new _ _)]; rfl
          · rw [b1.cell (p := ⟨w.heap.size, 3, none⟩) (by simp), cell_of_row _ _ _ _ _ _ (heap_alloc_new _ _)]; rfl
          exact (refBasis13 j x hx w1).mono fun e w2 ⟨he, b2⟩ => ⟨he, bthen13 (bthen13 a0 b1) b2⟩
        clear a0 C0 hC h1 h2 h3
        go_enter Tryd.func31, Tryd.ntmps31
        go_wp2_with (first | (go_at_call 43; ((with_reducible refine (c1).mono ?_); (rintro e w1 ⟨rfl, y2, y3, c2⟩))) | (go_at_call 44; ((with_reducible refine (c2).mono ?_); (rintro e w2 ⟨rfl, HB⟩))))
        go_ret
        exact ⟨ret_bool (by simp), HB.out⟩
end Go.Proofs.YtoofoamondepoaaDoor
