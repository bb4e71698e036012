import Derived.Test.YtefolifecbhgoaaGreatMbby
namespace Go.Proofs.YtefolifecbhgoaaGreat
open Go.RowKit Gf2
set_option linter.unusedVariables false


theorem calls0_17 {fn : Nat} {A : Array Value} {w : World} {Q : Ending → World → Prop} (h : Calls Tryz.prog fn A (w.drewN 0) Q) : Calls Tryz.prog fn A w Q := h
theorem Gb17.le6 {w0 w1 w3 w4 w5 w6 w : World} {c : Nat} {Fp : Nat → Prop} {f : Int} {k m b l N : Nat} {L : List (Nat × Ent)} (h : Gb17 w0 w1 w3 w4 w5 w6 w c Fp f k m b l N L) : w6.heap.size ≤ w.heap.size := by
  obtain ⟨C, B, T, C', B', T', hx, hy, hxy⟩ := h.xy
  exact hy.hw
set_option maxHeartbeats 4000000 in
set_option maxRecDepth 100000 in
theorem again17 (w0 : World) (c : Nat) (Fp : Nat → Prop) (f : Int) (k m b l N : Nat) (L : List (Nat × Ent)) (va : Option Addr) (vn vc : Nat) (S : Nat → Nat → Nat) (hC : Cd w0 c Fp f k m b N L) (hS : Lb w0 (.slice va vn vc) (k + m) (fun _ => l) S) (hb : Bn17 k m l) (hf : f = 0 ∨ f = 1) (hci : Ci17 f k m L) (hN : N ≤ 1000000000000000000) :
    Calls Tryz.prog 13 #[.pointer (some ⟨c, 0, none⟩), .slice va vn vc, .int .i64 (k : Int), .int .i64 (m : Int)] w0 fun e w' => e = .returned (.bool true) ∧ Ag17 w0 w' c Fp f k m b N := by
  have c1 := again_a17 hC hS hb
  have HI : Hid (Bn17 k m l ∧ (f = 0 ∨ f = 1) ∧ Ci17 f k m L ∧ N ≤ 1000000000000000000 ∧ ∀ x, Fp x → x < w0.heap.size) := ⟨hb, hf, hci, hN, hC.lt17⟩
  clear hC hS hb hf hci hN
  obtain ⟨km, hkm⟩ : ∃ km, km = k + m := ⟨_, rfl⟩
  have HKm : Hid (km = k + m) := hkm
  rw [← hkm] at c1
  clear hkm
  go_enter Tryz.func13, Tryz.ntmps13
  go_wp2_with (first
    | (go_at_call 10; (with_reducible refine c1.mono ?_); rintro e w1 ⟨rfl, c2⟩; clear c1)
    | (go_at_call 11; (with_reducible refine c2.mono ?_); rintro e w2 ⟨rfl, c3⟩; clear c2)
    | (go_at_call 11; (with_reducible refine c3.mono ?_); rintro e w3 ⟨rfl, c4⟩; clear c3)
    | (go_at_call 10; (with_reducible refine c4.mono ?_); rintro e w4 ⟨rfl, hA⟩; clear c4; have HA : Hid _ := hA; clear hA))
  go_loopw [11, 12] (fun s11 _ wr => ∃ i : Nat, i ≤ k ∧ s11 = .int .i64 i ∧ Ga17 w0 w1 w3 w4 wr c Fp f k m b l N L ∧ w4.heap.size ≤ wr.heap.size) (fun s11 _ _ => k - (intOf s11).toNat)
  case atStart => exact ⟨0, Nat.zero_le _, rfl, HA.out, Nat.le_refl _⟩
  case round =>
    obtain ⟨i, hi, rfl, hG, hz⟩ := hrel
    clear HA
    by_cases hlt : i < k
    · have ik : ((i : Nat) : Int) < (k : Int) := by omega
      have HQ : Hid (Ga17 w0 w1 w3 w4 wr c Fp f k m b l N L ∧ w4.heap.size ≤ wr.heap.size) := ⟨hG, hz⟩
      clear hG hz
      go_wp2
      go_loopw [12] (fun s12 wq => ∃ t : Nat, t ≤ l ∧ s12 = .int .i64 t ∧ Ga17 w0 w1 w3 w4 wq c Fp f k m b l N L ∧ w4.heap.size ≤ wq.heap.size) (fun s12 _ => l - (intOf s12).toNat)
      case atStart => exact ⟨0, Nat.zero_le _, rfl, HQ.out.1, HQ.out.2⟩
      case round =>
        obtain ⟨t, ht, rfl, hG, hz⟩ := hrel
        clear HQ
        have HX : Hid (i < k ∧ k ≤ 20 ∧ l ≤ 60) := ⟨hlt, HI.out.1.2.1, HI.out.1.2.2.2.2.2⟩
        obtain ⟨g, cc, q1, hq⟩ := hG.at_ HI.out.2.2.2.2 (i := i) (by omega)
        have ikm : ((i : Nat) : Int) < (km : Int) := by have := HKm.out; omega
        have ikn : i < km := by have := HKm.out; omega
        by_cases htl : t < l
        · have tl : ((t : Nat) : Int) < (l : Int) := by omega
          obtain ⟨z, hz256, q2, q3, hput⟩ := hq t htl
          obtain ⟨y, hy⟩ : ∃ y, y = i + 1 := ⟨_, rfl⟩
          have y256 : y < 256 := by rw [hy]; exact Nat.lt_of_le_of_lt (Nat.succ_le_of_lt (Nat.lt_of_lt_of_le HX.out.1 HX.out.2.1)) (by decide)
          have Wy : IntKind.u8.wrap ((i : Int) + 1) = (y : Int) := by rw [IntKind.wrap_u8]; have := HX.out; omega
          have Wz : wrap64 ((i : Int) + 1) = (y : Int) := by unfold wrap64; have := HX.out; omega
          have X1 := u8_xor_nat z y hz256 y256
          have HE : Hid (Ga17 w0 w1 w3 w4 (wr.setCell ⟨g, t, none⟩ (.int .u8 ((z ^^^ y : Nat) : Int))) c Fp f k m b l N L ∧ w4.heap.size ≤ (wr.setCell ⟨g, t, none⟩ (.int .u8 ((z ^^^ y : Nat) : Int))).heap.size) := by
            have h1 := hput (z ^^^ y) (Nat.xor_lt_two_pow (n := 8) hz256 y256)
            exact ⟨h1.1, by rw [h1.2]; exact hz⟩
          have HT : Hid (t < l) := htl
          have W1 := wrap_succ8 (j := t) (by have := HX.out; unfold big; omega)
          clear hput hq hG hz hz256 hy ht
          go_wp2
          go_roundw
          case rel => exact ⟨t + 1, HT.out, by first | rfl | (rw [W1]; rfl), by first | exact HE.out.1 | (rw [X1]; exact HE.out.1), by first | exact HE.out.2 | (rw [X1]; exact HE.out.2)⟩
          case measure => first | exact meas_lt8 HT.out | (rw [W1]; exact meas_lt8 HT.out)
        · have tl : ¬ ((t : Nat) : Int) < (l : Int) := by omega
          have HE : Hid (Ga17 w0 w1 w3 w4 wr c Fp f k m b l N L ∧ w4.heap.size ≤ wr.heap.size) := ⟨hG, hz⟩
          have W1 := wrap_succ8 (j := i) (by have := HX.out; unfold big; omega)
          clear hq hG hz ht
          go_wp2
          go_roundw
          case rel => exact ⟨i + 1, HX.out.1, by first | rfl | (rw [W1]; rfl), HE.out.1, HE.out.2⟩
          case measure => first | exact meas_lt8 HX.out.1 | (rw [W1]; exact meas_lt8 HX.out.1)
    · obtain rfl : i = k := by omega
      have ik : ¬ ((i : Nat) : Int) < (i : Int) := by omega
      have c5 := again_b17 hG hz HI.out.2.2.2.2 HI.out.1
      rw [← HKm.out] at c5
      clear hG hz hi hlt
      generalize wr = w5 at c5 ⊢
      have hmk := make_rows i (by have := HI.out.1.2.1; omega)
      have i0 : (0 : Int) < (i : Int) := by have := HI.out.1.1; omega
      have i1 : ((i : Nat) : Int) < (km : Int) := by have := HKm.out; have := HI.out.1.2.2.1; omega
      have i2 : i < km := by have := HKm.out; have := HI.out.1.2.2.1; omega
      have i3 : 0 < i := HI.out.1.1
      go_wp2_with (first
        | (go_at_call 10; (with_reducible refine c5.mono ?_); rintro e w6 ⟨rfl, c6⟩; clear c5)
        | (go_at_call 11; (with_reducible refine c6.mono ?_); rintro e w7 ⟨rfl, c7⟩; clear c6)
        | (go_at_call 11; (with_reducible refine c7.mono ?_); rintro e w8 ⟨rfl, hB⟩; clear c7; have c8 := calls0_17 (hB.like HI.out.1 0); rw [← HKm.out] at c8; have HB : Hid _ := hB; clear hB)
        | (go_at_call 12; (with_reducible refine c8.mono ?_); rintro e w9 ⟨rfl, hb9⟩; clear c8; have HB9 : Hid _ := HB.out.below hb9; clear HB hb9; obtain ⟨gk, ck, w11, g, cf, qk, hrun, qf0, qff, hN12⟩ := again_c17 HB9.out HB9.out.le6 HI.out.2.2.2.2 HI.out.1 _ rfl; have hz10 : (w9.alloc (.cells (madeCells #[.slice none 0 0] i) 27)).heap.size = w9.heap.size + 1 := (by simp); rw [hz10] at hrun; obtain ⟨w12, hw12⟩ : ∃ w12, w11.setCell ⟨w9.heap.size, 0, none⟩ (.slice (some ⟨g, 0, none⟩) l cf) = w12 := ⟨_, rfl⟩; have c10 := hN12 w12 hw12; rw [← HKm.out] at c10; have HX12 : Hid (w11.setCell ⟨w9.heap.size, 0, none⟩ (.slice (some ⟨g, 0, none⟩) l cf) = w12) := hw12; clear hN12 hz10 hw12)
        | (at_builtin; refine Lib.wpList_append_run _ rfl _ _ _ _ rfl _ _ rfl rfl _ _ hrun ?_; clear hrun qk hmk)
        | (go_at_call 23; rw [HX12.out]; (with_reducible refine c10.mono ?_); rintro e w13 ⟨rfl, c11⟩; clear c10 HX12 qf0 qff)
        | (go_at_call 23; (with_reducible refine c11.mono ?_); rintro e w14 ⟨rfl, hB, F, hFr⟩; clear c11; have c12 := calls0_17 (hB.like HI.out.1 0); rw [← HKm.out] at c12; have HB : Hid _ := hB; clear hB; have HFr : Hid _ := hFr; clear hFr)
        | (go_at_call 12; (with_reducible refine c12.mono ?_); rintro e w15 ⟨rfl, hb9⟩; clear c12; have HB15 : Hid _ := And.intro (HB.out.below hb9) (HFr.out.below hb9); have HB6 : Hid _ := HB9.out.le6; clear HB hb9 HFr HB9))
      go_loopw [15] (fun s15 wr => ∃ t : Nat, t ≤ l ∧ s15 = .int .i64 t ∧ Gb17 w0 w1 w3 w4 w5 w6 wr c Fp f i m b l N L ∧ ∃ F, Fr17 wr w9.heap.size g cf i l F) (fun s15 _ => l - (intOf s15).toNat)
      case atStart => exact ⟨0, Nat.zero_le _, rfl, HB15.out.1, _, HB15.out.2⟩
      case round =>
        obtain ⟨t, ht, rfl, hG, F, hFr⟩ := hrel
        clear HB15
        have HX : Hid (l ≤ 60) := HI.out.1.2.2.2.2.2
        obtain ⟨q1, hq⟩ := Fr17.at_ hG hFr HB6.out HI.out.2.2.2.2 HI.out.1.1
        by_cases htl : t < l
        · have tl : ((t : Nat) : Int) < (l : Int) := by omega
          obtain ⟨z, hz256, q2, q3, hput⟩ := hq t htl
          have X1 : bits .xor .u8 (z : Int) 77 = ((z ^^^ 77 : Nat) : Int) := u8_xor_nat z 77 hz256 (by decide)
          have HE : Hid _ := hput (z ^^^ 77) (Nat.xor_lt_two_pow (n := 8) hz256 (by decide))
          have HT : Hid (t < l) := htl
          have W1 := wrap_succ8 (j := t) (by have := HX.out; unfold big; omega)
          clear hput hq hG hFr hz256 ht
          go_wp2
          go_roundw
          case rel => exact ⟨t + 1, HT.out, by first | rfl | (rw [W1]; rfl), by first | exact HE.out.1 | (rw [X1]; exact HE.out.1), by first | exact HE.out.2 | (rw [X1]; exact HE.out.2)⟩
          case measure => first | exact meas_lt8 HT.out | (rw [W1]; exact meas_lt8 HT.out)
        · have tl : ¬ ((t : Nat) : Int) < (l : Int) := by omega
          have c13 := again_d17 hG HB6.out HI.out.2.2.2.2 HI.out.1 hFr
          rw [← HKm.out] at c13
          clear hq hG hFr ht
          go_wp2_with (first
            | (go_at_call 23; (with_reducible refine c13.mono ?_); rintro e w17 ⟨rfl, c14⟩; clear c13)
            | (go_at_call 10; (with_reducible refine c14.mono ?_); rintro e w18 ⟨rfl, c15⟩; clear c14)
            | (go_at_call 23; (with_reducible refine c15.mono ?_); rintro e w19 ⟨rfl, hB, -⟩; clear c15; have c16 := calls0_17 (hB.like HI.out.1 0); rw [← HKm.out] at c16; have HB : Hid _ := hB; clear hB)
            | (go_at_call 12; (with_reducible refine c16.mono ?_); rintro e w20 ⟨rfl, hb9⟩; clear c16; have HB20 : Hid _ := HB.out.below hb9; clear HB hb9; have c17 := again_e17 HB20.out HB20.out.le6 HI.out.2.2.2.2 HI.out.1 HI.out.2.1 HI.out.2.2.1 (Nat.le_trans HI.out.2.2.2.1 (by decide)); rw [← HKm.out] at c17)
            | (go_at_call 10; (with_reducible refine c17.mono ?_); rintro e w21 ⟨rfl, ⟨v0, qz0⟩, qzf, hN22⟩; clear c17; obtain ⟨w22, hw22⟩ : ∃ w22, w21.setCell ⟨w20.heap.size, 0, none⟩ (.slice none 0 0) = w22 := ⟨_, rfl⟩; have c18 := hN22 w22 hw22; have HX22 : Hid (w21.setCell ⟨w20.heap.size, 0, none⟩ (.slice none 0 0) = w22) := hw22; clear hN22 hw22)
            | (go_at_call 16; rw [HX22.out]; (with_reducible refine c18.mono ?_); rintro e w23 ⟨rfl, c19, B0, BZ, CZ, hE⟩; clear c18 HX22 qz0 qzf; have c19 := calls0_17 (c19 0); have HE : Hid _ := hE; clear hE)
            | (go_at_call 12; (with_reducible refine c19.mono ?_); rintro e w24 ⟨rfl, hb9⟩; clear c19; have HE24 : Hid _ := HE.out.below hb9; clear HE hb9; have qg : w24.cell? ⟨w20.heap.size, 0, none⟩ = some (sl17 B0 l) := (by obtain ⟨Z, hZ⟩ := HE24.out.ze; exact hZ.row.cell (Nat.lt_of_lt_of_le HI.out.1.1 (Nat.le_add_right _ _)))))
          clear tl q1 qg
          go_loopw [18, 19] (fun s18 _ wr => ∃ j : Nat, 1 ≤ j ∧ j ≤ km ∧ s18 = .int .i64 j ∧ Ge17 w0 w3 w4 wr c Fp f i m b l N w20.heap.size w21.heap.size B0 BZ CZ) (fun s18 _ _ => km - (intOf s18).toNat)
          case atStart => exact ⟨1, Nat.le_refl _, Nat.le_trans i3 (Nat.le_of_lt i2), rfl, HE24.out⟩
          case round =>
            obtain ⟨j, hj1, hj, rfl, hG⟩ := hrel
            clear HE24
            have HW2 : Hid (wrap64 ((i : Int) + (m : Int)) = (km : Int)) := by
              show wrap64 ((i : Int) + (m : Int)) = (km : Int)
              have a1 := HKm.out
              have a2 := HI.out.1.2.1
              have a3 := HI.out.1.2.2.2.1
              rw [a1]
              exact wrap_sum17 (by omega)
            by_cases hlt : j < km
            · have jk : ((j : Nat) : Int) < (km : Int) := by omega
              have HQ : Hid _ := hG
              have W2 := HW2.out
              have HJ : Hid (1 ≤ j ∧ j < km ∧ km ≤ 32) := ⟨hj1, hlt, by have a1 := HKm.out; have a2 := HI.out.1.2.1; have a3 := HI.out.1.2.2.2.1; omega⟩
              clear hG hj hj1
              go_wp2
              go_loopw [19] (fun s19 wq => ∃ t : Nat, t ≤ l ∧ s19 = .int .i64 t ∧ Ge17 w0 w3 w4 wq c Fp f i m b l N w20.heap.size w21.heap.size B0 BZ CZ) (fun s19 _ => l - (intOf s19).toNat)
              case atStart => exact ⟨0, Nat.zero_le _, rfl, HQ.out⟩
              case round =>
                obtain ⟨t, ht, rfl, hG⟩ := hrel
                clear HQ
                obtain ⟨q1, hq⟩ := hG.at_ HI.out.2.2.2.2 HJ.out.1 (by rw [← HKm.out]; exact HJ.out.2.1)
                by_cases htl : t < l
                · have tl : ((t : Nat) : Int) < (l : Int) := by omega
                  obtain ⟨z, hz256, q2, q3, hput⟩ := hq t htl
                  obtain ⟨y, hy⟩ : ∃ y, y = 3 * j + 1 := ⟨_, rfl⟩
                  have y256 : y < 256 := by have := HJ.out.2; omega
                  have Wy : IntKind.u8.wrap (3 * (j : Int) + 1) = (y : Int) := by rw [IntKind.wrap_u8]; omega
                  have Wv : wrap64 (3 * (j : Int)) = 3 * (j : Int) := by unfold wrap64; have := HJ.out.2; omega
                  have Wu : wrap64 (3 * (j : Int) + 1) = 3 * (j : Int) + 1 := by unfold wrap64; have := HJ.out.2; omega
                  have X1 := u8_xor_nat z y hz256 y256
                  have HE : Hid _ := hput (z ^^^ y) (Nat.xor_lt_two_pow (n := 8) hz256 y256)
                  have HT : Hid (t < l) := htl
                  have W1 := wrap_succ8 (j := t) (by have := HI.out.1.2.2.2.2.2; unfold big; omega)
                  clear hput hq hG hz256 hy ht y256 W2
                  go_wp2
                  go_roundw
                  case rel => exact ⟨t + 1, HT.out, by first | rfl | (rw [W1]; rfl), by first | exact HE.out | (rw [X1]; exact HE.out)⟩
                  case measure => first | exact meas_lt8 HT.out | (rw [W1]; exact meas_lt8 HT.out)
                · have tl : ¬ ((t : Nat) : Int) < (l : Int) := by omega
                  have HE : Hid _ := hG
                  have W1 := wrap_succ8 (j := j) (by have := HJ.out; unfold big; omega)
                  clear hq hG ht
                  go_wp2
                  go_roundw
                  case rel => exact ⟨j + 1, Nat.le_add_left _ _, HJ.out.2.1, by first | rfl | (rw [W1]; rfl), HE.out⟩
                  case measure => first | exact meas_lt8 HJ.out.2.1 | (rw [W1]; exact meas_lt8 HJ.out.2.1)
            · obtain rfl : j = km := by omega
              have jk : ¬ ((j : Nat) : Int) < (j : Int) := by omega
              have W2 := HW2.out
              have c20 := again_f17 hG HI.out.2.2.2.2 HI.out.1 HI.out.2.2.2.1
              rw [← HKm.out] at c20
              have j0 : (0 : Int) < (j : Int) := by omega
              have j0' : 0 < j := by omega
              clear hG hj hj1 hlt
              generalize wr = w25 at c20 ⊢
              go_wp2_with (first
                | (go_at_call 10; (with_reducible refine c20.mono ?_); rintro e w26 ⟨rfl, ⟨v0, qz0⟩, qzf, hN27⟩; clear c20; obtain ⟨w27, hw27⟩ : ∃ w27, w26.setCell ⟨w20.heap.size, 0, none⟩ (.slice none 0 0) = w27 := ⟨_, rfl⟩; obtain ⟨⟨v1, qy0⟩, qyf, hN28⟩ := hN27 w27 hw27; obtain ⟨w28, hw28⟩ : ∃ w28, w27.setCell ⟨w25.heap.size, 0, none⟩ (.slice none 0 0) = w28 := ⟨_, rfl⟩; have c21 := hN28 w28 hw28; rw [← hw27] at qy0 qyf hw28; have HX28 : Hid ((w26.setCell ⟨w20.heap.size, 0, none⟩ (.slice none 0 0)).setCell ⟨w25.heap.size, 0, none⟩ (.slice none 0 0) = w28) := hw28; clear hN27 hN28 hw27 hw28)
                | (go_at_call 16; rw [HX28.out]; (with_reducible refine c21.mono ?_); rintro e w29 ⟨rfl, c22⟩; clear c21 HX28 qz0 qzf qy0 qyf)
                | (go_at_call 16; (with_reducible refine c22.mono ?_); rintro e w30 ⟨rfl, c23, c24⟩; clear c22; have c23 := calls0_17 (c23 0); have HC24 : Hid _ := c24; clear c24)
                | (go_at_call 12; (with_reducible refine c23.mono ?_); rintro e w31 ⟨rfl, hb9⟩; clear c23; obtain ⟨g0, c0, qe, c25⟩ := HC24.out w31 hb9; have c25 := calls0_17 (c25 0); clear hb9 HC24)
                | (go_at_call 26; (with_reducible refine c25.mono ?_); rintro e w32 ⟨rfl, hA⟩; clear c25; have HA : Hid _ := hA; clear hA))
              go_ret
              exact ⟨rfl, HA.out⟩
end Go.Proofs.YtefolifecbhgoaaGreat
namespace Go.Proofs.YtefolifecbhgoaaGreat
open Go.RowKit Gf2
set_option linter.unusedVariables false


structure Zp17 (w : World) (g n l z1 : Nat) (P : Nat → Bool) (V : Nat → Value) (B C : Nat → Nat) (Z : Nat → Nat → Nat) : Prop where
  row : w.rowIs g 27 n V
  em : ∀ i, i < n → P i = true → ∃ a cc, V i = .slice a 0 cc ∧ cc ≤ big
  fu : ∀ i, i < n → P i = false → V i = .slice (some ⟨B i, 0, none⟩) l (C i)
  rows : ∀ i, i < n → g < B i ∧ B i < z1 ∧ l ≤ C i ∧ Rw w (B i) (C i) (Z i)
section
variable {w w' : World} {g n l z1 : Nat} {P Q : Nat → Bool} {V : Nat → Value} {B C : Nat → Nat} {Z : Nat → Nat → Nat}
theorem Zp17.keep {E : Nat → Prop} (h : Zp17 w g n l z1 P V B C Z) (hk : Ke E w w') (hE : ∀ x, g ≤ x → x < z1 → ¬ E x) (hz : g < z1) : Zp17 w' g n l z1 P V B C Z :=
  ⟨h.row.of_block (hk.2 _ h.row.lt (hE _ (Nat.le_refl _) hz)), h.em, h.fu, fun i hi => by
    obtain ⟨a1, a2, a3, a4⟩ := h.rows i hi
    exact ⟨a1, a2, a3, hk.rw_ a4 (hE _ (by omega) a2)⟩⟩
theorem Zp17.below (h : Zp17 w g n l z1 P V B C Z) (hb : Below w.heap.size w w') : Zp17 w' g n l z1 P V B C Z :=
  ⟨h.row.of_block (hb.block _ h.row.lt), h.em, h.fu, fun i hi => by
    obtain ⟨a1, a2, a3, a4⟩ := h.rows i hi
    exact ⟨a1, a2, a3, (ke_below hb (fun _ => False)).rw_ a4 id⟩⟩
theorem Zp17.congr (h : Zp17 w g n l z1 P V B C Z) (e : ∀ i, i < n → Q i = P i) : Zp17 w g n l z1 Q V B C Z :=
  ⟨h.row, fun i hi hq => h.em i hi (by rw [← e i hi]; exact hq), fun i hi hq => h.fu i hi (by rw [← e i hi]; exact hq), h.rows⟩
theorem Zp17.start {T : Nat → Nat → Nat} (h : Cs g z1 w (sl17 g n) n (fun _ => l) C B T) (hr : w.rowIs g 27 n (fun i => .slice (some ⟨B i, 0, none⟩) l (C i))) : Zp17 w g n l z1 (fun _ => false) (fun i => .slice (some ⟨B i, 0, none⟩) l (C i)) B C T :=
  ⟨hr, fun i hi e => (by cases e), fun i hi _ => rfl, fun i hi => by
    obtain ⟨a1, a2, a3, a4⟩ := h.row i hi
    have := h.ne hi
    exact ⟨by omega, a2, a3, a4⟩⟩
theorem Zp17.set (h : Zp17 w g n l z1 P V B C Z) {j cc : Nat} {a : Option Addr} (hc : cc ≤ big) : Zp17 (w.setCell ⟨g, j, none⟩ (.slice a 0 cc)) g n l z1 (fun i => P i || decide (i = j)) (fun i => if i = j then .slice a 0 cc else V i) B C Z := by
  have o : Only g w (w.setCell ⟨g, j, none⟩ (.slice a 0 cc)) := (Only.refl _ _).setCell _ _
  refine ⟨h.row.set j _, fun i hi hp => ?_, fun i hi hp => ?_, fun i hi => ?_⟩
  · by_cases e : i = j
    · exact ⟨a, cc, by show (if i = j then _ else _) = _; rw [if_pos e], hc⟩
    · have hp' : P i = true := by simpa [e] using hp
      obtain ⟨a1, c1, e1, e2⟩ := h.em i hi hp'
      exact ⟨a1, c1, by show (if i = j then _ else _) = _; rw [if_neg e]; exact e1, e2⟩
  · have hp' : P i = false ∧ i ≠ j := by simpa using hp
    show (if i = j then _ else _) = _
    rw [if_neg hp'.2]
    exact h.fu i hi hp'.1
  · obtain ⟨a1, a2, a3, a4⟩ := h.rows i hi
    exact ⟨a1, a2, a3, o.rw_ a4 (by omega)⟩
theorem empty_re17 {E : Nat → Prop} {a : Option Addr} {cc : Nat} (hc : cc ≤ big) (F : Nat → Nat) : Re E w (.slice a 0 cc) 0 F :=
  ⟨Nat.zero_le _, fun t ht => absurd ht (Nat.not_lt_zero _), _, _, rfl, Nat.zero_le _, hc, fun h0 => absurd h0 (Nat.lt_irrefl _)⟩
theorem Zp17.sh {Fp : Nat → Prop} (h : Zp17 w g n l z1 P V B C Z) (hn : n ≤ 1000) (hF : ∀ x, g ≤ x → x < z1 → ¬ Fp x) : Sh17 w (sl17 g n) g n n l P V Z Fp := by
  refine ⟨rfl, Nat.le_refl _, by unfold big; omega, ⟨_, h.row, fun _ _ => rfl⟩, fun i hi => ?_⟩
  cases hp : P i
  · rw [if_neg (by decide), h.fu i hi hp]
    obtain ⟨a1, a2, a3, a4⟩ := h.rows i hi
    exact a4.re a3 a3 a4.1 (fun e => e.elim (fun e => by omega) (hF _ (by omega) a2))
  · rw [if_pos rfl]
    obtain ⟨a, cc, e, hc⟩ := h.em i hi hp
    rw [e]
    exact empty_re17 hc _
theorem Zp17.lb (h : Zp17 w g n l z1 P V B C Z) (hn : n ≤ 1000) : Lb w (sl17 g n) n (fun i => if P i then 0 else l) Z := (h.sh (Fp := fun _ => False) hn (fun _ _ _ => id)).lb
end
theorem Lb.lens17 {w : World} {v : Value} {m : Nat} {n n' : Nat → Nat} {S : Nat → Nat → Nat} (h : Lb w v m n S) (e : ∀ i, i < m → n i = n' i) : Lb w v m n' S := by
  obtain ⟨V, h1, h2⟩ := h
  exact ⟨V, h1, fun i hi => by rw [← e i hi]; exact h2 i hi⟩
theorem giv_all17 {f : Int} {k m l : Nat} {T : Nat → Nat → Nat} {P : Nat → Bool} (hf : f = 0 ∨ f = 1) (hs : k + m ≤ 256) (hc : Cw17 f k m 0 l T) (hb : ∀ i, i < k → ∀ t, t < l → T i t < 256) (hP : (ems P (k + m)).length ≤ m) : ∀ i, i < k + m → ∀ t, t < l → giv17 f k m P T i t = T i t := fun i hi t ht => by
  unfold giv17
  cases hp : P i
  · rw [if_neg (by decide)]
  · rw [if_pos rfl]
    obtain ⟨e1, e2⟩ := eN_at hi hp
    have h1 := giv_cw17 hf hs (fun r hr => hc r hr t (Nat.zero_le _) ht) (fun i hi => hb i hi t ht) hP e1
    rw [e2] at h1
    exact h1
structure Bw17 (W w : World) (c : Nat) (f : Int) (k m b l g0 g1 M : Nat) : Prop where
  co : ∃ Fp N L, Cd w c Fp f k m b N L ∧ Ci17 f k m L ∧ N ≤ M ∧ (∀ x, Fp x → W.heap.size ≤ x ∧ (x < g0 ∨ g1 ≤ x))
  wh : ∃ C B T, Cs g0 g1 w (sl17 g0 (k + m)) (k + m) (fun _ => l) C B T ∧ Cw17 f k m 0 l T
  bel : Below W.heap.size W w
  sz : W.heap.size ≤ g0 ∧ g0 < g1
theorem Bw17.below {W w w' : World} {c : Nat} {f : Int} {k m b l g0 g1 M : Nat} (h : Bw17 W w c f k m b l g0 g1 M) (hb : Below w.heap.size w w') : Bw17 W w' c f k m b l g0 g1 M := by
  obtain ⟨Fp, N, L, h1, h2⟩ := h.co
  obtain ⟨C, B, T, h3, h4⟩ := h.wh
  exact ⟨⟨Fp, N, L, h1.below17 hb, h2⟩, ⟨C, B, T, h3.below hb, h4⟩, h.bel.trans (hb.mono h.bel.size), h.sz⟩
theorem recon_ll17 {w w' : World} {c ga a1 : Nat} {Fp E : Nat → Prop} {f : Int} {k m b l : Nat} {R : Nat → List (Nat × Ent) → Prop} {P : Nat → Bool} {V : Nat → Value} {B C : Nat → Nat} {Z : Nat → Nat → Nat} {B1 : Nat} {F : Nat → Value} {V1 : Nat → Value}
    (hb : Bn17 k m l) (ha : Zp17 w ga (k + m) l a1 P V B C Z) (hk : Ke (fun x => Fp x ∨ x = ga) w w') (nF : ∀ x, ga ≤ x → ¬ Fp x) (haz : ga < a1 ∧ a1 ≤ w.heap.size)
    (hr : w'.rowIs ga 27 (k + m) F) (hFv : ∀ i, i < k + m → F i = lst17 P V1 B1 l (ems P (k + m)).length i) (hV1 : ∀ i, i < k + m → w.cell? ⟨ga, i, none⟩ = some (V1 i)) (hB1 : w.heap.size ≤ B1)
    (hnew : ∀ r, r < (ems P (k + m)).length → Rw w' (B1 + r) l (fun j => ks (dec17 f k m P r) (fun a => Z (eN (fun i => !P i) (k + m) a)) k j) ∧ ¬ E (B1 + r)) (hE : ∀ x, ga ≤ x → x < a1 → ¬ E x) :
    Ll E w' (sl17 ga (k + m)) (k + m) (fun _ => l) (giv17 f k m P Z) := by
  obtain ⟨k1, k2, m1, m2, l1, l2⟩ := hb
  refine ⟨F, ⟨by unfold big; omega, _, _, rfl, Nat.le_refl _, by unfold big; omega, fun _ => ⟨_, _, rfl, ⟨hr.lt, hE _ (Nat.le_refl _) haz.1⟩, fun i hi => by rw [Nat.zero_add]; exact hr.cell hi⟩⟩, fun i hi => ?_⟩
  rw [hFv i hi]
  have hVi : V1 i = V i := by
    have q1 := hV1 i hi
    rw [ha.row.cell hi] at q1
    injection q1 with q1
    exact q1.symm
  cases hp : P i
  · have e1 : lst17 P V1 B1 l (ems P (k + m)).length i = V1 i := if_neg (fun x => by rw [hp] at x; cases x.1)
    rw [e1, hVi, ha.fu i hi hp]
    obtain ⟨r1, r2, r3, r4⟩ := ha.rows i hi
    have hr2 := hk.rw_ r4 (fun e => e.elim (nF _ (by omega)) (fun e => by omega))
    exact (hr2.re r3 r3 hr2.1 (hE _ (by omega) r2)).congr (fun t ht => (if_neg (by rw [hp]; decide)).symm)
  · have hat := eN_at hi hp
    have e1 : lst17 P V1 B1 l (ems P (k + m)).length i = .slice (some ⟨B1 + (ems P i).length, 0, none⟩) l l := if_pos ⟨hp, hat.1⟩
    rw [e1]
    obtain ⟨n1, n2⟩ := hnew _ hat.1
    exact (n1.re (Nat.le_refl _) (Nat.le_refl _) n1.1 n2).congr (fun t ht => (if_pos hp).symm)
set_option maxHeartbeats 4000000 in
theorem back_b17 {W w : World} {c : Nat} {f : Int} {k m b l M g0 g1 ga a1 gb b1 gw q1 : Nat} {P : Nat → Bool} {Fp : Nat → Prop} {N : Nat} {L : List (Nat × Ent)} {C0 B0 : Nat → Nat} {T Za Zb Zw : Nat → Nat → Nat} {Va Vb Vw : Nat → Value} {Ba Ca Bb Cb Bq Cq : Nat → Nat}
    (hb : Bn17 k m l) (hf : f = 0 ∨ f = 1) (p1 : 1 ≤ (ems P (k + m)).length) (p2 : (ems P (k + m)).length ≤ m) (hM : M ≤ 1000000000000000000)
    (hC : Cd w c Fp f k m b N L) (hci : Ci17 f k m L) (hN : N ≤ M) (hFp : ∀ x, Fp x → W.heap.size ≤ x ∧ (x < g0 ∨ g1 ≤ x)) (hlo : ∀ x, Fp x → x < ga)
    (hw : Cs g0 g1 w (sl17 g0 (k + m)) (k + m) (fun _ => l) C0 B0 T) (hcw : Cw17 f k m 0 l T) (hbel : Below W.heap.size W w) (hz : W.heap.size ≤ g0 ∧ g0 < g1 ∧ g1 ≤ ga ∧ ga < a1 ∧ a1 ≤ gb ∧ gb < b1 ∧ b1 ≤ gw ∧ gw < q1 ∧ q1 ≤ w.heap.size)
    (ha : Zp17 w ga (k + m) l a1 P Va Ba Ca Za) (hae : ∀ i, i < k + m → ∀ t, t < l → Za i t = T i t)
    (hbz : Zp17 w gb (k + m) l b1 P Vb Bb Cb Zb) (hbe : ∀ i, i < k + m → ∀ t, t < l → Zb i t = T i t)
    (hq : Zp17 w gw (k + m) l q1 (fun i => P i && decide (k ≤ i)) Vw Bq Cq Zw) (hqe : ∀ i, i < k + m → ∀ t, t < l → Zw i t = T i t) :
    Calls Tryz.prog 16 #[.pointer (some ⟨c, 0, none⟩), sl17 ga (k + m)] w fun e x1 => e = .returned (.int .i64 0) ∧
    Calls Tryz.prog 12 #[sl17 ga (k + m), sl17 g0 (k + m)] x1 fun e x2 => e = .returned (.bool true) ∧
    Calls Tryz.prog 17 #[.pointer (some ⟨c, 0, none⟩), sl17 gb (k + m)] x2 fun e x3 => e = .returned (.int .i64 0) ∧
    Calls Tryz.prog 12 #[sl17 gb (k + m), sl17 gw (k + m)] x3 fun e x4 => e = .returned (.bool true) ∧
    Calls Tryz.prog 18 #[.pointer (some ⟨c, 0, none⟩), sl17 ga (k + m)] x4 fun e x5 => e = .returned (.tuple #[.bool true, .int .i64 0]) ∧ Bw17 W x5 c f k m b l g0 g1 (M + 512) := by
  have hbn := hb
  obtain ⟨k1, k2, m1, m2, l1, l2⟩ := hb
  obtain ⟨FT, p, lo, hi, rows, t, hC⟩ := hC
  have hT256 : ∀ i, i < k + m → ∀ t, t < l → T i t < 256 := fun i hi t ht => hw.lt_ hi (by have : l ≤ C0 i := (hw.row i hi).2.2.1; omega)
  have nF : ∀ x, ga ≤ x → ¬ Fp x := fun x a e => by have := hlo x e; omega
  have cwa : Cw17 f k m 0 l Za := cw_congr17 hcw hae
  have cwb : Cw17 f k m 0 l Zb := cw_congr17 hcw hbe
  refine (Reconstruct17_any (fun N' L' => N' ≤ N + 256 ∧ Ci17 f k m L') hC (ha.sh (by omega) (fun x a b => nF x a)) (nF _ (Nat.le_refl _)) l1 (by omega) p1 p2 (fun w1 u hb hk => plan17_any (hC.below hb) P p1 p2 u hk hci (by omega))).mono ?_
  rintro e x1 ⟨rfl, hR⟩
  refine ⟨rfl, ?_⟩
  have hk1 := hR.ke
  have s1 := hk1.size
  obtain ⟨Fp1, N1, L1, hC1, hF1, hNL1, ⟨-, hga1⟩, B1, F1, cap1, V1, ev1, hr1, hFv1, hV1, hB1, hnew1⟩ := hR.co
  -- the list a, whole again
  have hal : Lb x1 (sl17 ga (k + m)) (k + m) (fun _ => l) T := (hR.lb.lens17 (n' := fun _ => l) (fun i hi => if_neg (by omega))).congr (fun i hi t ht => (giv_all17 hf (by omega) cwa (fun i hi t ht => by rw [hae i (by omega) t ht]; exact hT256 i (by omega) t ht) p2 i hi t ht).trans (hae i hi t ht))
  have E1 : ∀ x, g0 ≤ x → x < g1 → ¬ (Fp x ∨ x = ga) := fun x a b e => by
    rcases e with e | e
    · have := hFp x e; omega
    · omega
  have hw1 := hw.keep hk1 E1
  refine (alike17 _ _ (k + m) _ T x1 hal hw1.lb (by omega) (fun _ _ => by show l ≤ _; omega)).mono ?_
  rintro e x2 ⟨rfl, q, rfl⟩
  refine ⟨rfl, ?_⟩
  obtain ⟨FT1, p1', lo1, hi1, rows1, t1, hC1⟩ := hC1
  have d12 : Below x1.heap.size x1 (x1.drewN q) := below_drewN (Below.refl _ x1) q
  have hbz1 := (hbz.keep hk1 (fun x a b e => by
    rcases e with e | e
    · exact nF x (by omega) e
    · omega) (by omega)).below d12
  have hq1 := (hq.keep hk1 (fun x a b e => by
    rcases e with e | e
    · exact nF x (by omega) e
    · omega) (by omega)).below d12
  have nF1 : ∀ x, gb ≤ x → x < w.heap.size → ¬ Fp1 x := fun x a b e => by
    rcases hF1 x e with e | e
    · exact nF x (by omega) e
    · omega
  have hC2 := hC1.below d12
  refine (ReconData17_any (fun N' L' => N' ≤ N1 + 256 ∧ Ci17 f k m L') hC2 (hbz1.sh (by omega) (fun x a b => nF1 x a (by omega))) (nF1 _ (Nat.le_refl _) (by omega)) l1 (by omega) p1 p2 (fun w1 u hb hk => plan17_any (hC2.below hb) P p1 p2 u hk hNL1.2 (by omega))).mono ?_
  rintro e x3 ⟨rfl, hR3⟩
  refine ⟨rfl, ?_⟩
  have hk3 := hR3.ke
  have s3 := hk3.size
  have s2 : (x1.drewN q).heap.size = x1.heap.size := rfl
  obtain ⟨Fp3, N3, L3, hC3, hF3, hNL3, -, -⟩ := hR3.co
  have hq3 := hq1.keep hk3 (fun x a b e => by
    rcases e with e | e
    · exact nF1 x (by omega) (by omega) e
    · omega) (by omega)
  have hbl : Lb x3 (sl17 gb (k + m)) (k + m) (fun i => if (P i && decide (k ≤ i)) = true then 0 else l) T := (hR3.lb.lens17 (fun i hi => by
    by_cases e : P i = true ∧ k ≤ i
    · rw [if_pos e, if_pos (by rw [e.1, decide_eq_true e.2]; rfl)]
    · rw [if_neg e, if_neg (fun x => e (by simpa using x))])).congr (fun i hi t ht => by
      have hl : t < l := by
        by_cases e : (P i && decide (k ≤ i)) = true
        · rw [if_pos e] at ht; omega
        · rw [if_neg e] at ht; exact ht
      exact (giv_all17 hf (by omega) cwb (fun i hi t ht => by rw [hbe i (by omega) t ht]; exact hT256 i (by omega) t ht) p2 i hi t hl).trans (hbe i hi t hl))
  have hql := (hq3.lb (by omega)).congr (fun i hi t ht => hqe i hi t (by
    by_cases e : (P i && decide (k ≤ i)) = true
    · rw [if_pos e] at ht; omega
    · rw [if_neg e] at ht; exact ht))
  refine (alike17 _ _ (k + m) _ T x3 hbl hql (by omega) (fun i _ => by show (if _ then 0 else l) ≤ _; split <;> omega)).mono ?_
  rintro e x4 ⟨rfl, q', rfl⟩
  refine ⟨rfl, ?_⟩
  have d34 : Below x3.heap.size x3 (x3.drewN q') := below_drewN (Below.refl _ x3) q'
  -- the list a stands
  have hal4 : Lb (x3.drewN q') (sl17 ga (k + m)) (k + m) (fun _ => l) T := by
    have ecap : k + m = cap1 := by injection ev1
    subst ecap
    have h1 : Ll (fun x => Fp1 x ∨ x = gb) x1 (sl17 ga (k + m)) (k + m) (fun _ => l) (giv17 f k m P Za) := recon_ll17 (R := fun _ _ => True) (c := c) (b := b) hbn ha hk1 nF (by omega) hr1 hFv1 hV1 hB1 (fun r hr => ⟨(hnew1 r hr).1, fun e => e.elim (hnew1 r hr).2 (fun e => by omega)⟩) (fun x a b e => by
      rcases e with e | e
      · rcases hF1 x e with e | e
        · exact nF x a e
        · omega
      · omega)
    have h2 := (h1.ke (ke_below d12 _)).ke hk3
    have h3 := (h2.ke (ke_below d34 _)).lb
    exact h3.congr (fun i hi t ht => (giv_all17 hf (by omega) cwa (fun i hi t ht => by rw [hae i (by omega) t ht]; exact hT256 i (by omega) t ht) p2 i hi t ht).trans (hae i hi t ht))
  obtain ⟨FT3, p3, lo3, hi3, rows3, t3, hC3⟩ := hC3
  have hw3 := (hw1.below d12).keep hk3 (fun x a b e => by
    rcases e with e | e
    · rcases hF1 x e with e | e
      · have := hFp x e; omega
      · omega
    · omega)
  refine (Verify17 (hC3.below d34) hal4 l1 (by omega)).mono ?_
  rintro e x5 ⟨bo, rfl, hV⟩
  have hbo : bo = true := hV.yes.2 hcw
  subst hbo
  have b5 := d34.trans (hV.bel.mono d34.size)
  refine ⟨rfl, ⟨Fp3, N3, L3, ⟨_, _, _, _, _, _, hC3.below b5⟩, hNL3.2, by omega, fun x e => ?_⟩, ⟨_, _, _, hw3.below b5, hcw⟩, ?_, hz.1, hz.2.1⟩
  · rcases hF3 x e with e | e
    · rcases hF1 x e with e | e
      · exact hFp x e
      · exact ⟨by omega, .inr (by omega)⟩
    · exact ⟨by omega, .inr (by omega)⟩
  · have bb1 := hbel.trans (hk1.below (B := W.heap.size) (fun x e => by
      rcases e with e | e
      · exact (hFp x e).1
      · omega) hbel.size)
    have bb2 := bb1.trans (d12.mono bb1.size)
    have bb3 := bb2.trans (hk3.below (B := W.heap.size) (fun x e => by
      rcases e with e | e
      · rcases hF1 x e with e | e
        · exact (hFp x e).1
        · omega
      · omega) bb2.size)
    exact bb3.trans (b5.mono bb3.size)
end Go.Proofs.YtefolifecbhgoaaGreat
namespace Go.Proofs.YtefolifecbhgoaaGreat
open Go.RowKit Gf2
set_option linter.unusedVariables false


theorem cut_head17 {w : World} {lo hi g k m l : Nat} {C B : Nat → Nat} {S : Nat → Nat → Nat} (h : Cs lo hi w (sl17 g (k + m)) (k + m) (fun _ => l) C B S) (hk : 1 ≤ k) : Lb w (.slice (some ⟨g, 0, none⟩) k (k + m)) k (fun _ => l) S := h.lb.head17 (by omega)
set_option maxHeartbeats 2000000 in
theorem back_a17 {W x w1 w2 : World} {c : Nat} {f : Int} {k m b l : Nat} {da : Option Addr} {dn dc : Nat} {D : Nat → Nat} (hb0 : Below W.heap.size W x) (hD : Rb W (.slice da dn dc) dn D) (hdn : dn ≤ 140737488351232)
    (hb : Bn17 k m l) (hf : f = 0 ∨ f = 1) (hl : l = cul17 dn k) (hM : Md17 x w1 c f k m b) (b12 : Below w1.heap.size w1 w2) :
    Calls Tryz.prog 9 #[.slice da dn dc, .int .i64 (k : Int), .int .i64 (m : Int), .int .i64 60] w2 fun e w3 => e = .returned (sl17 w2.heap.size (k + m)) ∧
    Calls Tryz.prog 10 #[sl17 w2.heap.size (k + m)] w3 fun e w4 => e = .returned (sl17 w3.heap.size (k + m)) ∧
    Calls Tryz.prog 11 #[.pointer (some ⟨c, 0, none⟩), sl17 w2.heap.size (k + m)] w4.drew fun e w5 => e = .returned (.int .i64 0) ∧
    Calls Tryz.prog 12 #[.slice (some ⟨w2.heap.size, 0, none⟩) k (k + m), .slice (some ⟨w3.heap.size, 0, none⟩) k (k + m)] w5 fun e w6 => e = .returned (.bool true) ∧
    Calls Tryz.prog 13 #[.pointer (some ⟨c, 0, none⟩), sl17 w2.heap.size (k + m), .int .i64 (k : Int), .int .i64 (m : Int)] w6 fun e w7 => e = .returned (.bool true) ∧
    Calls Tryz.prog 10 #[sl17 w2.heap.size (k + m)] w7 fun e w8 => e = .returned (sl17 w7.heap.size (k + m)) ∧ Bw17 W w8 c f k m b l w7.heap.size w8.heap.size 768 := by
  have hbn := hb
  obtain ⟨k1, k2, m1, m2, l1, l2⟩ := hb
  obtain ⟨⟨Fp, ⟨FT, p, lo, hi, rows, t, hC⟩, hFp⟩, b1⟩ := hM
  have bW1 := hb0.trans (b1.mono hb0.size)
  have bW2 := bW1.trans (b12.mono bW1.size)
  refine (cut17 (.slice da dn dc) dn k m D w2 (hD.below bW2) k1 (by omega) hdn).mono ?_
  rintro e w3 ⟨rfl, hT⟩
  refine ⟨rfl, ?_⟩
  rw [← hl] at hT
  have hs := hT.cs (by unfold big; omega)
  have hz0 := hb0.size
  have hz12 := b12.size
  have bW3 := bW2.trans (hT.bel.mono bW2.size)
  have hC3 := (hC.below b12).below hT.bel
  refine (copied17 _ (k + m) (fun _ => l) _ w3 hs.lb (by omega) (fun _ _ => by show l ≤ _; omega)).mono ?_
  rintro e w4 ⟨rfl, hQ⟩
  refine ⟨rfl, ?_⟩
  obtain ⟨Cd', Bd, Td, hd, hde, -⟩ := hQ.cs
  have hQb := hQ.bel.drew
  have bW4 := bW3.trans (hQb.mono bW3.size)
  have hs4 := hs.below hQb
  have px := pb_in17 hs4
  have dx : ∀ x, Pb17 k m (fun i => w2.heap.size + 1 + i) x → ¬ Fp x := fun x e h => by have := px x e; have := hFp x h; omega
  have hslt := hs.lts17 (by omega)
  have h34 := hQ.bel.size
  refine (Encode17 (hC3.below hQb) hs4 dx l1).mono ?_
  rintro e w5 ⟨rfl, hE⟩
  refine ⟨rfl, ?_⟩
  have hC5 := (hC3.below hQb).ke hE.ke dx
  have bW5 := bW4.trans (hE.ke.below (B := W.heap.size) (fun x e => by have := px x e; have := bW2.size; omega) bW4.size)
  have hd5 := hd.drew.keep hE.ke (fun x a b e => by have := px x e; have := hs.hw; omega)
  refine (alike17 _ _ k _ _ w5 (cut_head17 hE.cs k1) ((cut_head17 hd5 k1).congr (fun i hi t ht => ?_)) (by omega) (fun _ _ => by show l ≤ _; omega)).mono ?_
  · rw [hde i (by omega) t ht]
    exact (if_neg (by omega)).symm
  rintro e w6 ⟨rfl, q, rfl⟩
  refine ⟨rfl, ?_⟩
  have d56 : Below w5.heap.size w5 (w5.drewN q) := below_drewN (Below.refl _ w5) q
  have bW6 := bW5.trans (d56.mono bW5.size)
  have hs6 := hE.cs.below d56
  refine (again17 (w5.drewN q) c Fp f k m b l 0 [] _ _ _ _ ⟨_, _, _, _, _, _, hC5.below d56⟩ hs6.lb hbn hf (fun b x e => by cases e) (by omega)).mono ?_
  rintro e w7 ⟨rfl, hA⟩
  refine ⟨rfl, ?_⟩
  obtain ⟨Fp', N', L', hC7, hF7, hN7, hci⟩ := hA.co
  have hs7 := hs6.keep hA.ke (fun x a b e => by have := hFp x e; omega)
  have bW7 := bW6.trans (hA.ke.below (B := W.heap.size) (fun x e => by have := hFp x e; omega) bW6.size)
  refine (copied17 _ (k + m) (fun _ => l) _ w7 hs7.lb (by omega) (fun _ _ => by show l ≤ _; omega)).mono ?_
  rintro e w8 ⟨rfl, hQ8⟩
  obtain ⟨C8, B8, T8, h8, h8e, -⟩ := hQ8.cs
  have hlt7 := hC7.lt17
  refine ⟨rfl, ⟨Fp', N', L', hC7.below17 hQ8.bel, hci, by omega, fun x e => ⟨?_, .inl (hlt7 x e)⟩⟩, ⟨_, _, _, h8, cw_congr17 enc_cw17 h8e⟩, bW7.trans (hQ8.bel.mono bW7.size), bW7.size, h8.lts17 (by omega)⟩
  rcases hF7 x e with e | e
  · have := hFp x e; omega
  · have := bW6.size; omega
structure Bp17 (W w w1 w2 w3 w4 wr : World) (c : Nat) (f : Int) (k m b l g0 g1 M : Nat) (P : Nat → Bool) (j : Nat) : Prop where
  co : ∃ Fp N L, Cd wr c Fp f k m b N L ∧ Ci17 f k m L ∧ N ≤ M ∧ (∀ x, Fp x → W.heap.size ≤ x ∧ (x < g0 ∨ g1 ≤ x)) ∧ ∀ x, Fp x → x < w.heap.size
  wh : ∃ C B T, Cs g0 g1 wr (sl17 g0 (k + m)) (k + m) (fun _ => l) C B T ∧ Cw17 f k m 0 l T ∧
    (∃ V B C Z, Zp17 wr w1.heap.size (k + m) l w2.heap.size (fun i => P i && decide (i < j)) V B C Z ∧ ∀ i, i < k + m → ∀ t, t < l → Z i t = T i t) ∧
    (∃ V B C Z, Zp17 wr w2.heap.size (k + m) l w3.heap.size (fun i => P i && decide (i < j)) V B C Z ∧ ∀ i, i < k + m → ∀ t, t < l → Z i t = T i t) ∧
    (∃ V B C Z, Zp17 wr w3.heap.size (k + m) l w4.heap.size (fun i => (P i && decide (k ≤ i)) && decide (i < j)) V B C Z ∧ ∀ i, i < k + m → ∀ t, t < l → Z i t = T i t)
  out : wr.rowIs w.heap.size 4 (k + m) (fun i => .bool (P i))
  bel : Below W.heap.size W wr
  sz : W.heap.size ≤ g0 ∧ g0 < g1 ∧ g1 ≤ w.heap.size ∧ w.heap.size < w1.heap.size ∧ w1.heap.size < w2.heap.size ∧ w2.heap.size < w3.heap.size ∧ w3.heap.size < w4.heap.size ∧ w4.heap.size ≤ wr.heap.size
set_option maxHeartbeats 2000000 in
theorem back_p17 {W w : World} {c : Nat} {f : Int} {k m b l g0 g1 M cp : Nat} {pa : Option Addr} {pn pc : Nat} {G : Nat → Int} (h : Bw17 W w c f k m b l g0 g1 M) (hb : Bn17 k m l) (hG : Qi w (.slice pa pn pc) pn G) (hcp : cp ≤ k + m) :
    Calls Tryz.prog 14 #[.int .i64 ((k + m : Nat) : Int), .int .i64 (cp : Int), .slice pa pn pc] w fun e w1 => e = .returned (sl17 w.heap.size (k + m)) ∧
    Calls Tryz.prog 10 #[sl17 g0 (k + m)] w1 fun e w2 => e = .returned (sl17 w1.heap.size (k + m)) ∧
    Calls Tryz.prog 10 #[sl17 g0 (k + m)] w2 fun e w3 => e = .returned (sl17 w2.heap.size (k + m)) ∧
    Calls Tryz.prog 10 #[sl17 g0 (k + m)] w3 fun e w4 => e = .returned (sl17 w3.heap.size (k + m)) ∧ Bp17 W w w1 w2 w3 w4 w4 c f k m b l g0 g1 M (pk17 (k + m) (pg17 pn G) cp) 0 := by
  obtain ⟨k1, k2, m1, m2, l1, l2⟩ := hb
  obtain ⟨Fp, N, L, hC, hci, hN, hFp⟩ := h.co
  obtain ⟨C, B, T, hw, hcw⟩ := h.wh
  have hlt := hC.lt17
  have hsz := h.sz
  have hww := hw.hw
  refine (pick17 (k + m) cp pn G (.slice pa pn pc) w hG (by omega) (by omega) hcp).mono ?_
  rintro e w1 ⟨rfl, hp, b1⟩
  refine ⟨rfl, ?_⟩
  have hplt := hp.lt
  refine (copied17 _ (k + m) (fun _ => l) _ w1 (hw.below b1).lb (by omega) (fun _ _ => by show l ≤ _; omega)).mono ?_
  rintro e w2 ⟨rfl, hQ2⟩
  refine ⟨rfl, ?_⟩
  obtain ⟨Ca, Ba, Ta, ha, hae, har⟩ := hQ2.cs
  refine (copied17 _ (k + m) (fun _ => l) _ w2 ((hw.below b1).below hQ2.bel).lb (by omega) (fun _ _ => by show l ≤ _; omega)).mono ?_
  rintro e w3 ⟨rfl, hQ3⟩
  refine ⟨rfl, ?_⟩
  obtain ⟨Cb, Bb, Tb, hbb, hbe, hbr⟩ := hQ3.cs
  refine (copied17 _ (k + m) (fun _ => l) _ w3 (((hw.below b1).below hQ2.bel).below hQ3.bel).lb (by omega) (fun _ _ => by show l ≤ _; omega)).mono ?_
  rintro e w4 ⟨rfl, hQ4⟩
  obtain ⟨Cq, Bq, Tq, hq, hqe, hqr⟩ := hQ4.cs
  have b14 : Below w1.heap.size w1 w4 := (hQ2.bel.trans (hQ3.bel.mono hQ2.bel.size)).trans (hQ4.bel.mono (Nat.le_trans hQ2.bel.size hQ3.bel.size))
  have b04 := b1.trans (b14.mono b1.size)
  have no : ∀ (P : Nat → Bool) i, (P i && decide (i < 0)) = false := fun P i => by simp
  refine ⟨rfl, ⟨Fp, N, L, hC.below17 b04, hci, hN, hFp, hlt⟩, ⟨C, B, T, hw.below b04, hcw, ⟨_, _, _, _, (((Zp17.start ha har).below hQ3.bel).below hQ4.bel).congr (fun i _ => no _ i), hae⟩, ⟨_, _, _, _, ((Zp17.start hbb hbr).below hQ4.bel).congr (fun i _ => no _ i), hbe⟩, ⟨_, _, _, _, (Zp17.start hq hqr).congr (fun i _ => by simp), hqe⟩⟩, hp.of_block (b14.block _ hplt), h.bel.trans (b04.mono h.bel.size), hsz.1, hsz.2, hww, hplt, ha.lts17 (by omega), hbb.lts17 (by omega), hq.lts17 (by omega), Nat.le_refl _⟩
end Go.Proofs.YtefolifecbhgoaaGreat
namespace Go.Proofs.YtefolifecbhgoaaGreat
open Go.RowKit Gf2
set_option linter.unusedVariables false


section
variable {W w w1 w2 w3 w4 wr : World} {c : Nat} {f : Int} {k m b l g0 g1 M : Nat} {P : Nat → Bool} {j : Nat}
theorem lt_step17 {i j : Nat} {p : Bool} (h : i ≠ j) : (p && decide (i < j + 1)) = (p && decide (i < j)) := by
  have : (i < j + 1) ↔ (i < j) := by omega
  rw [decide_eq_decide.2 this]
theorem Bp17.pass (h : Bp17 W w w1 w2 w3 w4 wr c f k m b l g0 g1 M P j) (hp : P j = false) : Bp17 W w w1 w2 w3 w4 wr c f k m b l g0 g1 M P (j + 1) := by
  obtain ⟨C, B, T, hw, hcw, ⟨Va, Ba, Ca, Za, ha, hae⟩, ⟨Vb, Bb, Cb, Zb, hb, hbe⟩, ⟨Vw, Bw, Cw, Zw, hq, hqe⟩⟩ := h.wh
  have e1 : ∀ i, (P i && decide (i < j + 1)) = (P i && decide (i < j)) := fun i => by
    by_cases e : i = j
    · rw [e, hp]; rfl
    · exact lt_step17 e
  have e2 : ∀ i, ((P i && decide (k ≤ i)) && decide (i < j + 1)) = ((P i && decide (k ≤ i)) && decide (i < j)) := fun i => by
    by_cases e : i = j
    · rw [e, hp]; rfl
    · exact lt_step17 e
  exact ⟨h.co, ⟨C, B, T, hw, hcw, ⟨Va, Ba, Ca, Za, ha.congr (fun i _ => e1 i), hae⟩, ⟨Vb, Bb, Cb, Zb, hb.congr (fun i _ => e1 i), hbe⟩, ⟨Vw, Bw, Cw, Zw, hq.congr (fun i _ => e2 i), hqe⟩⟩, h.out, h.bel, h.sz⟩
abbrev nilS : Value := .slice none 0 0
set_option maxHeartbeats 2000000 in
theorem Bp17.hit (h : Bp17 W w w1 w2 w3 w4 wr c f k m b l g0 g1 M P j) (hj : j < k + m) (hp : P j = true) :
    (∃ v, wr.cell? ⟨w1.heap.size, j, none⟩ = some v) ∧ wr.frozen? ⟨w1.heap.size, j, none⟩ = false ∧
    (∃ v, ((wr.setCell ⟨w1.heap.size, j, none⟩ nilS).alloc (.cells #[] 5)).cell? ⟨w2.heap.size, j, none⟩ = some v) ∧ ((wr.setCell ⟨w1.heap.size, j, none⟩ nilS).alloc (.cells #[] 5)).frozen? ⟨w2.heap.size, j, none⟩ = false ∧
    (j < k → Bp17 W w w1 w2 w3 w4 (((wr.setCell ⟨w1.heap.size, j, none⟩ nilS).alloc (.cells #[] 5)).setCell ⟨w2.heap.size, j, none⟩ (.slice (some ⟨wr.heap.size, 0, none⟩) 0 0)) c f k m b l g0 g1 M P (j + 1)) ∧
    (k ≤ j → (∃ v, (((wr.setCell ⟨w1.heap.size, j, none⟩ nilS).alloc (.cells #[] 5)).setCell ⟨w2.heap.size, j, none⟩ (.slice (some ⟨wr.heap.size, 0, none⟩) 0 0)).cell? ⟨w3.heap.size, j, none⟩ = some v) ∧
      (((wr.setCell ⟨w1.heap.size, j, none⟩ nilS).alloc (.cells #[] 5)).setCell ⟨w2.heap.size, j, none⟩ (.slice (some ⟨wr.heap.size, 0, none⟩) 0 0)).frozen? ⟨w3.heap.size, j, none⟩ = false ∧
      Bp17 W w w1 w2 w3 w4 ((((wr.setCell ⟨w1.heap.size, j, none⟩ nilS).alloc (.cells #[] 5)).setCell ⟨w2.heap.size, j, none⟩ (.slice (some ⟨wr.heap.size, 0, none⟩) 0 0)).setCell ⟨w3.heap.size, j, none⟩ nilS) c f k m b l g0 g1 M P (j + 1)) := by
  obtain ⟨C, B, T, hw, hcw, ⟨Va, Ba, Ca, Za, ha, hae⟩, ⟨Vb, Bb, Cb, Zb, hb, hbe⟩, ⟨Vw, Bw, Cw, Zw, hq, hqe⟩⟩ := h.wh
  have hs := h.sz
  obtain ⟨x1, hx1⟩ : ∃ x1, wr.setCell ⟨w1.heap.size, j, none⟩ nilS = x1 := ⟨_, rfl⟩
  obtain ⟨x2, hx2⟩ : ∃ x2, x1.alloc (.cells #[] 5) = x2 := ⟨_, rfl⟩
  obtain ⟨x3, hx3⟩ : ∃ x3, x2.setCell ⟨w2.heap.size, j, none⟩ (.slice (some ⟨wr.heap.size, 0, none⟩) 0 0) = x3 := ⟨_, rfl⟩
  obtain ⟨x4, hx4⟩ : ∃ x4, x3.setCell ⟨w3.heap.size, j, none⟩ nilS = x4 := ⟨_, rfl⟩
  rw [hx1, hx2, hx3, hx4]
  have o1 : Only w1.heap.size wr x1 := by rw [← hx1]; exact (Only.refl _ _).setCell _ _
  have b2 : Below x1.heap.size x1 x2 := by rw [← hx2]; exact (Below.refl _ _).alloc (Nat.le_refl _) _
  have o3 : Only w2.heap.size x2 x3 := by rw [← hx3]; exact (Only.refl _ _).setCell _ _
  have o4 : Only w3.heap.size x3 x4 := by rw [← hx4]; exact (Only.refl _ _).setCell _ _
  have k1 : Ke (fun x => x = w1.heap.size) wr x2 := o1.kp.ke.trans (ke_below b2 _)
  have k3 : Ke (fun x => x = w2.heap.size) x2 x3 := o3.kp.ke
  have k4 : Ke (fun x => x = w3.heap.size) x3 x4 := o4.kp.ke
  have k13 : Ke (fun x => x = w1.heap.size ∨ x = w2.heap.size ∨ x = w3.heap.size) wr x3 := (k1.mono (fun x _ e => .inl e)).trans (k3.mono (fun x _ e => .inr (.inl e)))
  have k14 := k13.trans (k4.mono (fun x _ e => .inr (.inr e)))
  have big0 : 0 ≤ big := Nat.zero_le _
  have hb2 := hb.keep k1 (fun x a b e => by omega) (by omega)
  have hq3 := (hq.keep k1 (fun x a b e => by omega) (by omega)).keep k3 (fun x a b e => by omega) (by omega)
  have e1 : ∀ i, (P i && decide (i < j + 1)) = ((P i && decide (i < j)) || decide (i = j)) := fun i => by
    by_cases e : i = j
    · subst e; rw [hp]; simp
    · rw [lt_step17 e]; simp [e]
  obtain ⟨Vha2, ha2⟩ : ∃ V, Zp17 x2 w1.heap.size (k + m) l w2.heap.size (fun i => P i && decide (i < j + 1)) V Ba Ca Za := by
    have := ha.set (j := j) (a := none) big0
    rw [show (Value.slice none 0 0) = nilS from rfl, hx1] at this
    exact ⟨_, (this.below b2).congr (fun i _ => e1 i)⟩
  have ha3 := ha2.keep k3 (fun x a b e => by omega) (by omega)
  obtain ⟨Vhb3, hb3⟩ : ∃ V, Zp17 x3 w2.heap.size (k + m) l w3.heap.size (fun i => P i && decide (i < j + 1)) V Bb Cb Zb := by
    have := hb2.set (j := j) (a := some ⟨wr.heap.size, 0, none⟩) big0
    rw [hx3] at this
    exact ⟨_, this.congr (fun i _ => e1 i)⟩
  refine ⟨⟨_, ha.row.cell hj⟩, ha.row.frozen j, ⟨_, hb2.row.cell hj⟩, hb2.row.frozen j, fun hjk => ?_, fun hkj => ⟨⟨_, hq3.row.cell hj⟩, hq3.row.frozen j, ?_⟩⟩
  · have e2 : ∀ i, ((P i && decide (k ≤ i)) && decide (i < j + 1)) = ((P i && decide (k ≤ i)) && decide (i < j)) := fun i => by
      by_cases e : i = j
      · have : decide (k ≤ i) = false := decide_eq_false (by omega)
        rw [this]; simp
      · exact lt_step17 e
    obtain ⟨Fp, N, L, hC, hci, hN, hFp, hlt⟩ := h.co
    have hks := k13.size
    exact ⟨⟨Fp, N, L, hC.ke17 k13 (fun x e hx => by have := hlt x hx; omega), hci, hN, hFp, hlt⟩, ⟨C, B, T, hw.keep k13 (fun x a b e => by omega), hcw, ⟨_, _, _, _, ha3, hae⟩, ⟨_, _, _, _, hb3, hbe⟩, ⟨_, _, _, _, hq3.congr (fun i _ => e2 i), hqe⟩⟩, h.out.of_block (k13.2 _ h.out.lt (by omega)), h.bel.trans (k13.below (B := W.heap.size) (fun x e => by omega) h.bel.size), by omega⟩
  · have e2 : ∀ i, ((P i && decide (k ≤ i)) && decide (i < j + 1)) = (((P i && decide (k ≤ i)) && decide (i < j)) || decide (i = j)) := fun i => by
      by_cases e : i = j
      · subst e; rw [hp, decide_eq_true hkj]; simp
      · rw [lt_step17 e]; simp [e]
    obtain ⟨Vhq4, hq4⟩ : ∃ V, Zp17 x4 w3.heap.size (k + m) l w4.heap.size (fun i => (P i && decide (k ≤ i)) && decide (i < j + 1)) V Bw Cw Zw := by
      have := hq3.set (j := j) (a := none) big0
      rw [show (Value.slice none 0 0) = nilS from rfl, hx4] at this
      exact ⟨_, this.congr (fun i _ => e2 i)⟩
    obtain ⟨Fp, N, L, hC, hci, hN, hFp, hlt⟩ := h.co
    have hks := k14.size
    exact ⟨⟨Fp, N, L, hC.ke17 k14 (fun x e hx => by have := hlt x hx; omega), hci, hN, hFp, hlt⟩, ⟨C, B, T, hw.keep k14 (fun x a b e => by omega), hcw, ⟨_, _, _, _, ha3.keep k4 (fun x a b e => by omega) (by omega), hae⟩, ⟨_, _, _, _, hb3.keep k4 (fun x a b e => by omega) (by omega), hbe⟩, ⟨_, _, _, _, hq4, hqe⟩⟩, h.out.of_block (k14.2 _ h.out.lt (by omega)), h.bel.trans (k14.below (B := W.heap.size) (fun x e => by omega) h.bel.size), by omega⟩
theorem back_q17 (h : Bp17 W w w1 w2 w3 w4 wr c f k m b l g0 g1 M P (k + m)) (hb : Bn17 k m l) (hf : f = 0 ∨ f = 1) (p1 : 1 ≤ (ems P (k + m)).length) (p2 : (ems P (k + m)).length ≤ m) (hM : M ≤ 1000000000000000000) :
    Calls Tryz.prog 16 #[.pointer (some ⟨c, 0, none⟩), sl17 w1.heap.size (k + m)] wr fun e x1 => e = .returned (.int .i64 0) ∧
    Calls Tryz.prog 12 #[sl17 w1.heap.size (k + m), sl17 g0 (k + m)] x1 fun e x2 => e = .returned (.bool true) ∧
    Calls Tryz.prog 17 #[.pointer (some ⟨c, 0, none⟩), sl17 w2.heap.size (k + m)] x2 fun e x3 => e = .returned (.int .i64 0) ∧
    Calls Tryz.prog 12 #[sl17 w2.heap.size (k + m), sl17 w3.heap.size (k + m)] x3 fun e x4 => e = .returned (.bool true) ∧
    Calls Tryz.prog 18 #[.pointer (some ⟨c, 0, none⟩), sl17 w1.heap.size (k + m)] x4 fun e x5 => e = .returned (.tuple #[.bool true, .int .i64 0]) ∧ Bw17 W x5 c f k m b l g0 g1 (M + 512) := by
  obtain ⟨Fp, N, L, hC, hci, hN, hFp, hlt⟩ := h.co
  obtain ⟨C, B, T, hw, hcw, ⟨Va, Ba, Ca, Za, ha, hae⟩, ⟨Vb, Bb, Cb, Zb, hbb, hbe⟩, ⟨Vw, Bw, Cw, Zw, hq, hqe⟩⟩ := h.wh
  have hs := h.sz
  have e1 : ∀ (p : Bool) i, i < k + m → p = (p && decide (i < k + m)) := fun p i hi => by rw [decide_eq_true hi, Bool.and_true]
  exact back_b17 hb hf p1 p2 hM hC hci hN hFp (fun x e => by have := hlt x e; omega) hw hcw h.bel (by omega) (ha.congr (fun i hi => e1 _ i hi)) hae (hbb.congr (fun i hi => e1 _ i hi)) hbe (hq.congr (fun i hi => e1 _ i hi)) hqe
end
end Go.Proofs.YtefolifecbhgoaaGreat
namespace Go.Proofs.YtefolifecbhgoaaGreat
open Go.RowKit Gf2
set_option linter.unusedVariables false


structure Bx17 (W w w1 w2 w3 wr : World) (c : Nat) (f : Int) (k m b l g0 g1 M : Nat) (P : Nat → Bool) (j : Nat) : Prop where
  bw : Bw17 W wr c f k m b l g0 g1 M
  lo : ∃ Fp N L, Cd wr c Fp f k m b N L ∧ Ci17 f k m L ∧ N ≤ M ∧ (∀ x, Fp x → W.heap.size ≤ x ∧ (x < g0 ∨ g1 ≤ x)) ∧ ∀ x, Fp x → x < w.heap.size
  ls : ∃ T : Nat → Nat → Nat, (∃ V B C Z, Zp17 wr w1.heap.size (k + m) l w2.heap.size (fun i => P i && decide (i < j)) V B C Z ∧ ∀ i, i < k + m → ∀ t, t < l → Z i t = T i t) ∧
    (∃ V B C Z, Zp17 wr w2.heap.size (k + m) l w3.heap.size (fun i => P i && decide (i < j)) V B C Z ∧ ∀ i, i < k + m → ∀ t, t < l → Z i t = T i t)
  out : wr.rowIs w.heap.size 4 (k + m) (fun i => .bool (P i))
  sz : g1 ≤ w.heap.size ∧ w.heap.size < w1.heap.size ∧ w1.heap.size < w2.heap.size ∧ w2.heap.size < w3.heap.size ∧ w3.heap.size ≤ wr.heap.size
set_option maxHeartbeats 2000000 in
theorem back_s17 {W w : World} {c : Nat} {f : Int} {k m b l g0 g1 M cp : Nat} {pa : Option Addr} {pn pc : Nat} {G : Nat → Int} (h : Bw17 W w c f k m b l g0 g1 M) (hb : Bn17 k m l) (hG : Qi w (.slice pa pn pc) pn G) (hcp : cp ≤ k + m) :
    Calls Tryz.prog 14 #[.int .i64 ((k + m : Nat) : Int), .int .i64 (cp : Int), .slice pa pn pc] w fun e w1 => e = .returned (sl17 w.heap.size (k + m)) ∧
    Calls Tryz.prog 10 #[sl17 g0 (k + m)] w1 fun e w2 => e = .returned (sl17 w1.heap.size (k + m)) ∧
    Calls Tryz.prog 10 #[sl17 g0 (k + m)] w2 fun e w3 => e = .returned (sl17 w2.heap.size (k + m)) ∧ Bx17 W w w1 w2 w3 w3 c f k m b l g0 g1 M (pk17 (k + m) (pg17 pn G) cp) 0 := by
  obtain ⟨k1, k2, m1, m2, l1, l2⟩ := hb
  obtain ⟨Fp, N, L, hC, hci, hN, hFp⟩ := h.co
  obtain ⟨C, B, T, hw, hcw⟩ := h.wh
  have hlt := hC.lt17
  have hsz := h.sz
  have hww := hw.hw
  refine (pick17 (k + m) cp pn G (.slice pa pn pc) w hG (by omega) (by omega) hcp).mono ?_
  rintro e w1 ⟨rfl, hp, b1⟩
  refine ⟨rfl, ?_⟩
  have hplt := hp.lt
  refine (copied17 _ (k + m) (fun _ => l) _ w1 (hw.below b1).lb (by omega) (fun _ _ => by show l ≤ _; omega)).mono ?_
  rintro e w2 ⟨rfl, hQ2⟩
  refine ⟨rfl, ?_⟩
  obtain ⟨Ca, Ba, Ta, ha, hae, har⟩ := hQ2.cs
  refine (copied17 _ (k + m) (fun _ => l) _ w2 ((hw.below b1).below hQ2.bel).lb (by omega) (fun _ _ => by show l ≤ _; omega)).mono ?_
  rintro e w3 ⟨rfl, hQ3⟩
  obtain ⟨Cb, Bb, Tb, hbb, hbe, hbr⟩ := hQ3.cs
  have b13 : Below w1.heap.size w1 w3 := hQ2.bel.trans (hQ3.bel.mono hQ2.bel.size)
  have b03 := b1.trans (b13.mono b1.size)
  have no : ∀ (P : Nat → Bool) i, (P i && decide (i < 0)) = false := fun P i => by simp
  exact ⟨rfl, h.below b03, ⟨Fp, N, L, hC.below17 b03, hci, hN, hFp, hlt⟩, ⟨T, ⟨_, _, _, _, ((Zp17.start ha har).below hQ3.bel).congr (fun i _ => no _ i), hae⟩, ⟨_, _, _, _, (Zp17.start hbb hbr).congr (fun i _ => no _ i), hbe⟩⟩, hp.of_block (b13.block _ hplt), hww, hplt, ha.lts17 (by omega), hbb.lts17 (by omega), Nat.le_refl _⟩
section
variable {W w w1 w2 w3 wr : World} {c : Nat} {f : Int} {k m b l g0 g1 M : Nat} {P : Nat → Bool} {j : Nat}
theorem Bx17.pass (h : Bx17 W w w1 w2 w3 wr c f k m b l g0 g1 M P j) (hp : P j = false) : Bx17 W w w1 w2 w3 wr c f k m b l g0 g1 M P (j + 1) := by
  obtain ⟨T, ⟨Va, Ba, Ca, Za, ha, hae⟩, ⟨Vb, Bb, Cb, Zb, hb, hbe⟩⟩ := h.ls
  have e1 : ∀ i, (P i && decide (i < j + 1)) = (P i && decide (i < j)) := fun i => by
    by_cases e : i = j
    · rw [e, hp]; rfl
    · exact lt_step17 e
  exact ⟨h.bw, h.lo, ⟨T, ⟨Va, Ba, Ca, Za, ha.congr (fun i _ => e1 i), hae⟩, ⟨Vb, Bb, Cb, Zb, hb.congr (fun i _ => e1 i), hbe⟩⟩, h.out, h.sz⟩
theorem Bw17.ke {wr' : World} {E : Nat → Prop} (h : Bw17 W wr c f k m b l g0 g1 M) (h2 : ∃ Fp N L, Cd wr c Fp f k m b N L ∧ Ci17 f k m L ∧ N ≤ M ∧ (∀ x, Fp x → W.heap.size ≤ x ∧ (x < g0 ∨ g1 ≤ x)) ∧ ∀ x, Fp x → x < w.heap.size) (hk : Ke E wr wr') (hE : ∀ x, E x → w.heap.size < x) (hg : g1 ≤ w.heap.size) :
    Bw17 W wr' c f k m b l g0 g1 M ∧ ∃ Fp N L, Cd wr' c Fp f k m b N L ∧ Ci17 f k m L ∧ N ≤ M ∧ (∀ x, Fp x → W.heap.size ≤ x ∧ (x < g0 ∨ g1 ≤ x)) ∧ ∀ x, Fp x → x < w.heap.size := by
  obtain ⟨Fp, N, L, hC, hci, hN, hFp, hlt⟩ := h2
  obtain ⟨C, B, T, hw, hcw⟩ := h.wh
  have hs := h.sz
  have hC' := hC.ke17 hk (fun x e hx => by have := hlt x hx; have := hE x e; omega)
  exact ⟨⟨⟨Fp, N, L, hC', hci, hN, hFp⟩, ⟨C, B, T, hw.keep hk (fun x a b e => by have := hE x e; omega), hcw⟩, h.bel.trans (hk.below (B := W.heap.size) (fun x e => by have := hE x e; omega) h.bel.size), hs⟩, Fp, N, L, hC', hci, hN, hFp, hlt⟩
set_option maxHeartbeats 2000000 in
theorem Bx17.hit (h : Bx17 W w w1 w2 w3 wr c f k m b l g0 g1 M P j) (hj : j < k + m) (hp : P j = true) :
    (∃ v, wr.cell? ⟨w1.heap.size, j, none⟩ = some v) ∧ wr.frozen? ⟨w1.heap.size, j, none⟩ = false ∧
    (∃ v, (wr.setCell ⟨w1.heap.size, j, none⟩ nilS).cell? ⟨w2.heap.size, j, none⟩ = some v) ∧ (wr.setCell ⟨w1.heap.size, j, none⟩ nilS).frozen? ⟨w2.heap.size, j, none⟩ = false ∧
    Bx17 W w w1 w2 w3 ((wr.setCell ⟨w1.heap.size, j, none⟩ nilS).setCell ⟨w2.heap.size, j, none⟩ nilS) c f k m b l g0 g1 M P (j + 1) := by
  obtain ⟨T, ⟨Va, Ba, Ca, Za, ha, hae⟩, ⟨Vb, Bb, Cb, Zb, hb, hbe⟩⟩ := h.ls
  have hs := h.sz
  obtain ⟨x1, hx1⟩ : ∃ x1, wr.setCell ⟨w1.heap.size, j, none⟩ nilS = x1 := ⟨_, rfl⟩
  obtain ⟨x2, hx2⟩ : ∃ x2, x1.setCell ⟨w2.heap.size, j, none⟩ nilS = x2 := ⟨_, rfl⟩
  rw [hx1, hx2]
  have o1 : Only w1.heap.size wr x1 := by rw [← hx1]; exact (Only.refl _ _).setCell _ _
  have o2 : Only w2.heap.size x1 x2 := by rw [← hx2]; exact (Only.refl _ _).setCell _ _
  have k1 : Ke (fun x => x = w1.heap.size) wr x1 := o1.kp.ke
  have k2 : Ke (fun x => x = w2.heap.size) x1 x2 := o2.kp.ke
  have k12 : Ke (fun x => x = w1.heap.size ∨ x = w2.heap.size) wr x2 := (k1.mono (fun x _ e => .inl e)).trans (k2.mono (fun x _ e => .inr e))
  have hb1 := hb.keep k1 (fun x a b e => by omega) (by omega)
  have e1 : ∀ i, (P i && decide (i < j + 1)) = ((P i && decide (i < j)) || decide (i = j)) := fun i => by
    by_cases e : i = j
    · subst e; rw [hp]; simp
    · rw [lt_step17 e]; simp [e]
  obtain ⟨V2, ha2⟩ : ∃ V, Zp17 x2 w1.heap.size (k + m) l w2.heap.size (fun i => P i && decide (i < j + 1)) V Ba Ca Za := by
    have := ha.set (j := j) (a := none) (Nat.zero_le big)
    rw [show (Value.slice none 0 0) = nilS from rfl, hx1] at this
    exact ⟨_, (this.keep k2 (fun x a b e => by omega) (by omega)).congr (fun i _ => e1 i)⟩
  obtain ⟨V3, hb2⟩ : ∃ V, Zp17 x2 w2.heap.size (k + m) l w3.heap.size (fun i => P i && decide (i < j + 1)) V Bb Cb Zb := by
    have := hb1.set (j := j) (a := none) (Nat.zero_le big)
    rw [show (Value.slice none 0 0) = nilS from rfl, hx2] at this
    exact ⟨_, this.congr (fun i _ => e1 i)⟩
  obtain ⟨bw, lo⟩ := h.bw.ke h.lo k12 (fun x e => by omega) hs.1
  have hks := k12.size
  exact ⟨⟨_, ha.row.cell hj⟩, ha.row.frozen j, ⟨_, hb1.row.cell hj⟩, hb1.row.frozen j, bw, lo, ⟨T, ⟨_, _, _, _, ha2, hae⟩, ⟨_, _, _, _, hb2, hbe⟩⟩, h.out.of_block (k12.2 _ h.out.lt (by omega)), by omega⟩
set_option maxHeartbeats 2000000 in
theorem back_t17 (h : Bx17 W w w1 w2 w3 wr c f k m b l g0 g1 M P (k + m)) (hb : Bn17 k m l) (p1 : m < (ems P (k + m)).length) (p2 : (ems P (k + m)).length < k + m) :
    Calls Tryz.prog 16 #[.pointer (some ⟨c, 0, none⟩), sl17 w1.heap.size (k + m)] wr fun e x1 => e = .returned (.int .i64 9) ∧
    Calls Tryz.prog 17 #[.pointer (some ⟨c, 0, none⟩), sl17 w1.heap.size (k + m)] x1 fun e x2 => e = .returned (.int .i64 9) ∧
    Calls Tryz.prog 12 #[sl17 w1.heap.size (k + m), sl17 w2.heap.size (k + m)] x2 fun e x3 => e = .returned (.bool true) ∧ Bw17 W x3 c f k m b l g0 g1 M := by
  obtain ⟨k1, k2, m1, m2, l1, l2⟩ := hb
  obtain ⟨T, ⟨Va, Ba, Ca, Za, ha, hae⟩, ⟨Vb, Bb, Cb, Zb, hbb, hbe⟩⟩ := h.ls
  obtain ⟨Fp, N, L, ⟨FT, p, lo, hi, rows, t, hC⟩, -⟩ := h.lo
  have e1 : ∀ i, i < k + m → P i = (P i && decide (i < k + m)) := fun i hi => by rw [decide_eq_true hi, Bool.and_true]
  have hx := ((ha.congr e1).lb (by omega)).congr (T := T) (fun i hi t ht => hae i hi t (by
    cases hp : P i
    · rw [hp, if_neg (by decide)] at ht; exact ht
    · rw [hp, if_pos rfl] at ht; omega))
  have hy := ((hbb.congr e1).lb (by omega)).congr (T := T) (fun i hi t ht => hbe i hi t (by
    cases hp : P i
    · rw [hp, if_neg (by decide)] at ht; exact ht
    · rw [hp, if_pos rfl] at ht; omega))
  refine (Reconstruct17_few hC hx l1 p1 p2).mono ?_
  rintro e x1 ⟨rfl, b1⟩
  refine ⟨rfl, (ReconData17_few (hC.below b1) (hx.ke (ke_below b1 _)) l1 p1 p2).mono ?_⟩
  rintro e x2 ⟨rfl, b2⟩
  refine ⟨rfl, (alike17 _ _ (k + m) _ T x2 ((hx.ke (ke_below b1 _)).ke (ke_below b2 _)) ((hy.ke (ke_below b1 _)).ke (ke_below b2 _)) (by omega) (fun i _ => by show (if _ then 0 else l) ≤ _; split <;> omega)).mono ?_⟩
  rintro e x3 ⟨rfl, q, rfl⟩
  exact ⟨rfl, ((h.bw.below b1).below b2).below (below_drewN (Below.refl _ x2) q)⟩
end
end Go.Proofs.YtefolifecbhgoaaGreat
