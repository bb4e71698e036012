import Derived.Test.YtngmhlpdkbekgabSbd
import Derived.Test.YtngmhlpdkbekgabEbo
namespace Go.Proofs.Ytngmhlpdkbekgab
open Go.RowKit Gf2
set_option linter.unusedVariables false

set_option maxHeartbeats 4000000 in
set_option maxRecDepth 100000 in
theorem sturn_walk (c : Nat) (S : Nat → Nat) (w : World) (hc : c < 256) (hS : ∀ i, i < 64 → S i < 256) :
    Calls Try.prog 4 #[.int .u8 (c : Int), .agg (a64 S)] w fun e w' => e = .returned (.bool true) ∧ Below w.heap.size w w' := by
  obtain ⟨A, hA⟩ : ∃ A, A = a64 S := ⟨_, rfl⟩
  rw [← hA]
  have iA : (Try.prog.info? 34).map (·.size) = some A.size := by rw [hA, a64_size]; kernel_rfl
  have HA : Hid (A = a64 S ∧ c < 256 ∧ (∀ i, i < 64 → S i < 256)) := ⟨hA, hc, hS⟩
  have c1 := fun W => snew_any W
  clear hA hc hS
  go_enter Try.func4, Try.ntmps4
  go_wp2_with (first
    | (go_at_call 6; (with_reducible refine (c1 _).mono ?_); rintro e w1 ⟨p, rfl, hk, hb1⟩; have g0 : w1.heap[w.heap.size]? = some (.cells A 34 (0, 0)) := (hb1.block _ (by simp)).trans (heap_alloc_new w _); have rl : Rb w1 (.slice (some ⟨w.heap.size, 0, none⟩) 64 64) 64 S := a64_rb (by rw [← HA.out.1]; exact g0) HA.out.2.2; have b1 : Below w.heap.size w w1 := ((Below.refl _ _).alloc (Nat.le_refl _) _).trans (hb1.mono (by simp)); obtain ⟨w2, g, C, F, hrun, hC, hg, hgl, hR, hF, hb2⟩ := copy_app w1 rl (by decide); have H1 : Hid (Sk w1 p _ w1.heap.size ∧ Below w.heap.size w w1 ∧ 64 ≤ C ∧ w1.heap.size ≤ g ∧ Rw w2 g C F ∧ (∀ i, i < 64 → F i = S i) ∧ Below w1.heap.size w1 w2) := ⟨hk, b1, hC, hg, hR, hF, hb2⟩; have c2 := splanes_ok (.slice (some ⟨g, 0, none⟩) 64 C) S w2 (head7 hR hC hF); clear c1 hk hb1 g0 rl b1 hC hg hgl hR hF hb2)
    | (at_builtin; refine Lib.wpList_append_run _ rfl _ _ _ _ rfl _ _ rfl rfl _ _ hrun ?_; clear hrun)
    | (go_at_call 11; first
      | ((with_reducible refine c2.mono ?_); rintro e w3 ⟨bP, FP, rfl, lP, rP, eP, hb3⟩; have H2 : Hid (w2.heap.size ≤ bP ∧ Rv w3 bP pC FP ∧ (∀ i, i < 8 → FP i = pln S i 64) ∧ Below w2.heap.size w2 w3) := ⟨lP, rP, eP, hb3⟩; have c3 := sblock_ok (.slice (some ⟨bP, 0, none⟩) 8 pC) (fun i => pln S i 64) w3 (rP.rq (by decide) (by decide) (by decide) eP); clear c2 lP rP eP hb3)
      | ((with_reducible refine c6.mono ?_); rintro e w7 ⟨bQ, FQ, rfl, lQ, rQ, eQ, hb7⟩; have H5 : Hid (w6.heap.size ≤ bQ ∧ Rv w7 bQ pC FQ ∧ (∀ i, i < 8 → FQ i = pln (fun j => fm 285 c (S j)) i 64) ∧ Below w6.heap.size w6 w7) := ⟨lQ, rQ, eQ, hb7⟩; have c7 := scols_any c w7 HA.out.2.1; clear c6 lQ rQ eQ hb7))
    | (go_at_call 12; (with_reducible refine c3.mono ?_); rintro e w4 ⟨bB, FB, rfl, lB, rB, eB, hb4⟩; have eB' : ∀ i, i < 64 → FB i = S i := (fun i hi => (eB i hi).trans (pln_back hi (HA.out.2.2 i hi))); have H3 : Hid (w3.heap.size ≤ bB ∧ Rw w4 bB bC FB ∧ (∀ i, i < 64 → FB i = S i) ∧ Below w3.heap.size w3 w4) := ⟨lB, rB, eB', hb4⟩; have c4 := same7_true (.slice (some ⟨bB, 0, none⟩) 64 bC) (.slice (some ⟨g, 0, none⟩) 64 C) 64 S w4 (head7 rB (by decide) eB') (head7 (rw_below (rw_below H1.out.2.2.2.2.1 H2.out.2.2.2) hb4) H1.out.2.2.1 H1.out.2.2.2.2.2.1); clear c3 lB rB eB eB' hb4)
    | (go_at_call 9; (with_reducible refine c4.mono ?_); rintro e w5 ⟨rfl, m5, hw5⟩; have b5 : Below w4.heap.size w4 w5 := (by rw [hw5]; exact below_self _ _); have z1 := H1.out.2.2.2.2.2.2.size; have z2 := H2.out.2.2.2.size; have z3 := H1.out.2.2.2.2.1.lt; have z4 := H3.out.1; have b25 : Below w2.heap.size w2 w5 := (H2.out.2.2.2.trans (H3.out.2.2.2.mono z2)).trans (b5.mono (Nat.le_trans z2 H3.out.2.2.2.size)); have b15 : Below w1.heap.size w1 w5 := H1.out.2.2.2.2.2.2.trans (b25.mono z1); have c5 := smul_far p _ _ c 64 bB 0 bC FB S (some ⟨bB, 0, none⟩) (some ⟨g, 0, none⟩) bC C (by decide) (by have := H1.out.2.2.1; omega) w5 (sk_below H1.out.1 b15) HA.out.2.1 (by decide) (.inr (by omega)) (rw_below H3.out.2.1 b5) (fun _ => rfl) (by decide) (far7 (rw_below H1.out.2.2.2.2.1 b25) (by omega) (by have := H1.out.2.2.1; omega) (fun i hi => by rw [Nat.zero_add]; exact H1.out.2.2.2.2.2.1 i hi)); have H4 : Hid (Below w3.heap.size w3 w5 ∧ Below w1.heap.size w1 w5 ∧ w1.heap.size ≤ bB ∧ bP ≠ bB) := ⟨H3.out.2.2.2.trans (b5.mono H3.out.2.2.2.size), b15, by omega, by have := H2.out.2.1.2.2.lt; omega⟩; clear c4 hw5 b5 z1 z2 z3 z4 b25 b15)
    | (go_at_call 8; (with_reducible refine c5.mono ?_); rintro e w6 ⟨rfl, kp, rM⟩; have c6 := splanes_ok (.slice (some ⟨bB, 0, none⟩) 64 bC) (fun j => fm 285 c (S j)) w6 (head7 rM (by decide) (fun i hi => pl_head _ _ hi)); have H6 : Hid (Kp bB w5 w6 ∧ Rv w6 bP pC FP ∧ Below w.heap.size w w6) := ⟨kp, (H2.out.2.1.below H4.out.1).kp kp H4.out.2.2.2, (H1.out.2.1.trans (H4.out.2.1.mono H1.out.2.1.size)).trans (kp.below (Nat.le_trans H1.out.2.1.size H4.out.2.2.1) (Nat.le_trans H1.out.2.1.size H4.out.2.1.size))⟩; clear c5 kp rM)
    | (go_at_call 13; (with_reducible refine c7.mono ?_); rintro e w8 ⟨bK, FK, rfl, lK, rK, eK, hb8⟩; have k0 := rK.2.2.cell (i := 0) (by decide); rw [eK 0 (by decide), Nat.pow_zero, fld8.fm_one HA.out.2.1] at k0; have H7 : Hid ((∀ i, i < 8 → w8.cell? ⟨bP, i, none⟩ = some (.int .u64 (pln S i 64 : Nat))) ∧ (∀ i, i < 8 → w8.cell? ⟨bQ, i, none⟩ = some (.int .u64 (pln (fun j => fm 285 c (S j)) i 64 : Nat))) ∧ (∀ i, i < 8 → w8.cell? ⟨bK, i, none⟩ = some (.int .u8 (fm 285 c (2 ^ i) : Nat))) ∧ Below w.heap.size w w8) := ⟨fun i hi => (by rw [← H2.out.2.2.1 i hi]; exact ((H6.out.2.1.below H5.out.2.2.2).below hb8).2.2.cell (Nat.lt_of_lt_of_le hi (by decide))), fun i hi => (by rw [← H5.out.2.2.1 i hi]; exact (H5.out.2.1.below hb8).2.2.cell (Nat.lt_of_lt_of_le hi (by decide))), fun i hi => (by rw [← eK i hi]; exact rK.2.2.cell (Nat.lt_of_lt_of_le hi (by decide))), (H6.out.2.2.trans (H5.out.2.2.2.mono H6.out.2.2.size)).trans (hb8.mono (Nat.le_trans H6.out.2.2.size H5.out.2.2.2.size))⟩; clear c7 lK rK eK hb8))
  clear H1 H2 H3 H4 H5 H6 k0
  go_loopw [13] (fun bv wr => ∃ b : Nat, b ≤ 8 ∧ bv = .int .i64 b ∧ wr = w8) (fun bv _ => 8 - (intOf bv).toNat)
  case atStart => exact ⟨0, Nat.zero_le _, rfl, rfl⟩
  case round =>
    obtain ⟨b, hb, rfl, hw⟩ := hrel
    have hw := hw.symm
    subst hw
    by_cases hlt : b < 8
    · have i1 : ((b : Nat) : Int) < 8 := by omega
      go_wp2
      go_loopw [14, 15] (fun sv tv wr => ∃ t : Nat, t ≤ 8 ∧ tv = .int .i64 t ∧ sv = .int .u64 (cols c b (fun t => pln S t 64) t : Nat) ∧ wr = w8) (fun _ tv _ => 8 - (intOf tv).toNat)
      case atStart => exact ⟨0, Nat.zero_le _, rfl, rfl, rfl⟩
      case round =>
        obtain ⟨t, ht, rfl, rfl, hw⟩ := hrel
        have hw := hw.symm
        subst hw
        by_cases htl : t < 8
        · have i2 : ((t : Nat) : Int) < 8 := by omega
          have q1 := H7.out.2.2.1 t htl
          have q2 := H7.out.1 t htl
          have lk := fm8_lt c (2 ^ t)
          obtain ⟨x, hx⟩ : ∃ x, x = fm 285 c (2 ^ t) := ⟨_, rfl⟩
          rw [← hx] at q1 lk
          have A1 := u8_bit x b lk
          have st : cols c b (fun t => pln S t 64) (t + 1) = if x / 2 ^ b % 2 = 1 then cols c b (fun t => pln S t 64) t ^^^ pln S t 64 else cols c b (fun t => pln S t 64) t := by rw [hx]; rfl
          have l1 : cols c b (fun t => pln S t 64) t < 18446744073709551616 := cols_lt c b S t
          have l2 : pln S t 64 < 18446744073709551616 := pln_lt S t 64
          have X := u64_xor_nat _ _ l1 l2
          clear l1 l2
          obtain ⟨s0, hs0⟩ : ∃ s0, s0 = cols c b (fun t => pln S t 64) t := ⟨_, rfl⟩
          rw [← hs0] at st X
          rw [← hs0]
          by_cases hbit : x / 2 ^ b % 2 = 1
          · rw [hbit] at A1
            rw [if_pos hbit] at st
            have HT : Hid (cols c b (fun t => pln S t 64) (t + 1) = s0 ^^^ pln S t 64) := st
            clear st hbit hx lk hs0
            go_wp2
            go_roundw
            case rel => exact ⟨t + 1, by omega, by go_num, by rw [HT.out], trivial⟩
            case measure => simp [intOf]; omega
          · have h0 : x / 2 ^ b % 2 = 0 := by have := bit_lt x b; omega
            rw [h0] at A1
            rw [if_neg hbit] at st
            have HT : Hid (cols c b (fun t => pln S t 64) (t + 1) = s0) := st
            clear st hbit hx lk hs0 h0
            go_wp2
            go_roundw
            case rel => exact ⟨t + 1, by omega, by go_num, by rw [HT.out], trivial⟩
            case measure => simp [intOf]; omega
        · have ht8 : t = 8 := by omega
          subst ht8
          rw [show ((8 : Nat) : Int) = 8 from rfl]
          have q3 := H7.out.2.1 b hlt
          have E := cols_all (c := c) (b := b) HA.out.2.2
          rw [← E] at q3
          clear E
          go_wp2
          go_roundw
          case rel => exact ⟨b + 1, by omega, by go_num, trivial⟩
          case measure => simp [intOf]; omega
    · have hb8 : b = 8 := by omega
      subst hb8
      rw [show ((8 : Nat) : Int) = 8 from rfl]
      have cW : Calls Try.prog 10 #[.int .u8 1, .int .u64 72623859790382856] w8 fun e w' => e = .returned (.int .u64 72623859790382856) ∧ Below w8.heap.size w8 w' := by
        have h := sword_any 1 72623859790382856 w8 (by decide) (by decide)
        rw [show wdk 1 72623859790382856 8 = 72623859790382856 by decide +kernel] at h
        exact h
      go_wp2_with (go_at_call 10; (with_reducible refine cW.mono ?_); rintro e w9 ⟨rfl, hb9⟩)
      go_ret
      exact ⟨rfl, H7.out.2.2.2.trans (hb9.mono H7.out.2.2.2.size)⟩
theorem sturn_any {w : World} (c : Nat) (hc : c < 256) (S : Nat → Nat) (hS : ∀ i, i < 64 → S i < 256) :
    Calls Try.prog 4 #[.int .u8 (c : Int), .agg (a64 S)] w fun e w' => e = .returned (.bool true) ∧ Below w.heap.size w w' := sturn_walk c S w hc hS
end Go.Proofs.Ytngmhlpdkbekgab
