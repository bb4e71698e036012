import Derived.Test.YtemjodlhpelbaaaDoorAfftBackWalk
import Derived.Test.YtemjodlhpelbaaaDoorLeb
namespace Go.Proofs.YtemjodlhpelbaaaDoor
open Go.RowKit Gf2
set_option linter.unusedVariables false

theorem values_first (b o n cap : Nat) (a : Int) (F : Nat → Nat) (w : World) (h : Q6 w (.slice (some ⟨b, o, none⟩) n cap) n F) (h0 : 0 < n) (hcap : n ≤ cap) (hC : Cab w) (hT : Tzt w) :
    Calls Tryd.prog 9 #[] w fun e w1 => e = .returned (.bool true) ∧
    Calls Tryd.prog 10 #[.slice (some ⟨b, o, none⟩) n cap, .int .i64 64] w1 fun e w2 => ∃ k c : Nat, e = .returned (.slice (some ⟨b, o, none⟩) c cap) ∧ Hid (0 < c) ∧ (((c : Int) == 0) = false) ∧
    Calls Tryd.prog 11 #[.int .i64 a, .int .i64 (c : Int)] w2 fun e w3 => ∃ s : Nat, e = .returned (.int .i64 (s : Int)) ∧
    Calls Tryd.prog 13 #[.slice (some ⟨b, o, none⟩) c cap, .int .i64 (s : Int)] w3 fun e w4 => e = .returned (.tuple #[.slice (some ⟨w3.heap.size, 0, none⟩) c c, .int .i64 0]) ∧
      Hid (Below w.heap.size w w4 ∧ R6 w4 w3.heap.size c (fun i => sxx (we (s + i)) F c) ∧ Q6 w (.slice (some ⟨b, o, none⟩) c cap) c F ∧ c ≤ 64 ∧ s + c ≤ 65536) := by
  refine (awake14 w hC hT).mono fun e w1 ⟨he, b1⟩ => ⟨he, ?_⟩
  refine (cut14 b o n cap 64 h0 hcap (by decide) (by decide) w1).mono fun e w2 ⟨k, c, he, hk, hw⟩ => ⟨k, c, he, ?_⟩
  subst hw
  obtain ⟨hk1, hk2, hk3⟩ := hk.out
  have hk16 := pow16 hk1 (by omega)
  have c0 : 0 < c := by rw [hk1]; exact Nat.two_pow_pos k
  refine ⟨c0, by simp; omega, ?_⟩
  refine (begin14 a k c hk1 (by omega) w2).mono fun e w3 ⟨s, he, hs, hw⟩ => ⟨s, he, ?_⟩
  subst hw
  obtain ⟨hd, hs⟩ := hs.out
  have q0 := h.head h0 hk2
  refine (fwd14 _ k c s F w w3 ((Bs.self hC hT).then b1) (q0.below b1) hk16 hk1 hd hs).mono fun e w4 ⟨he, r4, b4⟩ => ⟨he, ?_⟩
  refine ⟨bthen13 b1 b4, r4.congr (fun i hi => ?_), q0, hk3, hs⟩
  rw [hk1] at hd hs hi ⊢
  exact fw_val hk16 hd hs (fun x hx => q0.2.1 x (by rw [hk1]; exact hx)) hi
theorem val_wraps {s i c : Nat} (h : s + c ≤ 65536) (hi : i < c) : wrap64 ((s : Int) + (i : Int)) = ((s + i : Nat) : Int) ∧ wrap64 ((i : Int) + 1) = (i : Int) + 1 := by
  constructor
  · unfold wrap64; omega
  · unfold wrap64; omega
set_option maxHeartbeats 8000000 in
set_option maxRecDepth 100000 in
theorem afftValues_any (a0 : Option Addr) (n cap : Nat) (a : Int) (w : World) (h : Qbm w a0 n cap) (hC : Cant w) (hT : Tzt w) :
    Calls Tryd.prog 5 #[.slice a0 n cap, .int .i64 a] w fun e w' => e = .returned (.bool true) ∧ Below w.heap.size w w' := by
  by_cases h0 : n = 0
  · subst h0
    have c1 : Calls Tryd.prog 9 #[] w fun e w1 => e = .returned (.bool true) ∧ Calls Tryd.prog 10 #[.slice a0 0 cap, .int .i64 64] w1 fun e w2 => e = .returned (.slice a0 0 cap) ∧ Hid (Below w.heap.size w w2) :=
      (awake14 w hC.1 hT).mono fun e w1 ⟨he, b1⟩ => ⟨he, (cut14_none a0 cap 64 w1).mono fun e w2 ⟨he, hw⟩ => ⟨he, by subst hw; exact b1⟩⟩
    clear h hC hT
    go_enter Tryd.func5, Tryd.ntmps5
    go_wp2_with (first | (go_at_call 9; ((with_reducible refine (c1).mono ?_); (rintro e w1 ⟨rfl, c2⟩))) | (go_at_call 10; ((with_reducible refine (c2).mono ?_); (rintro e w2 ⟨rfl, HB⟩))))
    go_ret
    exact ⟨rfl, HB.out⟩
  · obtain ⟨-, F, hQ⟩ := h
    obtain ⟨b, o, rfl, hcap⟩ : ∃ b o, a0 = some ⟨b, o, none⟩ ∧ n ≤ cap := by
      obtain ⟨-, -, a, cap', e, h5, -, h4⟩ := hQ
      cases e
      obtain ⟨b, o, e, -⟩ := h4 (by omega)
      exact ⟨b, o, e, h5⟩
    have c1 := values_first b o n cap a F w hQ (by omega) hcap hC.1 hT
    have HC : Hid (Cant w) := hC
    clear hQ hC hT h0 hcap
    go_enter Tryd.func5, Tryd.ntmps5
    go_wp2_with (first
      | (go_at_call 9; (with_reducible refine c1.mono ?_); rintro e w1 ⟨rfl, c2⟩)
      | (go_at_call 10; (with_reducible refine c2.mono ?_); rintro e w2 ⟨k, c, rfl, hc0, z0, c3⟩)
      | (go_at_call 11; (with_reducible refine c3.mono ?_); rintro e w3 ⟨s, rfl, c4⟩)
      | (go_at_call 13; (with_reducible refine c4.mono ?_); rintro e w4 ⟨rfl, HV⟩))
    clear c1 c2 c3 c4
    obtain ⟨g, hg⟩ : ∃ g, g = w3.heap.size := ⟨_, rfl⟩
    rw [← hg] at HV ⊢
    clear hg
    go_loopw [8] (fun iv wr => ∃ i : Nat, i ≤ c ∧ iv = .int .i64 i ∧ Below w4.heap.size w4 wr) (fun iv _ => c - (intOf iv).toNat)
    case atStart => exact ⟨0, Nat.zero_le _, rfl, Below.refl _ _⟩
    case round =>
      obtain ⟨i, hi, rfl, hb⟩ := hrel
      by_cases hlt : i < c
      · obtain ⟨v1, v2, v3, v4, v5⟩ := HV.out
        have bw : Below w.heap.size w wr := bthen13 v1 hb
        have y1 : wr.cell? ⟨g, i, none⟩ = some (.int .u16 (sxx (we (s + i)) F c : Nat)) := (v2.below hb).2.2.cell (i := i) hlt
        have k1 := helement_int ((s + i : Nat) : Int) wr (HC.out.below bw)
        rw [(ew_nat13 (show s + i ≤ 65535 by omega)).1, (ew_nat13 (show s + i ≤ 65535 by omega)).2] at k1
        have k2 := eval13_yes (.slice (some ⟨b, o, none⟩) c cap) c (we (s + i)) F wr (v3.below bw) (by omega) (we_lt _) (HC.out.below bw)
        have tb : ((i : Nat) : Int) < (c : Int) := by omega
        obtain ⟨W1, W2⟩ := val_wraps v5 hlt
        obtain ⟨A, hA⟩ : ∃ A, A = s + i := ⟨_, rfl⟩
        rw [← hA] at y1 k1 k2 W1
        obtain ⟨X, hX⟩ : ∃ X, X = we A := ⟨_, rfl⟩
        rw [← hX] at y1 k1 k2
        obtain ⟨Y, hY⟩ : ∃ Y, Y = sxx X F c := ⟨_, rfl⟩
        rw [← hY] at y1 k2
        have HB2 : Hid (Below w4.heap.size w4 wr ∧ R6 w4 g c (fun i => sxx (we (s + i)) F c) ∧ w4.heap.size ≤ wr.heap.size) := ⟨hb, v2, hb.size⟩
        clear hb bw v1 v2 v3 v4 v5 hA hX hY
        go_wp2_with (first
          | (go_at_call 16; (with_reducible refine k1.mono ?_); rintro e w5 ⟨rfl, rfl⟩)
          | (go_at_call 17; (with_reducible refine k2.mono ?_); rintro e w6 ⟨rfl, b6⟩; have y2 := (b6.cell (p := ⟨g, i, none⟩) (Nat.lt_of_lt_of_le HB2.out.2.1.lt HB2.out.2.2)).trans y1))
        go_roundw
        case rel => exact ⟨i + 1, hlt, by first | rfl | (rw [W2]; rfl), bthen13 HB2.out.1 b6⟩
        case measure => first | exact meas_lt8 hlt | (rw [W2]; exact meas_lt8 hlt)
      · have HB2 : Hid (Below w.heap.size w wr) := bthen13 HV.out.1 hb
        have tb : ¬ ((i : Nat) : Int) < (c : Int) := by omega
        clear hb
        go_wp2
        go_ret
        exact ⟨rfl, HB2.out⟩
end Go.Proofs.YtemjodlhpelbaaaDoor
