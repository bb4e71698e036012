import Derived.Test.YtoofoamondepoaaDoorLea
import Derived.Lib.Slices
namespace Go.Proofs.YtoofoamondepoaaDoor
open Go.RowKit Gf2
set_option linter.unusedVariables false

theorem gv_first (w : World) (x : Nat) : Gv w (w.alloc (.cells #[.int .u16 1] 26)) (.slice (some ⟨w.heap.size, 0, none⟩) 1 1) 1 (xx x) := by
  refine ⟨below_alloc _ _, .inr ⟨w.heap.size, 1, fun _ => 1, rfl, Nat.le_refl _, Nat.le_refl _, ⟨by decide, fun _ _ => (by decide : 1 < 65536), _, heap_alloc_new _ _, rfl, fun t ht => ?_⟩, fun i hi => ?_⟩⟩
  · obtain rfl : t = 0 := by omega
    rfl
  · obtain rfl : i = 0 := by omega
    exact (xx_0 x).symm
theorem Gv.cell {w0 W : World} {a : Option Addr} {L C : Nat} {S : Nat → Nat} (h : Gv w0 W (.slice a L C) L S) (hL : 0 < L) : ∃ g, a = some ⟨g, 0, none⟩ ∧ g < W.heap.size ∧ ∀ j, j < L → W.cell? ⟨g, j, none⟩ = some (.int .u16 (S j : Nat)) := by
  rcases h.2 with ⟨h1, -⟩ | ⟨g, C', F, a1, a2, a3, a4, a5⟩
  · omega
  · cases a1
    refine ⟨g, rfl, a4.lt, fun j hj => ?_⟩
    rw [← a5 j hj]
    exact a4.2.2.cell (by omega)
theorem gv_len {w0 W : World} {v : Value} {L M : Nat} {S : Nat → Nat} (h : Gv w0 W v L S) (e : L = M) : Gv w0 W v M S := e ▸ h
theorem pow_lt_16 {i n : Nat} (h : 2 ^ i < n) (hn : n ≤ 65536) : i < 16 := by
  apply Decidable.byContradiction
  intro h9
  have : 2 ^ 16 ≤ 2 ^ i := Nat.pow_le_pow_right (by decide) (by omega)
  omega
set_option maxHeartbeats 8000000 in
set_option maxRecDepth 100000 in
theorem refEval13_yes (v : Value) (n x : Nat) (F : Nat → Nat) (w : World) (h : Q6 w v n F) (hn : n ≤ 65536) (hx : x < 65536) :
    Calls Tryd.prog 45 #[v, .int .u16 (x : Int)] w fun e w' => e = .returned (.tuple #[.int .u16 (sxx x F n : Nat), .int .i64 0]) ∧ Below w.heap.size w w' := by
  have HQ : Hid (Q6 w v n F ∧ n ≤ 65536 ∧ x < 65536) := ⟨h, hn, hx⟩
  obtain ⟨-, -, a, cap, rfl, -, -, -⟩ := h
  have D1 : decide ((65536 : Int) < (n : Int)) = false := by simp; omega
  have HG := gv_first w x
  have HG0 : Hid (Gv w (w.alloc (.cells #[.int .u16 1] 26)) (.slice (some ⟨w.heap.size, 0, none⟩) 1 1) 1 (xx x)) := HG
  obtain ⟨E, hE⟩ : ∃ E, E = sxx x F n := ⟨_, rfl⟩
  rw [← hE]
  have HE : Hid (E = sxx x F n) := hE
  clear hE hn hx HG
  go_enter Tryd.func45, Tryd.ntmps45
  go_wp2
  go_loopw [6, 7] (fun vv9 iv wr => ∃ i N : Nat, i ≤ 16 ∧ N = 2 ^ i ∧ iv = .int .i64 i ∧ Gv w wr vv9 N (xx x)) (fun _ iv _ => 16 - (intOf iv).toNat)
  case atStart => exact ⟨0, 1, Nat.zero_le _, rfl, rfl, HG0.out⟩
  case round =>
    obtain ⟨i, N, hi, hN, rfl, hg⟩ := hrel
    obtain ⟨a6, c6, rfl⟩ := hg.form
    by_cases hlt : N < n
    · have hi16 : i < 16 := pow_lt_16 (hN ▸ hlt) HQ.out.2.1
      have nb : ((N : Nat) : Int) < (n : Int) := Int.ofNat_lt.2 hlt
      have W1 := wrap_succ8 (j := i) (Nat.lt_trans hi16 (by decide))
      have c1 : Calls Tryd.prog 56 #[.int .i64 (i : Int), .int .u16 (x : Int)] wr fun e w1 => e = .returned (.int .u16 (sv i x : Nat)) ∧ Hid (Gv w w1 (.slice a6 N c6) N (xx x)) :=
        (refvanish13 i x wr hi HQ.out.2.2).mono fun e w1 ⟨he, hb⟩ => ⟨he, hg.below hb⟩
      have HN : Hid (N = 2 ^ i ∧ i < 16 ∧ N ≤ 65536) := ⟨hN, hi16, Nat.le_trans (Nat.le_of_lt hlt) HQ.out.2.1⟩
      have lV := sv_lt i x
      obtain ⟨V, hV⟩ : ∃ V, V = sv i x := ⟨_, rfl⟩
      rw [← hV] at c1 lV
      have HV9 : Hid (V = sv i x ∧ V < 65536) := ⟨hV, lV⟩
      clear hg hN hi16 hV lV
      go_wp2_with (go_at_call 56; ((with_reducible refine (c1).mono ?_); (rintro e w1 ⟨rfl, HG1⟩)))
      clear c1
      go_loopw [6, 10] (fun vv9 jv wq => ∃ j L : Nat, j ≤ N ∧ L = N + j ∧ jv = .int .i64 j ∧ Gv w wq vv9 L (xx x)) (fun _ jv _ => N - (intOf jv).toNat)
      case atStart => exact ⟨0, N, Nat.zero_le _, rfl, rfl, HG1.out⟩
      case round =>
        obtain ⟨j, L, hj, hL, rfl, hg⟩ := hrel
        obtain ⟨a7, c7, rfl⟩ := hg.form
        by_cases hjt : j < N
        · obtain ⟨k1, k2, k3⟩ := HN.out
          have hjL : j < L := by rw [hL]; exact Nat.lt_of_lt_of_le hjt (Nat.le_add_right _ _)
          obtain ⟨g, rfl, hgl, hcell⟩ := hg.cell (Nat.lt_of_le_of_lt (Nat.zero_le _) hjL)
          have q1 := hcell j hjL
          have jb : ((j : Nat) : Int) < (N : Int) := Int.ofNat_lt.2 hjt
          have jb2 : ((j : Nat) : Int) < (L : Int) := Int.ofNat_lt.2 hjL
          have W2 := wrap_succ8 (j := j) (Nat.lt_of_lt_of_le hjt (Nat.le_trans k3 (by decide)))
          have e1 : fm 65581 (xx x j) V = xx x L := by rw [hL, k1, HV9.out.1]; exact (xx_add k2 (k1 ▸ hjt) x).symm
          have c2 := refMulH_nat (xx x j) V wr (xx_lt _ _) HV9.out.2
          rw [e1] at c2
          obtain ⟨w9, v9, hrun, hg9⟩ := app_gh hg (xx x L) (xx_lt _ _) (by omega)
          have HG9 : Hid (Gv w w9 v9 (L + 1) (xx x) ∧ L = N + j) := ⟨hg9.congr (fun t ht => by
            by_cases e : t < L
            · rw [if_pos e]
            · rw [if_neg e, show t = L by omega]), hL⟩
          obtain ⟨T, hT⟩ : ∃ T, T = xx x L := ⟨_, rfl⟩
          obtain ⟨A, hA⟩ : ∃ A, A = xx x j := ⟨_, rfl⟩
          rw [← hA] at c2 q1
          rw [← hT] at c2 hrun
          clear hg hgl hcell e1 hg9 hT hA k1 k2 k3 hL hjL
          go_wp2_with (first | (at_builtin; refine Lib.wpList_append_run _ rfl _ _ _ _ rfl _ _ rfl rfl _ _ hrun ?_) | (go_at_call 58; (with_reducible refine c2.mono ?_); rintro e w8 ⟨rfl, hw8⟩; have hw8 := hw8.symm; subst hw8))
          go_roundw
          case rel => exact ⟨j + 1, L + 1, hjt, by rw [HG9.out.2]; rfl, by first | rfl | (rw [W2]; rfl), HG9.out.1⟩
          case measure => first | exact meas_lt8 hjt | (rw [W2]; exact meas_lt8 hjt)
        · have hjN : j = N := Nat.le_antisymm hj (Nat.le_of_not_lt hjt)
          have HG9 : Hid (Gv w wr (.slice a7 L c7) L (xx x) ∧ L = N + N) := ⟨hg, by rw [hL, hjN]⟩
          have jb : ¬ ((j : Nat) : Int) < (N : Int) := fun e => hjt (Int.ofNat_lt.1 e)
          clear hg hL hjN
          go_wp2
          go_roundw
          case rel => exact ⟨i + 1, L, HN.out.2.1, by rw [HG9.out.2, HN.out.1, Nat.pow_succ, Nat.mul_two], by first | rfl | (rw [W1]; rfl), HG9.out.1⟩
          case measure => first | exact meas_lt8 HN.out.2.1 | (rw [W1]; exact meas_lt8 HN.out.2.1)
    · have nb : ¬ ((N : Nat) : Int) < (n : Int) := fun e => hlt (Int.ofNat_lt.1 e)
      have hnN : n ≤ N := Nat.le_of_not_lt hlt
      obtain ⟨Wz, rfl⟩ : ∃ Wz, Wz = wr := ⟨_, rfl⟩
      have HG2 : Hid (Gv w Wz (.slice a6 N c6) N (xx x) ∧ n ≤ N) := ⟨hg, hnN⟩
      clear hg hnN hN
      go_wp2
      go_loopw [11, 12] (fun sv9 jv wq => ∃ j m : Nat, j ≤ n ∧ jv = .int .i64 j ∧ sv9 = .int .u16 (sxx x F j : Nat) ∧ wq = Wz.drewN m) (fun _ jv _ => n - (intOf jv).toNat)
      case atStart => exact ⟨0, 0, Nat.zero_le _, rfl, rfl, rfl⟩
      case round =>
        obtain ⟨j, m, hj, rfl, rfl, hwq⟩ := hrel
        by_cases hjt : j < n
        · obtain ⟨⟨k1, k2, a0, c0, k3, -, -, k4⟩, -, -⟩ := HQ.out
          cases k3
          obtain ⟨b, o, rfl, hbl, hcell⟩ := k4 (Nat.lt_of_le_of_lt (Nat.zero_le _) hjt)
          obtain ⟨g, rfl, -, hcv⟩ := HG2.out.1.cell (Nat.lt_of_lt_of_le (Nat.lt_of_le_of_lt (Nat.zero_le _) hjt) HG2.out.2)
          have hjN := Nat.lt_of_lt_of_le hjt HG2.out.2
          have q1 : wr.cell? ⟨b, o + j, none⟩ = some (.int .u16 (F j : Nat)) := by rw [hwq]; exact (HG2.out.1.1.cell (p := ⟨b, o + j, none⟩) hbl).trans (hcell j hjt)
          have q2 : wr.cell? ⟨g, j, none⟩ = some (.int .u16 (xx x j : Nat)) := by rw [hwq]; exact hcv j hjN
          have lF := k2 j hjt
          have c3 := fun w => refMulH_nat (F j) (xx x j) w lF (xx_lt _ _)
          have X := u16_xor_nat (sxx x F j) (fm 65581 (F j) (xx x j)) (sxx_lt _ _ _) (fm16_lt _ _)
          have HS : Hid (sxx x F (j + 1) = sxx x F j ^^^ fm 65581 (F j) (xx x j)) := rfl
          have HW : Hid (wr = Wz.drewN m) := hwq
          have jb : ((j : Nat) : Int) < (n : Int) := Int.ofNat_lt.2 hjt
          have jb2 : ((j : Nat) : Int) < (N : Int) := Int.ofNat_lt.2 hjN
          have W2 := wrap_succ8 (j := j) (Nat.lt_of_lt_of_le hjt k1)
          obtain ⟨A, hA⟩ : ∃ A, A = F j := ⟨_, rfl⟩
          obtain ⟨B, hB⟩ : ∃ B, B = xx x j := ⟨_, rfl⟩
          obtain ⟨S, hS⟩ : ∃ S, S = sxx x F j := ⟨_, rfl⟩
          rw [← hA] at q1 c3 X HS
          rw [← hB] at q2 c3 X HS
          rw [← hS] at X HS ⊢
          clear k1 k2 k4 hbl hcell hcv lF hA hB hS hwq
          go_wp2
          go_quiet (first | (go_at_call 58; with_reducible exact Calls.quiet_of_same (c3 _)))
          go_wp2
          go_roundw
          case rel => exact ⟨j + 1, m + nq, hjt, by first | rfl | (rw [W2]; rfl), by rw [HS.out], by rw [HW.out, World.drewN_drewN]⟩
          case measure => first | exact meas_lt8 hjt | (rw [W2]; exact meas_lt8 hjt)
        · have hjn : j = n := Nat.le_antisymm hj (Nat.le_of_not_lt hjt)
          subst hjn
          rw [← HE.out]
          have HB : Hid (Below w.heap.size w wr) := by rw [hwq]; exact below_drewN HG2.out.1.1 m
          clear hwq
          go_wp2
          go_ret2
          exact ⟨rfl, HB.out⟩
set_option maxHeartbeats 2000000 in
set_option maxRecDepth 100000 in
theorem refEval13_no (a : Option Addr) (n cap : Nat) (x : Int) (w : World) (hn : 65536 < n) :
    Calls Tryd.prog 45 #[.slice a n cap, .int .u16 x] w fun e w' => e = .returned (.tuple #[.int .u16 0, .int .i64 5]) ∧ w' = w := by
  have D1 : decide ((65536 : Int) < (n : Int)) = true := by simp; omega
  clear hn
  go_enter Tryd.func45, Tryd.ntmps45
  go_wp2
  go_ret2
  exact ⟨rfl, rfl⟩
end Go.Proofs.YtoofoamondepoaaDoor
