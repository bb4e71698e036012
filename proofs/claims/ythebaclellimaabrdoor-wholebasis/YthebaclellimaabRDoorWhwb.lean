import Derived.Test.YthebaclellimaabRDoorWhca
namespace Go.Proofs.YthebaclellimaabRDoor
open Go.RowKit Gf2

theorem cbn_hs : ∀ s, s < 15 → fm 65581 (cbn (s + 1)) (cbn (s + 1)) ^^^ cbn (s + 1) = cbn s := by decide +kernel
theorem cbn_even : ∀ s, s < 15 → cbn (s + 1) &&& 1 = 0 := by decide +kernel

set_option maxHeartbeats 8000000 in
set_option maxRecDepth 100000 in
theorem wholeBasis_any (I J : Nat) (w : World) (lI : I < 65536) (lJ : J < 65536) (hC : Cant w) :
    Calls Tryd.prog 4 #[.int .u16 (I : Int), .int .u16 (J : Int)] w fun e w' => e = .returned (.bool true) ∧ w' = afterB w := by
  have lX := xor16_lt lI lJ
  have X1 := u16_xor_nat I J lI lJ
  have c3 := helement_int (I : Nat) w hC
  have c4 := helement_int (J : Nat) w hC
  have c5 := helement_int ((I ^^^ J : Nat) : Int) w hC
  rw [(ew_nat (n := I) (by omega)).1, (ew_nat (n := I) (by omega)).2] at c3
  rw [(ew_nat (n := J) (by omega)).1, (ew_nat (n := J) (by omega)).2] at c4
  rw [(ew_nat (n := I ^^^ J) (by omega)).1, (ew_nat (n := I ^^^ J) (by omega)).2, we_xor] at c5
  have X2 := u16_xor_nat (we I) (we J) (we_lt _) (we_lt _)
  have c8 := hindex_nat (we I) w (we_lt _) hC
  rw [wi_we lI] at c8
  have c9 := hindex_nat (we I ^^^ we J) w (xor16_lt (we_lt _) (we_lt _)) hC
  rw [← we_xor, wi_we lX, we_xor] at c9
  have W1 : wrap64 (I : Int) = (I : Int) := by unfold wrap64; omega
  have W2 : wrap64 (J : Int) = (J : Int) := by unfold wrap64; omega
  have W3 : wrap64 ((I ^^^ J : Nat) : Int) = ((I ^^^ J : Nat) : Int) := by unfold wrap64; omega
  have c1 := hbasis_any w hC
  have hnew := afterB_new w
  have HW : Hid (we I = lin (cbt 16) I) := we_cbt I
  have HI : Hid (I < 65536) := lI
  obtain ⟨v, hv⟩ : ∃ v, v = afterB w := ⟨_, rfl⟩
  rw [← hv] at hnew c1 ⊢
  have q0 := cellB hnew (t := 0) (by decide)
  rw [show cbn 0 = 1 by decide] at q0
  have HB : Hid (∀ t, t < 16 → v.cell? ⟨w.heap.size, t, none⟩ = some (.int .u16 (cbn t : Nat))) := fun t ht => cellB hnew ht
  clear hnew hv hC lX
  obtain ⟨g, hg⟩ : ∃ g, g = w.heap.size := ⟨_, rfl⟩
  rw [← hg] at HB q0 c1
  clear hg lI lJ
  go_enter Tryd.func4, Tryd.ntmps4
  go_wp2_with (first | (go_at_call 10; ((with_reducible refine (c1).mono ?_); (rintro e w9 ⟨rfl, hw9⟩; have hw9 := hw9.symm; subst hw9))) | (go_at_call 6; first | ((with_reducible refine (c8).mono ?_); rintro e w' ⟨rfl, rfl⟩) | ((with_reducible refine (c9).mono ?_); rintro e w' ⟨rfl, rfl⟩)) | (go_at_call 7; first | ((with_reducible refine (c3).mono ?_); rintro e w' ⟨rfl, rfl⟩) | ((with_reducible refine (c4).mono ?_); rintro e w' ⟨rfl, rfl⟩) | ((with_reducible refine (c5).mono ?_); rintro e w' ⟨rfl, rfl⟩)))
  clear q0 c1 c3 c4 c5 c8 c9 X1 X2 W1 W2 W3
  go_loopw [12, 82] (fun sv tv wq => ∃ t : Nat, t ≤ 16 ∧ tv = .int .i64 t ∧ sv = .int .u16 (lin (cbt t) I : Nat) ∧ wq = v) (fun _ tv _ => 16 - (intOf tv).toNat)
  case atStart => exact ⟨0, Nat.zero_le _, rfl, rfl, rfl⟩
  case round =>
    obtain ⟨t, ht, rfl, rfl, hbq⟩ := hrel
    have HQ : Hid (wr = v) := hbq
    by_cases hlt : t < 16
    · have q1 : wr.cell? ⟨g, t, none⟩ = some (.int .u16 (cbn t : Nat)) := by rw [hbq]; exact HB.out t hlt
      have tb : ((t : Nat) : Int) < 16 := by omega
      have l2 := cbn_lt t hlt
      have A1 := and16 I t HI.out
      have st := cbt_step t I
      have l1 := cbt_lt t I (by omega)
      have X := u16_xor_nat (lin (cbt t) I) (cbn t) l1 l2
      have HM : Hid (16 - (t + 1) < 16 - t) := by show 16 - (t + 1) < 16 - t; omega
      rcases Nat.eq_zero_or_pos t with h0 | h0
      · have T0 : (((t : Nat) : Int) == 0) = true := by simp; omega
        clear hbq h0
        by_cases hbit : I / 2 ^ t % 2 = 1
        · rw [hbit] at A1
          rw [if_pos hbit] at st
          have HS : Hid (lin (cbt (t + 1)) I = lin (cbt t) I ^^^ cbn t) := st
          clear st hbit
          go_wp2
          go_roundw
          case rel => exact ⟨t + 1, by omega, by go_num, by rw [HS.out], HQ.out⟩
          case measure => simp [intOf]; omega
        · have hb0 : I / 2 ^ t % 2 = 0 := by omega
          rw [hb0] at A1
          rw [if_neg hbit, Nat.xor_zero] at st
          have HS : Hid (lin (cbt (t + 1)) I = lin (cbt t) I) := st
          clear st hbit hb0
          go_wp2
          go_roundw
          case rel => exact ⟨t + 1, by omega, by go_num, by rw [HS.out], HQ.out⟩
          case measure => simp [intOf]; omega
      · obtain ⟨s, rfl⟩ : ∃ s, t = s + 1 := ⟨t - 1, by omega⟩
        have q2 : wr.cell? ⟨g, s, none⟩ = some (.int .u16 (cbn s : Nat)) := by rw [hbq]; exact HB.out s (by omega)
        have hk1 : (((s + 1 : Nat) : Int) - 1) = (s : Int) := by omega
        have sb : ((s : Nat) : Int) < 16 := by omega
        have c2 := mulmod16 (cbn (s + 1)) (cbn (s + 1)) wr l2 l2
        have X3 := u16_xor_nat (fm 65581 (cbn (s + 1)) (cbn (s + 1))) (cbn (s + 1)) (fm16_lt _ _) l2
        rw [cbn_hs s (by omega)] at X3
        have X4 : bits BinOp.and IntKind.u16 ((cbn (s + 1) : Nat) : Int) 1 = 0 := by
          have h := u16_and_nat (cbn (s + 1)) 1 l2 (by decide)
          rw [cbn_even s (by omega)] at h
          exact h
        have l3 := fm16_lt (cbn (s + 1)) (cbn (s + 1))
        have T0 : (((s + 1 : Nat) : Int) == 0) = false := by simp; omega
        clear hbq
        by_cases hbit : I / 2 ^ (s + 1) % 2 = 1
        · rw [hbit] at A1
          rw [if_pos hbit] at st
          have HS : Hid (lin (cbt (s + 1 + 1)) I = lin (cbt (s + 1)) I ^^^ cbn (s + 1)) := st
          clear st hbit
          go_wp2_with (go_at_call 11; ((with_reducible refine (c2).mono ?_); (rintro e w5 ⟨rfl, hw5⟩; have hw5 := hw5.symm; subst hw5)))
          go_roundw
          case rel => exact ⟨s + 2, by omega, by go_num, by rw [HS.out], HQ.out⟩
          case measure => simp [intOf]; omega
        · have hb0 : I / 2 ^ (s + 1) % 2 = 0 := by omega
          rw [hb0] at A1
          rw [if_neg hbit, Nat.xor_zero] at st
          have HS : Hid (lin (cbt (s + 1 + 1)) I = lin (cbt (s + 1)) I) := st
          clear st hbit hb0
          go_wp2_with (go_at_call 11; ((with_reducible refine (c2).mono ?_); (rintro e w5 ⟨rfl, hw5⟩; have hw5 := hw5.symm; subst hw5)))
          go_roundw
          case rel => exact ⟨s + 2, by omega, by go_num, by rw [HS.out], HQ.out⟩
          case measure => simp [intOf]; omega
    · have ht6 : t = 16 := by omega
      subst ht6
      have T : (((lin (cbt 16) I : Nat) : Int) == ((we I : Nat) : Int)) = true := by rw [HW.out]; simp
      go_wp2
      go_ret
      exact ⟨ret_bool (by first | rfl | simp), by first | rfl | exact HQ.out⟩
end Go.Proofs.YthebaclellimaabRDoor
