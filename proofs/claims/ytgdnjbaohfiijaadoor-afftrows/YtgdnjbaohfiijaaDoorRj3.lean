import Derived.Test.YtgdnjbaohfiijaaDoorRj2
namespace Go.Proofs.YtgdnjbaohfiijaaDoor
open Go.RowKit Gf2
set_option linter.unusedVariables false

-- layer 14: the document's Fold; Fold refused
set_option maxHeartbeats 8000000 in
set_option maxRecDepth 100000 in
theorem refFold14 (b o cap k n s J L : Nat) (F : Nat → Nat) (w : World) (h : Q6 w (.slice (some ⟨b, o, none⟩) L cap) L F) (hk : k ≤ 16) (hn : n = 2 ^ k) (hJ : 0 < J) (hL : L = J * n) (hd : n ∣ s) (hs : s + L ≤ 65536) :
    Calls Tryd.prog 18 #[.slice (some ⟨b, o, none⟩) L cap, .int .i64 (n : Int), .int .i64 (s : Int)] w fun e w' => ∃ g, e = .returned (.tuple #[.slice (some ⟨g, 0, none⟩) n n, .int .i64 0]) ∧ w.heap.size ≤ g ∧ R6 w' g n (fd s k F J) ∧ Below w.heap.size w w' := by
  have h0 : 0 < n := by rw [hn]; exact Nat.two_pow_pos k
  have hnL : n ≤ L := by rw [hL]; exact Nat.le_mul_of_pos_left n hJ
  have k1 := refPow_yes k n hn hk w
  have k2 := refCoset (s : Int) n L h0 w
  rw [show decide (Beg (s : Int) n L) = true by
    simp only [decide_eq_true_eq]
    refine ⟨by omega, ?_, by omega⟩
    rw [show ((s : Int) % (n : Int)) = ((s % n : Nat) : Int) by simp, Nat.mod_eq_zero_of_dvd hd]; rfl] at k2
  have tm : (L : Int).tmod (n : Int) = 0 := by rw [Int.tmod_eq_emod_of_nonneg (by omega), show ((L : Int) % (n : Int)) = ((L % n : Nat) : Int) by simp, hL, Nat.mul_mod_left]; rfl
  have n0 : ((n : Int) == 0) = false := by simp; omega
  have n1 : (n : Int) ≠ 0 := by omega
  have l0 : ((L : Int) == 0) = false := by simp; omega
  have k3 := elems14 w
  obtain ⟨hcell, hcap, hbl, hcb⟩ : (∀ i, i < L → w.cell? ⟨b, o + i, none⟩ = some (.int .u16 (F i : Nat))) ∧ L ≤ cap ∧ b < w.heap.size ∧ cap ≤ big := by
    obtain ⟨-, -, a, cap', e, h5, h6, h4⟩ := h
    cases e
    obtain ⟨b', o', e, hl, hc⟩ := h4 (by omega)
    cases e
    exact ⟨hc, h5, hl, h6⟩
  have HN : Hid ((∀ i, i < L → F i < 65536) ∧ k ≤ 16 ∧ n = 2 ^ k ∧ L = J * n ∧ s + L ≤ 65536 ∧ 0 < n ∧ (∀ i, i < L → w.cell? ⟨b, o + i, none⟩ = some (.int .u16 (F i : Nat))) ∧ L ≤ cap ∧ b < w.heap.size ∧ n ∣ s ∧ cap ≤ big) := ⟨h.2.1, hk, hn, hL, hs, h0, hcell, hcap, hbl, hd, hcb⟩
  clear h hk hn hJ hL hd hs hnL hcell hcap hbl h0 hcb
  go_enter Tryd.func18, Tryd.ntmps18
  go_upto_region 9 with (first
    | (go_at_call 31; (with_reducible refine k1.mono ?_); rintro e w' ⟨rfl, rfl⟩)
    | (go_at_call 32; (with_reducible refine k2.mono ?_); rintro e w' ⟨rfl, rfl⟩)
    | (go_at_call 34; (with_reducible refine k3.mono ?_); rintro e w1 ⟨gw, cw', rfl, hWe, bE⟩))
  clear k1 k2 k3 tm l0
  have hmk := make_w6 n (by have := HN.out.2.2.2.2.1; have := HN.out.2.2.2.1; have := HN.out.2.1; have := pow_le16r HN.out.2.1; have := HN.out.2.2.1; omega) w1
  obtain ⟨W2, hW2⟩ : ∃ W2, W2 = w1.alloc (.cells (madeCells #[.int .u16 0] n) 34) := ⟨_, rfl⟩
  obtain ⟨gs, hgs⟩ : ∃ gs, gs = w1.heap.size := ⟨_, rfl⟩
  have H2 : Hid (R6 W2 gs n (fun _ => 0) ∧ We14 W2 gw ∧ Below w'.heap.size w' W2 ∧ w'.heap.size ≤ gs ∧ gw < gs) := by
    rw [hW2, hgs]
    have b0 := made_b6 n w1
    exact ⟨made_r6 n (by have := pow_le16r HN.out.2.1; have := HN.out.2.2.1; omega) w1, hWe.below b0, bthen13 bE b0, bE.size, hWe.1⟩
  replace hW2 : Hid (W2 = w1.alloc (.cells (madeCells #[.int .u16 0] n) 34)) := hW2
  replace hgs : Hid (gs = w1.heap.size) := hgs
  clear hWe bE
  go_wp2
  rw [← hW2.out, ← hgs.out]
  clear hmk hW2 hgs
  go_loopw [11] (fun mv wr => ∃ P m : Nat, Hid (P ≤ J ∧ m = P * n) ∧ mv = .int .i64 m ∧ R6 wr gs n (fd s k F P) ∧ We14 wr gw ∧ Below w'.heap.size w' wr) (fun mv _ => L - (intOf mv).toNat)
  case atStart => exact ⟨0, 0, ⟨Nat.zero_le _, by rw [Nat.zero_mul]⟩, rfl, H2.out.1, H2.out.2.1, H2.out.2.2.1⟩
  case round =>
    obtain ⟨P, m, hm, rfl, hr, hWe, hb⟩ := hrel
    by_cases hlt : m < L
    · obtain ⟨n2, n3, n4, n5, n6, n7, n8, n9, n10, n11, n12⟩ := HN.out
      obtain ⟨m1, m2, m3, tb, m4, m5⟩ := fold_nums n5 n7 hm.out.2 hlt n6
      obtain ⟨A, hA⟩ : ∃ A, A = s + m := ⟨_, rfl⟩
      obtain ⟨Z, hZ⟩ : ∃ Z, Z = m + n := ⟨_, rfl⟩
      have hsl : ∀ W, (Instr.slice 26 (.slice (some ⟨b, o, none⟩) L cap) (some (.int .i64 (m : Int))) (some (.int .i64 (Z : Int))) none).run Tryd.prog W = .ok (.slice (some ⟨b, o + m, none⟩) n (cap - m)) W := fun W => by
        rw [cut6 b o L cap m Z (by omega) (by omega) n9, show Z - m = n by omega]
      have q : Q6 wr (.slice (some ⟨b, o + m, none⟩) n (cap - m)) n (fun y => F (m + y)) := ⟨by unfold big; omega, fun i hi => n2 _ (by omega), _, _, rfl, by omega, by omega, fun _ => ⟨b, o + m, rfl, Nat.lt_of_lt_of_le n10 hb.size, fun i hi => by
        rw [hb.cell (p := ⟨b, o + m + i, none⟩) n10, Nat.add_assoc]
        exact n8 (m + i) (by omega)⟩⟩
      have c1 := refcoef gw cw' k b (o + m) (cap - m) n A (fun y => F (m + y)) wr n3 n4 (by omega) q hWe
      have HC : Hid (R6 wr gs n (fd s k F P) ∧ We14 wr gw ∧ Below w'.heap.size w' wr ∧ m < L ∧ P < J ∧ Z = (P + 1) * n ∧ A = s + m ∧ m = P * n ∧ Q6 wr (.slice (some ⟨b, o + m, none⟩) n (cap - m)) n (fun y => F (m + y))) := ⟨hr, hWe, hb, hlt, m2, by rw [hZ]; exact m3, hA, hm.out.2, q⟩
      have HW : Hid (wrap64 ((s : Int) + (m : Int)) = (A : Int) ∧ wrap64 ((m : Int) + (n : Int)) = ((m + n : Nat) : Int)) := fold_wraps hA n6 m5
      rw [← hZ] at HW
      obtain ⟨W1, W3⟩ := HW.out
      clear hr hWe hb hm m1 m2 m3 m4 m5 n2 n3 n4 n5 n6 n7 n8 n9 n10 n11 n12 q hA hZ hlt HW
      go_wp2_with (go_at_call 35; (with_reducible refine c1.mono ?_); rintro e w4 ⟨gd, Cd, Gd, rfl, hCd, hgd, hRd, hGd, bd⟩)
      clear c1 W1 hsl
      obtain ⟨X, hX⟩ : ∃ X, X = w4 := ⟨_, rfl⟩
      have HX : Hid (R6 X gs n (fd s k F P) ∧ We14 X gw ∧ Below w'.heap.size w' X ∧ R6 X gd Cd Gd ∧ n ≤ Cd ∧ gd ≠ gs ∧ gw ≠ gs ∧ (∀ i, i < n → Gd i = iw A (fun y => F (m + y)) k i)) := by
        rw [hX]
        obtain ⟨c2, c3, c4, c5, c6, c7, c8, c9, c10⟩ := HC.out
        refine ⟨c2.below bd, c3.below bd, bthen13 c4 bd, hRd, hCd, by have := c2.lt; omega, by have := H2.out.2.2.2.2; omega, fun i hi => ?_⟩
        rw [hGd i hi]
        obtain ⟨n2, n3, n4, n5, n6, n7, n8, n9, n10, n11, n12⟩ := HN.out
        have hdA : n ∣ A := by rw [c8, c9]; exact Nat.dvd_add n11 (Nat.dvd_mul_left _ _)
        have hsA : A + n ≤ 65536 := by
          have := Nat.mul_le_mul_right n (show P + 1 ≤ J from c6)
          rw [← c7, ← n5] at this
          have : Z = m + n := by rw [c7, c9, Nat.add_mul, Nat.one_mul]
          omega
        rw [n4] at hdA hsA hi
        exact cl_iw n3 hdA hsA (fun x hx => c10.2.1 x (by rw [n4]; exact hx)) hi
      subst hX
      clear hCd hgd hRd hGd bd
      go_loopw [13] (fun iv wq => ∃ i : Nat, i ≤ n ∧ iv = .int .i64 i ∧ R6 wq gs n (pl (fd s k F P) 0 i (fun x => fd s k F P x ^^^ Gd x)) ∧ Kp gs X wq) (fun iv _ => n - (intOf iv).toNat)
      case atStart => exact ⟨0, Nat.zero_le _, rfl, by rw [pl_none]; exact HX.out.1, Kp.refl _ _⟩
      case round =>
        rename_i hrel
        obtain ⟨i, hi, rfl, hr, hk⟩ := hrel
        by_cases hli : i < n
        · obtain ⟨c2, c3, c4, c5, c6, c7, c8, c9⟩ := HX.out
          have tb2 : ((i : Nat) : Int) < (n : Int) := by omega
          have W1 := wrap_succ8 (j := i) (by have := pow_le16r HN.out.2.1; have := HN.out.2.2.1; unfold big; omega)
          have y1 : wr.cell? ⟨gs, i, none⟩ = some (.int .u16 (fd s k F P i : Nat)) := by
            have := hr.2.2.cell (i := i) hli
            rw [pl0, if_neg (Nat.lt_irrefl _)] at this
            exact this
          have y2 := hr.2.2.frozen i
          have y3 := (c5.kp hk c7).2.2.cell (i := i) (by omega)
          have l1 := c2.2.1 i hli
          have l2 := c5.2.1 i (by omega)
          have X1 := u16_xor_nat (fd s k F P i) (Gd i) l1 l2
          have lx := Nat.xor_lt_two_pow (n := 16) l1 l2
          have HV : Hid (R6 (wr.setCell ⟨gs, i, none⟩ (.int .u16 ((fd s k F P i ^^^ Gd i : Nat) : Int))) gs n (pl (fd s k F P) 0 (i + 1) (fun x => fd s k F P x ^^^ Gd x)) ∧ Kp gs X (wr.setCell ⟨gs, i, none⟩ (.int .u16 ((fd s k F P i ^^^ Gd i : Nat) : Int)))) :=
            ⟨(hr.set _ _ lx).congr (fun x hx => by
              have := congrFun (pl_next (F := fd s k F P) (S := fun x => fd s k F P x ^^^ Gd x) (o := 0) (t := i)) x
              rw [Nat.zero_add] at this
              exact this), hk.setCell _ _⟩
          obtain ⟨D, hD⟩ : ∃ D, D = fd s k F P i := ⟨_, rfl⟩
          obtain ⟨E, hE⟩ : ∃ E, E = Gd i := ⟨_, rfl⟩
          rw [← hD, ← hE] at X1 HV
          rw [← hD] at y1
          rw [← hE] at y3
          clear hr hk c2 c3 c4 c5 c6 c7 c8 c9 l1 l2 lx hD hE
          go_wp2
          refine region_tail13 12 (by kernel_rfl) (by kernel_rfl) ?_
          simp only [List.take_succ_cons, List.take_zero, List.drop_succ_cons, List.drop_zero]
          repeat still_step
          refine wpStill_nil ?_
          go_wp2
          go_roundw
          case rel => exact ⟨i + 1, hli, by first | rfl | (rw [W1]; rfl), HV.out.1.drew, HV.out.2.drew⟩
          case measure => first | exact meas_lt8 hli | (rw [W1]; exact meas_lt8 hli)
        · obtain rfl : i = n := Nat.le_antisymm hi (Nat.le_of_not_lt hli)
          have tb2 : ¬ ((i : Nat) : Int) < (i : Int) := by omega
          have HV : Hid (R6 wr gs i (fd s k F (P + 1)) ∧ We14 wr gw ∧ Below w'.heap.size w' wr) := by
            obtain ⟨c2, c3, c4, c5, c6, c7, c8, c9⟩ := HX.out
            obtain ⟨d2, d3, d4, d5, d6, d7, d8, d9, d10⟩ := HC.out
            refine ⟨hr.congr (fun x hx => ?_), ⟨Nat.lt_of_lt_of_le c3.1 hk.size, fun y hy => (hk.cell c3.1 c8).trans (c3.2 y hy)⟩, c4.trans (hk.below H2.out.2.2.2.1 c4.size)⟩
            rw [pl0, if_pos hx, c9 x hx, d8, d9, HN.out.2.2.1]
            rfl
          have HJ : Hid (P + 1 ≤ J ∧ Z = (P + 1) * i ∧ m < L ∧ 0 < i ∧ Z = m + i) := ⟨HC.out.2.2.2.2.1, HC.out.2.2.2.2.2.1, HC.out.2.2.2.1, HN.out.2.2.2.2.2.1, by rw [HC.out.2.2.2.2.2.1, HC.out.2.2.2.2.2.2.2.1, Nat.add_mul, Nat.one_mul]⟩
          clear hr hk HX HC
          go_wp2
          go_roundw
          case rel => exact ⟨P + 1, Z, ⟨HJ.out.1, HJ.out.2.1⟩, by first | rfl | rw [W3], HV.out.1, HV.out.2.1, HV.out.2.2⟩
          case measure =>
            have e := HJ.out.2.2.2.2
            first
              | (rw [e]; exact meas_fold HJ.out.2.2.1 HJ.out.2.2.2.1)
              | (rw [W3, e]; exact meas_fold HJ.out.2.2.1 HJ.out.2.2.2.1)
    · have hPJ : P = J := by
        obtain ⟨n2, n3, n4, n5, n6, n7, -⟩ := HN.out
        rw [n5, hm.out.2] at hlt
        exact Nat.le_antisymm hm.out.1 (Nat.le_of_mul_le_mul_right (Nat.le_of_not_lt hlt) n7)
      subst hPJ
      have tb : ¬ ((m : Nat) : Int) < (L : Int) := by omega
      have HV : Hid (w'.heap.size ≤ gs ∧ R6 wr gs n (fd s k F P) ∧ Below w'.heap.size w' wr) := ⟨H2.out.2.2.2.1, hr, hb⟩
      clear hr hm hlt hWe hb
      go_wp2
      go_ret2
      exact ⟨gs, rfl, HV.out⟩
end Go.Proofs.YtgdnjbaohfiijaaDoor
namespace Go.Proofs.YtgdnjbaohfiijaaDoor
open Go.RowKit Gf2
set_option linter.unusedVariables false

-- layer 14: Fold refused (laid by wip/genrfg.py)
/-- why Fold is refused, and how. -/
def Fz (L : Nat) (n s z : Int) : Prop := ((∀ m : Nat, n = m → ¬ pw2 m 65536) ∧ z = 130) ∨ ∃ m k : Nat, n = m ∧ m = 2 ^ k ∧ k ≤ 16 ∧ (((L = 0 ∨ L % m ≠ 0) ∧ z = 6) ∨ ((L ≠ 0 ∧ L % m = 0) ∧ ¬ Beg s m L ∧ z = 140))
set_option maxHeartbeats 4000000 in
set_option maxRecDepth 100000 in
theorem fold14_no (a : Option Addr) (L cap : Nat) (n s z : Int) (w : World) (hz : Fz L n s z) (hL : L ≤ 9223372036854775807) (hn : n ≤ 9223372036854775807) :
    Calls Tryd.prog 10 #[.slice a L cap, .int .i64 n, .int .i64 s] w fun e w' => e = .returned (.tuple #[.slice none 0 0, .int .i64 z]) ∧ w' = w := by
  rcases hz with ⟨h1, rfl⟩ | ⟨m, k, rfl, hm, hk, h2⟩
  · have k1 := isPow14_no n h1 hn w
    clear h1 hn hL
    go_enter Tryd.func10, Tryd.ntmps10
    go_wp2_with (go_at_call 26; ((with_reducible refine (k1).mono ?_); rintro e w' ⟨rfl, rfl⟩))
    go_ret2
    exact ⟨rfl, rfl⟩
  · have k1 := isPow14_yes k m hm (by rw [hm]; exact pow_le16r hk) w
    have m0 : 0 < m := by rw [hm]; exact Nat.two_pow_pos k
    have n0 : ((m : Int) == 0) = false := by simp; omega
    have n1 : (m : Int) ≠ 0 := by omega
    have tm : (L : Int).tmod (m : Int) = ((L % m : Nat) : Int) := by rw [Int.tmod_eq_emod_of_nonneg (by omega)]; rfl
    rcases h2 with ⟨h3, rfl⟩ | ⟨h3, h4, rfl⟩
    · by_cases h5 : L = 0
      · subst h5
        clear h3 hm hk hn tm m0
        go_enter Tryd.func10, Tryd.ntmps10
        go_wp2_with (go_at_call 26; ((with_reducible refine (k1).mono ?_); rintro e w' ⟨rfl, rfl⟩))
        go_ret2
        exact ⟨rfl, rfl⟩
      · have l0 : ((L : Int) == 0) = false := by simp; omega
        obtain ⟨R, hR⟩ : ∃ R, R = L % m := ⟨_, rfl⟩
        have hR0 : R ≠ 0 := by rcases h3 with h | h <;> omega
        have r0 : ((R : Int) == 0) = false := by simp; omega
        rw [← hR] at tm
        clear h3 hm hk hn m0 hR hR0 h5
        go_enter Tryd.func10, Tryd.ntmps10
        go_wp2_with (go_at_call 26; ((with_reducible refine (k1).mono ?_); rintro e w' ⟨rfl, rfl⟩))
        go_ret2
        exact ⟨rfl, rfl⟩
    · have k2 := isBeg14 s m L m0 hL w
      rw [show decide (Beg s m L) = false from decide_eq_false h4] at k2
      have l0 : ((L : Int) == 0) = false := by simp; omega
      rw [h3.2] at tm
      clear h3 h4 hm hk hn m0
      go_enter Tryd.func10, Tryd.ntmps10
      go_wp2_with (first | (go_at_call 26; ((with_reducible refine (k1).mono ?_); rintro e w' ⟨rfl, rfl⟩)) | (go_at_call 27; ((with_reducible refine (k2).mono ?_); rintro e w' ⟨rfl, rfl⟩)))
      go_ret2
      exact ⟨rfl, rfl⟩
set_option maxHeartbeats 4000000 in
set_option maxRecDepth 100000 in
theorem refFold14_no (a : Option Addr) (L cap : Nat) (n s z : Int) (w : World) (hz : Fz L n s z) (hL : L ≤ 9223372036854775807) (hn : n ≤ 9223372036854775807) :
    Calls Tryd.prog 18 #[.slice a L cap, .int .i64 n, .int .i64 s] w fun e w' => e = .returned (.tuple #[.slice none 0 0, .int .i64 z]) ∧ w' = w := by
  rcases hz with ⟨h1, rfl⟩ | ⟨m, k, rfl, hm, hk, h2⟩
  · have k1 := refPow_no n h1 w
    clear h1 hn hL
    go_enter Tryd.func18, Tryd.ntmps18
    go_wp2_with (go_at_call 31; ((with_reducible refine (k1).mono ?_); rintro e w' ⟨rfl, rfl⟩))
    go_ret2
    exact ⟨rfl, rfl⟩
  · have k1 := refPow_yes k m hm hk w
    have m0 : 0 < m := by rw [hm]; exact Nat.two_pow_pos k
    have n0 : ((m : Int) == 0) = false := by simp; omega
    have n1 : (m : Int) ≠ 0 := by omega
    have tm : (L : Int).tmod (m : Int) = ((L % m : Nat) : Int) := by rw [Int.tmod_eq_emod_of_nonneg (by omega)]; rfl
    rcases h2 with ⟨h3, rfl⟩ | ⟨h3, h4, rfl⟩
    · by_cases h5 : L = 0
      · subst h5
        clear h3 hm hk hn tm m0
        go_enter Tryd.func18, Tryd.ntmps18
        go_wp2_with (go_at_call 31; ((with_reducible refine (k1).mono ?_); rintro e w' ⟨rfl, rfl⟩))
        go_ret2
        exact ⟨rfl, rfl⟩
      · have l0 : ((L : Int) == 0) = false := by simp; omega
        obtain ⟨R, hR⟩ : ∃ R, R = L % m := ⟨_, rfl⟩
        have hR0 : R ≠ 0 := by rcases h3 with h | h <;> omega
        have r0 : ((R : Int) == 0) = false := by simp; omega
        rw [← hR] at tm
        clear h3 hm hk hn m0 hR hR0 h5
        go_enter Tryd.func18, Tryd.ntmps18
        go_wp2_with (go_at_call 31; ((with_reducible refine (k1).mono ?_); rintro e w' ⟨rfl, rfl⟩))
        go_ret2
        exact ⟨rfl, rfl⟩
    · have k2 := refCoset s m L m0 w
      rw [show decide (Beg s m L) = false from decide_eq_false h4] at k2
      have l0 : ((L : Int) == 0) = false := by simp; omega
      rw [h3.2] at tm
      clear h3 h4 hm hk hn m0
      go_enter Tryd.func18, Tryd.ntmps18
      go_wp2_with (first | (go_at_call 31; ((with_reducible refine (k1).mono ?_); rintro e w' ⟨rfl, rfl⟩)) | (go_at_call 32; ((with_reducible refine (k2).mono ?_); rintro e w' ⟨rfl, rfl⟩)))
      go_ret2
      exact ⟨rfl, rfl⟩
end Go.Proofs.YtgdnjbaohfiijaaDoor
