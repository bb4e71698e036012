import Derived.Test.YtaoapplbcgflmaaGreatMlbb
namespace Go.Proofs.YtaoapplbcgflmaaGreat
open Go.RowKit Gf2
set_option linter.unusedVariables false

theorem lt_shift9 {x j pt t : Nat} (h : j < pt - x) (ht : pt ≤ t) : x + j < t := by omega
theorem re_form9 {E : Nat → Prop} {w : World} {v : Value} {n : Nat} {S : Nat → Nat} (h : Re E w v n S) : ∃ a c, v = .slice a n c ∧ n ≤ c := by
  obtain ⟨_, _, a, c, h, h', _⟩ := h
  exact ⟨a, c, h, h'⟩
/-- what Agrees answers where the lists go together. -/
def AgP (Q : Prop) (w : World) (e : Ending) (w' : World) : Prop := ∃ b : Bool, e = .returned (.tuple #[.bool b, .int .i64 0]) ∧ (b = true ↔ Q) ∧ Below w.heap.size w w'
set_option maxHeartbeats 4000000 in
set_option maxRecDepth 100000 in
theorem kagrees_good (p : Addr) (bk lo hi m k L f t : Nat) (R S D : Nat → Nat → Nat) (rows srcs dsts : Value) (w : World) (hk : Ks w p bk lo hi) (hmb : 24 * m ≤ 140737488355328) (hkb : 24 * k ≤ 140737488355328)
    (hL : L ≤ 140737488351232) (hr : Lb w rows m (fun _ => k) R) (hs : Lb w srcs k (fun _ => L) S) (hd : Lb w dsts m (fun _ => L) D) (hft : f ≤ t) (htL : t ≤ len9 k m (fun _ => L) (fun _ => L)) :
    Calls Tryz.prog 61 #[.pointer (some p), rows, srcs, dsts, .agg #[.int .i64 (f : Int), .int .i64 (t : Int)]] w fun e w' => AgP (∀ r, r < m → ∀ j, f ≤ j → j < t → D r j = ks (R r) S k j) w e w' := by
  have b1 : Below w.heap.size w (w.alloc (.cells #[.int .i64 (f : Int), .int .i64 (t : Int)] 48)) := (Below.refl _ _).alloc (Nat.le_refl _) _
  have cU := unfit9 p bk lo hi m k m (fun _ => k) (fun _ => L) (fun _ => L) R S D (f : Int) (t : Int) rows srcs dsts _ (hk.under b1) (by omega) (by omega) (by omega) (hr.below b1) (hs.below b1) (hd.below b1)
  rw [fit9_ok hft htL] at cU
  have htb : t ≤ 140737488351232 := by
    rcases Nat.eq_zero_or_pos m with h1 | h1
    · rcases Nat.eq_zero_or_pos k with h2 | h2
      · subst h1 h2
        have : len9 0 0 (fun _ => L) (fun _ => L) = 0 := rfl
        omega
      · rw [len9_of (.inl h2)] at htL; omega
    · rw [len9_of (.inr h1)] at htL; omega
  have htL2 : 0 < m → t ≤ L := fun h => by rw [len9_of (.inr h)] at htL; exact htL
  have htL3 : 0 < k → t ≤ L := fun h => by rw [len9_of (.inl h)] at htL; exact htL
  clear htL
  obtain ⟨as_, cs, es⟩ := ll_form hs
  obtain ⟨Vr, hrv, hVr⟩ := hr
  obtain ⟨Vd, hdv, hVd⟩ := hd
  obtain ⟨hmb2, ar, cr, er, -, -, r4⟩ := id hrv
  obtain ⟨hmb3, ad, cd, ed, -, -, d4⟩ := id hdv
  subst er ed es
  obtain ⟨n, hn, hnb⟩ : ∃ n : Nat, n = Nat.min 4096 (t - f) ∧ n ≤ 4096 := ⟨_, rfl, Nat.min_le_left _ _⟩
  have eM : min (4096 : Int) ((t : Int) - (f : Int)) = (n : Int) := by have : n = min 4096 (t - f) := hn; omega
  have hmk := make_u8 n (by omega)
  have HM : Hid (n = min 4096 (t - f)) := hn
  clear hn
  have HI : Hid (Ks w p bk lo hi ∧ Ll (fun _ => False) w (.slice as_ k cs) k (fun _ => L) S) := ⟨hk, hs⟩
  clear hk hs
  go_enter Tryz.func61, Tryz.ntmps61
  go_wp2_with (go_at_call 73; (with_reducible refine cU.mono ?_); rintro e w2 ⟨rfl, b2⟩; have y1 : w2.cell? ⟨w.heap.size, 0, none⟩ = some (.int .i64 (f : Int)) := (b2.cell (p := ⟨w.heap.size, 0, none⟩) (by simp)).trans (by simp); have y2 : w2.cell? ⟨w.heap.size, 1, none⟩ = some (.int .i64 (t : Int)) := (b2.cell (p := ⟨w.heap.size, 1, none⟩) (by simp)).trans (by simp); have y1' := Lib.cell?_alloc_some (.cells (madeCells #[.int .u8 0] n) 5) y1; have y2' := Lib.cell?_alloc_some (.cells (madeCells #[.int .u8 0] n) 5) y2)
  have z2 : w.heap.size < w2.heap.size := Nat.lt_of_lt_of_le (by simp) b2.size
  have B2 : Below w.heap.size w w2 := b1.trans (b2.mono b1.size)
  obtain ⟨w3, hw3⟩ : ∃ x, x = w2.alloc (.cells (madeCells #[.int .u8 0] n) 5) := ⟨_, rfl⟩
  rw [← hw3]
  have R3 : Rw w3 w2.heap.size n (fun _ => 0) := by rw [hw3]; exact made_rw n (by omega) w2
  have B3 : Below w2.heap.size w2 w3 := by rw [hw3]; exact (Below.refl _ _).alloc (Nat.le_refl _) _
  have z3 : w3.heap.size = w2.heap.size + 1 := by rw [hw3]; simp
  clear y1' y2'
  have y3 := (B3.cell (p := ⟨w.heap.size, 0, none⟩) z2).trans y1
  have y4 := (B3.cell (p := ⟨w.heap.size, 1, none⟩) z2).trans y2
  have B4 : Below w.heap.size w w3 := B2.trans (B3.mono B2.size)
  clear hw3 hmk cU b1 b2 y1 y2 B2 B3
  obtain ⟨gR, hgR⟩ : ∃ g, g = w2.heap.size := ⟨_, rfl⟩
  rw [← hgR] at R3 z3 z2 ⊢
  clear hgR
  obtain ⟨hk, hs⟩ := HI.out
  have HA : Hid (_ ∧ _ ∧ _ ∧ _ ∧ _ ∧ _ ∧ _ ∧ _ ∧ _ ∧ _ ∧ _ ∧ _) := ⟨hk, hs, hVr, hVd, r4, d4, htL2, htL3, hmb, hkb, HM.out, B4⟩
  have HG : Hid (hi ≤ gR ∧ t ≤ 140737488351232 ∧ gR < w3.heap.size) := ⟨Nat.le_trans hk.hi (Nat.le_of_lt z2), htb, by omega⟩
  have n1 : w.heap.size ≠ gR := Nat.ne_of_lt z2
  have z5 : w.heap.size < w3.heap.size := by omega
  clear HI hk hs hVr hVd r4 d4 htL2 htL3 hmb hkb HM B4 hrv hdv hmb2 hmb3 hL eM hnb htb
  go_loopw [14] (fun i wr => ∃ (x : Nat) (F' : Nat → Nat), f ≤ x ∧ x ≤ t + 4096 ∧ i = .int .i64 x ∧ Kp gR w3 wr ∧ Rw wr gR n F' ∧ ∀ r, r < m → ∀ j, f ≤ j → j < x → j < t → D r j = ks (R r) S k j) (fun i _ => t + 8192 - (intOf i).toNat)
  case atStart => exact ⟨f, _, Nat.le_refl _, by omega, rfl, Kp.refl _ _, R3, fun r _ j h1 h2 => absurd h2 (by omega)⟩
  case round =>
    obtain ⟨x, F', hfx, hxt, rfl, hkp, hrw, hE⟩ := hrel
    have q3 := (hkp.cell (q := 0) z5 n1).trans y3
    have q4 := (hkp.cell (q := 1) z5 n1).trans y4
    by_cases hlt : x < t
    · obtain ⟨pt, hpt⟩ : ∃ pt : Nat, pt = min (x + 4096) t := ⟨_, rfl⟩
      have htb := HG.out.2.1
      have eP : min ((x : Int) + 4096) (t : Int) = (pt : Int) := by omega
      have ib : ((x : Nat) : Int) < (t : Int) := Int.ofNat_lt.2 hlt
      have WX : wrap64 ((x : Int) + 4096) = (x : Int) + 4096 := by unfold wrap64; omega
      have HX : Hid (x < pt ∧ pt ≤ t ∧ pt - x ≤ n ∧ (∀ j, x ≤ j → j < x + 4096 → j < t → j < pt) ∧ x < t ∧ f ≤ x) := ⟨by omega, by omega, by have := HA.out.2.2.2.2.2.2.2.2.2.2.1; omega, fun j _ _ _ => by omega, hlt, hfx⟩
      have HE : Hid (_ ∧ _) := ⟨hE, hkp⟩
      have b5 : Below wr.heap.size wr (wr.alloc (.cells #[.int .i64 (x : Int), .int .i64 (pt : Int)] 48)) := (Below.refl _ _).alloc (Nat.le_refl _) _
      have K4 : Ke (fun y => y = gR) w (wr.alloc (.cells #[.int .i64 (x : Int), .int .i64 (pt : Int)] 48)) := ((ke_below HA.out.2.2.2.2.2.2.2.2.2.2.2 _).trans hkp.ke).trans (ke_below b5 _)
      have R4 := rw_below hrw b5
      have HB : Hid (Kp gR wr (wr.alloc (.cells #[.int .i64 (x : Int), .int .i64 (pt : Int)] 48)) ∧ gR ≠ wr.heap.size) := ⟨kp_below b5 gR, Nat.ne_of_lt hrw.lt⟩
      clear hpt hE hkp hrw hfx hxt hlt htb b5 hft R3 z3
      go_wp2
      obtain ⟨w4, hw4⟩ : ∃ y, y = wr.alloc (.cells #[.int .i64 (x : Int), .int .i64 (pt : Int)] 48) := ⟨_, rfl⟩
      rw [← hw4] at K4 R4 HB ⊢
      have z4 : wr.heap.size < w4.heap.size := by rw [hw4]; simp
      have y5 : w4.cell? ⟨wr.heap.size, 0, none⟩ = some (.int .i64 (x : Int)) := by rw [hw4]; simp
      have y6 : w4.cell? ⟨wr.heap.size, 1, none⟩ = some (.int .i64 (pt : Int)) := by rw [hw4]; simp
      have hkq : Kp gR w3 w4 := HE.out.2.trans HB.out.1
      have hng := HB.out.2
      have hE := HE.out.1
      clear HB HE
      obtain ⟨gP, hgP⟩ : ∃ g, g = wr.heap.size := ⟨_, rfl⟩
      rw [← hgP] at z4 y5 y6 hng ⊢
      clear hw4 q3 q4 hgP
      have HE : Hid (_ ∧ _ ∧ _) := ⟨hE, hkq, hng⟩
      clear hE hkq hng
      go_loopw [52] (fun i wz => ∃ (r : Nat) (F2 : Nat → Nat), r ≤ m ∧ i = .int .i64 r ∧ Kp gR w4 wz ∧ Rw wz gR n F2 ∧ ∀ s, s < r → ∀ j, x ≤ j → j < pt → D s j = ks (R s) S k j) (fun i _ => m - (intOf i).toNat)
      case atStart => exact ⟨0, F', Nat.zero_le _, rfl, Kp.refl _ _, R4, fun s hs => absurd hs (Nat.not_lt_zero _)⟩
      case round =>
        obtain ⟨r, F2, hrm, rfl, hkz, hrz, hE2⟩ := hrel
        by_cases hlt : r < m
        · obtain ⟨hk, hs, hVr, hVd, r4, d4, htL2, htL3, hmb, hkb, -, B4⟩ := HA.out
          obtain ⟨br, orr, rfl, hbr, hcr⟩ := r4 (by omega)
          obtain ⟨bd, od, rfl, hbd, hcd⟩ := d4 (by omega)
          clear r4 d4
          obtain ⟨x1, x2, x3, -, -, -⟩ := HX.out
          have ne : ∀ b, b < w.heap.size → b ≠ gR := fun b hb e => by omega
          have K5 : Ke (fun y => y = gR) w wr := K4.trans hkz.ke
          have q2 := (K5.cell hbd.1 (ne _ hbd.1)).trans (hcd r hlt)
          have hv := hVd r hlt
          obtain ⟨xd, cx, hxd, hcx⟩ := re_form9 hv
          rw [hxd] at q2 hv
          have pL : pt ≤ L := Nat.le_trans x2 (htL2 (by omega))
          obtain ⟨a9, hre, hcut⟩ := cut_re9 (f := x) (t := pt) hv (Nat.le_of_lt x1) pL
          have hhd := run_head9 (some ⟨gR, 0, none⟩) n n (pt - x) x3
          have eD : (pt : Int) - (x : Int) = ((pt - x : Nat) : Int) := by omega
          have WD : wrap64 ((pt : Int) - (x : Int)) = ((pt - x : Nat) : Int) := by have := HG.out.2.1; unfold wrap64; omega
          have q7 := (hkz.cell (q := 0) z4 (Ne.symm HE.out.2.2)).trans y5
          have q8 := (hkz.cell (q := 1) z4 (Ne.symm HE.out.2.2)).trans y6
          have hre5 := (hre.mono (E' := fun y => y = gR) (fun b hb e => ne b hb e)).ke K5
          obtain ⟨w5, hcopy, r5, o5⟩ := copy8_min wr (g := gR) (o := 0) (dl := pt - x) (cap := n) hrz (a := a9) (m := pt - x) (n := pt - x) (cap' := cx - x) (S := fun j => D r (x + j)) hre5.2.1 (fun h0 => by
            obtain ⟨_, _, a, c, e, _, _, h4⟩ := hre5
            cases e
            obtain ⟨b, o, e, hl, hc⟩ := h4 h0
            exact ⟨b, o, e, hc⟩) (by omega) (Nat.le_refl _) (Nat.le_refl _) (Nat.min_self _)
          have K6 : Ke (fun y => y = gR) w w5.drew := (K5.trans o5.kp.ke).drew9
          have k6 : Kp gR w4 w5.drew := ⟨(hkz.trans o5.kp).1.drew, (hkz.trans o5.kp).2⟩
          have c5 := addp9 p bk lo hi k L x pt gR 0 n _ (R r) S (some ⟨gR, 0, none⟩) n (Vr r) _ w5.drew (hk.held K6 (fun y e => e ▸ .inr HG.out.1)) (.inr HG.out.1) r5.drew9 (fun _ => rfl) (by omega) x3 (Nat.le_trans x3 r5.1) (((hVr r hlt).mono (E' := fun y => y = gR) (fun b hb e => ne b hb e)).ke K6) ((hs.mono (E' := fun y => y = gR) (fun b hb e => ne b hb e)).ke K6) (Nat.le_of_lt x1) (fun h => Nat.le_trans x2 (htL3 h)) (by omega)
          have q6 := (K6.cell (q := orr + r) hbr.1 (ne _ hbr.1)).trans (hcr r hlt)
          have q9 := (k6.cell (q := 0) z4 (Ne.symm HE.out.2.2)).trans y5
          have q10 := (k6.cell (q := 1) z4 (Ne.symm HE.out.2.2)).trans y6
          have ib2 : ((r : Nat) : Int) < (m : Int) := Int.ofNat_lt.2 hlt
          have W1 := wrap_succ8 (j := r) (by unfold big; omega)
          have HQ : Hid ((br < w5.drew.heap.size ∧ br ≠ gR) ∧ (gP < w5.drew.heap.size ∧ gP ≠ gR) ∧ Kp gR w4 w5.drew ∧ (∀ s, s < r → ∀ j, x ≤ j → j < pt → D s j = ks (R s) S k j) ∧ Below w.heap.size w w5.drew ∧ pt - x ≤ n) := ⟨⟨Nat.lt_of_lt_of_le hbr.1 K6.size, ne _ hbr.1⟩, ⟨Nat.lt_of_lt_of_le z4 k6.size, Ne.symm HE.out.2.2⟩, k6, hE2, K6.below (fun y e => by omega) (Nat.le_refl _), x3⟩
          clear hk hs hVr hVd htL2 htL3 hmb hkb B4 hcr hcd hbr hbd ne K5 hv hxd hcx pL hre hre5 r5 o5 K6 k6 hkz hrz hE2 x1 x2 x3 K4 R4 y3 y4 y5 y6
          go_wp2
          refine region_planI (fun w' => w'.cell? ⟨br, orr + r, none⟩ = some (Vr r) ∧ w'.cell? ⟨gP, 0, none⟩ = some (.int .i64 (x : Int)) ∧ w'.cell? ⟨gP, 1, none⟩ = some (.int .i64 (pt : Int))) [0, 1, 2, 3, 4, 5, 6, 7, 8] [8, 0] 85 ⟨q6, q9, q10⟩ (by kernel_rfl) (by kernel_rfl) (fun _ a d v _ h => by cases d <;> exact h) ?_
          simp only [atI, List.getElem?_cons_zero, List.getElem?_cons_succ]
          refine planH_step ?A1 rfl (fun w' hS => ?s1) rfl (fun K hK => ?n1)
          case s1 =>
            obtain ⟨y0, y1, y2⟩ := hS
            simp only [List.take_succ_cons, List.take_zero]
            repeat still_step
            exact rfl
          case n1 =>
          go_simp
          go_wp2_with (go_at_call 74; (with_reducible refine c5.mono ?_); rintro e x5 ⟨⟨v5, rfl⟩, k5, r7⟩)
          clear c5
          obtain ⟨n1, n2, n3, n4, n5, n6⟩ := HQ.out
          have k7 : Kp gR w4 x5 := n3.trans k5
          have hval : ∀ j, j < pt - x → (pl (pl F2 0 (pt - x) fun j => D r (x + j)) 0 (pt - x) fun x_1 => pl F2 0 (pt - x) (fun j => D r (x + j)) (0 + x_1) ^^^ ks (R r) (fun i j => S i (x + j)) k x_1) j = D r (x + j) ^^^ ks (R r) S k (x + j) := fun j hj => by
            have h1 := pl_in (F := pl F2 0 (pt - x) fun j => D r (x + j)) (o := 0) (S := fun x_1 => pl F2 0 (pt - x) (fun j => D r (x + j)) (0 + x_1) ^^^ ks (R r) (fun i j => S i (x + j)) k x_1) hj
            rw [Nat.zero_add] at h1
            rw [h1]
            have h2 := pl_in (F := F2) (o := 0) (S := fun j => D r (x + j)) hj
            rw [Nat.zero_add] at h2
            show pl F2 0 (pt - x) (fun j => D r (x + j)) j ^^^ ks (R r) (fun i j => S i (x + j)) k j = _
            rw [h2, ks_shift]
          have hrb : Rb x5 (.slice (some ⟨gR, 0, none⟩) (pt - x) n) (pt - x) (fun j => D r (x + j) ^^^ ks (R r) S k (x + j)) := ((r7.re (E := fun _ => False) n6 n6 r7.1 (fun e => e)).congr hval).rb
          have HN : Hid (Kp gR w4 x5 ∧ Rw x5 gR n _ ∧ Below w.heap.size w x5) := ⟨k7, r7, n5.trans (k5.below (Nat.le_of_lt z2) n5.size)⟩
          by_cases hz : ∀ j, j < pt - x → D r (x + j) = ks (R r) S k (x + j)
          · have cz := iszero9_yes _ _ _ x5 hrb (fun j hj => xor_zero9.2 (hz j hj))
            have HZ : Hid (∀ s, s < r + 1 → ∀ j, x ≤ j → j < pt → D s j = ks (R s) S k j) := fun s hs j h1 h2 => by
              rcases Nat.lt_or_ge s r with h | h
              · exact n4 s h j h1 h2
              · have e : s = r := Nat.le_antisymm (Nat.le_of_lt_succ hs) h
                subst e
                have := hz (j - x) (Nat.sub_lt_sub_right h1 h2)
                rwa [Nat.add_sub_of_le h1] at this
            clear hz hrb hval k7
            refine hK _ _ ⟨(k5.cell n1.1 n1.2).trans q6, (k5.cell n2.1 n2.2).trans q9, (k5.cell n2.1 n2.2).trans q10⟩ ?_
            clear hK K n1 n2 n3 n4 n5 n6 k5 r7 q2 q6 q7 q8 q9 q10 HQ hcut hcopy hhd
            refine planH_last ?A2 rfl (fun w' hS => ?s2) rfl ?n2
            case s2 =>
              simp only [List.take_zero]
              exact rfl
            case n2 =>
            go_wp2_with (go_at_call 101; (with_reducible refine cz.mono ?_); rintro e w9 ⟨rfl, hw9⟩; have hw9 := hw9.symm; subst hw9)
            go_roundw
            case rel => exact ⟨r + 1, _, hlt, by first | rfl | (rw [W1]; rfl), HN.out.1, HN.out.2.1, HZ.out⟩
            case measure => first | exact meas_lt8 hlt | (rw [W1]; exact meas_lt8 hlt)
          · have cz := iszero9_no _ _ _ x5 hrb (fun h => hz (fun j hj => xor_zero9.1 (h j hj)))
            have HZ : Hid (¬ ∀ r, r < m → ∀ j, f ≤ j → j < t → D r j = ks (R r) S k j) := fun h => hz (fun j hj => h r hlt (x + j) (Nat.le_trans HX.out.2.2.2.2.2 (Nat.le_add_right x j)) (lt_shift9 hj HX.out.2.1))
            clear hz hrb hval k7
            refine hK _ _ ⟨(k5.cell n1.1 n1.2).trans q6, (k5.cell n2.1 n2.2).trans q9, (k5.cell n2.1 n2.2).trans q10⟩ ?_
            clear hK K n1 n2 n3 n4 n5 n6 k5 r7 q2 q6 q7 q8 q9 q10 HQ hcut hcopy hhd
            refine planH_last ?A2 rfl (fun w' hS => ?s2) rfl ?n2
            case s2 =>
              simp only [List.take_zero]
              exact rfl
            case n2 =>
            go_wp2_with (go_at_call 101; (with_reducible refine cz.mono ?_); rintro e w9 ⟨rfl, hw9⟩; have hw9 := hw9.symm; subst hw9)
            go_ret2
            exact ⟨false, rfl, ⟨fun h => absurd h (by decide), fun h => absurd h HZ.out⟩, HN.out.2.2⟩
        · have hkn : r = m := by omega
          subst hkn
          have HN : Hid (Kp gR w3 wr ∧ Rw wr gR n F2 ∧ ∀ s, s < r → ∀ j, f ≤ j → j < x + 4096 → j < t → D s j = ks (R s) S k j) := by
            refine ⟨HE.out.2.1.trans hkz, hrz, fun s hs j h1 h2 h3 => ?_⟩
            rcases Nat.lt_or_ge j x with h | h
            · exact HE.out.1 s hs j h1 h h3
            · exact hE2 s hs j h (HX.out.2.2.2.1 j h h2 h3)
          have HY : Hid (x < t ∧ f ≤ x) := ⟨HX.out.2.2.2.2.1, HX.out.2.2.2.2.2⟩
          clear hkz hrz hE2 K4 R4
          go_wp2
          go_roundw
          case rel => exact ⟨x + 4096, F2, by have := HY.out; omega, by have := HY.out; omega, by first | rfl | (rw [WX]; rfl), HN.out.1, HN.out.2.1, HN.out.2.2⟩
          case measure =>
            have := HY.out
            first | (simp [intOf]; omega) | (rw [WX]; simp [intOf]; omega)
    · have B4 := HA.out.2.2.2.2.2.2.2.2.2.2.2
      have HF : Hid (∀ r, r < m → ∀ j, f ≤ j → j < t → D r j = ks (R r) S k j) := fun r hr j h1 h2 => hE r hr j h1 (by omega) h2
      have HB : Hid (Below w.heap.size w wr) := B4.trans (hkp.below (Nat.le_of_lt z2) (Nat.le_of_lt z5))
      clear hE B4 hkp hrw
      go_wp2
      go_ret2
      exact ⟨true, rfl, ⟨fun _ => HF.out, fun _ => rfl⟩, HB.out⟩
end Go.Proofs.YtaoapplbcgflmaaGreat
namespace Go.Proofs.YtaoapplbcgflmaaGreat
open Go.RowKit Gf2
set_option linter.unusedVariables false

theorem kagrees_any (p : Addr) (bk lo hi m k d : Nat) (nr ns nd : Nat → Nat) (R S D : Nat → Nat → Nat) (fr to : Int) (rows srcs dsts : Value) (w : World) (hk : Ks w p bk lo hi) (hmb : 24 * m ≤ 140737488355328) (hkb : 24 * k ≤ 140737488355328) (hdb : 24 * d ≤ 140737488355328)
    (hn1 : ∀ i, i < k → ns i ≤ 140737488351232) (hn2 : ∀ i, i < d → nd i ≤ 140737488351232) (hr : Lb w rows m nr R) (hs : Lb w srcs k ns S) (hd : Lb w dsts d nd D) :
    Calls Tryz.prog 61 #[.pointer (some p), rows, srcs, dsts, .agg #[.int .i64 fr, .int .i64 to]] w fun e w' => ∃ b : Bool, e = .returned (.tuple #[.bool b, .int .i64 (fit9 m k d nr ns nd fr to : Nat)]) ∧
      (b = true ↔ fit9 m k d nr ns nd fr to = 0 ∧ ∀ r, r < d → ∀ t : Nat, fr ≤ (t : Int) → (t : Int) < to → D r t = ks (R r) S k t) ∧ Below w.heap.size w w' := by
  by_cases hf : fit9 m k d nr ns nd fr to = 0
  · obtain ⟨⟨rfl, hnr, hns, hnd⟩, r1, r2, r3⟩ := fit9_split hf
    generalize hL : len9 k m ns nd = L at hns hnd r3
    obtain ⟨f, rfl⟩ : ∃ f : Nat, fr = (f : Int) := ⟨fr.toNat, by omega⟩
    obtain ⟨t, rfl⟩ : ∃ t : Nat, to = (t : Int) := ⟨to.toNat, by omega⟩
    have eL : len9 k m ns nd = len9 k m (fun _ => L) (fun _ => L) := by
      unfold len9
      by_cases h1 : 0 < k
      · rw [if_pos h1, if_pos h1, hns 0 h1]
      · rw [if_neg h1, if_neg h1]
        by_cases h2 : 0 < m
        · rw [if_pos h2, if_pos h2, hnd 0 h2]
        · rw [if_neg h2, if_neg h2]
    have hLb : L ≤ 140737488351232 := by
      rw [← hL]
      unfold len9
      split
      · next h => exact hn1 0 h
      · split
        · next h => exact hn2 0 h
        · decide
    refine (kagrees_good p bk lo hi m k L f t R S D rows srcs dsts w hk hmb hkb hLb (hr.lens hnr) (hs.lens hns) (hd.lens hnd) (by omega) (by rw [← eL, hL]; omega)).mono ?_
    rintro e w' ⟨b, rfl, hb, hB⟩
    refine ⟨b, by rw [hf]; rfl, ⟨fun h => ⟨hf, fun r hr' j h1 h2 => hb.1 h r hr' j (by omega) (by omega)⟩, fun h => hb.2 (fun r hr' j h1 h2 => h.2 r hr' j (by omega) (by omega))⟩, hB⟩
  · refine (kagrees_bad p bk lo hi m k d nr ns nd R S D fr to rows srcs dsts w hk hmb hkb hdb hr hs hd hf).mono ?_
    rintro e w' ⟨rfl, hB⟩
    exact ⟨false, rfl, ⟨fun h => absurd h (by decide), fun h => absurd h.1 hf⟩, hB⟩
end Go.Proofs.YtaoapplbcgflmaaGreat
