import Derived.Test.YtdolghlphmjcdabKj8
import Derived.Deep.CutRange
import Derived.Deep.RegionHeld
namespace Go.Proofs.Ytdolghlphmjcdab.kernelDots
open Go.RowKit Gf2
set_option linter.unusedVariables false

set_option maxHeartbeats 16000000 in
set_option maxRecDepth 100000 in
theorem walk (vr vo vS : Value) (nr no mS fill : Nat) (Fr Fo nS : Nat → Nat) (SS : Nat → Nat → Nat) (w : World) (hr : Rb w vr nr Fr) (ho : Rb w vo no Fo) (hs : Lb w vS mS nS SS) (hfl : fill < 256) (hnr : nr ≤ 140737488351232) (hmS : 24 * mS ≤ 140737488351232) (hnS : ∀ i, i < mS → nS i ≤ 140737488351232) :
    Calls Try.prog 4 #[.agg #[vr, vo, vS, .int .u8 (fill : Int)]] w fun e w' => e = .returned (.bool true) ∧ Below w.heap.size w w' := by
  obtain ⟨xr, cr, rfl⟩ := Rb.form9 hr
  obtain ⟨xo, co, rfl⟩ := Rb.form9 ho
  obtain ⟨xS, cS, rfl⟩ := Lb.form hs
  have hX := Box9.new w #[.slice xr nr cr, .slice xo no co, .slice xS mS cS, .int .u8 (fill : Int)] 42
  have bX : Below w.heap.size w (w.alloc (.cells #[.slice xr nr cr, .slice xo no co, .slice xS mS cS, .int .u8 (fill : Int)] 42)) := (Below.refl _ _).alloc (Nat.le_refl _) _
  have y0 := hX.cell (i := 0) (v := .slice xr nr cr) rfl
  have y1 := hX.cell (i := 1) (v := .slice xo no co) rfl
  have y2 := hX.cell (i := 2) (v := .slice xS mS cS) rfl
  have y3 := hX.cell (i := 3) (v := .int .u8 (fill : Int)) rfl
  have HI : Hid (Rb w (.slice xr nr cr) nr Fr ∧ Rb w (.slice xo no co) no Fo ∧ Lb w (.slice xS mS cS) mS nS SS ∧ nr ≤ 140737488351232 ∧ 24 * mS ≤ 140737488351232 ∧ ∀ i, i < mS → nS i ≤ 140737488351232) := ⟨hr, ho, hs, hnr, hmS, hnS⟩
  have HX : Hid (Below w.heap.size w (w.alloc (.cells #[.slice xr nr cr, .slice xo no co, .slice xS mS cS, .int .u8 (fill : Int)] 42)).drew) := bX.drew
  clear hr ho hs hnr hmS hnS hX bX
  go_enter Try.func4, Try.ntmps4
  go_wp2
  refine region_planI (fun x' => x'.cell? ⟨w.heap.size, 0, none⟩ = some (.slice xr nr cr) ∧ x'.cell? ⟨w.heap.size, 1, none⟩ = some (.slice xo no co) ∧ x'.cell? ⟨w.heap.size, 2, none⟩ = some (.slice xS mS cS) ∧ x'.cell? ⟨w.heap.size, 3, none⟩ = some (.int .u8 (fill : Int))) [0, 1, 2, 3, 4, 5, 6, 7, 8, 9, 10, 11] [12] 260 ⟨y0, y1, y2, y3⟩ (by kernel_rfl) (by kernel_rfl) (fun _ a d v _ h => by cases d <;> exact h) ?_
  simp only [atI, List.getElem?_cons_zero, List.getElem?_cons_succ]
  refine planH_last ?A1 rfl (fun w' hS => ?s1) rfl ?n1
  case s1 =>
    obtain ⟨z0, z1, z2, z3⟩ := hS
    simp only [List.take_succ_cons, List.take_zero]
    repeat still_step
    exact rfl
  case n1 =>
  clear y0 y1 y2 y3
  generalize (w.alloc (.cells #[.slice xr nr cr, .slice xo no co, .slice xS mS cS, .int .u8 (fill : Int)] 42)).drew = X1 at HX ⊢
  have cS' := sets9_any X1
  have cF := fun W => fixed9_any W
  by_cases hm0 : mS = 0
  case pos =>
    have im0 : ((mS : Nat) : Int) = 0 := by omega
    go_wp2_with (first
      | (go_at_call 7; (with_reducible refine cS'.mono ?_); rintro e w2 ⟨vl, gl, cl, P, rfl, hS, hb2⟩; clear cS'; obtain ⟨lo, hi, rfl, -⟩ := hS)
      | (go_at_call 8; (with_reducible refine (cF _).mono ?_); rintro e w4 ⟨rfl, hb3⟩; clear cF))
    go_ret
    exact ⟨rfl, (HX.out.trans (hb2.mono HX.out.size)).trans (hb3.mono (HX.out.trans (hb2.mono HX.out.size)).size)⟩
  case neg =>
  have im0 : ¬ ((mS : Nat) : Int) = 0 := by omega
  by_cases hrm : nr = mS
  case neg =>
    have irm : ¬ ((nr : Nat) : Int) = (mS : Int) := fun e => hrm (Int.ofNat.inj e)
    go_wp2_with (first
      | (go_at_call 7; (with_reducible refine cS'.mono ?_); rintro e w2 ⟨vl, gl, cl, P, rfl, hS, hb2⟩; clear cS'; obtain ⟨lo, hi, rfl, -⟩ := hS)
      | (go_at_call 8; (with_reducible refine (cF _).mono ?_); rintro e w4 ⟨rfl, hb3⟩; clear cF))
    go_ret
    exact ⟨rfl, (HX.out.trans (hb2.mono HX.out.size)).trans (hb3.mono (HX.out.trans (hb2.mono HX.out.size)).size)⟩
  case pos =>
  subst hrm
  by_cases hom : no = nr
  case neg =>
    have iom : ¬ ((no : Nat) : Int) = (nr : Int) := fun e => hom (Int.ofNat.inj e)
    have D1 : (((no : Nat) : Int) != (nr : Int)) = true := by simpa using iom
    have D0 : (((nr : Nat) : Int) == 0) = false := by simpa using im0
    go_wp2_with (first
      | (go_at_call 7; (with_reducible refine cS'.mono ?_); rintro e w2 ⟨vl, gl, cl, P, rfl, hS, hb2⟩; clear cS'; obtain ⟨lo, hi, rfl, -⟩ := hS)
      | (go_at_call 8; (with_reducible refine (cF _).mono ?_); rintro e w4 ⟨rfl, hb3⟩; clear cF))
    go_ret
    exact ⟨rfl, (HX.out.trans (hb2.mono HX.out.size)).trans (hb3.mono (HX.out.trans (hb2.mono HX.out.size)).size)⟩
  case pos =>
  obtain rfl : nr = no := hom.symm
  obtain ⟨V, ⟨-, aS, cS2, eS, -, -, hS4⟩, hSV⟩ := id HI.out.2.2.1
  cases eS
  obtain ⟨bS, oS, rfl, hbS, hSc⟩ := hS4 (by omega)
  obtain ⟨-, -, a0, c0, e0, -, -, -⟩ := hSV 0 (by omega)
  have HV : Hid (_ ∧ _ ∧ _) := ⟨hbS, hSc, hSV⟩
  have HQ : Hid (∀ W, Below w.heap.size w W → W.cell? ⟨bS, oS, none⟩ = some (.slice a0 (nS 0) c0)) := fun W hb => by
    have := (hb.cell (p := ⟨bS, oS + 0, none⟩) hbS.1).trans (hSc 0 (by omega))
    rw [e0] at this
    exact this
  have ip0 : (0 : Int) < (nr : Int) := by omega
  clear hS4 hbS hSc hSV e0
  go_wp2_with (first
    | (go_at_call 7; (with_reducible refine cS'.mono ?_); rintro e w2 ⟨vl, gl, cl, P, rfl, hS, hb2⟩; clear cS'; have H2 : Hid (Below w.heap.size w w2 ∧ Sv w2 vl gl cl P) := ⟨HX.out.trans (hb2.mono HX.out.size), hS⟩; obtain ⟨lo, hi, rfl, -⟩ := hS; clear hb2)
    | (go_at_call 8; (with_reducible refine (cF _).mono ?_); rintro e w4 ⟨rfl, hb3⟩; clear cF; have H4 : Hid (Below w.heap.size w w4 ∧ Sv w4 (.slice (some ⟨gl, 0, none⟩) 3 cl) gl cl P) := ⟨H2.out.1.trans (hb3.mono H2.out.1.size), H2.out.2.below hb3⟩; clear hb3 H2; have q0 := HQ.out w4 H4.out.1))
  clear q0
  have hnr := HI.out.2.2.2.1
  go_loopw [68] (fun i wr => ∃ j : Nat, j ≤ nr ∧ i = .int .i64 j ∧ w4 = wr ∧ ∀ i, i < j → nS i = nS 0) (fun i _ => nr - (intOf i).toNat)
  case atStart => exact ⟨0, Nat.zero_le _, rfl, rfl, fun i hi => absurd hi (Nat.not_lt_zero _)⟩
  case round =>
    obtain ⟨j, hj, rfl, rfl, hE⟩ := hrel
    by_cases hlt : j < nr
    case pos =>
      have q2 := (H4.out.1.cell (p := ⟨bS, oS + j, none⟩) HV.out.1.1).trans (HV.out.2.1 j hlt)
      obtain ⟨-, -, x1, y1, e1, -, -, -⟩ := HV.out.2.2 j hlt
      rw [e1] at q2
      have ib : ((j : Nat) : Int) < (nr : Int) := Int.ofNat_lt.2 hlt
      have W1 := wrap_succ8 (j := j) (Nat.lt_of_lt_of_le hlt (Nat.le_trans hnr (by unfold big; decide)))
      by_cases hjL : nS j = nS 0
      case pos =>
        rw [hjL] at q2
        have HW : Hid ((∀ i, i < j → nS i = nS 0) ∧ nS j = nS 0) := ⟨hE, hjL⟩
        clear hE hjL e1
        go_wp2
        go_roundw
        case rel =>
          refine ⟨j + 1, hlt, by first | rfl | (rw [W1]; rfl), by first | rfl | trivial, fun i hi => ?_⟩
          by_cases e : i = j
          · rw [e]; exact HW.out.2
          · exact HW.out.1 i (by omega)
        case measure => first | exact meas_lt8 hlt | (rw [W1]; exact meas_lt8 hlt)
      case neg =>
        have hI : ¬ ((nS j : Int) = (nS 0 : Int)) := fun e => hjL (Int.ofNat.inj e)
        clear hE hjL e1
        go_wp2
        go_ret
        exact ⟨rfl, H4.out.1⟩
    case neg =>
    obtain rfl : nr = j := Nat.le_antisymm (Nat.le_of_not_lt hlt) hj
    have HL : Hid (∀ i, i < nr → nS i = nS 0) := hE
    have ibn : ¬ ((nr : Nat) : Int) < (nr : Int) := Int.lt_irrefl _
    have c5 := cd9 (.slice xr nr cr) nr Fr w4 (HI.out.1.below H4.out.1) hnr
    clear hE hlt hj
    go_wp2_with (go_at_call 13; (with_reducible refine c5.mono ?_); rintro e x5 ⟨g5, rfl, r5, l5, b5⟩; clear c5)
    have HS : Hid (Below w4.heap.size w4 x5 ∧ w4.heap.size ≤ g5) := ⟨b5, l5⟩
    clear b5 l5 ibn
    go_loopw [81] (fun i wr => ∃ j : Nat, j ≤ nr ∧ i = .int .i64 j ∧ Kp g5 x5 wr ∧ Rw wr g5 nr (fun i => if i < j then Fr i ^^^ Fo i else Fr i)) (fun i _ => nr - (intOf i).toNat)
    case atStart => exact ⟨0, Nat.zero_le _, rfl, Kp.refl _ _, r5.congr (fun i _ => (if_neg (Nat.not_lt_zero _)).symm)⟩
    case round =>
      obtain ⟨j, hj, rfl, hkp, hrw⟩ := hrel
      by_cases hlt : j < nr
      case pos =>
        have hbw : Below w.heap.size w wr := (H4.out.1.trans (HS.out.1.mono H4.out.1.size)).trans (hkp.below (Nat.le_trans H4.out.1.size HS.out.2) (H4.out.1.trans (HS.out.1.mono H4.out.1.size)).size)
        obtain ⟨-, d2, xo', co', eo, -, -, d4⟩ := HI.out.2.1
        cases eo
        obtain ⟨bo, oo, rfl, hbo, hco⟩ := d4 (Nat.lt_of_le_of_lt (Nat.zero_le _) hlt)
        have p4 := (hbw.cell (p := ⟨bo, oo + j, none⟩) hbo).trans (hco j hlt)
        have q1 := hrw.2.2.cell (i := j) hlt
        simp only [Nat.lt_irrefl, if_false] at q1
        have q2 := hrw.2.2.frozen j
        have lF : Fr j < 256 := by have := hrw.2.1 j hlt; simpa only [Nat.lt_irrefl, if_false] using this
        have X := u8_xor_nat (Fr j) (Fo j) lF (d2 j hlt)
        have ib : ((j : Nat) : Int) < (nr : Int) := Int.ofNat_lt.2 hlt
        have W1 := wrap_succ8 (j := j) (Nat.lt_of_lt_of_le hlt (Nat.le_trans hnr (by unfold big; decide)))
        have HN : Hid (Kp g5 x5 (wr.setCell ⟨g5, j, none⟩ (.int .u8 (Fr j ^^^ Fo j : Nat))).drew ∧ Rw (wr.setCell ⟨g5, j, none⟩ (.int .u8 (Fr j ^^^ Fo j : Nat))).drew g5 nr (fun i => if i < j + 1 then Fr i ^^^ Fo i else Fr i)) := by
          refine ⟨(hkp.setCell j _).drew, ((hrw.set j _ (Nat.xor_lt_two_pow (n := 8) lF (d2 j hlt))).congr (fun i hi => ?_)).drew9⟩
          by_cases e : i = j
          · subst e; rw [if_pos rfl, if_pos (Nat.lt_succ_self _)]
          · rw [if_neg e]
            by_cases e2 : i < j
            · rw [if_pos e2, if_pos (Nat.lt_succ_of_lt e2)]
            · rw [if_neg e2, if_neg (fun h => e (Nat.le_antisymm (Nat.le_of_lt_succ h) (Nat.le_of_not_lt e2)))]
        clear hbw d2 d4 hco hbo lF hrw hkp
        go_wp2
        refine region_tail8 10 (by kernel_rfl) (by kernel_rfl) ?_
        simp only [List.take_succ_cons, List.take_zero, List.drop_succ_cons, List.drop_zero]
        repeat still_step
        refine wpStill_nil ?_
        go_wp2
        go_roundw
        case rel => exact ⟨j + 1, hlt, by first | rfl | (rw [W1]; rfl), HN.out.1, HN.out.2⟩
        case measure => first | exact meas_lt8 hlt | (rw [W1]; exact meas_lt8 hlt)
      case neg =>
      obtain rfl : nr = j := Nat.le_antisymm (Nat.le_of_not_lt hlt) hj
      have ibn : ¬ ((nr : Nat) : Int) < (nr : Int) := Int.lt_irrefl _
      have hbw : Below w.heap.size w wr := (H4.out.1.trans (HS.out.1.mono H4.out.1.size)).trans (hkp.below (Nat.le_trans H4.out.1.size HS.out.2) (H4.out.1.trans (HS.out.1.mono H4.out.1.size)).size)
      have hsv : Sv wr (.slice (some ⟨gl, 0, none⟩) 3 cl) gl cl P := H4.out.2.below ((HS.out.1).trans (hkp.below HS.out.2 HS.out.1.size))
      have hbo : Rw wr g5 nr (fun i => Fr i ^^^ Fo i) := hrw.congr (fun i hi => if_pos hi)
      have HR : Hid (Below w.heap.size w wr ∧ Sv wr (.slice (some ⟨gl, 0, none⟩) 3 cl) gl cl P ∧ Rw wr g5 nr (fun i => Fr i ^^^ Fo i) ∧ w.heap.size ≤ g5) := ⟨hbw, hsv, hbo, Nat.le_trans H4.out.1.size HS.out.2⟩
      clear hbw hsv hbo hkp hrw hlt hj HS H4
      obtain ⟨x0, rfl⟩ : ∃ x, x = wr := ⟨_, rfl⟩
      go_wp2
      clear ibn
      obtain ⟨lo', hi', -, h3c, hcb, hgl, hP⟩ := id HR.out.2.1
      have HP : Hid _ := hP
      clear hP
      go_loopw [97] (fun i wr => ∃ k : Nat, k ≤ 3 ∧ i = .int .i64 k ∧ Below x0.heap.size x0 wr) (fun i _ => 3 - (intOf i).toNat)
      case atStart => exact ⟨0, Nat.zero_le _, rfl, Below.refl _ _⟩
      case round =>
        obtain ⟨k, hk3, rfl, hb⟩ := hrel
        have W1 : wrap64 ((k : Int) + 1) = (k : Int) + 1 := by unfold wrap64; omega
        by_cases hlt : k < 3
        case neg =>
          have HE : Hid _ := hb
          clear hb
          have hk : k = 3 := by omega
          subst hk
          go_wp2
          go_ret
          exact ⟨rfl, HR.out.1.trans (HE.out.mono HR.out.1.size)⟩
        case pos =>
        have q1 := (hb.cell (p := ⟨gl, k, none⟩) hgl).trans (HP.out k hlt).1
        obtain ⟨n, hn⟩ : ∃ n, n = nS 0 := ⟨_, rfl⟩
        have hnb : n ≤ 140737488351232 := by rw [hn]; exact HI.out.2.2.2.2.2 0 (by omega)
        have hmk := make_u8 n (Nat.le_trans hnb (by decide))
        have ib : ((k : Nat) : Int) < 3 := by omega
        have by0 : Below w.heap.size w wr := HR.out.1.trans (hb.mono HR.out.1.size)
        have hnS : ∀ i, i < nr → nS i = n := fun i hi => by rw [hn]; exact HL.out i hi
        obtain ⟨y0, hy0⟩ : ∃ y0, y0 = wr := ⟨_, rfl⟩
        have H : Hy9 y0 (P k) k (lo' k) (hi' k) (.slice xr nr cr) (.slice xo nr co) (.slice (some ⟨bS, oS, none⟩) nr cS) nr n g5 Fr Fo SS := by
          rw [hy0]
          exact ⟨(HP.out k hlt).2.below hb, HI.out.1.below by0, HI.out.2.1.below by0, (Lb.below HI.out.2.2.1 by0).lens hnS, rw_below HR.out.2.2.1 hb, by omega, hnr, HI.out.2.2.2.2.1, hnb⟩
        have HH : Hid (Hy9 y0 (P k) k (lo' k) (hi' k) (.slice xr nr cr) (.slice xo nr co) (.slice (some ⟨bS, oS, none⟩) nr cS) nr n g5 Fr Fo SS) := H
        have HQy : Hid (∀ W, Below y0.heap.size y0 W → W.cell? ⟨bS, oS, none⟩ = some (.slice a0 n c0)) := fun W hW => by
          rw [hy0] at hW
          rw [hn]; exact HQ.out W (by0.trans (hW.mono by0.size))
        have HS0 : Hid (Rb y0 (.slice a0 n c0) n (SS 0)) := by
          rw [hy0, hn]
          have h9 := HV.out.2.2 0 (by omega)
          have h8 := HV.out.2.1 0 (by omega)
          have h7 := HQ.out w (Below.refl _ _)
          rw [Nat.add_zero] at h8
          have h6 := h8.symm.trans h7
          rw [Option.some.inj h6] at h9
          exact h9.rb.below by0
        have HBy : Hid (Below x0.heap.size x0 y0) := by rw [hy0]; exact hb
        have HY : Hid (y0 = wr) := hy0
        have HN : Hid (n ≤ 140737488351232 ∧ fill < 256) := ⟨hnb, hfl⟩
        rw [← hn]
        clear hb H by0 hnS hnb hy0 hn
        go_upto_region 23 with (fail)
        go_cut [15, 16, 17, 18] from 101 to 108 (fun s15 s16 s17 s18 wc => ∃ ga gb gc gd : Nat, s15 = .slice (some ⟨ga, 0, none⟩) n n ∧ s16 = .slice (some ⟨gb, 0, none⟩) n n ∧ s17 = .slice (some ⟨gc, 0, none⟩) n n ∧ s18 = .slice (some ⟨gd, 0, none⟩) n n ∧ Hid (Dx9 y0 wc n ga gb gc gd (fun _ => 0) (fun _ => 0) (fun _ => 0) (fun _ => 0)))
        case first =>
          go_region
          all_goals (go_wp2_with fail)
          all_goals go_meet
          all_goals obtain ⟨f0, f1, f2, f3, f4⟩ := four9 n (Nat.le_trans HN.out.1 (by decide)) wr
          all_goals refine ⟨_, _, _, _, rfl, rfl, rfl, rfl, ?_⟩
          all_goals rw [HY.out]
          all_goals refine ⟨f0, ⟨?_, by omega⟩, ⟨?_, by omega⟩, ⟨?_, by omega⟩, ⟨?_, by omega⟩, by omega⟩
          all_goals first | exact f1 | exact f2 | exact f3 | exact f4
        case rest =>
        obtain ⟨ga, gb, gc, gd, rfl, rfl, rfl, rfl, HD⟩ := hcut
        clear hmk
        go_wp2
        go_loopw [111] (fun v wq => ∃ (j : Nat) (A B C D : Nat → Nat), j ≤ n ∧ v = .int .i64 j ∧ Dx9 y0 wq n ga gb gc gd A B C D) (fun v _ => n - (intOf v).toNat)
        case atStart => exact ⟨0, _, _, _, _, Nat.zero_le _, rfl, HD.out⟩
        case round =>
          obtain ⟨j, A, B, C, D, hj, rfl, hD⟩ := hrel
          by_cases hjn : j < n
          case pos =>
            have hfl := HN.out.2
            have jb : ((j : Nat) : Int) < (n : Int) := Int.ofNat_lt.2 hjn
            have W2 := wrap_succ8 (j := j) (Nat.lt_of_lt_of_le hjn (Nat.le_trans HN.out.1 (by unfold big; decide)))
            obtain ⟨f3, hf3⟩ : ∃ f, f = fill ^^^ 1 := ⟨_, rfl⟩
            obtain ⟨f4, hf4⟩ : ∃ f, f = fill ^^^ 2 := ⟨_, rfl⟩
            have X1 : bits .xor .u8 (fill : Int) 1 = (f3 : Int) := by rw [hf3]; exact u8_xor_nat fill 1 hfl (by decide)
            have X2 : bits .xor .u8 (fill : Int) 2 = (f4 : Int) := by rw [hf4]; exact u8_xor_nat fill 2 hfl (by decide)
            have l3 : f3 < 256 := by rw [hf3]; exact Nat.xor_lt_two_pow (n := 8) hfl (by decide)
            have l4 : f4 < 256 := by rw [hf4]; exact Nat.xor_lt_two_pow (n := 8) hfl (by decide)
            have z1 := hD.a.1.2.2.cell (i := j) hjn
            have y1 := hD.a.1.2.2.frozen j
            have D1 := hD.sa ((Kp.refl ga wr).setCell j (.int .u8 (fill : Nat))) (hD.a.1.set j fill hfl)
            have z2 := D1.b.1.2.2.cell (i := j) hjn
            have y2 := D1.b.1.2.2.frozen j
            have D2 := D1.sb ((Kp.refl gb _).setCell j (.int .u8 (fill : Nat))) (D1.b.1.set j fill hfl)
            have z3 := D2.c.1.2.2.cell (i := j) hjn
            have y3 := D2.c.1.2.2.frozen j
            have D3 := D2.sc ((Kp.refl gc _).setCell j (.int .u8 (f3 : Nat))) (D2.c.1.set j f3 l3)
            have z4 := D3.d.1.2.2.cell (i := j) hjn
            have y4 := D3.d.1.2.2.frozen j
            have D4 := D3.sd ((Kp.refl gd _).setCell j (.int .u8 (f4 : Nat))) (D3.d.1.set j f4 l4)
            have HX : Hid (∃ A B C D, Dx9 y0 ((((wr.setCell ⟨ga, j, none⟩ (.int .u8 (fill : Nat))).setCell ⟨gb, j, none⟩ (.int .u8 (fill : Nat))).setCell ⟨gc, j, none⟩ (.int .u8 (f3 : Nat))).setCell ⟨gd, j, none⟩ (.int .u8 (f4 : Nat))) n ga gb gc gd A B C D) := ⟨_, _, _, _, D4⟩
            clear hD D1 D2 D3 D4 l3 l4 hf3 hf4 hj hfl
            go_wp2
            go_roundw
            case rel =>
              obtain ⟨A, B, C, D, hD⟩ := HX.out
              exact ⟨j + 1, A, B, C, D, hjn, by first | rfl | (rw [W2]; rfl), hD⟩
            case measure => first | exact meas_lt8 hjn | (rw [W2]; exact meas_lt8 hjn)
          case neg =>
          obtain rfl : n = j := Nat.le_antisymm (Nat.le_of_not_lt hjn) hj
          have jb : ¬ ((n : Nat) : Int) < (n : Int) := Int.lt_irrefl _
          have HD1 : Hid (Dx9 y0 wr n ga gb gc gd A B C D) := hD
          clear hD hj hjn HD
          obtain ⟨-, lr, ar, car, er, -, -, hr4⟩ := id HH.out.row
          cases er
          obtain ⟨br, orr, rfl, hbr, hcr⟩ := hr4 HH.out.h0
          obtain ⟨-, lo4, ao, cao, eo, -, -, ho4⟩ := id HH.out.oth
          cases eo
          obtain ⟨bo, oo, rfl, hbo, hco⟩ := ho4 HH.out.h0
          have HZ : Hid (∀ W, Below y0.heap.size y0 W → W.cell? ⟨br, orr, none⟩ = some (.int .u8 (Fr 0 : Nat)) ∧ W.cell? ⟨bo, oo, none⟩ = some (.int .u8 (Fo 0 : Nat))) := fun W hW => by
            have h1 := (hW.cell (p := ⟨br, orr + 0, none⟩) hbr).trans (hcr 0 HH.out.h0)
            have h2 := (hW.cell (p := ⟨bo, oo + 0, none⟩) hbo).trans (hco 0 HH.out.h0)
            rw [Nat.add_zero] at h1 h2
            exact ⟨h1, h2⟩
          have HF : Hid (Fr 0 < 256 ∧ Fo 0 < 256) := ⟨lr 0 HH.out.h0, lo4 0 HH.out.h0⟩
          have cA := cdd9 HH.out HD1.out.bel HH.out.row HD1.out.a.2 HD1.out.a.1
          clear lr hr4 hbr hcr lo4 ho4 hbo hco
          go_wp2_with (first
            | (go_at_call 13; first
              | ((with_reducible refine cA.mono ?_); rintro e x1 ⟨g1, rfl, cA2⟩; clear cA)
              | ((with_reducible refine cB.mono ?_); rintro e x4 ⟨g4, rfl, cB2⟩; clear cB)
              | ((with_reducible refine cC.mono ?_); rintro e x7 ⟨g7, rfl, cC2⟩; clear cC)
              | ((with_reducible refine cE.mono ?_); rintro e x10 ⟨g10, rfl, cE2⟩; clear cE)
              | ((with_reducible refine cG.mono ?_); rintro e x17 ⟨g17, rfl, cG2⟩; clear cG u15)
              | ((with_reducible refine cT.mono ?_); rintro e x20 ⟨g20, rfl, r20, l20, b20⟩; have HT : Hid (Rw x20 g20 n (SS 0) ∧ x19.heap.size ≤ g20 ∧ Below x19.heap.size x19 x20) := ⟨r20, l20, b20⟩; clear cT r20 l20 b20))
            | (go_at_call 10; first
              | ((with_reducible refine cA2.mono ?_); rintro e x2 ⟨v2, rfl, cA3⟩; clear cA2)
              | ((with_reducible refine cB2.mono ?_); rintro e x5 ⟨v5, rfl, cB3⟩; clear cB2)
              | ((with_reducible refine cC2.mono ?_); rintro e x8 ⟨v8, rfl, cC3⟩; clear cC2)
              | ((with_reducible refine cE2.mono ?_); rintro e x11 ⟨v11, rfl, cE3⟩; clear cE2))
            | (go_at_call 16; first
              | ((with_reducible refine cA3.mono ?_); rintro e x3 ⟨rfl, b3, k3, r3⟩; have HD3 : Hid (Dx9 y0 x3 n ga gb gc gd (fun j => ks Fr SS nr j) B C D) := (HD1.out.up b3).sa k3 r3; have cB := cdd9 HH.out HD3.out.bel HH.out.oth HD3.out.b.2 HD3.out.b.1; clear cA3 b3 k3 r3 HD1)
              | ((with_reducible refine cB3.mono ?_); rintro e x6 ⟨rfl, b6, k6, r6⟩; have HD6 : Hid (Dx9 y0 x6 n ga gb gc gd (fun j => ks Fr SS nr j) (fun j => ks Fo SS nr j) C D) := (HD3.out.up b6).sb k6 r6; have cC := cdd9 HH.out HD6.out.bel HH.out.both.rb0 HD6.out.c.2 HD6.out.c.1; clear cB3 b6 k6 r6 HD3)
              | ((with_reducible refine cC3.mono ?_); rintro e x9 ⟨rfl, b9, k9, r9⟩; have HD9 : Hid (Dx9 y0 x9 n ga gb gc gd (fun j => ks Fr SS nr j) (fun j => ks Fo SS nr j) (fun j => ks (fun i => Fr i ^^^ Fo i) SS nr j) D) := (HD6.out.up b9).sc k9 r9; have cE := apply9_one HH.out HD9.out.bel HD9.out.d.2 HD9.out.d.1; clear cC3 b9 k9 r9 HD6)
              | ((with_reducible refine cG2.mono ?_); rintro e x18 ⟨rfl, b18, k18, r18⟩; have HD18 : Hid (Dx9 y0 x18 n ga gb gc gd (fun j => ks Fo SS nr j ^^^ ks Fr SS nr j) (fun j => ks Fo SS nr j) (fun j => ks (fun i => Fr i ^^^ Fo i) SS nr j) (SS 0)) := (HD15.out.up b18).sd k18 r18; have u18 := HQy.out x18 HD18.out.bel; have cQ3 := equal9_true _ _ n (SS 0) x18 HD18.out.d.1.rb0 (HS0.out.below HD18.out.bel); clear cG2 b18 k18 r18 HD15))
            | (go_at_call 11; (with_reducible refine cE3.mono ?_); rintro e x12 ⟨rfl, b12, k12, r12⟩; have HD12 : Hid (Dx9 y0 x12 n ga gb gc gd (fun j => ks Fr SS nr j) (fun j => ks Fo SS nr j) (fun j => ks (fun i => Fr i ^^^ Fo i) SS nr j) (fun j => ks Fr SS nr j)) := (HD9.out.up b12).sd k12 r12; have cQ1 := equal9_true _ _ n (fun j => ks Fr SS nr j) x12 HD12.out.a.1.rb0 HD12.out.d.1.rb0; clear cE3 b12 k12 r12 HD9)
            | (go_at_call 12; (with_reducible refine cX.mono ?_); rintro e x14 ⟨rfl, k14, r14⟩; have HD14 : Hid (Dx9 y0 x14 n ga gb gc gd (fun j => ks Fo SS nr j ^^^ ks Fr SS nr j) (fun j => ks Fo SS nr j) (fun j => ks (fun i => Fr i ^^^ Fo i) SS nr j) (fun j => ks Fr SS nr j)) := HD13.out.sa k14 r14; have cQ2 := equal9_true _ _ n (fun j => ks Fo SS nr j ^^^ ks Fr SS nr j) x14 HD14.out.a.1.rb0 (HD14.out.c.1.congr (fun j _ => ks_two Fr Fo SS j nr)).rb0; clear cX k14 r14 HD13)
            | (go_at_call 17; first
              | ((with_reducible refine cQ1.mono ?_); rintro e x13 ⟨rfl, m13, hx13⟩; have HD13 : Hid (Dx9 y0 x13 n ga gb gc gd (fun j => ks Fr SS nr j) (fun j => ks Fo SS nr j) (fun j => ks (fun i => Fr i ^^^ Fo i) SS nr j) (fun j => ks Fr SS nr j)) := HD12.out.up (bdrew9 m13 hx13); have cX := xor9_ok HD13.out.a.1 (Re_of9 (E := fun q => q = ga) HD13.out.b.1 (Ne.symm HD13.out.ne.1)); clear cQ1 HD12 hx13)
              | ((with_reducible refine cQ2.mono ?_); rintro e x15 ⟨rfl, m15, hx15⟩; have HD15 : Hid (Dx9 y0 x15 n ga gb gc gd (fun j => ks Fo SS nr j ^^^ ks Fr SS nr j) (fun j => ks Fo SS nr j) (fun j => ks (fun i => Fr i ^^^ Fo i) SS nr j) (fun j => ks Fr SS nr j)) := HD14.out.up (bdrew9 m15 hx15); have cG := dot9_one HH.out HD15.out.bel HS0.out HD15.out.d.2 HD15.out.d.1; have u15 := cal9 (o := .cells #[.int .u8 1] 5) (HQy.out x15 HD15.out.bel); clear cQ2 HD14 hx15)
              | ((with_reducible refine cQ3.mono ?_); rintro e x19 ⟨rfl, m19, hx19⟩; have HD19 : Hid (Dx9 y0 x19 n ga gb gc gd (fun j => ks Fo SS nr j ^^^ ks Fr SS nr j) (fun j => ks Fo SS nr j) (fun j => ks (fun i => Fr i ^^^ Fo i) SS nr j) (SS 0)) := HD18.out.up (bdrew9 m19 hx19); have u19 := HQy.out x19 HD19.out.bel; have cT := cd9 (.slice a0 n c0) n (SS 0) x19 (HS0.out.below HD19.out.bel) HN.out.1; clear cQ3 HD18 hx19 u18)))
          have hDt : Dx9 y0 x20 n ga gb gc gd (fun j => ks Fo SS nr j ^^^ ks Fr SS nr j) (fun j => ks Fo SS nr j) (fun j => ks (fun i => Fr i ^^^ Fo i) SS nr j) (SS 0) := HD19.out.up HT.out.2.2
          have HD20 : Hid (Dx9 y0 x20 n ga gb gc gd (fun j => ks Fo SS nr j ^^^ ks Fr SS nr j) (fun j => ks Fo SS nr j) (fun j => ks (fun i => Fr i ^^^ Fo i) SS nr j) (SS 0)) := hDt
          have hne : g20 ≠ gd := fun e => Nat.lt_irrefl _ (Nat.lt_of_lt_of_le (e ▸ HD19.out.d.1.lt) HT.out.2.1)
          have hneb : g20 ≠ gb := fun e => Nat.lt_irrefl _ (Nat.lt_of_lt_of_le (e ▸ HD19.out.b.1.lt) HT.out.2.1)
          obtain ⟨d1, d2⟩ := dot9_two HH.out hDt.bel HF.out.1 HF.out.2 HT.out.1 hDt.d.2 hDt.d.1 hne
          obtain ⟨z1, z2⟩ := HZ.out x20 hDt.bel
          have HNE : Hid (g20 ≠ gd ∧ g20 ≠ gb) := ⟨hne, hneb⟩
          have n0 : 0 < nr := HH.out.h0
          clear hDt hne hneb u19 HD19
          go_region_held (fun W => W.cell? ⟨br, orr, none⟩ = some (.int .u8 (Fr 0 : Nat)) ∧ W.cell? ⟨bo, oo, none⟩ = some (.int .u8 (Fo 0 : Nat))) (first | exact ⟨z1, z2⟩ | exact ⟨cal9 z1, cal9 z2⟩ | exact ⟨cal9 (cal9 z1), cal9 (cal9 z2)⟩ | exact U22) (first
            | (go_at_call 16; first
              | ((with_reducible refine d1.mono ?_); rintro e x22 ⟨rfl, H22⟩; have U22 : x22.cell? ⟨br, orr, none⟩ = some (.int .u8 (Fr 0 : Nat)) ∧ x22.cell? ⟨bo, oo, none⟩ = some (.int .u8 (Fo 0 : Nat)) := HZ.out x22 (dots_end HD20 H22).bel; clear d1 d2)
              | ((with_reducible refine d2.mono ?_); rintro e x22 ⟨rfl, H22⟩; have U22 : x22.cell? ⟨br, orr, none⟩ = some (.int .u8 (Fr 0 : Nat)) ∧ x22.cell? ⟨bo, oo, none⟩ = some (.int .u8 (Fo 0 : Nat)) := HZ.out x22 (dots_end HD20 H22).bel; clear d1 d2)))
          all_goals
            have hD22 := dots_end HD20 H22
            have h20 := dots_keep H22 HT.out.1 HNE.out.1
            have u22 : x22.cell? ⟨g5, 0, none⟩ = some (.int .u8 ((Fr 0 ^^^ Fo 0 : Nat) : Int)) := (rw_below HH.out.both hD22.bel).2.2.cell (i := 0) HH.out.h0
            obtain ⟨f0, hf0⟩ : ∃ f, f = Fr 0 ^^^ Fo 0 := ⟨_, rfl⟩
            have lf0 : f0 < 256 := by rw [hf0]; exact Nat.xor_lt_two_pow (n := 8) HF.out.1 HF.out.2
            rw [← hf0] at hD22 u22
            have HD22 : Hid (Dx9 y0 x22 n ga gb gc gd (fun j => ks Fo SS nr j ^^^ ks Fr SS nr j) (fun j => ks Fo SS nr j) (fun j => ks (fun i => Fr i ^^^ Fo i) SS nr j) (fun j => fm 285 f0 (SS 0 j))) := hD22
            have H20 : Hid (Rw x22 g20 n (SS 0)) := h20
            have cM := mul9_ok (c := f0) hD22.b.1 (Re_of9 (E := fun q => q = gb) h20 HNE.out.2) (Ks.below HH.out.ks hD22.bel) (Nat.le_trans HH.out.ks.hi hD22.b.2) lf0
            clear hD22 h20 U22 H22 hf0 lf0 HD20 HT z1 z2
            go_wp2_with (first
              | (go_at_call 18; (with_reducible refine cM.mono ?_); rintro e x23 ⟨rfl, k23, r23⟩; have HD23 : Hid (Dx9 y0 x23 n ga gb gc gd (fun j => ks Fo SS nr j ^^^ ks Fr SS nr j) (fun j => fm 285 f0 (SS 0 j)) (fun j => ks (fun i => Fr i ^^^ Fo i) SS nr j) (fun j => fm 285 f0 (SS 0 j))) := HD22.out.sb k23 r23; have H23 : Hid (Rw x23 g20 n (SS 0)) := H20.out.kp9 k23 HNE.out.2; have cQ4 := equal9_true _ _ n (fun j => fm 285 f0 (SS 0 j)) x23 HD23.out.b.1.rb0 HD23.out.d.1.rb0; clear cM k23 r23 HD22 H20)
              | (go_at_call 17; first
                | ((with_reducible refine cQ4.mono ?_); rintro e x24 ⟨rfl, m24, hx24⟩; have HB24 : Hid (Below y0.heap.size y0 x24) := (HD23.out.up (bdrew9 m24 hx24)).bel; have u24 := HQy.out x24 HB24.out; have cQ5 := equal9_true _ _ n (SS 0) x24 (rw_below H23.out (bdrew9 m24 hx24)).rb0 (HS0.out.below HB24.out); clear cQ4 HD23 H23 hx24)
                | ((with_reducible refine cQ5.mono ?_); rintro e x25 ⟨rfl, m25, hx25⟩; have HB25 : Hid (Below y0.heap.size y0 x25) := bt9 HB24.out (bdrew9 m25 hx25); clear cQ5 hx25)))
            go_roundw
            case rel => exact ⟨k + 1, hlt, by first | rfl | (rw [W1]; rfl), bt9 HBy.out HB25.out⟩
            case measure => first | exact meas_lt8 hlt | (rw [W1]; exact meas_lt8 hlt)
end Go.Proofs.Ytdolghlphmjcdab.kernelDots
