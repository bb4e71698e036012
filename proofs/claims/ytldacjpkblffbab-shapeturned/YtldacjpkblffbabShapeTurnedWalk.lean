import Derived.Test.YtldacjpkblffbabYih
import Derived.Test.YtldacjpkblffbabYif
import Derived.Test.YtldacjpkblffbabYho
import Derived.Deep.CutRange
import Derived.Deep.RegionHeld
namespace Go.Proofs.Ytldacjpkblffbab
open Go.RowKit Gf2
set_option linter.unusedVariables false

-- layer 16: ShapeTurned (laid by wip/genyturn.py)
theorem turn_nums {c t : Nat} (h : t < c) (hc : c ≤ 140737488355328) : ∃ a b : Nat, Hid (a = c - 1 ∧ b = c - 1 - t) ∧ wrap64 ((c : Int) - 1) = (a : Int) ∧ wrap64 ((a : Int) - (t : Int)) = (b : Int) := by
  refine ⟨c - 1, c - 1 - t, ⟨rfl, rfl⟩, ?_, ?_⟩
  · unfold wrap64; omega
  · unfold wrap64; omega
/-- what ShapeTurned holds behind the turning round. -/
structure Trn (X0 X : World) (vS vB : Value) (c : Nat) (n : Nat → Nat) : Prop where
  bel : Below X0.heap.size X0 X
  s : Ln X vS c n
  b : Ln X vB c (rev16 c n)
theorem Trn.below {X0 X X' : World} {vS vB : Value} {c : Nat} {n : Nat → Nat} (h : Trn X0 X vS vB c n) (hb : Below X.heap.size X X') : Trn X0 X' vS vB c n := ⟨bthen16 h.bel hb, h.s.below hb, h.b.below hb⟩
set_option maxHeartbeats 16000000 in
set_option maxRecDepth 100000 in
theorem turned16 (kd f K m N : Int) (vS vF vD : Value) (w : World) (hI : In16 w kd f K m N vS vF vD) :
    Calls Try.prog 4 #[.agg (cv16 kd f K m N vS vF vD)] w fun e w' => e = .returned (.bool true) ∧ Below w.heap.size w w' := by
  unfold cv16
  obtain ⟨X0, hX⟩ : ∃ X, X = w.alloc (.cells #[.int .i64 kd, .int .i64 f, .int .i64 K, .int .i64 m, .int .i64 N, vS, vF, vD] 29) := ⟨_, rfl⟩
  have a0 : Below w.heap.size w X0 := by rw [hX]; exact balloc16 _ _
  have HB : Hid (∀ W, Below X0.heap.size X0 W → Bo16 W w.heap.size kd f K m N vS vF vD) := fun W hW => by rw [hX] at hW; exact bo16_new w kd f K m N vS vF vD hW
  obtain ⟨c, n, S, hS, hSc, hSn⟩ := hI.s.below a0
  have HX : Hid (X0 = w.alloc (.cells #[.int .i64 kd, .int .i64 f, .int .i64 K, .int .i64 m, .int .i64 N, vS, vF, vD] 29)) := hX
  have HK : Hid (I64 K ∧ I64 m ∧ Below w.heap.size w X0 ∧ 24 * c ≤ 140737488351232) := ⟨hI.hK, hI.hm, a0, hSc⟩
  have c0 := awake16 X0
  rw [hX] at c0
  obtain ⟨xF, nF, cF, rfl⟩ := lm16_form hI.f
  obtain ⟨xD, nD, cD, rfl⟩ := bm16_form hI.d
  obtain ⟨xS, cS, rfl⟩ := lb_form hS
  -- the values of the shards
  have hL0 : Ln X0 (.slice xS c cS) c n := hS.ln (by omega)
  obtain ⟨V, hV, hVc⟩ := hL0.vals
  have HV : Hid ((∀ i, i < c → ∃ x y, V i = .slice x (n i) y) ∧ (∀ i, i < c → n i ≤ big) ∧ (∀ W, Below X0.heap.size X0 W → 0 < c → ∃ b o, xS = some ⟨b, o, none⟩ ∧ ∀ i, i < c → W.cell? ⟨b, o + i, none⟩ = some (V i)) ∧ Ln X0 (.slice xS c cS) c n) := ⟨fun i hi => (hV i hi).2, hL0.2.1, fun W hW h0 => by
    obtain ⟨b, o, e, hl, hc⟩ := hVc h0
    exact ⟨b, o, e, fun i hi => (hW.cell (p := ⟨b, o + i, none⟩) hl).trans (hc i hi)⟩, hL0⟩
  have hmk := make_rows c (by omega)
  clear hS hSc hSn hI a0 hX hL0 hV hVc
  go_enter Try.func4, Try.ntmps4
  go_wp2_with (go_at_call 6; ((with_reducible refine (c0).mono ?_); (rintro e X1 ⟨rfl, hb⟩; have hb : Below X0.heap.size X0 X1 := (by rw [HX.out]; exact hb); obtain ⟨y0, y1, y2, y3, y4, y5, y6, y7⟩ := HB.out X1 hb; have H1 : Hid (Below X0.heap.size X0 X1) := hb; clear hb c0)))
  clear hmk y0 y1 y2 y3 y4 y5 y6 y7
  go_loopw [6] (fun i wr => ∃ t : Nat, t ≤ c ∧ i = .int .i64 t ∧ Rv X1 wr c t V) (fun i _ => c - (intOf i).toNat)
  case atStart => exact ⟨0, Nat.zero_le _, rfl, Rv.start _ _ _⟩
  case round =>
    obtain ⟨t, ht, rfl, hR⟩ := hrel
    obtain ⟨y0, y1, y2, y3, y4, y5, y6, y7⟩ := HB.out wr (bthen16 H1.out hR.bel)
    by_cases hlt : t < c
    · obtain ⟨b, o, rfl, hcx⟩ := HV.out.2.2.1 wr (bthen16 H1.out hR.bel) (by omega)
      obtain ⟨a1, b1, HN, W1, W2⟩ := turn_nums hlt (by have := HK.out; omega)
      have hb1 : b1 < c := by have := HN.out.2; clear W1 W2; omega
      have q1 := hcx b1 hb1
      obtain ⟨x1, z1, ev⟩ := HV.out.1 b1 hb1
      rw [ev] at q1
      have q2 := hR.row.cell hlt
      rw [if_neg (Nat.lt_irrefl _)] at q2
      have q3 := hR.row.frozen t
      have HD : Hid (Rv X1 (wr.setCell ⟨X1.heap.size, t, none⟩ (.slice x1 (n b1) z1)) c (t + 1) V) := by
        have := hR.next hlt
        rw [← HN.out.2, ev] at this
        exact this
      have ib : ((t : Nat) : Int) < (c : Int) := Int.ofNat_lt.2 hlt
      have ib1 : ((b1 : Nat) : Int) < (c : Int) := Int.ofNat_lt.2 hb1
      have W3 := wrap_succ8 (j := t) (by have := HK.out; unfold big; clear W1 W2; omega)
      have HT : Hid (t < c) := hlt
      generalize n b1 = nb at *
      clear hR hcx ev hlt ht hb1
      go_wp2
      go_roundw
      case rel => exact ⟨t + 1, HT.out, by first | rfl | (rw [W3]; rfl), HD.out⟩
      case measure => first | exact meas_lt8 HT.out | (rw [W3]; exact meas_lt8 HT.out)
    · have htl : ¬ ((t : Nat) : Int) < (c : Int) := fun e => hlt (Int.ofNat_lt.1 e)
      obtain rfl : t = c := by omega
      have H2 : Hid (Trn X0 wr (.slice xS t cS) (.slice (some ⟨X1.heap.size, 0, none⟩) t t) t n) := ⟨bthen16 H1.out hR.bel, HV.out.2.2.2.below (bthen16 H1.out hR.bel), hR.ln (by have := HK.out; omega) (fun i hi => ⟨HV.out.2.1 i hi, HV.out.1 i hi⟩)⟩
      clear hR hlt ht
      have c1 := whole16 f K m _ t n wr HK.out.1 H2.out.s
      have HW : Hid (∀ X, Ln X (.slice (some ⟨X1.heap.size, 0, none⟩) t t) t (rev16 t n) → Calls Try.prog 10 #[.int .i64 f, .int .i64 K, .int .i64 m, .slice (some ⟨X1.heap.size, 0, none⟩) t t] X fun e w' => e = .returned (.tuple #[.int .i64 (wlv f K m t n), .int .i64 (wle f K m t n)]) ∧ Below X.heap.size X w') := fun X hL => by
        have := whole16 f K m _ t (rev16 t n) X HK.out.1 hL
        rw [(wle_rev f K m t n).1, (wle_rev f K m t n).2] at this
        exact this
      have HP : Hid (∀ X, Ln X (.slice (some ⟨X1.heap.size, 0, none⟩) t t) t (rev16 t n) → Calls Try.prog 13 #[.int .i64 f, .int .i64 K, .int .i64 m, .slice (some ⟨X1.heap.size, 0, none⟩) t t] X fun e w' => ∃ u, e = .returned (.tuple #[.int .i64 (plv16 f K m t n), u, .int .i64 (ple f K m t n)]) ∧ Ps16 X w' u (pll f K m t n) (emz (emp (rev16 t n)) t)) := fun X hL => by
        have := partial16 f K m _ t (rev16 t n) X HK.out.1 hL
        rw [(ple_rev f K m t n).1, (ple_rev f K m t n).2.1, (ple_rev f K m t n).2.2] at this
        exact this
      have c3 : ∀ X, Trn X0 X (.slice xS t cS) (.slice (some ⟨X1.heap.size, 0, none⟩) t t) t n → _ := fun X hT => partial16 f K m _ t n X HK.out.1 hT.s
      by_cases ha : ple f K m t n = 0
      case neg =>
        obtain ⟨z, hz⟩ : ∃ z, z = ple f K m t n := ⟨_, rfl⟩
        obtain ⟨L, hL⟩ : ∃ L, L = pll f K m t n := ⟨_, rfl⟩
        obtain ⟨pv, hpv⟩ : ∃ z, z = plv16 f K m t n := ⟨_, rfl⟩
        rw [← hz] at ha c3 HP
        rw [← hL] at c3 HP
        rw [← hpv] at c3 HP
        have Z1 : (z == 0) = false := by simpa using ha
        have Z2 : (z != 0) = true := by simpa using ha
        by_cases hk : K < 1 ∨ 70000 < K
        · have hpr : prm f K m ≠ 0 := fun e => by have hv := prm_ok.1 e; have := hv.hk; have := hv.hm; have := hv.sum; omega
          have hwl : wle f K m t n ≠ 0 := by unfold wle; rw [if_neg hpr]; exact hpr
          have V2 : (wle f K m t n != 0) = true := by simpa using hwl
          have V1 : (wle f K m t n == 0) = false := by simpa using hwl
          generalize wle f K m t n = we at *
          generalize wlv f K m t n = wv at *
          clear hz hL hpv ha hpr hwl
          by_cases hk1 : K < 1
          · have D1 : decide (K < 1) = true := by simpa using hk1
            clear hk hk1
            go_wp2_with (first
              | (go_at_call 10; first | ((with_reducible refine c1.mono ?_); rintro e X3 ⟨rfl, hb⟩; have H3 : Hid (Trn X0 X3 (.slice xS t cS) (.slice (some ⟨X1.heap.size, 0, none⟩) t t) t n) := H2.out.below hb; clear y0 y1 y2 y3 y4 y5 y6 y7; obtain ⟨y0, y1, y2, y3, y4, y5, y6, y7⟩ := HB.out X3 H3.out.bel; have c2 := HW.out X3 H3.out.b; clear c1 hb) | ((with_reducible refine c2.mono ?_); rintro e X4 ⟨rfl, hb⟩; have H4 : Hid (Trn X0 X4 (.slice xS t cS) (.slice (some ⟨X1.heap.size, 0, none⟩) t t) t n) := H3.out.below hb; clear y0 y1 y2 y3 y4 y5 y6 y7; obtain ⟨y0, y1, y2, y3, y4, y5, y6, y7⟩ := HB.out X4 H4.out.bel; have d3 := c3 X4 H4.out; clear c2 c3 hb))
              | (go_at_call 13; first | ((with_reducible refine d3.mono ?_); rintro e X5 ⟨r5, rfl, hP⟩; have H5 : Hid (Trn X0 X5 (.slice xS t cS) (.slice (some ⟨X1.heap.size, 0, none⟩) t t) t n) := H4.out.below hP.bel; have HQ5 : Hid (Qi X5 r5 L (emz (emp n) t)) := hP.gi.rb; obtain ⟨xr, cr, rfl⟩ := hP.gi.form; clear y0 y1 y2 y3 y4 y5 y6 y7; obtain ⟨y0, y1, y2, y3, y4, y5, y6, y7⟩ := HB.out X5 H5.out.bel; have c4 := HP.out X5 H5.out.b; clear d3 hP) | ((with_reducible refine c4.mono ?_); rintro e X6 ⟨r6, rfl, hP⟩; have H6 : Hid (Trn X0 X6 (.slice xS t cS) (.slice (some ⟨X1.heap.size, 0, none⟩) t t) t n) := H5.out.below hP.bel; have HQ6 : Hid (Qi X6 r6 L (emz (emp (rev16 t n)) t)) := hP.gi.rb; have HQ7 : Hid (Qi X6 (.slice xr L cr) L (emz (emp n) t)) := HQ5.out.below hP.bel; obtain ⟨xr6, cr6, rfl⟩ := hP.gi.form; clear y0 y1 y2 y3 y4 y5 y6 y7; obtain ⟨y0, y1, y2, y3, y4, y5, y6, y7⟩ := HB.out X6 H6.out.bel; clear c4 hP)))
            go_ret
            exact ⟨rfl, bthen16 HK.out.2.2.1 H6.out.bel⟩
          · have D1 : decide (K < 1) = false := by simpa using hk1
            have D2 : decide (70000 < K) = true := decide_eq_true (by omega)
            clear hk hk1
            go_wp2_with (first
              | (go_at_call 10; first | ((with_reducible refine c1.mono ?_); rintro e X3 ⟨rfl, hb⟩; have H3 : Hid (Trn X0 X3 (.slice xS t cS) (.slice (some ⟨X1.heap.size, 0, none⟩) t t) t n) := H2.out.below hb; clear y0 y1 y2 y3 y4 y5 y6 y7; obtain ⟨y0, y1, y2, y3, y4, y5, y6, y7⟩ := HB.out X3 H3.out.bel; have c2 := HW.out X3 H3.out.b; clear c1 hb) | ((with_reducible refine c2.mono ?_); rintro e X4 ⟨rfl, hb⟩; have H4 : Hid (Trn X0 X4 (.slice xS t cS) (.slice (some ⟨X1.heap.size, 0, none⟩) t t) t n) := H3.out.below hb; clear y0 y1 y2 y3 y4 y5 y6 y7; obtain ⟨y0, y1, y2, y3, y4, y5, y6, y7⟩ := HB.out X4 H4.out.bel; have d3 := c3 X4 H4.out; clear c2 c3 hb))
              | (go_at_call 13; first | ((with_reducible refine d3.mono ?_); rintro e X5 ⟨r5, rfl, hP⟩; have H5 : Hid (Trn X0 X5 (.slice xS t cS) (.slice (some ⟨X1.heap.size, 0, none⟩) t t) t n) := H4.out.below hP.bel; have HQ5 : Hid (Qi X5 r5 L (emz (emp n) t)) := hP.gi.rb; obtain ⟨xr, cr, rfl⟩ := hP.gi.form; clear y0 y1 y2 y3 y4 y5 y6 y7; obtain ⟨y0, y1, y2, y3, y4, y5, y6, y7⟩ := HB.out X5 H5.out.bel; have c4 := HP.out X5 H5.out.b; clear d3 hP) | ((with_reducible refine c4.mono ?_); rintro e X6 ⟨r6, rfl, hP⟩; have H6 : Hid (Trn X0 X6 (.slice xS t cS) (.slice (some ⟨X1.heap.size, 0, none⟩) t t) t n) := H5.out.below hP.bel; have HQ6 : Hid (Qi X6 r6 L (emz (emp (rev16 t n)) t)) := hP.gi.rb; have HQ7 : Hid (Qi X6 (.slice xr L cr) L (emz (emp n) t)) := HQ5.out.below hP.bel; obtain ⟨xr6, cr6, rfl⟩ := hP.gi.form; clear y0 y1 y2 y3 y4 y5 y6 y7; obtain ⟨y0, y1, y2, y3, y4, y5, y6, y7⟩ := HB.out X6 H6.out.bel; clear c4 hP)))
            go_ret
            exact ⟨rfl, bthen16 HK.out.2.2.1 H6.out.bel⟩
        · obtain ⟨K, rfl⟩ := Int.eq_ofNat_of_zero_le (show 0 ≤ K by omega)
          have D1 : decide ((K : Int) < 1) = false := decide_eq_false (by omega)
          have D2 : decide ((70000 : Int) < (K : Int)) = false := decide_eq_false (by omega)
          have hmk := make_rows K (by omega)
          have HF : Hid (∀ X, Trn X0 X (.slice xS t cS) (.slice (some ⟨X1.heap.size, 0, none⟩) t t) t n → Calls Try.prog 14 #[.int .i64 f, .int .i64 (K : Int), .int .i64 m, .slice xS t cS, .slice (some ⟨X.heap.size, 0, none⟩) K K] (X.alloc (.cells (madeCells #[.slice none 0 0] K) 24)).drew fun e w' => ∃ u, e = .returned (.tuple #[.int .i64 (wlv f K m t n), u, .int .i64 (wle f K m t n)]) ∧ Ps16 (X.alloc (.cells (madeCells #[.slice none 0 0] K) 24)).drew w' u 0 (emz (ful fun _ => 0) K)) := fun X hT => by
            refine (fresh16 f K m _ _ t K n (fun _ => 0) _ HK.out.1 (hT.s.below (balloc16 _ _).drew) ((ln_none X K (by omega)).below (Below.refl _ _).drew)).mono fun e w' ⟨u, he, hP⟩ => ?_
            rw [(fresh_none f m K t n).1, (fresh_none f m K t n).2.1] at he
            rw [(fresh_none f m K t n).2.2] at hP
            exact ⟨u, he, hP⟩
          have HU : Hid (∀ W, Below X0.heap.size X0 W → W.cell? ⟨w.heap.size, 2, none⟩ = some (.int .i64 (K : Int)) ∧ W.cell? ⟨w.heap.size, 3, none⟩ = some (.int .i64 m) ∧ W.cell? ⟨w.heap.size, 5, none⟩ = some (.slice xS t cS)) := fun W hW => ⟨(HB.out W hW).c2, (HB.out W hW).c3, (HB.out W hW).c5⟩
          generalize wle f K m t n = we at *
          generalize wlv f K m t n = wv at *
          clear hz hL hpv ha hk
          go_wp2_with (first
            | (go_at_call 10; first | ((with_reducible refine c1.mono ?_); rintro e X3 ⟨rfl, hb⟩; have H3 : Hid (Trn X0 X3 (.slice xS t cS) (.slice (some ⟨X1.heap.size, 0, none⟩) t t) t n) := H2.out.below hb; clear y0 y1 y2 y3 y4 y5 y6 y7; obtain ⟨y0, y1, y2, y3, y4, y5, y6, y7⟩ := HB.out X3 H3.out.bel; have c2 := HW.out X3 H3.out.b; clear c1 hb) | ((with_reducible refine c2.mono ?_); rintro e X4 ⟨rfl, hb⟩; have H4 : Hid (Trn X0 X4 (.slice xS t cS) (.slice (some ⟨X1.heap.size, 0, none⟩) t t) t n) := H3.out.below hb; clear y0 y1 y2 y3 y4 y5 y6 y7; obtain ⟨y0, y1, y2, y3, y4, y5, y6, y7⟩ := HB.out X4 H4.out.bel; have d3 := c3 X4 H4.out; clear c2 c3 hb))
            | (go_at_call 13; first | ((with_reducible refine d3.mono ?_); rintro e X5 ⟨r5, rfl, hP⟩; have H5 : Hid (Trn X0 X5 (.slice xS t cS) (.slice (some ⟨X1.heap.size, 0, none⟩) t t) t n) := H4.out.below hP.bel; have HQ5 : Hid (Qi X5 r5 L (emz (emp n) t)) := hP.gi.rb; obtain ⟨xr, cr, rfl⟩ := hP.gi.form; clear y0 y1 y2 y3 y4 y5 y6 y7; obtain ⟨y0, y1, y2, y3, y4, y5, y6, y7⟩ := HB.out X5 H5.out.bel; have c4 := HP.out X5 H5.out.b; clear d3 hP) | ((with_reducible refine c4.mono ?_); rintro e X6 ⟨r6, rfl, hP⟩; have H6 : Hid (Trn X0 X6 (.slice xS t cS) (.slice (some ⟨X1.heap.size, 0, none⟩) t t) t n) := H5.out.below hP.bel; have HQ6 : Hid (Qi X6 r6 L (emz (emp (rev16 t n)) t)) := hP.gi.rb; have HQ7 : Hid (Qi X6 (.slice xr L cr) L (emz (emp n) t)) := HQ5.out.below hP.bel; obtain ⟨xr6, cr6, rfl⟩ := hP.gi.form; clear y0 y1 y2 y3 y4 y5 y6 y7; obtain ⟨y0, y1, y2, y3, y4, y5, y6, y7⟩ := HB.out X6 H6.out.bel; have c5 := HF.out X6 H6.out; have UA := HU.out (X6.alloc (.cells (madeCells #[.slice none 0 0] K) 24)).drew (bthen16 H6.out.bel (balloc16 _ _).drew); clear c4 hP)))
          go_region_held (fun W => W.cell? ⟨w.heap.size, 2, none⟩ = some (.int .i64 (K : Int)) ∧ W.cell? ⟨w.heap.size, 3, none⟩ = some (.int .i64 m) ∧ W.cell? ⟨w.heap.size, 5, none⟩ = some (.slice xS t cS)) (first | exact ⟨y2, y3, y5⟩ | exact U7 | exact UA) (first
            | (go_at_call 14; (with_reducible refine c5.mono ?_); rintro e X7 ⟨r7, rfl, hP⟩; have H7 : Hid (Below X6.heap.size X6 X7) := bthen16 (balloc16 X6 _).drew hP.bel; obtain ⟨xr7, cr7, rfl⟩ := hP.gi.form; have U7 := HU.out X7 (bthen16 H6.out.bel H7.out); clear c5 hP))
          go_wp2
          go_ret
          exact ⟨rfl, bthen16 HK.out.2.2.1 (bthen16 H6.out.bel H7.out)⟩
      case pos =>
        obtain ⟨l, L, hO⟩ := ple_ok ha
        obtain ⟨K, m, rfl, rfl⟩ := prm_nat hO.hp
        have hvp := prm_ok.1 hO.hp
        have hK1 : 1 ≤ K := by have := hvp.hk; omega
        have hK2 : K ≤ 65536 := by have := hvp.sum; have := hvp.hm; omega
        have D1 : decide ((K : Int) < 1) = false := decide_eq_false (by omega)
        have D2 : decide ((70000 : Int) < (K : Int)) = false := decide_eq_false (by omega)
        have hmk := make_rows K (by omega)
        have HF : Hid (∀ X, Trn X0 X (.slice xS t cS) (.slice (some ⟨X1.heap.size, 0, none⟩) t t) t n → Calls Try.prog 14 #[.int .i64 f, .int .i64 (K : Int), .int .i64 (m : Int), .slice xS t cS, .slice (some ⟨X.heap.size, 0, none⟩) K K] (X.alloc (.cells (madeCells #[.slice none 0 0] K) 24)).drew fun e w' => ∃ u, e = .returned (.tuple #[.int .i64 (wlv f K m t n), u, .int .i64 (wle f K m t n)]) ∧ Ps16 (X.alloc (.cells (madeCells #[.slice none 0 0] K) 24)).drew w' u 0 (emz (ful fun _ => 0) K)) := fun X hT => by
          refine (fresh16 f K m _ _ t K n (fun _ => 0) _ HK.out.1 (hT.s.below (balloc16 _ _).drew) ((ln_none X K (by omega)).below (Below.refl _ _).drew)).mono fun e w' ⟨u, he, hP⟩ => ?_
          rw [(fresh_none f m K t n).1, (fresh_none f m K t n).2.1] at he
          rw [(fresh_none f m K t n).2.2] at hP
          exact ⟨u, he, hP⟩
        have HU : Hid (∀ W, Below X0.heap.size X0 W → W.cell? ⟨w.heap.size, 2, none⟩ = some (.int .i64 (K : Int)) ∧ W.cell? ⟨w.heap.size, 3, none⟩ = some (.int .i64 (m : Int)) ∧ W.cell? ⟨w.heap.size, 5, none⟩ = some (.slice xS t cS)) := fun W hW => ⟨(HB.out W hW).c2, (HB.out W hW).c3, (HB.out W hW).c5⟩
        rw [ha, hO.hv, hO.hll] at c3 HP
        have hct : t = K + m := by have := hO.hc; omega
        have hLm : L ≤ m := by have := hO.few; omega
        obtain ⟨d, hd⟩ : ∃ d, d = t - L := ⟨_, rfl⟩
        have WD : wrap64 ((t : Int) - (L : Int)) = (d : Int) := by have := HK.out; unfold wrap64; omega
        have hdK : ¬ d < K := by clear WD; omega
        have HO : Hid (scf (some 0) n t = some l ∧ L = (ems (emp n) t).length ∧ t ≤ 65536) := ⟨hO.sc, hO.hL, by have := hvp.sum; clear WD; omega⟩
        rcases Nat.eq_zero_or_pos L with hL0 | hL0
        · obtain ⟨hw1, hw2⟩ := hO.hw0 hL0
          rw [hw1, hw2] at c1 HW HF
          have E0 : (((L : Nat) : Int) == 0) = true := by rw [hL0]; rfl
          have E1 : ¬ 0 < L := by rw [hL0]; exact Nat.lt_irrefl _
          clear ha hO hvp hK1 hK2 hct hLm hd hw1 hw2 hL0
          have HWD : Hid (wrap64 ((t : Int) - (L : Int)) = (d : Int) ∧ ¬ d < K) := ⟨WD, hdK⟩
          have HMK : Hid _ := hmk
          go_wp2_with (first
            | (go_at_call 10; first | ((with_reducible refine c1.mono ?_); rintro e X3 ⟨rfl, hb⟩; have H3 : Hid (Trn X0 X3 (.slice xS t cS) (.slice (some ⟨X1.heap.size, 0, none⟩) t t) t n) := H2.out.below hb; clear y0 y1 y2 y3 y4 y5 y6 y7; obtain ⟨y0, y1, y2, y3, y4, y5, y6, y7⟩ := HB.out X3 H3.out.bel; have c2 := HW.out X3 H3.out.b; clear c1 hb) | ((with_reducible refine c2.mono ?_); rintro e X4 ⟨rfl, hb⟩; have H4 : Hid (Trn X0 X4 (.slice xS t cS) (.slice (some ⟨X1.heap.size, 0, none⟩) t t) t n) := H3.out.below hb; clear y0 y1 y2 y3 y4 y5 y6 y7; obtain ⟨y0, y1, y2, y3, y4, y5, y6, y7⟩ := HB.out X4 H4.out.bel; have d3 := c3 X4 H4.out; clear c2 c3 hb))
            | (go_at_call 13; first | ((with_reducible refine d3.mono ?_); rintro e X5 ⟨r5, rfl, hP⟩; have H5 : Hid (Trn X0 X5 (.slice xS t cS) (.slice (some ⟨X1.heap.size, 0, none⟩) t t) t n) := H4.out.below hP.bel; have HQ5 : Hid (Qi X5 r5 L (emz (emp n) t)) := hP.gi.rb; obtain ⟨xr, cr, rfl⟩ := hP.gi.form; clear y0 y1 y2 y3 y4 y5 y6 y7; obtain ⟨y0, y1, y2, y3, y4, y5, y6, y7⟩ := HB.out X5 H5.out.bel; have c4 := HP.out X5 H5.out.b; clear d3 hP) | ((with_reducible refine c4.mono ?_); rintro e X6 ⟨r6, rfl, hP⟩; have H6 : Hid (Trn X0 X6 (.slice xS t cS) (.slice (some ⟨X1.heap.size, 0, none⟩) t t) t n) := H5.out.below hP.bel; have HQ6 : Hid (Qi X6 r6 L (emz (emp (rev16 t n)) t)) := hP.gi.rb; have HQ7 : Hid (Qi X6 (.slice xr L cr) L (emz (emp n) t)) := HQ5.out.below hP.bel; obtain ⟨xr6, cr6, rfl⟩ := hP.gi.form; clear y0 y1 y2 y3 y4 y5 y6 y7; obtain ⟨y0, y1, y2, y3, y4, y5, y6, y7⟩ := HB.out X6 H6.out.bel; have c5 := HF.out X6 H6.out; have UA := HU.out (X6.alloc (.cells (madeCells #[.slice none 0 0] K) 24)).drew (bthen16 H6.out.bel (balloc16 _ _).drew); clear c4 hP)))
          clear hmk WD hdK
          go_loopw [17, 18] (fun at_ i w7 => ∃ (q A : Nat), q ≤ t ∧ i = .int .i64 q ∧ at_ = .int .i64 (A : Nat) ∧ A = (ems (emp n) q).length ∧ w7 = X6) (fun _ i _ => t - (intOf i).toNat)
          case atStart => exact ⟨0, 0, Nat.zero_le _, rfl, rfl, rfl, rfl⟩
          case round =>
            obtain ⟨q, A, hq, rfl, rfl, hA, rfl⟩ := hrel
            by_cases hlt : q < t
            · obtain ⟨b, o, rfl, hcx⟩ := HV.out.2.2.1 wr H6.out.bel (by omega)
              have q1 := hcx q hlt
              obtain ⟨x1, z1, ev⟩ := HV.out.1 q hlt
              rw [ev] at q1
              have ib : ((q : Nat) : Int) < (t : Int) := Int.ofNat_lt.2 hlt
              have W3 := wrap_succ8 (j := q) (by have := HO.out.2.2; unfold big; omega)
              have HT : Hid (q < t) := hlt
              by_cases hn : n q = 0
              · rw [hn] at q1
                obtain ⟨hAL, hAv⟩ := emz_at (P := emp n) hlt (by show (n q == 0) = true; rw [hn]; rfl)
                have hRv := emz_rev hlt hn
                rw [← hA, ← HO.out.2.1] at hAL hRv
                rw [← hA] at hAv
                exact absurd (Nat.lt_of_le_of_lt (Nat.zero_le A) hAL) E1
              · have hnl : n q = l := ((scf_all HO.out.1).1 q hlt).resolve_left hn
                rw [hnl] at q1
                have hl0 : 0 < l := by omega
                have HD : Hid (A = (ems (emp n) (q + 1)).length) := by show _ = _; rw [ems_no (P := emp n) (k := q) (by show (n q == 0) = false; simpa using hn), hA]
                clear hcx ev hlt hq hn hnl hA HF HU c5 UA
                go_wp2
                go_roundw
                case rel => exact ⟨q + 1, A, HT.out, by first | rfl | (rw [W3]; rfl), rfl, HD.out, by trivial⟩
                case measure => first | exact meas_lt8 HT.out | (rw [W3]; exact meas_lt8 HT.out)
            · have htl : ¬ ((q : Nat) : Int) < (t : Int) := fun e => hlt (Int.ofNat_lt.1 e)
              have hqt : q = t := by omega
              have hAL : A = L := by rw [hA, HO.out.2.1, hqt]
              subst hAL hqt
              obtain ⟨WD, hdK⟩ := HWD.out
              have hmk := HMK.out
              clear hA hlt hq
              go_wp2
              go_region_held (fun W => W.cell? ⟨w.heap.size, 2, none⟩ = some (.int .i64 (K : Int)) ∧ W.cell? ⟨w.heap.size, 3, none⟩ = some (.int .i64 (m : Int)) ∧ W.cell? ⟨w.heap.size, 5, none⟩ = some (.slice xS q cS)) (first | exact ⟨y2, y3, y5⟩ | exact U7 | exact UA) (first
                | (go_at_call 14; (with_reducible refine c5.mono ?_); rintro e X7 ⟨r7, rfl, hP⟩; have H7 : Hid (Below wr.heap.size wr X7) := bthen16 (balloc16 wr _).drew hP.bel; obtain ⟨xr7, cr7, rfl⟩ := hP.gi.form; have U7 := HU.out X7 (bthen16 H6.out.bel H7.out); clear c5 hP))
              go_wp2
              go_ret
              exact ⟨rfl, bthen16 HK.out.2.2.1 (bthen16 H6.out.bel H7.out)⟩
        · have hw1 := hO.hw1 hL0
          rw [hw1] at c1 HW HF
          have E0 : (((L : Nat) : Int) == 0) = false := by simpa using Nat.pos_iff_ne_zero.1 hL0
          generalize wlv f K m t n = wv at *
          clear ha hO hvp hK1 hK2 hct hLm hd hw1
          have HWD : Hid (wrap64 ((t : Int) - (L : Int)) = (d : Int) ∧ ¬ d < K) := ⟨WD, hdK⟩
          have HMK : Hid _ := hmk
          go_wp2_with (first
            | (go_at_call 10; first | ((with_reducible refine c1.mono ?_); rintro e X3 ⟨rfl, hb⟩; have H3 : Hid (Trn X0 X3 (.slice xS t cS) (.slice (some ⟨X1.heap.size, 0, none⟩) t t) t n) := H2.out.below hb; clear y0 y1 y2 y3 y4 y5 y6 y7; obtain ⟨y0, y1, y2, y3, y4, y5, y6, y7⟩ := HB.out X3 H3.out.bel; have c2 := HW.out X3 H3.out.b; clear c1 hb) | ((with_reducible refine c2.mono ?_); rintro e X4 ⟨rfl, hb⟩; have H4 : Hid (Trn X0 X4 (.slice xS t cS) (.slice (some ⟨X1.heap.size, 0, none⟩) t t) t n) := H3.out.below hb; clear y0 y1 y2 y3 y4 y5 y6 y7; obtain ⟨y0, y1, y2, y3, y4, y5, y6, y7⟩ := HB.out X4 H4.out.bel; have d3 := c3 X4 H4.out; clear c2 c3 hb))
            | (go_at_call 13; first | ((with_reducible refine d3.mono ?_); rintro e X5 ⟨r5, rfl, hP⟩; have H5 : Hid (Trn X0 X5 (.slice xS t cS) (.slice (some ⟨X1.heap.size, 0, none⟩) t t) t n) := H4.out.below hP.bel; have HQ5 : Hid (Qi X5 r5 L (emz (emp n) t)) := hP.gi.rb; obtain ⟨xr, cr, rfl⟩ := hP.gi.form; clear y0 y1 y2 y3 y4 y5 y6 y7; obtain ⟨y0, y1, y2, y3, y4, y5, y6, y7⟩ := HB.out X5 H5.out.bel; have c4 := HP.out X5 H5.out.b; clear d3 hP) | ((with_reducible refine c4.mono ?_); rintro e X6 ⟨r6, rfl, hP⟩; have H6 : Hid (Trn X0 X6 (.slice xS t cS) (.slice (some ⟨X1.heap.size, 0, none⟩) t t) t n) := H5.out.below hP.bel; have HQ6 : Hid (Qi X6 r6 L (emz (emp (rev16 t n)) t)) := hP.gi.rb; have HQ7 : Hid (Qi X6 (.slice xr L cr) L (emz (emp n) t)) := HQ5.out.below hP.bel; obtain ⟨xr6, cr6, rfl⟩ := hP.gi.form; clear y0 y1 y2 y3 y4 y5 y6 y7; obtain ⟨y0, y1, y2, y3, y4, y5, y6, y7⟩ := HB.out X6 H6.out.bel; have c5 := HF.out X6 H6.out; have UA := HU.out (X6.alloc (.cells (madeCells #[.slice none 0 0] K) 24)).drew (bthen16 H6.out.bel (balloc16 _ _).drew); clear c4 hP)))
          clear hmk WD hdK
          go_loopw [17, 18] (fun at_ i w7 => ∃ (q A : Nat), q ≤ t ∧ i = .int .i64 q ∧ at_ = .int .i64 (A : Nat) ∧ A = (ems (emp n) q).length ∧ w7 = X6) (fun _ i _ => t - (intOf i).toNat)
          case atStart => exact ⟨0, 0, Nat.zero_le _, rfl, rfl, rfl, rfl⟩
          case round =>
            obtain ⟨q, A, hq, rfl, rfl, hA, rfl⟩ := hrel
            by_cases hlt : q < t
            · obtain ⟨b, o, rfl, hcx⟩ := HV.out.2.2.1 wr H6.out.bel (by omega)
              have q1 := hcx q hlt
              obtain ⟨x1, z1, ev⟩ := HV.out.1 q hlt
              rw [ev] at q1
              have ib : ((q : Nat) : Int) < (t : Int) := Int.ofNat_lt.2 hlt
              have W3 := wrap_succ8 (j := q) (by have := HO.out.2.2; unfold big; omega)
              have HT : Hid (q < t) := hlt
              by_cases hn : n q = 0
              · rw [hn] at q1
                obtain ⟨hAL, hAv⟩ := emz_at (P := emp n) hlt (by show (n q == 0) = true; rw [hn]; rfl)
                have hRv := emz_rev hlt hn
                rw [← hA, ← HO.out.2.1] at hAL hRv
                rw [← hA] at hAv
                obtain ⟨-, -, xa, ca, ea, -, -, h4⟩ := HQ7.out
                cases ea
                obtain ⟨b7, o7, rfl, -, hc7⟩ := h4 (by omega)
                have q2 := hc7 A hAL
                rw [hAv] at q2
                obtain ⟨-, -, xb, cb, eb, -, -, h5⟩ := HQ6.out
                cases eb
                obtain ⟨b8, o8, rfl, -, hc8⟩ := h5 (by omega)
                obtain ⟨a1, b1, HN1, V1, V2⟩ := turn_nums hlt (by have := HO.out.2.2; omega)
                obtain ⟨a2, b2, HN2, V3, V4⟩ := turn_nums hAL (by have := HO.out; have := ems_le (emp n) t; clear V1 V2; omega)
                have q3 := hc8 b2 (by have := HN2.out; clear V1 V2 V3 V4; omega)
                rw [HN2.out.2, hRv, ← HN1.out.2, ← HN2.out.2] at q3
                have ib2 : ((b2 : Nat) : Int) < (L : Int) := by have := HN2.out; clear V1 V2 V3 V4; omega
                have iA : ((A : Nat) : Int) < (L : Int) := Int.ofNat_lt.2 hAL
                have hLA : ¬ L ≤ A := Nat.not_le.2 hAL
                have WA := wrap_succ8 (j := A) (by have := HO.out; have := ems_le (emp n) t; unfold big; clear V1 V2 V3 V4; omega)
                have HD : Hid (A + 1 = (ems (emp n) (q + 1)).length) := by show _ = _; rw [ems_len_yes (P := emp n) (k := q) (by show (n q == 0) = true; rw [hn]; rfl), hA]
                clear hcx ev hlt hq hn hAv hRv h4 h5 hc7 hc8 hA HF HU c5 UA
                go_wp2
                go_roundw
                case rel => exact ⟨q + 1, A + 1, HT.out, by first | rfl | (rw [W3]; rfl), by first | rfl | (rw [WA]; rfl), HD.out, by trivial⟩
                case measure => first | exact meas_lt8 HT.out | (rw [W3]; exact meas_lt8 HT.out)
              · have hnl : n q = l := ((scf_all HO.out.1).1 q hlt).resolve_left hn
                rw [hnl] at q1
                have hl0 : 0 < l := by omega
                have HD : Hid (A = (ems (emp n) (q + 1)).length) := by show _ = _; rw [ems_no (P := emp n) (k := q) (by show (n q == 0) = false; simpa using hn), hA]
                clear hcx ev hlt hq hn hnl hA HF HU c5 UA
                go_wp2
                go_roundw
                case rel => exact ⟨q + 1, A, HT.out, by first | rfl | (rw [W3]; rfl), rfl, HD.out, by trivial⟩
                case measure => first | exact meas_lt8 HT.out | (rw [W3]; exact meas_lt8 HT.out)
            · have htl : ¬ ((q : Nat) : Int) < (t : Int) := fun e => hlt (Int.ofNat_lt.1 e)
              have hqt : q = t := by omega
              have hAL : A = L := by rw [hA, HO.out.2.1, hqt]
              subst hAL hqt
              obtain ⟨WD, hdK⟩ := HWD.out
              have hmk := HMK.out
              clear hA hlt hq
              go_wp2
              go_region_held (fun W => W.cell? ⟨w.heap.size, 2, none⟩ = some (.int .i64 (K : Int)) ∧ W.cell? ⟨w.heap.size, 3, none⟩ = some (.int .i64 (m : Int)) ∧ W.cell? ⟨w.heap.size, 5, none⟩ = some (.slice xS q cS)) (first | exact ⟨y2, y3, y5⟩ | exact U7 | exact UA) (first
                | (go_at_call 14; (with_reducible refine c5.mono ?_); rintro e X7 ⟨r7, rfl, hP⟩; have H7 : Hid (Below wr.heap.size wr X7) := bthen16 (balloc16 wr _).drew hP.bel; obtain ⟨xr7, cr7, rfl⟩ := hP.gi.form; have U7 := HU.out X7 (bthen16 H6.out.bel H7.out); clear c5 hP))
              go_wp2
              go_ret
              exact ⟨rfl, bthen16 HK.out.2.2.1 (bthen16 H6.out.bel H7.out)⟩
end Go.Proofs.Ytldacjpkblffbab
