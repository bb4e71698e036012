import Derived.Test.YtldacjpkblffbaaYia
import Derived.Deep.CutRange
namespace Go.Proofs.Ytldacjpkblffbaa
open Go.RowKit Gf2
set_option linter.unusedVariables false

-- layer 16: tables (laid by wip/genyib.py)
/-- what a step of tables holds: the lists, and their copies. -/
structure Tst (X0 X : World) (vS vF u u2 : Value) (c : Nat) (n : Nat → Nat) (S : Nat → Nat → Nat) (c2 : Nat) (n2 : Nat → Nat) (S2 : Nat → Nat → Nat) : Prop where
  bel : Below X0.heap.size X0 X
  s : Lb X vS c n S
  f : Lb X vF c2 n2 S2
  su : Lb X u c n S
  fu : Lb X u2 c2 n2 S2
  hc : c ≤ 4194304
  hc2 : c2 ≤ 4194304
theorem Tst.below {X0 X X' : World} {vS vF u u2 : Value} {c : Nat} {n : Nat → Nat} {S : Nat → Nat → Nat} {c2 : Nat} {n2 : Nat → Nat} {S2 : Nat → Nat → Nat} (h : Tst X0 X vS vF u u2 c n S c2 n2 S2) (hb : Below X.heap.size X X') : Tst X0 X' vS vF u u2 c n S c2 n2 S2 :=
  ⟨bthen16 h.bel hb, Lb.below h.s hb, Lb.below h.f hb, Lb.below h.su hb, Lb.below h.fu hb, h.hc, h.hc2⟩
theorem Tst.drewN {X0 X : World} {vS vF u u2 : Value} {c : Nat} {n : Nat → Nat} {S : Nat → Nat → Nat} {c2 : Nat} {n2 : Nat → Nat} {S2 : Nat → Nat → Nat} (h : Tst X0 X vS vF u u2 c n S c2 n2 S2) (q : Nat) : Tst X0 (X.drewN q) vS vF u u2 c n S c2 n2 S2 := h.below (below_drewN (Below.refl _ _) q)
theorem Tst.drewq {X0 X X' : World} {q : Nat} {vS vF u u2 : Value} {c : Nat} {n : Nat → Nat} {S : Nat → Nat → Nat} {c2 : Nat} {n2 : Nat → Nat} {S2 : Nat → Nat → Nat} (h : Tst X0 X vS vF u u2 c n S c2 n2 S2) (hq : X' = X.drewN q) : Tst X0 X' vS vF u u2 c n S c2 n2 S2 := by subst hq; exact h.drewN q
theorem lb_form {w : World} {v : Value} {m : Nat} {n : Nat → Nat} {S : Nat → Nat → Nat} (h : Lb w v m n S) : ∃ a c, v = .slice a m c := by
  obtain ⟨V, ⟨_, a, c, e, _⟩, _⟩ := h
  exact ⟨a, c, e⟩
theorem tw_first {w : World} {vS : Value} {c : Nat} {n : Nat → Nat} {S : Nat → Nat → Nat} (h : Lb w vS c n S) (hv : hv16 n c = false) : Calls Try.prog 27 #[vS] w fun e w' => ∃ v, e = .returned v ∧ Tw16 w w' v c n S :=
  twin16 vS c n S w h (by have := (hv16_no hv).1; omega) (fun i hi => Nat.le_trans ((hv16_no hv).2 i hi) (by decide))
set_option maxHeartbeats 8000000 in
set_option maxRecDepth 100000 in
theorem tables16_whole (f K m N : Int) (vS vF vD : Value) (w : World) (hI : In16 w 5 f K m N vS vF vD) :
    Calls Try.prog 16 #[.agg #[.int .i64 5, .int .i64 f, .int .i64 K, .int .i64 m, .int .i64 N, vS, vF, vD]] w fun e w' => e = .returned (.bool true) ∧ Below w.heap.size w w' := by
  obtain ⟨X0, hX⟩ : ∃ X, X = w.alloc (.cells #[.int .i64 5, .int .i64 f, .int .i64 K, .int .i64 m, .int .i64 N, vS, vF, vD] 41) := ⟨_, rfl⟩
  have a0 : Below w.heap.size w X0 := by rw [hX]; exact balloc16 _ _
  have HB : Hid (∀ W, Below X0.heap.size X0 W → Bo16 W w.heap.size 5 f K m N vS vF vD) := fun W hW => by rw [hX] at hW; exact bo16_new w 5 f K m N vS vF vD hW
  obtain ⟨y0, y1, y2, y3, y4, y5, y6, y7⟩ := HB.out X0 (Below.refl _ _)
  obtain ⟨c, n, S, hS, hSc, hSn⟩ := hI.s.below a0
  obtain ⟨c2, n2, S2, hF, hFc, hFn⟩ := hI.f.below a0
  have HK : Hid (I64 K) := hI.hK
  have HA : Hid (Below w.heap.size w X0) := a0
  have HX : Hid (X0 = w.alloc (.cells #[.int .i64 5, .int .i64 f, .int .i64 K, .int .i64 m, .int .i64 N, vS, vF, vD] 41)) := hX
  have a1 := heavy16 vS c n X0 (hS.ln (by omega)) (fun i hi => Nat.le_trans (hSn i hi) (by decide))
  have a2 := heavy16 vF c2 n2 X0 (hF.ln (by omega)) (fun i hi => Nat.le_trans (hFn i hi) (by decide))
  obtain ⟨xS, cS, rfl⟩ := lb_form hS
  obtain ⟨xF, cF, rfl⟩ := lb_form hF
  obtain ⟨xD, nD, cD, rfl⟩ := bm16_form hI.d
  cases hv1 : hv16 n c
  case true =>
    rw [hv1] at a1
    rw [hX] at a1
    clear hS hF hSc hSn hFc hFn hI a2 hv1 a0 hX
    rw [HX.out] at y0 y1 y2 y3 y4 y5 y6 y7
    go_enter Try.func16, Try.ntmps16
    go_wp2_with (go_at_call 26; (with_reducible refine a1.mono ?_); rintro e w9 ⟨rfl, hw9⟩; have hw9 := hw9.symm; subst hw9)
    go_ret
    exact ⟨rfl, by rw [← HX.out]; exact HA.out⟩
  case false =>
    rw [hv1] at a1
    cases hv2 : hv16 n2 c2
    case true =>
      rw [hv2] at a2
      rw [hX] at a1 a2
      clear hS hF hSc hSn hFc hFn hI hv1 hv2 a0 hX
      rw [HX.out] at y0 y1 y2 y3 y4 y5 y6 y7
      go_enter Try.func16, Try.ntmps16
      go_wp2_with (go_at_call 26; first | ((with_reducible refine a1.mono ?_); rintro e w9 ⟨rfl, hw9⟩; have hw9 := hw9.symm; subst hw9) | ((with_reducible refine a2.mono ?_); rintro e w9 ⟨rfl, hw9⟩; have hw9 := hw9.symm; subst hw9))
      go_ret
      exact ⟨rfl, by rw [← HX.out]; exact HA.out⟩
    case false =>
      rw [hv2] at a2
      have HS : Hid (Lb X0 (.slice xS c cS) c n S ∧ hv16 n c = false) := ⟨hS, hv1⟩
      have HF : Hid (Lb X0 (.slice xF c2 cF) c2 n2 S2 ∧ hv16 n2 c2 = false) := ⟨hF, hv2⟩
      have c1 := tw_first hS hv1
      clear hS hF hSc hSn hFc hFn hI hv1 hv2 a0 hX
      go_enter Try.func16, Try.ntmps16
      go_upto_region 1 with (fail)
      rw [← HX.out]
      go_wp2_with (first
        | (go_at_call 26; first | ((with_reducible refine a1.mono ?_); rintro e w9 ⟨rfl, hw9⟩; have hw9 := hw9.symm; subst hw9) | ((with_reducible refine a2.mono ?_); rintro e w9 ⟨rfl, hw9⟩; have hw9 := hw9.symm; subst hw9))
        | (go_at_call 27; first
          | ((with_reducible refine c1.mono ?_); rintro e X1 ⟨u, rfl, h1⟩; clear y0 y1 y2 y3 y4 y5 y6 y7; obtain ⟨y0, y1, y2, y3, y4, y5, y6, y7⟩ := HB.out X1 h1.bel; have c2' := tw_first (Lb.below HF.out.1 h1.bel) HF.out.2; have H1 : Hid (Tw16 X0 X1 u c n S) := h1; clear c1 h1)
          | ((with_reducible refine c2'.mono ?_); rintro e X2 ⟨u2, rfl, h2⟩; have HT : Hid (Tst X0 X2 (.slice xS c cS) (.slice xF c2 cF) u u2 c n S c2 n2 S2) := ⟨bthen16 H1.out.bel h2.bel, Lb.below HS.out.1 (bthen16 H1.out.bel h2.bel), Lb.below HF.out.1 (bthen16 H1.out.bel h2.bel), Lb.below H1.out.lb h2.bel, h2.lb, (hv16_no HS.out.2).1, (hv16_no HF.out.2).1⟩; clear y0 y1 y2 y3 y4 y5 y6 y7; obtain ⟨y0, y1, y2, y3, y4, y5, y6, y7⟩ := HB.out X2 HT.out.bel; obtain ⟨xu, cu, rfl⟩ := lb_form HT.out.su; obtain ⟨xu2, cu2, rfl⟩ := lb_form HT.out.fu; have c3 := whole16 f K m _ c n X2 HK.out (HT.out.su.ln (by have := HT.out.hc; omega)); clear c2' h2))
        | (go_at_call 28; (with_reducible refine c3.mono ?_); rintro e X3 ⟨rfl, hb⟩; have HT3 : Hid (Tst X0 X3 (.slice xS c cS) (.slice xF c2 cF) (.slice xu c cu) (.slice xu2 c2 cu2) c n S c2 n2 S2) := HT.out.below hb; clear y0 y1 y2 y3 y4 y5 y6 y7; obtain ⟨y0, y1, y2, y3, y4, y5, y6, y7⟩ := HB.out X3 HT3.out.bel; have c4 := rwhole16 f K m _ c n X3 (HT3.out.s.ln (by have := HT3.out.hc; omega)) (by have := HT3.out.hc; omega); clear c3 hb)
        | (go_at_call 29; (with_reducible refine c4.mono ?_); rintro e X4 ⟨rfl, hb⟩; have HT4 : Hid (Tst X0 X4 (.slice xS c cS) (.slice xF c2 cF) (.slice xu c cu) (.slice xu2 c2 cu2) c n S c2 n2 S2) := HT3.out.below hb; clear y0 y1 y2 y3 y4 y5 y6 y7; obtain ⟨y0, y1, y2, y3, y4, y5, y6, y7⟩ := HB.out X4 HT4.out.bel; have c5 := sm16_true _ _ c n _ _ X4 HT4.out.su HT4.out.s (fun _ _ _ _ => rfl); clear c4 hb)
        | (go_at_call 14; first
          | ((with_reducible refine c5.mono ?_); rintro e X6 ⟨rfl, q6, hq⟩; have HT6 : Hid (Tst X0 X6 (.slice xS c cS) (.slice xF c2 cF) (.slice xu c cu) (.slice xu2 c2 cu2) c n S c2 n2 S2) := HT4.out.drewq hq; clear y0 y1 y2 y3 y4 y5 y6 y7; obtain ⟨y0, y1, y2, y3, y4, y5, y6, y7⟩ := HB.out X6 HT6.out.bel; have c6 := sm16_true _ _ c2 n2 _ _ X6 HT6.out.fu HT6.out.f (fun _ _ _ _ => rfl); clear c5 hq)
          | ((with_reducible refine c6.mono ?_); rintro e X7 ⟨rfl, q7, hq⟩; have HT7 : Hid (Tst X0 X7 (.slice xS c cS) (.slice xF c2 cF) (.slice xu c cu) (.slice xu2 c2 cu2) c n S c2 n2 S2) := HT6.out.drewq hq; clear c6 hq)))
      go_ret
      exact ⟨rfl, bthen16 HA.out HT7.out.bel⟩
set_option maxHeartbeats 8000000 in
set_option maxRecDepth 100000 in
theorem tables16_part (f K m N : Int) (vS vF vD : Value) (w : World) (hI : In16 w 6 f K m N vS vF vD) :
    Calls Try.prog 16 #[.agg #[.int .i64 6, .int .i64 f, .int .i64 K, .int .i64 m, .int .i64 N, vS, vF, vD]] w fun e w' => e = .returned (.bool true) ∧ Below w.heap.size w w' := by
  obtain ⟨X0, hX⟩ : ∃ X, X = w.alloc (.cells #[.int .i64 6, .int .i64 f, .int .i64 K, .int .i64 m, .int .i64 N, vS, vF, vD] 41) := ⟨_, rfl⟩
  have a0 : Below w.heap.size w X0 := by rw [hX]; exact balloc16 _ _
  have HB : Hid (∀ W, Below X0.heap.size X0 W → Bo16 W w.heap.size 6 f K m N vS vF vD) := fun W hW => by rw [hX] at hW; exact bo16_new w 6 f K m N vS vF vD hW
  obtain ⟨y0, y1, y2, y3, y4, y5, y6, y7⟩ := HB.out X0 (Below.refl _ _)
  obtain ⟨c, n, S, hS, hSc, hSn⟩ := hI.s.below a0
  obtain ⟨c2, n2, S2, hF, hFc, hFn⟩ := hI.f.below a0
  have HK : Hid (I64 K) := hI.hK
  have HA : Hid (Below w.heap.size w X0) := a0
  have HX : Hid (X0 = w.alloc (.cells #[.int .i64 6, .int .i64 f, .int .i64 K, .int .i64 m, .int .i64 N, vS, vF, vD] 41)) := hX
  have a1 := heavy16 vS c n X0 (hS.ln (by omega)) (fun i hi => Nat.le_trans (hSn i hi) (by decide))
  have a2 := heavy16 vF c2 n2 X0 (hF.ln (by omega)) (fun i hi => Nat.le_trans (hFn i hi) (by decide))
  obtain ⟨xS, cS, rfl⟩ := lb_form hS
  obtain ⟨xF, cF, rfl⟩ := lb_form hF
  obtain ⟨xD, nD, cD, rfl⟩ := bm16_form hI.d
  cases hv1 : hv16 n c
  case true =>
    rw [hv1] at a1
    rw [hX] at a1
    clear hS hF hSc hSn hFc hFn hI a2 hv1 a0 hX
    rw [HX.out] at y0 y1 y2 y3 y4 y5 y6 y7
    go_enter Try.func16, Try.ntmps16
    go_wp2_with (go_at_call 26; (with_reducible refine a1.mono ?_); rintro e w9 ⟨rfl, hw9⟩; have hw9 := hw9.symm; subst hw9)
    go_ret
    exact ⟨rfl, by rw [← HX.out]; exact HA.out⟩
  case false =>
    rw [hv1] at a1
    cases hv2 : hv16 n2 c2
    case true =>
      rw [hv2] at a2
      rw [hX] at a1 a2
      clear hS hF hSc hSn hFc hFn hI hv1 hv2 a0 hX
      rw [HX.out] at y0 y1 y2 y3 y4 y5 y6 y7
      go_enter Try.func16, Try.ntmps16
      go_wp2_with (go_at_call 26; first | ((with_reducible refine a1.mono ?_); rintro e w9 ⟨rfl, hw9⟩; have hw9 := hw9.symm; subst hw9) | ((with_reducible refine a2.mono ?_); rintro e w9 ⟨rfl, hw9⟩; have hw9 := hw9.symm; subst hw9))
      go_ret
      exact ⟨rfl, by rw [← HX.out]; exact HA.out⟩
    case false =>
      rw [hv2] at a2
      have HS : Hid (Lb X0 (.slice xS c cS) c n S ∧ hv16 n c = false) := ⟨hS, hv1⟩
      have HF : Hid (Lb X0 (.slice xF c2 cF) c2 n2 S2 ∧ hv16 n2 c2 = false) := ⟨hF, hv2⟩
      have c1 := tw_first hS hv1
      clear hS hF hSc hSn hFc hFn hI hv1 hv2 a0 hX
      go_enter Try.func16, Try.ntmps16
      go_upto_region 1 with (fail)
      rw [← HX.out]
      go_wp2_with (first
        | (go_at_call 26; first | ((with_reducible refine a1.mono ?_); rintro e w9 ⟨rfl, hw9⟩; have hw9 := hw9.symm; subst hw9) | ((with_reducible refine a2.mono ?_); rintro e w9 ⟨rfl, hw9⟩; have hw9 := hw9.symm; subst hw9))
        | (go_at_call 27; first
          | ((with_reducible refine c1.mono ?_); rintro e X1 ⟨u, rfl, h1⟩; clear y0 y1 y2 y3 y4 y5 y6 y7; obtain ⟨y0, y1, y2, y3, y4, y5, y6, y7⟩ := HB.out X1 h1.bel; have c2' := tw_first (Lb.below HF.out.1 h1.bel) HF.out.2; have H1 : Hid (Tw16 X0 X1 u c n S) := h1; clear c1 h1)
          | ((with_reducible refine c2'.mono ?_); rintro e X2 ⟨u2, rfl, h2⟩; have HT : Hid (Tst X0 X2 (.slice xS c cS) (.slice xF c2 cF) u u2 c n S c2 n2 S2) := ⟨bthen16 H1.out.bel h2.bel, Lb.below HS.out.1 (bthen16 H1.out.bel h2.bel), Lb.below HF.out.1 (bthen16 H1.out.bel h2.bel), Lb.below H1.out.lb h2.bel, h2.lb, (hv16_no HS.out.2).1, (hv16_no HF.out.2).1⟩; clear y0 y1 y2 y3 y4 y5 y6 y7; obtain ⟨y0, y1, y2, y3, y4, y5, y6, y7⟩ := HB.out X2 HT.out.bel; obtain ⟨xu, cu, rfl⟩ := lb_form HT.out.su; obtain ⟨xu2, cu2, rfl⟩ := lb_form HT.out.fu; have c3 := partial16 f K m _ c n X2 HK.out (HT.out.su.ln (by have := HT.out.hc; omega)) (by have := HT.out.hc; omega); clear c2' h2))
        | (go_at_call 30; (with_reducible refine c3.mono ?_); rintro e X3 ⟨r, rfl, hP⟩; obtain ⟨xr, cr, rfl⟩ := hP.gi.form; have HT3 : Hid (Tst X0 X3 (.slice xS c cS) (.slice xF c2 cF) (.slice xu c cu) (.slice xu2 c2 cu2) c n S c2 n2 S2 ∧ Qi X3 (.slice xr (pll f K m c n) cr) (pll f K m c n) (emz (emp n) c)) := ⟨HT.out.below hP.bel, hP.gi.rb⟩; clear y0 y1 y2 y3 y4 y5 y6 y7; obtain ⟨y0, y1, y2, y3, y4, y5, y6, y7⟩ := HB.out X3 HT3.out.1.bel; have c4 := rpartial16 f K m _ c n X3 (HT3.out.1.s.ln (by have := HT3.out.1.hc; omega)) (by have := HT3.out.1.hc; omega); clear c3 hP)
        | (go_at_call 31; (with_reducible refine c4.mono ?_); rintro e X4 ⟨r2, rfl, hP⟩; obtain ⟨xr2, cr2, rfl⟩ := hP.gi.form; have HT4 : Hid (Tst X0 X4 (.slice xS c cS) (.slice xF c2 cF) (.slice xu c cu) (.slice xu2 c2 cu2) c n S c2 n2 S2) := HT3.out.1.below hP.bel; clear y0 y1 y2 y3 y4 y5 y6 y7; obtain ⟨y0, y1, y2, y3, y4, y5, y6, y7⟩ := HB.out X4 HT4.out.bel; have c4b := si16_true _ _ _ _ _ X4 (HT3.out.2.below hP.bel) hP.gi.rb (fun _ _ => rfl); clear c4 hP)
        | (go_at_call 32; (with_reducible refine c4b.mono ?_); rintro e X5 ⟨rfl, q, hq⟩; have HT5 : Hid (Tst X0 X5 (.slice xS c cS) (.slice xF c2 cF) (.slice xu c cu) (.slice xu2 c2 cu2) c n S c2 n2 S2) := HT4.out.drewq hq; clear y0 y1 y2 y3 y4 y5 y6 y7; obtain ⟨y0, y1, y2, y3, y4, y5, y6, y7⟩ := HB.out X5 HT5.out.bel; have c5 := sm16_true _ _ c n _ _ X5 HT5.out.su HT5.out.s (fun _ _ _ _ => rfl); clear c4b hq)
        | (go_at_call 14; first
          | ((with_reducible refine c5.mono ?_); rintro e X6 ⟨rfl, q6, hq⟩; have HT6 : Hid (Tst X0 X6 (.slice xS c cS) (.slice xF c2 cF) (.slice xu c cu) (.slice xu2 c2 cu2) c n S c2 n2 S2) := HT5.out.drewq hq; clear y0 y1 y2 y3 y4 y5 y6 y7; obtain ⟨y0, y1, y2, y3, y4, y5, y6, y7⟩ := HB.out X6 HT6.out.bel; have c6 := sm16_true _ _ c2 n2 _ _ X6 HT6.out.fu HT6.out.f (fun _ _ _ _ => rfl); clear c5 hq)
          | ((with_reducible refine c6.mono ?_); rintro e X7 ⟨rfl, q7, hq⟩; have HT7 : Hid (Tst X0 X7 (.slice xS c cS) (.slice xF c2 cF) (.slice xu c cu) (.slice xu2 c2 cu2) c n S c2 n2 S2) := HT6.out.drewq hq; clear c6 hq)))
      go_ret
      exact ⟨rfl, bthen16 HA.out HT7.out.bel⟩
set_option maxHeartbeats 8000000 in
set_option maxRecDepth 100000 in
theorem tables16_fresh (f K m N : Int) (vS vF vD : Value) (w : World) (hI : In16 w 7 f K m N vS vF vD) :
    Calls Try.prog 16 #[.agg #[.int .i64 7, .int .i64 f, .int .i64 K, .int .i64 m, .int .i64 N, vS, vF, vD]] w fun e w' => e = .returned (.bool true) ∧ Below w.heap.size w w' := by
  obtain ⟨X0, hX⟩ : ∃ X, X = w.alloc (.cells #[.int .i64 7, .int .i64 f, .int .i64 K, .int .i64 m, .int .i64 N, vS, vF, vD] 41) := ⟨_, rfl⟩
  have a0 : Below w.heap.size w X0 := by rw [hX]; exact balloc16 _ _
  have HB : Hid (∀ W, Below X0.heap.size X0 W → Bo16 W w.heap.size 7 f K m N vS vF vD) := fun W hW => by rw [hX] at hW; exact bo16_new w 7 f K m N vS vF vD hW
  obtain ⟨y0, y1, y2, y3, y4, y5, y6, y7⟩ := HB.out X0 (Below.refl _ _)
  obtain ⟨c, n, S, hS, hSc, hSn⟩ := hI.s.below a0
  obtain ⟨c2, n2, S2, hF, hFc, hFn⟩ := hI.f.below a0
  have HK : Hid (I64 K) := hI.hK
  have HA : Hid (Below w.heap.size w X0) := a0
  have HX : Hid (X0 = w.alloc (.cells #[.int .i64 7, .int .i64 f, .int .i64 K, .int .i64 m, .int .i64 N, vS, vF, vD] 41)) := hX
  have a1 := heavy16 vS c n X0 (hS.ln (by omega)) (fun i hi => Nat.le_trans (hSn i hi) (by decide))
  have a2 := heavy16 vF c2 n2 X0 (hF.ln (by omega)) (fun i hi => Nat.le_trans (hFn i hi) (by decide))
  obtain ⟨xS, cS, rfl⟩ := lb_form hS
  obtain ⟨xF, cF, rfl⟩ := lb_form hF
  obtain ⟨xD, nD, cD, rfl⟩ := bm16_form hI.d
  cases hv1 : hv16 n c
  case true =>
    rw [hv1] at a1
    rw [hX] at a1
    clear hS hF hSc hSn hFc hFn hI a2 hv1 a0 hX
    rw [HX.out] at y0 y1 y2 y3 y4 y5 y6 y7
    go_enter Try.func16, Try.ntmps16
    go_wp2_with (go_at_call 26; (with_reducible refine a1.mono ?_); rintro e w9 ⟨rfl, hw9⟩; have hw9 := hw9.symm; subst hw9)
    go_ret
    exact ⟨rfl, by rw [← HX.out]; exact HA.out⟩
  case false =>
    rw [hv1] at a1
    cases hv2 : hv16 n2 c2
    case true =>
      rw [hv2] at a2
      rw [hX] at a1 a2
      clear hS hF hSc hSn hFc hFn hI hv1 hv2 a0 hX
      rw [HX.out] at y0 y1 y2 y3 y4 y5 y6 y7
      go_enter Try.func16, Try.ntmps16
      go_wp2_with (go_at_call 26; first | ((with_reducible refine a1.mono ?_); rintro e w9 ⟨rfl, hw9⟩; have hw9 := hw9.symm; subst hw9) | ((with_reducible refine a2.mono ?_); rintro e w9 ⟨rfl, hw9⟩; have hw9 := hw9.symm; subst hw9))
      go_ret
      exact ⟨rfl, by rw [← HX.out]; exact HA.out⟩
    case false =>
      rw [hv2] at a2
      have HS : Hid (Lb X0 (.slice xS c cS) c n S ∧ hv16 n c = false) := ⟨hS, hv1⟩
      have HF : Hid (Lb X0 (.slice xF c2 cF) c2 n2 S2 ∧ hv16 n2 c2 = false) := ⟨hF, hv2⟩
      have c1 := tw_first hS hv1
      clear hS hF hSc hSn hFc hFn hI hv1 hv2 a0 hX
      go_enter Try.func16, Try.ntmps16
      go_upto_region 1 with (fail)
      rw [← HX.out]
      go_wp2_with (first
        | (go_at_call 26; first | ((with_reducible refine a1.mono ?_); rintro e w9 ⟨rfl, hw9⟩; have hw9 := hw9.symm; subst hw9) | ((with_reducible refine a2.mono ?_); rintro e w9 ⟨rfl, hw9⟩; have hw9 := hw9.symm; subst hw9))
        | (go_at_call 27; first
          | ((with_reducible refine c1.mono ?_); rintro e X1 ⟨u, rfl, h1⟩; clear y0 y1 y2 y3 y4 y5 y6 y7; obtain ⟨y0, y1, y2, y3, y4, y5, y6, y7⟩ := HB.out X1 h1.bel; have c2' := tw_first (Lb.below HF.out.1 h1.bel) HF.out.2; have H1 : Hid (Tw16 X0 X1 u c n S) := h1; clear c1 h1)
          | ((with_reducible refine c2'.mono ?_); rintro e X2 ⟨u2, rfl, h2⟩; have HT : Hid (Tst X0 X2 (.slice xS c cS) (.slice xF c2 cF) u u2 c n S c2 n2 S2) := ⟨bthen16 H1.out.bel h2.bel, Lb.below HS.out.1 (bthen16 H1.out.bel h2.bel), Lb.below HF.out.1 (bthen16 H1.out.bel h2.bel), Lb.below H1.out.lb h2.bel, h2.lb, (hv16_no HS.out.2).1, (hv16_no HF.out.2).1⟩; clear y0 y1 y2 y3 y4 y5 y6 y7; obtain ⟨y0, y1, y2, y3, y4, y5, y6, y7⟩ := HB.out X2 HT.out.bel; obtain ⟨xu, cu, rfl⟩ := lb_form HT.out.su; obtain ⟨xu2, cu2, rfl⟩ := lb_form HT.out.fu; have c3 := fresh16 f K m _ _ c c2 n n2 X2 HK.out (HT.out.su.ln (by have := HT.out.hc; omega)) (HT.out.fu.ln (by have := HT.out.hc2; omega)) (by have := HT.out.hc2; omega); clear c2' h2))
        | (go_at_call 33; (with_reducible refine c3.mono ?_); rintro e X3 ⟨r, rfl, hP⟩; obtain ⟨xr, cr, rfl⟩ := hP.gi.form; have HT3 : Hid (Tst X0 X3 (.slice xS c cS) (.slice xF c2 cF) (.slice xu c cu) (.slice xu2 c2 cu2) c n S c2 n2 S2 ∧ Qi X3 (.slice xr (fll f K m c n c2 n2) cr) (fll f K m c n c2 n2) (emz (ful n2) c2)) := ⟨HT.out.below hP.bel, hP.gi.rb⟩; clear y0 y1 y2 y3 y4 y5 y6 y7; obtain ⟨y0, y1, y2, y3, y4, y5, y6, y7⟩ := HB.out X3 HT3.out.1.bel; have c4 := rfresh16 f K m _ _ c c2 n n2 X3 (HT3.out.1.s.ln (by have := HT3.out.1.hc; omega)) (HT3.out.1.f.ln (by have := HT3.out.1.hc2; omega)) (by have := HT3.out.1.hc; omega); clear c3 hP)
        | (go_at_call 34; (with_reducible refine c4.mono ?_); rintro e X4 ⟨r2, rfl, hP⟩; obtain ⟨xr2, cr2, rfl⟩ := hP.gi.form; have HT4 : Hid (Tst X0 X4 (.slice xS c cS) (.slice xF c2 cF) (.slice xu c cu) (.slice xu2 c2 cu2) c n S c2 n2 S2) := HT3.out.1.below hP.bel; clear y0 y1 y2 y3 y4 y5 y6 y7; obtain ⟨y0, y1, y2, y3, y4, y5, y6, y7⟩ := HB.out X4 HT4.out.bel; have c4b := si16_true _ _ _ _ _ X4 (HT3.out.2.below hP.bel) hP.gi.rb (fun _ _ => rfl); clear c4 hP)
        | (go_at_call 32; (with_reducible refine c4b.mono ?_); rintro e X5 ⟨rfl, q, hq⟩; have HT5 : Hid (Tst X0 X5 (.slice xS c cS) (.slice xF c2 cF) (.slice xu c cu) (.slice xu2 c2 cu2) c n S c2 n2 S2) := HT4.out.drewq hq; clear y0 y1 y2 y3 y4 y5 y6 y7; obtain ⟨y0, y1, y2, y3, y4, y5, y6, y7⟩ := HB.out X5 HT5.out.bel; have c5 := sm16_true _ _ c n _ _ X5 HT5.out.su HT5.out.s (fun _ _ _ _ => rfl); clear c4b hq)
        | (go_at_call 14; first
          | ((with_reducible refine c5.mono ?_); rintro e X6 ⟨rfl, q6, hq⟩; have HT6 : Hid (Tst X0 X6 (.slice xS c cS) (.slice xF c2 cF) (.slice xu c cu) (.slice xu2 c2 cu2) c n S c2 n2 S2) := HT5.out.drewq hq; clear y0 y1 y2 y3 y4 y5 y6 y7; obtain ⟨y0, y1, y2, y3, y4, y5, y6, y7⟩ := HB.out X6 HT6.out.bel; have c6 := sm16_true _ _ c2 n2 _ _ X6 HT6.out.fu HT6.out.f (fun _ _ _ _ => rfl); clear c5 hq)
          | ((with_reducible refine c6.mono ?_); rintro e X7 ⟨rfl, q7, hq⟩; have HT7 : Hid (Tst X0 X7 (.slice xS c cS) (.slice xF c2 cF) (.slice xu c cu) (.slice xu2 c2 cu2) c n S c2 n2 S2) := HT6.out.drewq hq; clear c6 hq)))
      go_ret
      exact ⟨rfl, bthen16 HA.out HT7.out.bel⟩
end Go.Proofs.Ytldacjpkblffbaa
