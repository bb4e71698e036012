import Derived.Test.YtdeophhcbkahgaaKjd
namespace Go.Proofs.Ytdeophhcbkahgaa.kernelLives
open Go.RowKit Gf2
set_option linter.unusedVariables false

set_option maxHeartbeats 16000000 in
set_option maxRecDepth 100000 in
theorem walk (u : Value) (m : Nat) (n : Nat → Nat) (S0 : Nat → Nat → Nat) (a : Option Addr) (len cap : Nat) (w : World) (hu : Lb w u m n S0) (hm : 24 * m ≤ 140737488351232) (hn : ∀ i, i < m → n i ≤ 140737488351232) (h : IsSteps9 w a len cap) :
    Calls Try.prog 5 #[u, .slice a len cap] w fun e w' => e = .returned (.bool true) ∧ Below w.heap.size w w' := by
  obtain ⟨hml, h⟩ := h
  unfold maxLen at hml
  obtain ⟨xu, cu, rfl⟩ := Lb.form hu
  have HU : Hid (Lb w (.slice xu m cu) m n S0 ∧ 24 * m ≤ 140737488351232 ∧ ∀ i, i < m → n i ≤ 140737488351232) := ⟨hu, hm, hn⟩
  have cS := sets9_any w
  have cF := fun W => fixed9_any W
  clear hu hn
  by_cases h0 : m = 0
  · have i0 : ((m : Nat) : Int) = 0 := by omega
    clear h hml hm
    go_enter Try.func5, Try.ntmps5
    go_wp2_with (first
      | (go_at_call 6; (with_reducible refine cS.mono ?_); rintro e w2 ⟨vl, gl, cl, P, rfl, hS, hb2⟩; clear cS; obtain ⟨lo, hi, rfl, -⟩ := hS)
      | (go_at_call 7; (with_reducible refine (cF _).mono ?_); rintro e w4 ⟨rfl, hb3⟩; clear cF))
    go_ret
    exact ⟨rfl, bta9 hb2 hb3⟩
  have i0 : ¬ ((m : Nat) : Int) = 0 := by omega
  have ip : (0 : Int) < (m : Int) := by omega
  have HM : Hid (0 < m ∧ m ≤ 140737488351232) := ⟨by omega, by omega⟩
  clear h0 hm
  go_enter Try.func5, Try.ntmps5
  go_wp2_with (first
    | (go_at_call 6; (with_reducible refine cS.mono ?_); rintro e w2 ⟨vl, gl, cl, P, rfl, hS, hb2⟩; clear cS; have H2 : Hid (Below w.heap.size w w2 ∧ Sv w2 vl gl cl P) := ⟨hb2, hS⟩; obtain ⟨lo, hi, rfl, -⟩ := hS; clear hb2)
    | (go_at_call 7; (with_reducible refine (cF _).mono ?_); rintro e w4 ⟨rfl, hb3⟩; clear cF; have H4 : Hid (Below w.heap.size w w4 ∧ Sv w4 (.slice (some ⟨gl, 0, none⟩) 3 cl) gl cl P) := ⟨bta9 H2.out.1 hb3, H2.out.2.below hb3⟩; clear hb3 H2; have cA := copies9_any (.slice xu m cu) m n S0 w4 (Lb.below HU.out.1 H4.out.1) HU.out.2.1 HU.out.2.2)
    | (go_at_call 9; (with_reducible refine cA.mono ?_); rintro e x1 ⟨vh, B, rfl, r1, b1⟩; clear cA; have H5 : Hid (Below w4.heap.size w4 x1 ∧ Cs w4.heap.size x1.heap.size x1 vh m n n B S0) := ⟨b1, r1⟩; clear r1 b1; have cB := copies9_cg (.slice xu m cu) m n S0 x1 (Lb.below HU.out.1 (bta9 H4.out.1 H5.out.1)) HU.out.2.1 HU.out.2.2)
    | (go_at_call 9; (with_reducible refine cB.mono ?_); rintro e x2 ⟨vw, BW, rfl, r2⟩; clear cB; have H6 : Hid (Cg x1 x2 vw m n n BW S0) := r2; clear r2))
  obtain ⟨ah, ch, eh, ch1, ch2, hfh⟩ := H5.out.2.form
  obtain ⟨gh, e1, -⟩ := hfh HM.out.1
  subst e1
  subst eh
  obtain ⟨gw, cw, ew, cw1, cw2, gw1, V0, hW0⟩ := Cg.wt9 (l := w4.heap.size) H6.out HM.out.1 (Nat.le_refl x1.heap.size)
  subst ew
  have HC : Hid ((m ≤ cw ∧ cw ≤ big) ∧ (m ≤ ch ∧ ch ≤ big) ∧ x1.heap.size ≤ gw ∧ w4.heap.size ≤ x1.heap.size) := ⟨⟨cw1, cw2⟩, ⟨ch1, ch2⟩, gw1, H5.out.1.size⟩
  have HS0 : Hid (Below w4.heap.size w4 x2 ∧ Cs w4.heap.size x1.heap.size x2 (.slice (some ⟨gh, 0, none⟩) m ch) m n n B S0 ∧ Wt9 w4.heap.size x1.heap.size x2 gw m n V0 S0) := ⟨bta9 H5.out.1 H6.out.bel, H5.out.2.below H6.out.bel, hW0⟩
  clear hfh ch1 ch2 cw1 cw2 gw1 hW0 H5 H6
  obtain ⟨-, lo, hi, e9, s1, s2, s3, s4⟩ := id H4.out
  cases e9
  have HP : Hid (gl < w4.heap.size ∧ ∀ i, i < 3 → w4.cell? ⟨gl, i, none⟩ = some (.pointer (some (P i))) ∧ Ks w4 (P i) i (lo i) (hi i)) := ⟨s3, s4⟩
  have h3c : 3 ≤ cl := s1
  clear s1 s2 s3 s4
  generalize hl0 : x1.heap.size = hh at HS0 HC ⊢
  clear hl0
  go_loopw [31] (fun iv wr => ∃ i : Nat, i ≤ len ∧ iv = .int .i64 i ∧ Below w4.heap.size w4 wr ∧ ∃ T V, Cs w4.heap.size hh wr (.slice (some ⟨gh, 0, none⟩) m ch) m n n B T ∧ Wt9 w4.heap.size hh wr gw m n V T) (fun iv _ => len - (intOf iv).toNat)
  case atStart => exact ⟨0, Nat.zero_le _, rfl, HS0.out.1, _, _, HS0.out.2.1, HS0.out.2.2⟩
  case round =>
    obtain ⟨i, hi2, rfl, hb, T, V, hC, hW⟩ := hrel
    clear HS0
    by_cases hlt : i < len
    case neg =>
      have hil : ¬ ((i : Nat) : Int) < (len : Int) := by omega
      have HB : Hid (Below w.heap.size w wr) := bta9 H4.out.1 hb
      clear hb hC hW h hi2 hlt hml
      go_wp2
      go_ret
      exact ⟨rfl, HB.out⟩
    case pos =>
    rcases h with h | ⟨b, off, rfl, hlc, hcm, hbs, hops⟩
    · omega
    obtain ⟨kind, c, kto, kfo, vr, fr, tt, hz, hc, hvr⟩ := hops i hlt
    obtain ⟨nr, R, hvr1, hvr2⟩ := hvr
    obtain ⟨xr, cr, rfl⟩ := hvr1.form9
    have hb0 : Below w.heap.size w wr := bta9 H4.out.1 hb
    have zc : ∀ j v, (cz9 kind c kto kfo (.slice xr nr cr) fr tt)[j]? = some v → wr.cell? ⟨b, off + i * 7 + j, none⟩ = some v := fun j v hv => (hb0.cell (p := ⟨b, off + i * 7 + j, none⟩) hbs).trans (hz j v hv)
    have y0 := zc 0 (.int .i64 kind) rfl
    have y1 := zc 1 (.int .u8 (c : Int)) rfl
    have y2 := zc 2 (.int .i64 kto) rfl
    have y3 := zc 3 (.int .i64 kfo) rfl
    have y4 := zc 4 (.slice xr nr cr) rfl
    have y5 := zc 5 (.int .i64 fr) rfl
    have y6 := zc 6 (.int .i64 tt) rfl
    simp only [Nat.add_zero] at y0
    have hil : ((i : Nat) : Int) < (len : Int) := by omega
    obtain ⟨ht, T1, T2, T3⟩ := pm9_facts (k := kto) HM.out.1 HM.out.2
    obtain ⟨hf, F1, F2, F3⟩ := pm9_facts (k := kfo) HM.out.1 HM.out.2
    generalize pm9 kto m = to at ht T3
    generalize pm9 kfo m = fo at hf F3
    have T4 : IntKind.i64.wrap (to : Int) = (to : Int) := by have := HM.out.2; rw [IntKind.wrap_i64]; omega
    have F4 : IntKind.i64.wrap (fo : Int) = (fo : Int) := by have := HM.out.2; rw [IntKind.wrap_i64]; omega
    obtain ⟨E, T', hP, hT⟩ := step9_any kind c kto kfo (.slice xr nr cr) nr R fr tt to fo m w4.heap.size hh gh ch gw cw n B T hc ht hf hvr2 HU.out.2.1 HU.out.2.2 HC.out.1
    have hX : Box9 (wr.alloc (.cells #[.int .i64 kind, .int .u8 (c : Int), .int .i64 kto, .int .i64 kfo, .slice xr nr cr, .int .i64 fr, .int .i64 tt] 55)) wr.heap.size #[.int .i64 kind, .int .u8 (c : Int), .int .i64 kto, .int .i64 kfo, .slice xr nr cr, .int .i64 fr, .int .i64 tt] 55 := Box9.new _ _ _
    have bX : Below wr.heap.size wr (wr.alloc (.cells #[.int .i64 kind, .int .u8 (c : Int), .int .i64 kto, .int .i64 kfo, .slice xr nr cr, .int .i64 fr, .int .i64 tt] 55)) := (Below.refl _ _).alloc (Nat.le_refl _) _
    have hr3 : i % 3 < 3 := Nat.mod_lt _ (by decide)
    have e3 : (i : Int).tmod 3 = ((i % 3 : Nat) : Int) := by rw [Int.tmod_eq_emod_of_nonneg (by omega)]; omega
    generalize i % 3 = r at hr3 e3
    have W3 : IntKind.i64.wrap (r : Int) = (r : Int) := by rw [IntKind.wrap_i64]; omega
    have i3 : ((r : Nat) : Int) < 3 := by omega
    have W1 := wrap_succ8 (j := i) (by unfold big; omega)
    have HR : Hid (Box9 (wr.alloc (.cells #[.int .i64 kind, .int .u8 (c : Int), .int .i64 kto, .int .i64 kfo, .slice xr nr cr, .int .i64 fr, .int .i64 tt] 55)) wr.heap.size #[.int .i64 kind, .int .u8 (c : Int), .int .i64 kto, .int .i64 kfo, .slice xr nr cr, .int .i64 fr, .int .i64 tt] 55 ∧ Below w4.heap.size w4 (wr.alloc (.cells #[.int .i64 kind, .int .u8 (c : Int), .int .i64 kto, .int .i64 kfo, .slice xr nr cr, .int .i64 fr, .int .i64 tt] 55)) ∧ Cs w4.heap.size hh (wr.alloc (.cells #[.int .i64 kind, .int .u8 (c : Int), .int .i64 kto, .int .i64 kfo, .slice xr nr cr, .int .i64 fr, .int .i64 tt] 55)) (.slice (some ⟨gh, 0, none⟩) m ch) m n n B T ∧ Wt9 w4.heap.size hh (wr.alloc (.cells #[.int .i64 kind, .int .u8 (c : Int), .int .i64 kto, .int .i64 kfo, .slice xr nr cr, .int .i64 fr, .int .i64 tt] 55)) gw m n V T ∧ hh ≤ wr.heap.size ∧ wr.heap.size < (wr.alloc (.cells #[.int .i64 kind, .int .u8 (c : Int), .int .i64 kto, .int .i64 kfo, .slice xr nr cr, .int .i64 fr, .int .i64 tt] 55)).heap.size) := ⟨hX, bta9 hb bX, hC.below bX, hW.below bX, hC.hw, hX.lt⟩
    have HV : Hid (Rb w (.slice xr nr cr) nr R) := hvr1
    have HT : Hid _ := hT
    have HPl : Hid _ := hP
    clear hops hz zc hb0 hb hC hW hX bX hvr1 hT hP hvr2 hi2 hc
    have z2 := HR.out.1.cell (i := 2) (v := .int .i64 kto) rfl
    have z3 := HR.out.1.cell (i := 3) (v := .int .i64 kfo) rfl
    go_wp2
    clear y0 y1 y2 y3 y4 y5 y6 z2 z3
    generalize wr.alloc (.cells #[.int .i64 kind, .int .u8 (c : Int), .int .i64 kto, .int .i64 kfo, .slice xr nr cr, .int .i64 fr, .int .i64 tt] 55) = X at HR ⊢
    generalize wr.heap.size = gx at HR ⊢
    have HK : Hid (∀ y, Below w4.heap.size w4 y → y.cell? ⟨gl, r, none⟩ = some (.pointer (some (P r)))) := fun y hy => (hy.cell (p := ⟨gl, r, none⟩) HP.out.1).trans (HP.out.2 r hr3).1
    have cP := HPl.out (P r) r (lo r) (hi r) X.drew (HR.out.2.2.1.below (Below.refl _ _).drew) ((HP.out.2 r hr3).2.below HR.out.2.1.drew) (HP.out.2 r hr3).2.hi (HV.out.below (bta9 H4.out.1 HR.out.2.1).drew)
    unfold cz9 at cP
    have r0 := HK.out X HR.out.2.1
    refine region_planI (fun w' => w'.cell? ⟨gl, r, none⟩ = some (.pointer (some (P r))) ∧ w'.cell? ⟨gx, 0, none⟩ = some (.int .i64 kind) ∧ w'.cell? ⟨gx, 1, none⟩ = some (.int .u8 (c : Int)) ∧ w'.cell? ⟨gx, 2, none⟩ = some (.int .i64 kto) ∧ w'.cell? ⟨gx, 3, none⟩ = some (.int .i64 kfo) ∧ w'.cell? ⟨gx, 4, none⟩ = some (.slice xr nr cr) ∧ w'.cell? ⟨gx, 5, none⟩ = some (.int .i64 fr) ∧ w'.cell? ⟨gx, 6, none⟩ = some (.int .i64 tt)) [0, 1, 2, 3, 4, 5, 6, 7, 8, 9, 10] [9, 1] 83 ⟨r0, HR.out.1.cell rfl, HR.out.1.cell rfl, HR.out.1.cell rfl, HR.out.1.cell rfl, HR.out.1.cell rfl, HR.out.1.cell rfl, HR.out.1.cell rfl⟩ (by kernel_rfl) (by kernel_rfl) (fun _ a d v _ h => by cases d <;> exact h) ?_
    simp only [atI, List.getElem?_cons_zero, List.getElem?_cons_succ]
    clear r0
    refine planH_step ?A1 rfl (fun w' hS => ?s1) rfl (fun K hK => ?n1)
    case s1 =>
      obtain ⟨z0, z1, z2, z3, z4, z5, z6, z7⟩ := hS
      simp only [List.take_succ_cons, List.take_zero]
      repeat still_step
      exact rfl
    case n1 =>
    go_simp
    go_wp2_with (go_at_call 20; (with_reducible refine cP.mono ?_); rintro e x3 ⟨rfl, hk, hC⟩)
    clear cP
    have hk0 : Ke (In w4.heap.size hh) X x3 := ⟨⟨hk.1.os, hk.1.tape, hk.1.output, hk.1.size, hk.1.block⟩, hk.2⟩
    have hbx : Box9 x3 gx #[.int .i64 kind, .int .u8 (c : Int), .int .i64 kto, .int .i64 kfo, .slice xr nr cr, .int .i64 fr, .int .i64 tt] 55 := ⟨by rw [hk0.2 gx HR.out.1.lt (fun e => Nat.lt_irrefl _ (Nat.lt_of_lt_of_le e.2 HR.out.2.2.2.2.1))]; exact HR.out.1.blk⟩
    have hb3 : Below w4.heap.size w4 x3 := HR.out.2.1.trans (hk0.below (fun q hq => hq.1) HR.out.2.1.size)
    have H7 : Hid (Box9 x3 gx #[.int .i64 kind, .int .u8 (c : Int), .int .i64 kto, .int .i64 kfo, .slice xr nr cr, .int .i64 fr, .int .i64 tt] 55 ∧ Below w4.heap.size w4 x3 ∧ Cs w4.heap.size hh x3 (.slice (some ⟨gh, 0, none⟩) m ch) m n n B T' ∧ Wt9 w4.heap.size hh x3 gw m n V T) := ⟨hbx, hb3, hC, HR.out.2.2.2.1.keep hk0⟩
    refine hK _ _ ⟨HK.out x3 hb3, H7.out.1.cell rfl, H7.out.1.cell rfl, H7.out.1.cell rfl, H7.out.1.cell rfl, H7.out.1.cell rfl, H7.out.1.cell rfl, H7.out.1.cell rfl⟩ ?_
    clear hK K hk hC hk0 hbx hb3
    refine planH_last ?A2 rfl (fun w' hS => ?s2) rfl ?n2
    case s2 =>
      simp only [List.take_succ_cons, List.take_zero]
      repeat still_step
      exact rfl
    case n2 =>
    have cT := HT.out V x3 H7.out.2.2.2 H7.out.2.2.1.hw (HV.out.below (bta9 H4.out.1 H7.out.2.1))
    unfold cz9 at cT
    have y0 := H7.out.1.cell (i := 0) (v := .int .i64 kind) rfl
    have y1 := H7.out.1.cell (i := 1) (v := .int .u8 (c : Int)) rfl
    have y2 := H7.out.1.cell (i := 2) (v := .int .i64 kto) rfl
    have y3 := H7.out.1.cell (i := 3) (v := .int .i64 kfo) rfl
    have y4 := H7.out.1.cell (i := 4) (v := .slice xr nr cr) rfl
    have y5 := H7.out.1.cell (i := 5) (v := .int .i64 fr) rfl
    have y6 := H7.out.1.cell (i := 6) (v := .int .i64 tt) rfl
    clear HR HT HPl
    go_wp2_with (first
      | (go_at_call 21; (with_reducible refine cT.mono ?_); rintro e x4 ⟨rfl, hk, V', hW⟩; clear cT; have hC4 := H7.out.2.2.1.keep hk (fun q h1 h2 e => (by have := HC.out.2.2.1; omega)); have hb4 : Below w4.heap.size w4 x4 := H7.out.2.1.trans (hk.below (fun q hq => (by have := HC.out.2.2; omega)) H7.out.2.1.size); have cQ := all9_true (.slice (some ⟨gh, 0, none⟩) m ch) (.slice (some ⟨gw, 0, none⟩) m cw) m n T' T' x4 hC4.lb (hW.lb HM.out.1 HC.out.1.1 HC.out.1.2) (fun _ _ _ _ => rfl); have H8 : Hid (Below w4.heap.size w4 x4 ∧ Cs w4.heap.size hh x4 (.slice (some ⟨gh, 0, none⟩) m ch) m n n B T' ∧ Wt9 w4.heap.size hh x4 gw m n V' T') := ⟨hb4, hC4, hW⟩; clear hk hW hC4 hb4 y0 y1 y2 y3 y4 y5 y6 H7)
      | (go_at_call 15; (with_reducible refine cQ.mono ?_); rintro e x5 ⟨rfl, m5, h5⟩; clear cQ; have b5 : Below x4.heap.size x4 x5 := (by rw [h5]; exact below_drewN (Below.refl _ _) m5); have H9 : Hid (Below w4.heap.size w4 x5 ∧ Cs w4.heap.size hh x5 (.slice (some ⟨gh, 0, none⟩) m ch) m n n B T' ∧ Wt9 w4.heap.size hh x5 gw m n V' T') := ⟨bta9 H8.out.1 b5, H8.out.2.1.below b5, H8.out.2.2.below b5⟩; clear b5 h5 H8))
    go_roundw
    case rel => exact ⟨i + 1, hlt, by first | rfl | (rw [W1]; rfl), H9.out.1, _, _, H9.out.2.1, H9.out.2.2⟩
    case measure => first | exact meas_lt8 hlt | (rw [W1]; exact meas_lt8 hlt)
theorem walkA (a0 : Option Addr) (len0 cap0 : Nat) {W : World} (h : Lm9 W (.slice a0 len0 cap0)) (a : Option Addr) (len cap : Nat) (hs : IsSteps9 W a len cap) :
    Calls Try.prog 5 #[.slice a0 len0 cap0, .slice a len cap] W fun e w' => e = .returned (.bool true) ∧ Below W.heap.size W w' := by
  obtain ⟨m, n, S, h1, h2, h3⟩ := h
  exact walk _ m n S a len cap W h1 h2 h3 hs
end Go.Proofs.Ytdeophhcbkahgaa.kernelLives
