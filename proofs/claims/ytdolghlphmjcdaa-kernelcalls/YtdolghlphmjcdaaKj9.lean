import Derived.Test.YtdolghlphmjcdaaKj6
namespace Go.Proofs.Ytdolghlphmjcdaa
open Go.RowKit Gf2
set_option linter.unusedVariables false

set_option maxHeartbeats 16000000 in
set_option maxRecDepth 100000 in
theorem long9_any (p : Addr) (bk klo khi : Nat) (kind : Int) (c : Nat) (vr vR vS vD vd vs : Value) (fr to : Int) (w : World) (hk : Ks w p bk klo khi) (h : In9 w c vr vR vS vD vd vs) :
    Calls Try.prog 16 #[.pointer (some p), .agg (cv9 kind c vr vR vS vD vd vs fr to)] w fun e w' => e = .returned (.bool true) ∧ Below w.heap.size w w' := by
  obtain ⟨nr, R, mR, nR, RR, mS, nS, SS, mD, nD, DD, nd, D, ns, S, hI⟩ := h.iq
  obtain ⟨hB1, hB2⟩ := bq9_new (kind := kind) (fr := fr) (to := to) hI hk
  have hsz : (w.alloc (.cells (cv9 kind c vr vR vS vD vd vs fr to) 25)).heap.size = w.heap.size + 1 := by simp
  clear hI h hk
  generalize cv9 kind c vr vR vS vD vd vs fr to = A at hB1 hB2 hsz ⊢
  have HB : Hid _ := hB1
  have HW : Hid _ := hB2
  have HZ : Hid _ := hsz
  clear hB1 hB2 hsz
  go_enter Try.func16, Try.ntmps16
  go_wp2
  generalize w.alloc (.cells A 25) = x0 at HB HW HZ ⊢
  have HS : Hid (Below x0.heap.size x0 x0) := Below.refl _ _
  refine region_planI (fun w' => w'.cell? ⟨w.heap.size, 3, none⟩ = some (vR) ∧ w'.cell? ⟨w.heap.size, 4, none⟩ = some (vS) ∧ w'.cell? ⟨w.heap.size, 5, none⟩ = some (vD)) [0, 1, 3, 4, 6, 7, 2, 5, 8, 9, 10, 11] [6, 0, 0, 3] 148 ⟨(HB.out.below HS.out).bx.cell rfl, (HB.out.below HS.out).bx.cell rfl, (HB.out.below HS.out).bx.cell rfl⟩ (by kernel_rfl) (by kernel_rfl) (fun _ a d v _ h => by cases d <;> exact h) ?_
  simp only [atI, List.getElem?_cons_zero, List.getElem?_cons_succ]
  have c1 := copies9_any vR mR nR RR x0.drew (by exact (HB.out.below HS.out).iq.rows) (HB.out.iq.rowsl) (HB.out.iq.rowsn)
  refine planH_step ?A1 rfl (fun w' hS => ?s1) rfl (fun K hK => ?n1)
  case s1 =>
    obtain ⟨y0, y1, y2⟩ := hS
    simp only [List.take_succ_cons, List.take_zero]
    repeat still_step
    exact rfl
  case n1 =>
  go_simp
  go_wp2_with (go_at_call 18; (with_reducible refine c1.mono ?_); rintro e x1 ⟨v1, B1, rfl, r1, bb⟩)
  clear c1
  have b1 := Below.undraw bb
  have h_s1 : Hid (x0.heap.size ≤ x1.heap.size) := b1.size
  clear bb
  replace HS : Hid ((Below x0.heap.size x0 x1) ∧ (Cs x0.heap.size x1.heap.size x1 v1 mR nR nR B1 RR)) := ⟨(HS.out).trans ((b1).mono (HS.out).size), r1⟩
  clear b1
  refine hK _ _ ⟨(HB.out.below HS.out.1).bx.cell rfl, (HB.out.below HS.out.1).bx.cell rfl, (HB.out.below HS.out.1).bx.cell rfl⟩ ?_
  clear hK K
  have c2 := copies9_any vS mS nS SS x1 (by exact (HB.out.below HS.out.1).iq.srcs) (HB.out.iq.srcsl) (HB.out.iq.srcsn)
  refine planH_step ?A2 rfl (fun w' hS => ?s2) rfl (fun K hK => ?n2)
  case s2 =>
    obtain ⟨y0, y1, y2⟩ := hS
    simp only [List.take_zero]
    exact rfl
  case n2 =>
  go_simp
  go_wp2_with (go_at_call 18; (with_reducible refine c2.mono ?_); rintro e x2 ⟨v2, B2, rfl, r2, bb⟩)
  clear c2
  have b2 := bb
  have h_s2 : Hid (x1.heap.size ≤ x2.heap.size) := b2.size
  clear bb
  replace HS : Hid ((Below x0.heap.size x0 x2) ∧ (Cs x0.heap.size x1.heap.size x2 v1 mR nR nR B1 RR) ∧ (Cs x1.heap.size x2.heap.size x2 v2 mS nS nS B2 SS)) := ⟨(HS.out.1).trans ((b2).mono (HS.out.1).size), (HS.out.2).below (b2), r2⟩
  clear b2
  refine hK _ _ ⟨(HB.out.below HS.out.1).bx.cell rfl, (HB.out.below HS.out.1).bx.cell rfl, (HB.out.below HS.out.1).bx.cell rfl⟩ ?_
  clear hK K
  have c3 := copies9_any vD mD nD DD x2 (by exact (HB.out.below HS.out.1).iq.dsts) (HB.out.iq.dstsl) (HB.out.iq.dstsn)
  refine planH_step ?A3 rfl (fun w' hS => ?s3) rfl (fun K hK => ?n3)
  case s3 =>
    obtain ⟨y0, y1, y2⟩ := hS
    simp only [List.take_zero]
    exact rfl
  case n3 =>
  go_simp
  go_wp2_with (go_at_call 18; (with_reducible refine c3.mono ?_); rintro e x3 ⟨v3, B3, rfl, r3, bb⟩)
  clear c3
  have b3 := bb
  clear bb
  replace HS : Hid ((Below x0.heap.size x0 x3) ∧ (Cs x0.heap.size x1.heap.size x3 v1 mR nR nR B1 RR) ∧ (Cs x1.heap.size x2.heap.size x3 v2 mS nS nS B2 SS) ∧ (Cs x2.heap.size x3.heap.size x3 v3 mD nD nD B3 DD)) := ⟨(HS.out.1).trans ((b3).mono (HS.out.1).size), (HS.out.2.1).below (b3), (HS.out.2.2).below (b3), r3⟩
  clear b3
  refine hK _ _ ⟨(HB.out.below HS.out.1).bx.cell rfl, (HB.out.below HS.out.1).bx.cell rfl, (HB.out.below HS.out.1).bx.cell rfl⟩ ?_
  clear hK K
  refine planH_last ?A4 rfl (fun w' hS => ?s4) rfl ?n4
  case s4 =>
    obtain ⟨y0, y1, y2⟩ := hS
    simp only [List.take_succ_cons, List.take_zero]
    repeat still_step
    exact rfl
  case n4 =>
  go_wp2
  refine region_planI (fun w' => w'.cell? ⟨w.heap.size, 2, none⟩ = some (vr) ∧ w'.cell? ⟨w.heap.size, 7, none⟩ = some (vs)) [0, 1, 3, 4, 2, 5, 6, 7] [4, 0, 2] 148 ⟨(HB.out.below HS.out.1).bx.cell rfl, (HB.out.below HS.out.1).bx.cell rfl⟩ (by kernel_rfl) (by kernel_rfl) (fun _ a d v _ h => by cases d <;> exact h) ?_
  simp only [atI, List.getElem?_cons_zero, List.getElem?_cons_succ]
  have c5 := cd9 vr nr R x3.drew (by exact (HB.out.below HS.out.1).iq.row) (HB.out.iq.rowl)
  refine planH_step ?A5 rfl (fun w' hS => ?s5) rfl (fun K hK => ?n5)
  case s5 =>
    obtain ⟨y0, y1⟩ := hS
    simp only [List.take_succ_cons, List.take_zero]
    repeat still_step
    exact rfl
  case n5 =>
  go_simp
  go_wp2_with (go_at_call 21; (with_reducible refine c5.mono ?_); rintro e x5 ⟨g5, rfl, r5, l5, bb⟩)
  clear c5
  have b5 := Below.undraw bb
  clear bb
  replace HS : Hid ((Below x0.heap.size x0 x5) ∧ (Cs x0.heap.size x1.heap.size x5 v1 mR nR nR B1 RR) ∧ (Cs x1.heap.size x2.heap.size x5 v2 mS nS nS B2 SS) ∧ (Cs x2.heap.size x3.heap.size x5 v3 mD nD nD B3 DD) ∧ (Rw x5 g5 nr R) ∧ (x3.heap.size ≤ g5) ∧ (g5 < x5.heap.size)) := ⟨(HS.out.1).trans ((b5).mono (HS.out.1).size), (HS.out.2.1).below (b5), (HS.out.2.2.1).below (b5), (HS.out.2.2.2).below (b5), r5, l5, r5.lt⟩
  clear b5
  refine hK _ _ ⟨(HB.out.below HS.out.1).bx.cell rfl, (HB.out.below HS.out.1).bx.cell rfl⟩ ?_
  clear hK K
  have c6 := cd9 vs ns S x5 (by exact (HB.out.below HS.out.1).iq.src) (HB.out.iq.srcl)
  refine planH_step ?A6 rfl (fun w' hS => ?s6) rfl (fun K hK => ?n6)
  case s6 =>
    obtain ⟨y0, y1⟩ := hS
    simp only [List.take_zero]
    exact rfl
  case n6 =>
  go_simp
  go_wp2_with (go_at_call 21; (with_reducible refine c6.mono ?_); rintro e x6 ⟨g6, rfl, r6, l6, bb⟩)
  clear c6
  have b6 := bb
  clear bb
  replace HS : Hid ((Below x0.heap.size x0 x6) ∧ (Cs x0.heap.size x1.heap.size x6 v1 mR nR nR B1 RR) ∧ (Cs x1.heap.size x2.heap.size x6 v2 mS nS nS B2 SS) ∧ (Cs x2.heap.size x3.heap.size x6 v3 mD nD nD B3 DD) ∧ (Rw x6 g5 nr R) ∧ (x3.heap.size ≤ g5) ∧ (g5 < x5.heap.size) ∧ (Rw x6 g6 ns S) ∧ (x5.heap.size ≤ g6) ∧ (g6 < x6.heap.size)) := ⟨(HS.out.1).trans ((b6).mono (HS.out.1).size), (HS.out.2.1).below (b6), (HS.out.2.2.1).below (b6), (HS.out.2.2.2.1).below (b6), rw_below (HS.out.2.2.2.2.1) (b6), HS.out.2.2.2.2.2.1, HS.out.2.2.2.2.2.2, r6, l6, r6.lt⟩
  clear b6
  refine hK _ _ ⟨(HB.out.below HS.out.1).bx.cell rfl, (HB.out.below HS.out.1).bx.cell rfl⟩ ?_
  clear hK K
  refine planH_last ?A7 rfl (fun w' hS => ?s7) rfl ?n7
  case s7 =>
    obtain ⟨y0, y1⟩ := hS
    simp only [List.take_succ_cons, List.take_zero]
    repeat still_step
    exact rfl
  case n7 =>
  have u8 := (HB.out.below HS.out.1).bx.cell (i := 8) (v := .int .i64 fr) rfl
  have u9 := (HB.out.below HS.out.1).bx.cell (i := 9) (v := .int .i64 to) rfl
  obtain ⟨s0, s1⟩ := span_cells x6 fr to
  have bX : Below x6.heap.size x6 (x6.alloc (.cells #[.int .i64 fr, .int .i64 to] 47)) := (Below.refl _ _).alloc (Nat.le_refl _) _
  have hbX : Below x0.heap.size x0 (x6.alloc (.cells #[.int .i64 fr, .int .i64 to] 47)) := HS.out.1.trans (bX.mono HS.out.1.size)
  have y0 := (HB.out.below hbX).bx.cell (i := 0) (v := .int .i64 kind) rfl
  have y1 := (HB.out.below hbX).bx.cell (i := 1) (v := .int .u8 (c : Int)) rfl
  have y2 := (HB.out.below hbX).bx.cell (i := 2) (v := vr) rfl
  have y3 := (HB.out.below hbX).bx.cell (i := 3) (v := vR) rfl
  have y4 := (HB.out.below hbX).bx.cell (i := 4) (v := vS) rfl
  have y5 := (HB.out.below hbX).bx.cell (i := 5) (v := vD) rfl
  have y7 := (HB.out.below hbX).bx.cell (i := 7) (v := vs) rfl
  have y8 := (HB.out.below hbX).bx.cell (i := 8) (v := .int .i64 fr) rfl
  have y9 := (HB.out.below hbX).bx.cell (i := 9) (v := .int .i64 to) rfl
  have HT : Hid (∀ (T : Nat → Nat → Nat) y, Ke (In x2.heap.size x3.heap.size) (x6.alloc (.cells #[.int .i64 fr, .int .i64 to] 47)) y → Cs x2.heap.size x3.heap.size y v3 mD nD nD B3 T → Below x0.heap.size x0 y ∧ ∀ z, Below y.heap.size y z → ∀ wv, Lb z wv mD nD T → Tq9 z v3 wv v1 v2 (.slice (some ⟨g5, 0, none⟩) nr nr) (.slice (some ⟨g6, 0, none⟩) ns ns) vR vS vr vs ∧ Below x0.heap.size x0 z) := by
    intro T y hk hC
    obtain ⟨f_bel, f_rows, f_srcs, f_dsts, f_row, f_rowlo, f_rowhi, f_src, f_srclo, f_srchi⟩ := HS.out
    have hsr := f_rows.hw
    have hss := f_srcs.hw
    have hs1 : x0.heap.size ≤ x1.heap.size := h_s1.out
    have hs2 : x1.heap.size ≤ x2.heap.size := h_s2.out
    have hb : Below x0.heap.size x0 y := hbX.trans (hk.below (fun q hq => by have := hq.1; omega) hbX.size)
    refine ⟨hb, fun z bz wv hw => ?_⟩
    have hbz := hb.trans (bz.mono hb.size)
    have iz := (HB.out.below hbz).iq
    have e1 := hC.below bz
    have e2 := ((f_rows.below bX).keep hk (fun q h1 h2 e => by have := e.1; omega)).below bz
    have e3 := ((f_srcs.below bX).keep hk (fun q h1 h2 e => by have := e.1; omega)).below bz
    have e4 := rw_below (hk.rw_ (rw_below f_row bX) (fun e => by have := e.2; omega)) bz
    have e5 := rw_below (hk.rw_ (rw_below f_src bX) (fun e => by have := e.2; omega)) bz
    exact ⟨⟨⟨mD, nD, T, e1.lb, hw⟩, ⟨mR, nR, RR, e2.lb, iz.rows⟩, ⟨mS, nS, SS, e3.lb, iz.srcs⟩, ⟨nr, R, e4.rb0, iz.row⟩, ⟨ns, S, e5.rb0, iz.src⟩⟩, hbz⟩
  have HQ : Hid (Cs x2.heap.size x3.heap.size (x6.alloc (.cells #[.int .i64 fr, .int .i64 to] 47)) v3 mD nD nD B3 DD ∧ Ll (In x2.heap.size x3.heap.size) (x6.alloc (.cells #[.int .i64 fr, .int .i64 to] 47)) v1 mR nR RR ∧ Ll (In x2.heap.size x3.heap.size) (x6.alloc (.cells #[.int .i64 fr, .int .i64 to] 47)) v2 mS nS SS ∧ Re (In x2.heap.size x3.heap.size) (x6.alloc (.cells #[.int .i64 fr, .int .i64 to] 47)) (.slice (some ⟨g5, 0, none⟩) nr nr) nr R ∧ Re (In x2.heap.size x3.heap.size) (x6.alloc (.cells #[.int .i64 fr, .int .i64 to] 47)) (.slice (some ⟨g6, 0, none⟩) ns ns) ns S ∧ Ks (x6.alloc (.cells #[.int .i64 fr, .int .i64 to] 47)) p bk klo khi ∧ (khi ≤ x2.heap.size ∨ x3.heap.size ≤ klo) ∧ Iq9 x0 c vr vR vS vD vd vs nr R mR nR RR mS nS SS mD nD DD nd D ns S) := by
    obtain ⟨f_bel, f_rows, f_srcs, f_dsts, f_row, f_rowlo, f_rowhi, f_src, f_srclo, f_srchi⟩ := HS.out
    have hkh := HB.out.kh
    have hz0 := HZ.out
    have hs1 : x0.heap.size ≤ x1.heap.size := h_s1.out
    have hs2 : x1.heap.size ≤ x2.heap.size := h_s2.out
    exact ⟨f_dsts.below bX, (f_rows.below bX).ll (fun q h1 h2 e => by have := e.1; omega), (f_srcs.below bX).ll (fun q h1 h2 e => by have := e.1; omega), (rw_below f_row bX).re (Nat.le_refl _) (Nat.le_refl _) f_row.1 (fun e => by have := e.2; omega), (rw_below f_src bX).re (Nat.le_refl _) (Nat.le_refl _) f_src.1 (fun e => by have := e.2; omega), (HB.out.below hbX).ks, by omega, HB.out.iq⟩
  have HX : Hid (Below x0.heap.size x0 (x6.alloc (.cells #[.int .i64 fr, .int .i64 to] 47))) := hbX
  clear bX hbX
  by_cases k1 : kind = 5
  · subst k1
    clear HS
    obtain ⟨d1, d2, d3, d4, d5, d6, d7, d8⟩ := HQ.out
    have cC := cs_apply d1 d2 d3 d6 d7 fr to d8.rowsl d8.srcsl d8.dstsl
    have HI : Hid _ := d8
    clear d1 d2 d3 d4 d5 d6 d7 d8 HQ
    go_wp2_with (first
      | (go_at_call 19; (with_reducible refine cC.mono ?_); rintro e y ⟨rfl, hk, hC⟩; clear cC; obtain ⟨hby, hT⟩ := HT.out (ap9 mR mS mD nR nS nD fr to RR SS DD) y hk hC; have iy := (HB.out.below hby).iq; have cR := refApply9_any vR vS vD mR mS mD nR nS nD RR SS DD fr to y iy.rows iy.srcs iy.dsts iy.rowsl iy.srcsl iy.dstsl iy.dstsn iy.srcsn; have q1 := (HB.out.below hby).bx.cell (i := 1) (v := .int .u8 (c : Int)) rfl; have q2 := (HB.out.below hby).bx.cell (i := 2) (v := vr) rfl; have q3 := (HB.out.below hby).bx.cell (i := 3) (v := vR) rfl; have q4 := (HB.out.below hby).bx.cell (i := 4) (v := vS) rfl; have q5 := (HB.out.below hby).bx.cell (i := 5) (v := vD) rfl; have q7 := (HB.out.below hby).bx.cell (i := 7) (v := vs) rfl; have q8 := (HB.out.below hby).bx.cell (i := 8) (v := .int .i64 fr) rfl; have q9 := (HB.out.below hby).bx.cell (i := 9) (v := .int .i64 to) rfl; have HT2 : Hid _ := hT; clear hT hk hC hby iy HT s0 s1 u8 u9 y0 y1 y2 y3 y4 y5 y7 y8 y9)
      | (go_at_call 27; (with_reducible refine cR.mono ?_); rintro e z ⟨vw, Bw, Cw, Tw, rfl, hCw, hbw, hTw⟩; clear cR; have TT : Hid _ := HT2.out z hbw vw (hCw.lb.congr (fun i hi j hj => hTw i hi j hj)); clear hCw hbw hTw HT2 q1 q2 q3 q4 q5 q7 q8 q9; have cE1 := sames90 TT.out.1.d; have t2 := (HB.out.below TT.out.2).bx.cell (i := 2) (v := vr) rfl; have t3 := (HB.out.below TT.out.2).bx.cell (i := 3) (v := vR) rfl; have t4 := (HB.out.below TT.out.2).bx.cell (i := 4) (v := vS) rfl; have t7 := (HB.out.below TT.out.2).bx.cell (i := 7) (v := vs) rfl)
      | (go_at_call 25; (with_reducible refine cE1.mono ?_); rintro e z1 ⟨rfl, m1, rfl⟩; clear cE1; have cE2 := sames9 TT.out.1.R m1)
      | (go_at_call 25; (with_reducible refine cE2.mono ?_); rintro e z2 ⟨rfl, m2, rfl⟩; clear cE2; have cE3 := sames9 TT.out.1.S (m1 + m2))
      | (go_at_call 25; (with_reducible refine cE3.mono ?_); rintro e z3 ⟨rfl, m3, rfl⟩; clear cE3; have cE4 := same9 TT.out.1.r (m1 + m2 + m3))
      | (go_at_call 28; (with_reducible refine cE4.mono ?_); rintro e z4 ⟨rfl, m4, rfl⟩; clear cE4; have cE5 := same9 TT.out.1.s (m1 + m2 + m3 + m4))
      | (go_at_call 28; (with_reducible refine cE5.mono ?_); rintro e z5 ⟨rfl, m5, rfl⟩; clear cE5))
    go_ret
    exact ⟨rfl, HW.out.trans ((below_drewN TT.out.2 _).mono HW.out.size)⟩
  by_cases k2 : kind = 7
  · subst k2
    clear HS
    obtain ⟨d1, d2, d3, d4, d5, d6, d7, d8⟩ := HQ.out
    have cC := cs_spread d1 d4 d5 d6 d7 fr to d8.rowl d8.dstsl
    have HI : Hid _ := d8
    clear d1 d2 d3 d4 d5 d6 d7 d8 HQ
    go_wp2_with (first
      | (go_at_call 24; (with_reducible refine cC.mono ?_); rintro e y ⟨rfl, hk, hC⟩; clear cC; obtain ⟨hby, hT⟩ := HT.out (sp9 nr mD ns nD fr to R S DD) y hk hC; have iy := (HB.out.below hby).iq; have cR := refSpread9_any vr vs vD nr ns mD nD R S DD fr to y iy.row iy.src iy.dsts iy.rowl iy.srcl iy.dstsl iy.dstsn; have q1 := (HB.out.below hby).bx.cell (i := 1) (v := .int .u8 (c : Int)) rfl; have q2 := (HB.out.below hby).bx.cell (i := 2) (v := vr) rfl; have q3 := (HB.out.below hby).bx.cell (i := 3) (v := vR) rfl; have q4 := (HB.out.below hby).bx.cell (i := 4) (v := vS) rfl; have q5 := (HB.out.below hby).bx.cell (i := 5) (v := vD) rfl; have q7 := (HB.out.below hby).bx.cell (i := 7) (v := vs) rfl; have q8 := (HB.out.below hby).bx.cell (i := 8) (v := .int .i64 fr) rfl; have q9 := (HB.out.below hby).bx.cell (i := 9) (v := .int .i64 to) rfl; have HT2 : Hid _ := hT; clear hT hk hC hby iy HT s0 s1 u8 u9 y0 y1 y2 y3 y4 y5 y7 y8 y9)
      | (go_at_call 29; (with_reducible refine cR.mono ?_); rintro e z ⟨vw, Bw, Cw, Tw, rfl, hCw, hbw, hTw⟩; clear cR; have TT : Hid _ := HT2.out z hbw vw (hCw.lb.congr (fun i hi j hj => hTw i hi j hj)); clear hCw hbw hTw HT2 q1 q2 q3 q4 q5 q7 q8 q9; have cE1 := sames90 TT.out.1.d; have t2 := (HB.out.below TT.out.2).bx.cell (i := 2) (v := vr) rfl; have t3 := (HB.out.below TT.out.2).bx.cell (i := 3) (v := vR) rfl; have t4 := (HB.out.below TT.out.2).bx.cell (i := 4) (v := vS) rfl; have t7 := (HB.out.below TT.out.2).bx.cell (i := 7) (v := vs) rfl)
      | (go_at_call 25; (with_reducible refine cE1.mono ?_); rintro e z1 ⟨rfl, m1, rfl⟩; clear cE1; have cE2 := sames9 TT.out.1.R m1)
      | (go_at_call 25; (with_reducible refine cE2.mono ?_); rintro e z2 ⟨rfl, m2, rfl⟩; clear cE2; have cE3 := sames9 TT.out.1.S (m1 + m2))
      | (go_at_call 25; (with_reducible refine cE3.mono ?_); rintro e z3 ⟨rfl, m3, rfl⟩; clear cE3; have cE4 := same9 TT.out.1.r (m1 + m2 + m3))
      | (go_at_call 28; (with_reducible refine cE4.mono ?_); rintro e z4 ⟨rfl, m4, rfl⟩; clear cE4; have cE5 := same9 TT.out.1.s (m1 + m2 + m3 + m4))
      | (go_at_call 28; (with_reducible refine cE5.mono ?_); rintro e z5 ⟨rfl, m5, rfl⟩; clear cE5))
    go_ret
    exact ⟨rfl, HW.out.trans ((below_drewN TT.out.2 _).mono HW.out.size)⟩
  by_cases k3 : kind = 6
  · subst k3
    clear HS
    obtain ⟨d1, d2, d3, d4, d5, d6, d7, d8⟩ := HQ.out
    have cC := kagrees_any p bk klo khi mR mS mD nR nS nD RR SS DD fr to v1 v2 v3 (x6.alloc (.cells #[.int .i64 fr, .int .i64 to] 47)) d6 (by have := d8.rowsl; omega) (by have := d8.srcsl; omega) (by have := d8.dstsl; omega) d8.srcsn d8.dstsn d2.lb d3.lb d1.lb
    have HC : Hid _ := d1
    clear d1 d2 d3 d4 d5 d6 d7 d8 HQ
    go_wp2_with (first
      | (go_at_call 20; (with_reducible refine cC.mono ?_); rintro e y ⟨ba, rfl, hba, hbb⟩; clear cC; obtain ⟨hby, hT⟩ := HT.out DD y (ke_below hbb _) (HC.out.below hbb); have iy := (HB.out.below hby).iq; have cR := refAgrees9_any vR vS vD mR mS mD nR nS nD RR SS DD fr to y iy.rows iy.srcs iy.dsts iy.rowsl iy.srcsl iy.dstsl iy.dstsn; have q1 := (HB.out.below hby).bx.cell (i := 1) (v := .int .u8 (c : Int)) rfl; have q2 := (HB.out.below hby).bx.cell (i := 2) (v := vr) rfl; have q3 := (HB.out.below hby).bx.cell (i := 3) (v := vR) rfl; have q4 := (HB.out.below hby).bx.cell (i := 4) (v := vS) rfl; have q5 := (HB.out.below hby).bx.cell (i := 5) (v := vD) rfl; have q7 := (HB.out.below hby).bx.cell (i := 7) (v := vs) rfl; have q8 := (HB.out.below hby).bx.cell (i := 8) (v := .int .i64 fr) rfl; have q9 := (HB.out.below hby).bx.cell (i := 9) (v := .int .i64 to) rfl; have HT2 : Hid _ := hT; have Hba : Hid _ := hba; have HY : Hid _ := hby; clear hT hba hbb hby iy HT s0 s1 u8 u9 y0 y1 y2 y3 y4 y5 y7 y8 y9)
      | (go_at_call 40; (with_reducible refine cR.mono ?_); rintro e z ⟨bb, rfl, hbb, qz, rfl⟩; clear cR; obtain rfl : ba = bb := Bool.eq_iff_iff.2 (Hba.out.trans hbb.symm); have TT : Hid _ := HT2.out y (Below.refl _ _) vD (HB.out.below HY.out).iq.dsts; clear hbb HT2 q1 q8 q9; have cE1 := sames9 TT.out.1.d qz)
      | (go_at_call 25; (with_reducible refine cE1.mono ?_); rintro e z1 ⟨rfl, m1, rfl⟩; clear cE1; have cE2 := sames9 TT.out.1.R (qz + m1))
      | (go_at_call 25; (with_reducible refine cE2.mono ?_); rintro e z2 ⟨rfl, m2, rfl⟩; clear cE2; have cE3 := sames9 TT.out.1.S ((qz + m1) + m2))
      | (go_at_call 25; (with_reducible refine cE3.mono ?_); rintro e z3 ⟨rfl, m3, rfl⟩; clear cE3; have cE4 := same9 TT.out.1.r ((qz + m1) + m2 + m3))
      | (go_at_call 28; (with_reducible refine cE4.mono ?_); rintro e z4 ⟨rfl, m4, rfl⟩; clear cE4; have cE5 := same9 TT.out.1.s ((qz + m1) + m2 + m3 + m4))
      | (go_at_call 28; (with_reducible refine cE5.mono ?_); rintro e z5 ⟨rfl, m5, rfl⟩; clear cE5))
    go_ret
    exact ⟨rfl, HW.out.trans ((below_drewN TT.out.2 _).mono HW.out.size)⟩
  have D5 : (kind == 5) = false := by simpa using k1
  have D7 : (kind == 7) = false := by simpa using k2
  have D6 : (kind == 6) = false := by simpa using k3
  clear HS HT HQ k1 k2 k3
  go_wp2
  go_ret
  exact ⟨rfl, HW.out.trans (HX.out.mono HW.out.size)⟩
end Go.Proofs.Ytdolghlphmjcdaa
namespace Go.Proofs.Ytdolghlphmjcdaa
open Go.ChangeShapes Go.WideShapes Go.ChangeAt Go.RowKit Go.Deep
set_option linter.unusedVariables false

/-- a call's ten cells from o on in block b. -/
def CallAt (w : World) (b o : Nat) (kind : Int) (c : Nat) (vr vR vS vD vd vs : Value) (fr to : Int) : Prop := ∀ i v, (cv9 kind c vr vR vS vD vd vs fr to)[i]? = some v → w.cell? ⟨b, o + i, none⟩ = some v
/-- a script of calls that came in. -/
def IsOps9 (w : World) (a : Option Addr) (len cap : Nat) : Prop :=
  len ≤ maxLen ∧ (len = 0 ∨ ∃ b off, a = some ⟨b, off, none⟩ ∧ len ≤ cap ∧ cap ≤ maxLen ∧ b < w.heap.size ∧ ∀ i, i < len → ∃ kind c vr vR vS vD vd vs fr to, CallAt w b (off + i * 10) kind c vr vR vS vD vd vs fr to ∧ In9 w c vr vR vS vD vd vs)

set_option maxHeartbeats 2000000 in
set_option maxRecDepth 100000 in
theorem open_ops9 {H : Type} {enc : TypeId × Value → H} {W : World} {base : Nat} {held : Bool} {fuel : Nat} {a : Option Addr} {len cap : Nat} {x : DataW H × List MemPlace}
    (h : DataW.trod enc Try.prog W base (fun _ => true) held fuel 36 [.slice a len cap] = some x) (hsz : ∀ n ∈ x.1.weights Try.prog 36, n ≤ reachBytes) : IsOps9 W a len cap := by
  rcases open_slice Try.underlying36 h with ⟨hcs, _⟩ | ⟨a', len', cap', m, n, D, Pl, hcs, hb, hl, hm, hmm, hxe, hx⟩
  · simp at hcs
    obtain ⟨rfl, rfl, rfl⟩ := hcs
    exact ⟨by unfold maxLen; omega, .inl rfl⟩
  · simp at hcs
    obtain ⟨rfl, rfl, rfl⟩ := hcs
    refine ⟨by omega, ?_⟩
    have hlm : len ≤ m := by rw [hmm]; split <;> omega
    have c10 : Try.prog.cellsOf 25 = 10 := by kernel_rfl
    have each : ∀ i, i < len → ∃ kind c vr vR vS vD vd vs fr to, (∀ j v, (cv9 kind c vr vR vS vD vd vs fr to)[j]? = some v → W.cell? ((a'.add (i * 10)).add j) = some v) ∧ In9 W c vr vR vS vD vd vs := by
      intro i hi
      obtain ⟨cs', h1, h2⟩ := hx i (by omega)
      rw [c10] at h1
      obtain ⟨_, hlen, hcell⟩ := World.cells?_some h1
      have mD : D i ∈ (List.range len).map D := List.mem_map.2 ⟨i, List.mem_range.2 hi, rfl⟩
      have wts : ∀ n ∈ (D i).weights Try.prog 25, n ≤ reachBytes := fun n hn => hsz n (by
        rw [hxe]
        simp only [DataW.weights, Try.underlying36]
        exact List.mem_cons_of_mem _ (List.mem_append.2 (.inl (weightsAll_mem9 hn mD))))
      obtain ⟨kind, c, vr, vR, vS, vD, vd, vs, fr, to, e, hI⟩ := open_call9 h2 wts
      refine ⟨kind, c, vr, vR, vS, vD, vd, vs, fr, to, fun j v hv => ?_, hI⟩
      have hj : j < 10 := by
        have := (Array.getElem?_eq_some_iff.1 hv).1
        simpa [cv9] using this
      have z := hcell j (by omega)
      rw [z, e]
      simpa using hv
    by_cases h0 : len = 0
    · exact .inl h0
    · right
      obtain ⟨b, off, spot⟩ := a'
      have hspot : spot = none := by
        obtain ⟨kind, c, vr, vR, vS, vD, vd, vs, fr, to, z, -⟩ := each 0 (by omega)
        have z0 := z 0 _ rfl
        simpa [Addr.add] using World.cell?_spot z0
      subst hspot
      refine ⟨b, off, rfl, hl, hm, ?_, ?_⟩
      · obtain ⟨kind, c, vr, vR, vS, vD, vd, vs, fr, to, z, -⟩ := each 0 (by omega)
        have := cell_lt5 (z 0 _ rfl)
        simpa [Addr.add] using this
      · intro i hi
        obtain ⟨kind, c, vr, vR, vS, vD, vd, vs, fr, to, z, hI⟩ := each i hi
        refine ⟨kind, c, vr, vR, vS, vD, vd, vs, fr, to, fun j v hv => ?_, hI⟩
        have := z j v hv
        simpa only [add_plain] using this
end Go.Proofs.Ytdolghlphmjcdaa

