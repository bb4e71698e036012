import Derived.Test.YtdolghlphmjcdaaKj7
namespace Go.Proofs.Ytdolghlphmjcdaa
open Go.RowKit Gf2
set_option linter.unusedVariables false

set_option maxHeartbeats 16000000 in
set_option maxRecDepth 100000 in
theorem pieced9_any (gl cl : Nat) (P : Nat → Addr) (vl vR vS vD : Value) (fr to cut : Int) (w : World) (hv : Sv w vl gl cl P) (h : Im9 w vR vS vD) :
    Calls Try.prog 17 #[vl, .agg (sv9 vR vS vD fr to cut)] w fun e w' => e = .returned (.bool true) ∧ Below w.heap.size w w' := by
  obtain ⟨mR, nR, RR, mS, nS, SS, mD, nD, DD, hI⟩ := h.ip
  obtain ⟨lo, hi, rfl, s1, s2, s3, s4⟩ := hv
  have bX : Below w.heap.size w (w.alloc (.cells (sv9 vR vS vD fr to cut) 42)) := (Below.refl _ _).alloc (Nat.le_refl _) _
  have hB1 : Bp9 (w.alloc (.cells (sv9 vR vS vD fr to cut) 42)) w.heap.size vR vS vD fr to cut mR nR RR mS nS SS mD nD DD gl P lo hi :=
    ⟨Box9.new _ _ _, hI.below bX, Nat.lt_of_lt_of_le s3 bX.size, fun i hi => (bX.cell (p := ⟨gl, i, none⟩) s3).trans (s4 i hi).1, fun i hi => (s4 i hi).2.below bX⟩
  clear hI h s4
  generalize sv9 vR vS vD fr to cut = A at hB1 bX ⊢
  have HB : Hid _ := hB1
  have HW : Hid _ := bX
  clear hB1 bX
  go_enter Try.func17, Try.ntmps17
  go_wp2
  generalize w.alloc (.cells A 42) = x0 at HB HW ⊢
  go_loopw [16] (fun i wr => ∃ k : Nat, k ≤ 3 ∧ i = .int .i64 k ∧ Below x0.heap.size x0 wr) (fun i _ => 3 - (intOf i).toNat)
  case atStart => exact ⟨0, Nat.zero_le _, rfl, Below.refl _ _⟩
  case round =>
    obtain ⟨k, hk3, rfl, hb⟩ := hrel
    have W1 : wrap64 ((k : Int) + 1) = (k : Int) + 1 := by unfold wrap64; omega
    by_cases hlt : k < 3
    case neg =>
      have HE : Hid _ := hb
      clear hb
      have hk : k = 3 := by omega
      subst hk
      go_wp2
      go_ret
      exact ⟨rfl, HW.out.trans (HE.out.mono HW.out.size)⟩
    case pos =>
    have q1 := (HB.out.below hb).pt k hlt
    have ib : ((k : Nat) : Int) < 3 := by omega
    have HS : Hid (Below x0.heap.size x0 wr ∧ x0.heap.size ≤ wr.heap.size) := ⟨hb, hb.size⟩
    clear hb
    go_wp2
    refine region_planI (fun w' => w'.cell? ⟨w.heap.size, 2, none⟩ = some (vD)) [0, 1, 3, 4, 2, 5, 6, 7] [4, 0, 2] 155 ((HB.out.below HS.out.1).bx.cell rfl) (by kernel_rfl) (by kernel_rfl) (fun _ a d v _ h => by cases d <;> exact h) ?_
    simp only [atI, List.getElem?_cons_zero, List.getElem?_cons_succ]
    have c1 := copies9_any vD mD nD DD wr.drew (by exact (HB.out.below HS.out.1).iq.dsts) (HB.out.iq.dstsl) (HB.out.iq.dstsn)
    refine planH_step ?A1 rfl (fun w' hS => ?s1) rfl (fun K hK => ?n1)
    case s1 =>
      have y0 := hS
      simp only [List.take_succ_cons, List.take_zero]
      repeat still_step
      exact rfl
    case n1 =>
    go_simp
    go_wp2_with (go_at_call 18; (with_reducible refine c1.mono ?_); rintro e x1 ⟨v1, B1, rfl, r1, bb⟩)
    clear c1
    have b1 := Below.undraw bb
    clear bb
    replace HS : Hid ((Below x0.heap.size x0 x1) ∧ (x0.heap.size ≤ wr.heap.size) ∧ (Cs wr.heap.size x1.heap.size x1 v1 mD nD nD B1 DD) ∧ (wr.heap.size ≤ x1.heap.size)) := ⟨(HS.out.1).trans ((b1).mono (HS.out.1).size), HS.out.2, r1, b1.size⟩
    clear b1
    refine hK _ _ ((HB.out.below HS.out.1).bx.cell rfl) ?_
    clear hK K
    clear r1
    have c2 := copies9_any vD mD nD DD x1 (by exact (HB.out.below HS.out.1).iq.dsts) (HB.out.iq.dstsl) (HB.out.iq.dstsn)
    refine planH_step ?A2 rfl (fun w' hS => ?s2) rfl (fun K hK => ?n2)
    case s2 =>
      have y0 := hS
      simp only [List.take_zero]
      exact rfl
    case n2 =>
    go_simp
    go_wp2_with (go_at_call 18; (with_reducible refine c2.mono ?_); rintro e x2 ⟨v2, B2, rfl, r2, bb⟩)
    clear c2
    have b2 := bb
    clear bb
    replace HS : Hid ((Below x0.heap.size x0 x2) ∧ (x0.heap.size ≤ wr.heap.size) ∧ (Cs wr.heap.size x1.heap.size x2 v1 mD nD nD B1 DD) ∧ (wr.heap.size ≤ x1.heap.size) ∧ (Cs x1.heap.size x2.heap.size x2 v2 mD nD nD B2 DD) ∧ (x1.heap.size ≤ x2.heap.size)) := ⟨(HS.out.1).trans ((b2).mono (HS.out.1).size), HS.out.2.1, (HS.out.2.2.1).below (b2), HS.out.2.2.2, r2, b2.size⟩
    clear b2
    refine hK _ _ ((HB.out.below HS.out.1).bx.cell rfl) ?_
    clear hK K
    clear r2
    refine planH_last ?A3 rfl (fun w' hS => ?s3) rfl ?n3
    case s3 =>
      have y0 := hS
      simp only [List.take_succ_cons, List.take_zero]
      repeat still_step
      exact rfl
    case n3 =>
    go_wp2
    clear q1
    refine region_planI (fun w' => w'.cell? ⟨w.heap.size, 0, none⟩ = some (vR) ∧ w'.cell? ⟨w.heap.size, 1, none⟩ = some (vS) ∧ w'.cell? ⟨w.heap.size, 3, none⟩ = some (.int .i64 fr) ∧ w'.cell? ⟨w.heap.size, 4, none⟩ = some (.int .i64 to)) [0, 1, 2, 4, 5, 7, 8, 9, 10, 11, 12, 3, 6, 13, 14] [11, 0, 0, 1] 155 ⟨(HB.out.below HS.out.1).bx.cell rfl, (HB.out.below HS.out.1).bx.cell rfl, (HB.out.below HS.out.1).bx.cell rfl, (HB.out.below HS.out.1).bx.cell rfl⟩ (by kernel_rfl) (by kernel_rfl) (fun _ a d v _ h => by cases d <;> exact h) ?_
    simp only [atI, List.getElem?_cons_zero, List.getElem?_cons_succ]
    have c4 := copies9_any vR mR nR RR x2.drew (by exact (HB.out.below HS.out.1).iq.rows) (HB.out.iq.rowsl) (HB.out.iq.rowsn)
    refine planH_step ?A4 rfl (fun w' hS => ?s4) rfl (fun K hK => ?n4)
    case s4 =>
      obtain ⟨y0, y1, y2, y3⟩ := hS
      simp only [List.take_succ_cons, List.take_zero]
      repeat still_step
      exact rfl
    case n4 =>
    go_simp
    go_wp2_with (go_at_call 18; (with_reducible refine c4.mono ?_); rintro e x4 ⟨v4, B4, rfl, r4, bb⟩)
    clear c4
    have b4 := Below.undraw bb
    clear bb
    replace HS : Hid ((Below x0.heap.size x0 x4) ∧ (x0.heap.size ≤ wr.heap.size) ∧ (Cs wr.heap.size x1.heap.size x4 v1 mD nD nD B1 DD) ∧ (wr.heap.size ≤ x1.heap.size) ∧ (Cs x1.heap.size x2.heap.size x4 v2 mD nD nD B2 DD) ∧ (x1.heap.size ≤ x2.heap.size) ∧ (Cs x2.heap.size x4.heap.size x4 v4 mR nR nR B4 RR) ∧ (x2.heap.size ≤ x4.heap.size)) := ⟨(HS.out.1).trans ((b4).mono (HS.out.1).size), HS.out.2.1, (HS.out.2.2.1).below (b4), HS.out.2.2.2.1, (HS.out.2.2.2.2.1).below (b4), HS.out.2.2.2.2.2, r4, b4.size⟩
    clear b4
    refine hK _ _ ⟨(HB.out.below HS.out.1).bx.cell rfl, (HB.out.below HS.out.1).bx.cell rfl, (HB.out.below HS.out.1).bx.cell rfl, (HB.out.below HS.out.1).bx.cell rfl⟩ ?_
    clear hK K
    clear r4
    have c5 := copies9_any vS mS nS SS x4 (by exact (HB.out.below HS.out.1).iq.srcs) (HB.out.iq.srcsl) (HB.out.iq.srcsn)
    refine planH_step ?A5 rfl (fun w' hS => ?s5) rfl (fun K hK => ?n5)
    case s5 =>
      obtain ⟨y0, y1, y2, y3⟩ := hS
      simp only [List.take_zero]
      exact rfl
    case n5 =>
    go_simp
    go_wp2_with (go_at_call 18; (with_reducible refine c5.mono ?_); rintro e x5 ⟨v5, B5, rfl, r5, bb⟩)
    clear c5
    have b5 := bb
    clear bb
    replace HS : Hid ((Below x0.heap.size x0 x5) ∧ (x0.heap.size ≤ wr.heap.size) ∧ (Cs wr.heap.size x1.heap.size x5 v1 mD nD nD B1 DD) ∧ (wr.heap.size ≤ x1.heap.size) ∧ (Cs x1.heap.size x2.heap.size x5 v2 mD nD nD B2 DD) ∧ (x1.heap.size ≤ x2.heap.size) ∧ (Cs x2.heap.size x4.heap.size x5 v4 mR nR nR B4 RR) ∧ (x2.heap.size ≤ x4.heap.size) ∧ (Cs x4.heap.size x5.heap.size x5 v5 mS nS nS B5 SS) ∧ (x4.heap.size ≤ x5.heap.size)) := ⟨(HS.out.1).trans ((b5).mono (HS.out.1).size), HS.out.2.1, (HS.out.2.2.1).below (b5), HS.out.2.2.2.1, (HS.out.2.2.2.2.1).below (b5), HS.out.2.2.2.2.2.1, (HS.out.2.2.2.2.2.2.1).below (b5), HS.out.2.2.2.2.2.2.2, r5, b5.size⟩
    clear b5
    refine hK _ _ ⟨(HB.out.below HS.out.1).bx.cell rfl, (HB.out.below HS.out.1).bx.cell rfl, (HB.out.below HS.out.1).bx.cell rfl, (HB.out.below HS.out.1).bx.cell rfl⟩ ?_
    clear hK K
    clear r5
    obtain ⟨f_bel, f_bel0, f_whole, f_wholesz, f_left, f_leftsz, f_ra, f_rasz, f_sa, f_sasz⟩ := HS.out
    have c6 := cs_apply (p := P k) f_whole ((f_ra).ll (fun q h1 h2 e => by have := e.1; have := e.2; omega)) ((f_sa).ll (fun q h1 h2 e => by have := e.1; have := e.2; omega)) ((HB.out.below f_bel).ks k hlt) (by have := (HB.out.ks k hlt).hi; have := f_bel0; omega) (fr) (to) HB.out.iq.rowsl HB.out.iq.srcsl HB.out.iq.dstsl
    clear f_bel f_bel0 f_whole f_wholesz f_left f_leftsz f_ra f_rasz f_sa f_sasz
    refine planH_step ?A6 rfl (fun w' hS => ?s6) rfl (fun K hK => ?n6)
    case s6 =>
      obtain ⟨y0, y1, y2, y3⟩ := hS
      simp only [List.take_zero]
      exact rfl
    case n6 =>
    go_simp
    go_wp2_with (go_at_call 19; (with_reducible refine c6.mono ?_); rintro e x6 ⟨rfl, hk, hC⟩)
    clear c6
    obtain ⟨f_bel, f_bel0, f_whole, f_wholesz, f_left, f_leftsz, f_ra, f_rasz, f_sa, f_sasz⟩ := HS.out
    replace HS : Hid ((Below x0.heap.size x0 x6) ∧ (x0.heap.size ≤ wr.heap.size) ∧ (Cs wr.heap.size x1.heap.size x6 v1 mD nD nD B1 (ap9 mR mS mD nR nS nD fr to RR SS DD)) ∧ (wr.heap.size ≤ x1.heap.size) ∧ (Cs x1.heap.size x2.heap.size x6 v2 mD nD nD B2 DD) ∧ (x1.heap.size ≤ x2.heap.size) ∧ (Cs x2.heap.size x4.heap.size x6 v4 mR nR nR B4 RR) ∧ (x2.heap.size ≤ x4.heap.size) ∧ (Cs x4.heap.size x5.heap.size x6 v5 mS nS nS B5 SS) ∧ (x4.heap.size ≤ x5.heap.size) ∧ (x5.heap.size ≤ x6.heap.size)) := ⟨f_bel.trans (hk.below (fun q hq => by have := hq.1; omega) f_bel.size), f_bel0, hC, f_wholesz, f_left.keep hk (fun q h1 h2 e => by have := e.1; have := e.2; omega), f_leftsz, f_ra.keep hk (fun q h1 h2 e => by have := e.1; have := e.2; omega), f_rasz, f_sa.keep hk (fun q h1 h2 e => by have := e.1; have := e.2; omega), f_sasz, hk.size⟩
    clear hk hC f_bel f_bel0 f_whole f_wholesz f_left f_leftsz f_ra f_rasz f_sa f_sasz
    refine hK _ _ ⟨(HB.out.below HS.out.1).bx.cell rfl, (HB.out.below HS.out.1).bx.cell rfl, (HB.out.below HS.out.1).bx.cell rfl, (HB.out.below HS.out.1).bx.cell rfl⟩ ?_
    clear hK K
    refine planH_last ?A7 rfl (fun w' hS => ?s7) rfl ?n7
    case s7 =>
      obtain ⟨y0, y1, y2, y3⟩ := hS
      simp only [List.take_succ_cons, List.take_zero]
      repeat still_step
      exact rfl
    case n7 =>
    replace HS : Hid ((Below x0.heap.size x0 x6) ∧ (x0.heap.size ≤ wr.heap.size) ∧ (Cs wr.heap.size x1.heap.size x6 v1 mD nD nD B1 (ap9 mR mS mD nR nS nD fr to RR SS DD)) ∧ (wr.heap.size ≤ x1.heap.size) ∧ (Cs x1.heap.size x2.heap.size x6 v2 mD nD nD B2 DD) ∧ (x1.heap.size ≤ x2.heap.size) ∧ (x2.heap.size ≤ x4.heap.size) ∧ (x4.heap.size ≤ x5.heap.size) ∧ (x5.heap.size ≤ x6.heap.size)) := ⟨HS.out.1, HS.out.2.1, HS.out.2.2.1, HS.out.2.2.2.1, HS.out.2.2.2.2.1, HS.out.2.2.2.2.2.1, HS.out.2.2.2.2.2.2.2.1, HS.out.2.2.2.2.2.2.2.2.2.1, HS.out.2.2.2.2.2.2.2.2.2.2⟩
    by_cases hf : fit9 mR mS mD nR nS nD fr to = 0
    case neg =>
      have hf' : ¬ ((fit9 mR mS mD nR nS nD fr to : Int) = 0) := fun e => hf (Int.ofNat.inj e)
      have y2 := (HB.out.below HS.out.1).bx.cell (i := 2) (v := vD) rfl
      have cA := all9_true v1 vD mD nD _ DD x6 (HS.out.2.2.1).lb (HB.out.below HS.out.1).iq.dsts (fun i _ j _ => ap9_not hf i j)
      have HE : Hid (Below x0.heap.size x0 x6) := HS.out.1
      generalize fit9 mR mS mD nR nS nD fr to = z at hf hf' ⊢
      clear HS
      go_wp2_with (go_at_call 25; (with_reducible refine cA.mono ?_); rintro e y1 ⟨rfl, m1, rfl⟩; clear cA)
      go_roundw
      case rel => exact ⟨k + 1, by omega, by first | rfl | (rw [W1]; rfl), below_drewN HE.out _⟩
      case measure => first | (rw [W1]; simp [intOf]; omega) | (simp [intOf]; omega)
    case pos =>
    have HF : Hid (fit9 mR mS mD nR nS nD fr to = 0) := hf
    rw [hf]
    clear hf
    have y3 := (HB.out.below HS.out.1).bx.cell (i := 3) (v := .int .i64 fr) rfl
    have y4 := (HB.out.below HS.out.1).bx.cell (i := 4) (v := .int .i64 to) rfl
    have y5 := (HB.out.below HS.out.1).bx.cell (i := 5) (v := .int .i64 cut) rfl
    by_cases hc : fr ≤ cut ∧ cut ≤ to
    case neg =>
      have HE : Hid (Below x0.heap.size x0 x6) := HS.out.1
      clear HS
      have hc' : cut < fr ∨ ¬ cut < fr ∧ cut > to := by omega
      clear hc
      rcases hc' with a1 | ⟨a1, a2⟩
      · go_wp2
        go_roundw
        case rel => exact ⟨k + 1, by omega, by first | rfl | (rw [W1]; rfl), HE.out⟩
        case measure => first | (rw [W1]; simp [intOf]; omega) | (simp [intOf]; omega)
      · go_wp2
        go_roundw
        case rel => exact ⟨k + 1, by omega, by first | rfl | (rw [W1]; rfl), HE.out⟩
        case measure => first | (rw [W1]; simp [intOf]; omega) | (simp [intOf]; omega)
    case pos =>
    have a1 : ¬ cut < fr := by omega
    have a2 : ¬ cut > to := by omega
    have HC : Hid (fr ≤ cut ∧ cut ≤ to) := hc
    clear hc
    go_wp2
    clear a1 a2 y3 y4 y5
    refine region_planI (fun w' => w'.cell? ⟨w.heap.size, 0, none⟩ = some (vR) ∧ w'.cell? ⟨w.heap.size, 1, none⟩ = some (vS) ∧ w'.cell? ⟨w.heap.size, 5, none⟩ = some (.int .i64 cut) ∧ w'.cell? ⟨w.heap.size, 4, none⟩ = some (.int .i64 to)) [0, 1, 2, 4, 5, 7, 8, 9, 10, 11, 12, 3, 6, 13, 14] [11, 0, 0, 1] 155 ⟨(HB.out.below HS.out.1).bx.cell rfl, (HB.out.below HS.out.1).bx.cell rfl, (HB.out.below HS.out.1).bx.cell rfl, (HB.out.below HS.out.1).bx.cell rfl⟩ (by kernel_rfl) (by kernel_rfl) (fun _ a d v _ h => by cases d <;> exact h) ?_
    simp only [atI, List.getElem?_cons_zero, List.getElem?_cons_succ]
    have c8 := copies9_any vR mR nR RR x6.drew (by exact (HB.out.below HS.out.1).iq.rows) (HB.out.iq.rowsl) (HB.out.iq.rowsn)
    refine planH_step ?A8 rfl (fun w' hS => ?s8) rfl (fun K hK => ?n8)
    case s8 =>
      obtain ⟨y0, y1, y2, y3⟩ := hS
      simp only [List.take_succ_cons, List.take_zero]
      repeat still_step
      exact rfl
    case n8 =>
    go_simp
    go_wp2_with (go_at_call 18; (with_reducible refine c8.mono ?_); rintro e x8 ⟨v8, B8, rfl, r8, bb⟩)
    clear c8
    have b8 := Below.undraw bb
    clear bb
    replace HS : Hid ((Below x0.heap.size x0 x8) ∧ (x0.heap.size ≤ wr.heap.size) ∧ (Cs wr.heap.size x1.heap.size x8 v1 mD nD nD B1 (ap9 mR mS mD nR nS nD fr to RR SS DD)) ∧ (wr.heap.size ≤ x1.heap.size) ∧ (Cs x1.heap.size x2.heap.size x8 v2 mD nD nD B2 DD) ∧ (x1.heap.size ≤ x2.heap.size) ∧ (x2.heap.size ≤ x4.heap.size) ∧ (x4.heap.size ≤ x5.heap.size) ∧ (x5.heap.size ≤ x6.heap.size) ∧ (Cs x6.heap.size x8.heap.size x8 v8 mR nR nR B8 RR) ∧ (x6.heap.size ≤ x8.heap.size)) := ⟨(HS.out.1).trans ((b8).mono (HS.out.1).size), HS.out.2.1, (HS.out.2.2.1).below (b8), HS.out.2.2.2.1, (HS.out.2.2.2.2.1).below (b8), HS.out.2.2.2.2.2.1, HS.out.2.2.2.2.2.2.1, HS.out.2.2.2.2.2.2.2.1, HS.out.2.2.2.2.2.2.2.2, r8, b8.size⟩
    clear b8
    refine hK _ _ ⟨(HB.out.below HS.out.1).bx.cell rfl, (HB.out.below HS.out.1).bx.cell rfl, (HB.out.below HS.out.1).bx.cell rfl, (HB.out.below HS.out.1).bx.cell rfl⟩ ?_
    clear hK K
    clear r8
    have c9 := copies9_any vS mS nS SS x8 (by exact (HB.out.below HS.out.1).iq.srcs) (HB.out.iq.srcsl) (HB.out.iq.srcsn)
    refine planH_step ?A9 rfl (fun w' hS => ?s9) rfl (fun K hK => ?n9)
    case s9 =>
      obtain ⟨y0, y1, y2, y3⟩ := hS
      simp only [List.take_zero]
      exact rfl
    case n9 =>
    go_simp
    go_wp2_with (go_at_call 18; (with_reducible refine c9.mono ?_); rintro e x9 ⟨v9, B9, rfl, r9, bb⟩)
    clear c9
    have b9 := bb
    clear bb
    replace HS : Hid ((Below x0.heap.size x0 x9) ∧ (x0.heap.size ≤ wr.heap.size) ∧ (Cs wr.heap.size x1.heap.size x9 v1 mD nD nD B1 (ap9 mR mS mD nR nS nD fr to RR SS DD)) ∧ (wr.heap.size ≤ x1.heap.size) ∧ (Cs x1.heap.size x2.heap.size x9 v2 mD nD nD B2 DD) ∧ (x1.heap.size ≤ x2.heap.size) ∧ (x2.heap.size ≤ x4.heap.size) ∧ (x4.heap.size ≤ x5.heap.size) ∧ (x5.heap.size ≤ x6.heap.size) ∧ (Cs x6.heap.size x8.heap.size x9 v8 mR nR nR B8 RR) ∧ (x6.heap.size ≤ x8.heap.size) ∧ (Cs x8.heap.size x9.heap.size x9 v9 mS nS nS B9 SS) ∧ (x8.heap.size ≤ x9.heap.size)) := ⟨(HS.out.1).trans ((b9).mono (HS.out.1).size), HS.out.2.1, (HS.out.2.2.1).below (b9), HS.out.2.2.2.1, (HS.out.2.2.2.2.1).below (b9), HS.out.2.2.2.2.2.1, HS.out.2.2.2.2.2.2.1, HS.out.2.2.2.2.2.2.2.1, HS.out.2.2.2.2.2.2.2.2.1, (HS.out.2.2.2.2.2.2.2.2.2.1).below (b9), HS.out.2.2.2.2.2.2.2.2.2.2, r9, b9.size⟩
    clear b9
    refine hK _ _ ⟨(HB.out.below HS.out.1).bx.cell rfl, (HB.out.below HS.out.1).bx.cell rfl, (HB.out.below HS.out.1).bx.cell rfl, (HB.out.below HS.out.1).bx.cell rfl⟩ ?_
    clear hK K
    clear r9
    obtain ⟨f_bel, f_bel0, f_whole, f_wholesz, f_left, f_leftsz, f_rasz, f_sasz, f_szap6, f_rb, f_rbsz, f_sb, f_sbsz⟩ := HS.out
    have c10 := cs_apply (p := P k) f_left ((f_rb).ll (fun q h1 h2 e => by have := e.1; have := e.2; omega)) ((f_sb).ll (fun q h1 h2 e => by have := e.1; have := e.2; omega)) ((HB.out.below f_bel).ks k hlt) (by have := (HB.out.ks k hlt).hi; have := f_bel0; omega) (cut) (to) HB.out.iq.rowsl HB.out.iq.srcsl HB.out.iq.dstsl
    clear f_bel f_bel0 f_whole f_wholesz f_left f_leftsz f_rasz f_sasz f_szap6 f_rb f_rbsz f_sb f_sbsz
    refine planH_step ?A10 rfl (fun w' hS => ?s10) rfl (fun K hK => ?n10)
    case s10 =>
      obtain ⟨y0, y1, y2, y3⟩ := hS
      simp only [List.take_zero]
      exact rfl
    case n10 =>
    go_simp
    go_wp2_with (go_at_call 19; (with_reducible refine c10.mono ?_); rintro e x10 ⟨rfl, hk, hC⟩)
    clear c10
    obtain ⟨f_bel, f_bel0, f_whole, f_wholesz, f_left, f_leftsz, f_rasz, f_sasz, f_szap6, f_rb, f_rbsz, f_sb, f_sbsz⟩ := HS.out
    replace HS : Hid ((Below x0.heap.size x0 x10) ∧ (x0.heap.size ≤ wr.heap.size) ∧ (Cs wr.heap.size x1.heap.size x10 v1 mD nD nD B1 (ap9 mR mS mD nR nS nD fr to RR SS DD)) ∧ (wr.heap.size ≤ x1.heap.size) ∧ (Cs x1.heap.size x2.heap.size x10 v2 mD nD nD B2 (ap9 mR mS mD nR nS nD cut to RR SS DD)) ∧ (x1.heap.size ≤ x2.heap.size) ∧ (x2.heap.size ≤ x4.heap.size) ∧ (x4.heap.size ≤ x5.heap.size) ∧ (x5.heap.size ≤ x6.heap.size) ∧ (Cs x6.heap.size x8.heap.size x10 v8 mR nR nR B8 RR) ∧ (x6.heap.size ≤ x8.heap.size) ∧ (Cs x8.heap.size x9.heap.size x10 v9 mS nS nS B9 SS) ∧ (x8.heap.size ≤ x9.heap.size) ∧ (x9.heap.size ≤ x10.heap.size)) := ⟨f_bel.trans (hk.below (fun q hq => by have := hq.1; omega) f_bel.size), f_bel0, f_whole.keep hk (fun q h1 h2 e => by have := e.1; have := e.2; omega), f_wholesz, hC, f_leftsz, f_rasz, f_sasz, f_szap6, f_rb.keep hk (fun q h1 h2 e => by have := e.1; have := e.2; omega), f_rbsz, f_sb.keep hk (fun q h1 h2 e => by have := e.1; have := e.2; omega), f_sbsz, hk.size⟩
    clear hk hC f_bel f_bel0 f_whole f_wholesz f_left f_leftsz f_rasz f_sasz f_szap6 f_rb f_rbsz f_sb f_sbsz
    refine hK _ _ ⟨(HB.out.below HS.out.1).bx.cell rfl, (HB.out.below HS.out.1).bx.cell rfl, (HB.out.below HS.out.1).bx.cell rfl, (HB.out.below HS.out.1).bx.cell rfl⟩ ?_
    clear hK K
    refine planH_last ?A11 rfl (fun w' hS => ?s11) rfl ?n11
    case s11 =>
      obtain ⟨y0, y1, y2, y3⟩ := hS
      simp only [List.take_succ_cons, List.take_zero]
      repeat still_step
      exact rfl
    case n11 =>
    replace HS : Hid ((Below x0.heap.size x0 x10) ∧ (x0.heap.size ≤ wr.heap.size) ∧ (Cs wr.heap.size x1.heap.size x10 v1 mD nD nD B1 (ap9 mR mS mD nR nS nD fr to RR SS DD)) ∧ (wr.heap.size ≤ x1.heap.size) ∧ (Cs x1.heap.size x2.heap.size x10 v2 mD nD nD B2 (ap9 mR mS mD nR nS nD cut to RR SS DD)) ∧ (x1.heap.size ≤ x2.heap.size) ∧ (x2.heap.size ≤ x4.heap.size) ∧ (x4.heap.size ≤ x5.heap.size) ∧ (x5.heap.size ≤ x6.heap.size) ∧ (x6.heap.size ≤ x8.heap.size) ∧ (x8.heap.size ≤ x9.heap.size) ∧ (x9.heap.size ≤ x10.heap.size)) := ⟨HS.out.1, HS.out.2.1, HS.out.2.2.1, HS.out.2.2.2.1, HS.out.2.2.2.2.1, HS.out.2.2.2.2.2.1, HS.out.2.2.2.2.2.2.1, HS.out.2.2.2.2.2.2.2.1, HS.out.2.2.2.2.2.2.2.2.1, HS.out.2.2.2.2.2.2.2.2.2.2.1, HS.out.2.2.2.2.2.2.2.2.2.2.2.2.1, HS.out.2.2.2.2.2.2.2.2.2.2.2.2.2⟩
    rw [(fit9_cut HF.out HC.out.1 HC.out.2).1]
    go_wp2
    refine region_planI (fun w' => w'.cell? ⟨w.heap.size, 0, none⟩ = some (vR) ∧ w'.cell? ⟨w.heap.size, 1, none⟩ = some (vS) ∧ w'.cell? ⟨w.heap.size, 3, none⟩ = some (.int .i64 fr) ∧ w'.cell? ⟨w.heap.size, 5, none⟩ = some (.int .i64 cut)) [0, 1, 2, 4, 5, 7, 8, 9, 10, 11, 12, 3, 6, 13, 14] [11, 0, 0, 1] 155 ⟨(HB.out.below HS.out.1).bx.cell rfl, (HB.out.below HS.out.1).bx.cell rfl, (HB.out.below HS.out.1).bx.cell rfl, (HB.out.below HS.out.1).bx.cell rfl⟩ (by kernel_rfl) (by kernel_rfl) (fun _ a d v _ h => by cases d <;> exact h) ?_
    simp only [atI, List.getElem?_cons_zero, List.getElem?_cons_succ]
    have c12 := copies9_any vR mR nR RR x10.drew (by exact (HB.out.below HS.out.1).iq.rows) (HB.out.iq.rowsl) (HB.out.iq.rowsn)
    refine planH_step ?A12 rfl (fun w' hS => ?s12) rfl (fun K hK => ?n12)
    case s12 =>
      obtain ⟨y0, y1, y2, y3⟩ := hS
      simp only [List.take_succ_cons, List.take_zero]
      repeat still_step
      exact rfl
    case n12 =>
    go_simp
    go_wp2_with (go_at_call 18; (with_reducible refine c12.mono ?_); rintro e x12 ⟨v12, B12, rfl, r12, bb⟩)
    clear c12
    have b12 := Below.undraw bb
    clear bb
    replace HS : Hid ((Below x0.heap.size x0 x12) ∧ (x0.heap.size ≤ wr.heap.size) ∧ (Cs wr.heap.size x1.heap.size x12 v1 mD nD nD B1 (ap9 mR mS mD nR nS nD fr to RR SS DD)) ∧ (wr.heap.size ≤ x1.heap.size) ∧ (Cs x1.heap.size x2.heap.size x12 v2 mD nD nD B2 (ap9 mR mS mD nR nS nD cut to RR SS DD)) ∧ (x1.heap.size ≤ x2.heap.size) ∧ (x2.heap.size ≤ x4.heap.size) ∧ (x4.heap.size ≤ x5.heap.size) ∧ (x5.heap.size ≤ x6.heap.size) ∧ (x6.heap.size ≤ x8.heap.size) ∧ (x8.heap.size ≤ x9.heap.size) ∧ (x9.heap.size ≤ x10.heap.size) ∧ (Cs x10.heap.size x12.heap.size x12 v12 mR nR nR B12 RR) ∧ (x10.heap.size ≤ x12.heap.size)) := ⟨(HS.out.1).trans ((b12).mono (HS.out.1).size), HS.out.2.1, (HS.out.2.2.1).below (b12), HS.out.2.2.2.1, (HS.out.2.2.2.2.1).below (b12), HS.out.2.2.2.2.2.1, HS.out.2.2.2.2.2.2.1, HS.out.2.2.2.2.2.2.2.1, HS.out.2.2.2.2.2.2.2.2.1, HS.out.2.2.2.2.2.2.2.2.2.1, HS.out.2.2.2.2.2.2.2.2.2.2.1, HS.out.2.2.2.2.2.2.2.2.2.2.2, r12, b12.size⟩
    clear b12
    refine hK _ _ ⟨(HB.out.below HS.out.1).bx.cell rfl, (HB.out.below HS.out.1).bx.cell rfl, (HB.out.below HS.out.1).bx.cell rfl, (HB.out.below HS.out.1).bx.cell rfl⟩ ?_
    clear hK K
    clear r12
    have c13 := copies9_any vS mS nS SS x12 (by exact (HB.out.below HS.out.1).iq.srcs) (HB.out.iq.srcsl) (HB.out.iq.srcsn)
    refine planH_step ?A13 rfl (fun w' hS => ?s13) rfl (fun K hK => ?n13)
    case s13 =>
      obtain ⟨y0, y1, y2, y3⟩ := hS
      simp only [List.take_zero]
      exact rfl
    case n13 =>
    go_simp
    go_wp2_with (go_at_call 18; (with_reducible refine c13.mono ?_); rintro e x13 ⟨v13, B13, rfl, r13, bb⟩)
    clear c13
    have b13 := bb
    clear bb
    replace HS : Hid ((Below x0.heap.size x0 x13) ∧ (x0.heap.size ≤ wr.heap.size) ∧ (Cs wr.heap.size x1.heap.size x13 v1 mD nD nD B1 (ap9 mR mS mD nR nS nD fr to RR SS DD)) ∧ (wr.heap.size ≤ x1.heap.size) ∧ (Cs x1.heap.size x2.heap.size x13 v2 mD nD nD B2 (ap9 mR mS mD nR nS nD cut to RR SS DD)) ∧ (x1.heap.size ≤ x2.heap.size) ∧ (x2.heap.size ≤ x4.heap.size) ∧ (x4.heap.size ≤ x5.heap.size) ∧ (x5.heap.size ≤ x6.heap.size) ∧ (x6.heap.size ≤ x8.heap.size) ∧ (x8.heap.size ≤ x9.heap.size) ∧ (x9.heap.size ≤ x10.heap.size) ∧ (Cs x10.heap.size x12.heap.size x13 v12 mR nR nR B12 RR) ∧ (x10.heap.size ≤ x12.heap.size) ∧ (Cs x12.heap.size x13.heap.size x13 v13 mS nS nS B13 SS) ∧ (x12.heap.size ≤ x13.heap.size)) := ⟨(HS.out.1).trans ((b13).mono (HS.out.1).size), HS.out.2.1, (HS.out.2.2.1).below (b13), HS.out.2.2.2.1, (HS.out.2.2.2.2.1).below (b13), HS.out.2.2.2.2.2.1, HS.out.2.2.2.2.2.2.1, HS.out.2.2.2.2.2.2.2.1, HS.out.2.2.2.2.2.2.2.2.1, HS.out.2.2.2.2.2.2.2.2.2.1, HS.out.2.2.2.2.2.2.2.2.2.2.1, HS.out.2.2.2.2.2.2.2.2.2.2.2.1, (HS.out.2.2.2.2.2.2.2.2.2.2.2.2.1).below (b13), HS.out.2.2.2.2.2.2.2.2.2.2.2.2.2, r13, b13.size⟩
    clear b13
    refine hK _ _ ⟨(HB.out.below HS.out.1).bx.cell rfl, (HB.out.below HS.out.1).bx.cell rfl, (HB.out.below HS.out.1).bx.cell rfl, (HB.out.below HS.out.1).bx.cell rfl⟩ ?_
    clear hK K
    clear r13
    obtain ⟨f_bel, f_bel0, f_whole, f_wholesz, f_left, f_leftsz, f_rasz, f_sasz, f_szap6, f_rbsz, f_sbsz, f_szap10, f_rc, f_rcsz, f_sc, f_scsz⟩ := HS.out
    have c14 := cs_apply (p := P k) f_left ((f_rc).ll (fun q h1 h2 e => by have := e.1; have := e.2; omega)) ((f_sc).ll (fun q h1 h2 e => by have := e.1; have := e.2; omega)) ((HB.out.below f_bel).ks k hlt) (by have := (HB.out.ks k hlt).hi; have := f_bel0; omega) (fr) (cut) HB.out.iq.rowsl HB.out.iq.srcsl HB.out.iq.dstsl
    clear f_bel f_bel0 f_whole f_wholesz f_left f_leftsz f_rasz f_sasz f_szap6 f_rbsz f_sbsz f_szap10 f_rc f_rcsz f_sc f_scsz
    refine planH_step ?A14 rfl (fun w' hS => ?s14) rfl (fun K hK => ?n14)
    case s14 =>
      obtain ⟨y0, y1, y2, y3⟩ := hS
      simp only [List.take_zero]
      exact rfl
    case n14 =>
    go_simp
    go_wp2_with (go_at_call 19; (with_reducible refine c14.mono ?_); rintro e x14 ⟨rfl, hk, hC⟩)
    clear c14
    obtain ⟨f_bel, f_bel0, f_whole, f_wholesz, f_left, f_leftsz, f_rasz, f_sasz, f_szap6, f_rbsz, f_sbsz, f_szap10, f_rc, f_rcsz, f_sc, f_scsz⟩ := HS.out
    replace HS : Hid ((Below x0.heap.size x0 x14) ∧ (x0.heap.size ≤ wr.heap.size) ∧ (Cs wr.heap.size x1.heap.size x14 v1 mD nD nD B1 (ap9 mR mS mD nR nS nD fr to RR SS DD)) ∧ (wr.heap.size ≤ x1.heap.size) ∧ (Cs x1.heap.size x2.heap.size x14 v2 mD nD nD B2 (ap9 mR mS mD nR nS nD fr cut RR SS (ap9 mR mS mD nR nS nD cut to RR SS DD))) ∧ (x1.heap.size ≤ x2.heap.size) ∧ (x2.heap.size ≤ x4.heap.size) ∧ (x4.heap.size ≤ x5.heap.size) ∧ (x5.heap.size ≤ x6.heap.size) ∧ (x6.heap.size ≤ x8.heap.size) ∧ (x8.heap.size ≤ x9.heap.size) ∧ (x9.heap.size ≤ x10.heap.size) ∧ (Cs x10.heap.size x12.heap.size x14 v12 mR nR nR B12 RR) ∧ (x10.heap.size ≤ x12.heap.size) ∧ (Cs x12.heap.size x13.heap.size x14 v13 mS nS nS B13 SS) ∧ (x12.heap.size ≤ x13.heap.size) ∧ (x13.heap.size ≤ x14.heap.size)) := ⟨f_bel.trans (hk.below (fun q hq => by have := hq.1; omega) f_bel.size), f_bel0, f_whole.keep hk (fun q h1 h2 e => by have := e.1; have := e.2; omega), f_wholesz, hC, f_leftsz, f_rasz, f_sasz, f_szap6, f_rbsz, f_sbsz, f_szap10, f_rc.keep hk (fun q h1 h2 e => by have := e.1; have := e.2; omega), f_rcsz, f_sc.keep hk (fun q h1 h2 e => by have := e.1; have := e.2; omega), f_scsz, hk.size⟩
    clear hk hC f_bel f_bel0 f_whole f_wholesz f_left f_leftsz f_rasz f_sasz f_szap6 f_rbsz f_sbsz f_szap10 f_rc f_rcsz f_sc f_scsz
    refine hK _ _ ⟨(HB.out.below HS.out.1).bx.cell rfl, (HB.out.below HS.out.1).bx.cell rfl, (HB.out.below HS.out.1).bx.cell rfl, (HB.out.below HS.out.1).bx.cell rfl⟩ ?_
    clear hK K
    refine planH_last ?A15 rfl (fun w' hS => ?s15) rfl ?n15
    case s15 =>
      obtain ⟨y0, y1, y2, y3⟩ := hS
      simp only [List.take_succ_cons, List.take_zero]
      repeat still_step
      exact rfl
    case n15 =>
    rw [(fit9_cut HF.out HC.out.1 HC.out.2).2]
    have cA := all9_true v2 v1 mD nD _ _ x14 (HS.out.2.2.2.2.1).lb (HS.out.2.2.1).lb (fun i _ j _ => ap9_cut HF.out HC.out.1 HC.out.2 i j)
    have HE : Hid (Below x0.heap.size x0 x14 ∧ Lb x14 v1 mD nD (ap9 mR mS mD nR nS nD fr to RR SS DD)) := ⟨HS.out.1, (HS.out.2.2.1).lb⟩
    obtain ⟨xw, cw, ew⟩ := Lb.form (HS.out.2.2.1).lb
    clear HS
    subst ew
    go_wp2_with (go_at_call 25; (with_reducible refine cA.mono ?_); rintro e y1 ⟨rfl, m1, rfl⟩; clear cA)
    obtain ⟨Y, hY⟩ : ∃ Y, Y = x14.drewN m1 := ⟨_, rfl⟩
    have HY : Hid (Below x0.heap.size x0 Y ∧ Lb Y (.slice xw mD cw) mD nD (ap9 mR mS mD nR nS nD fr to RR SS DD)) := by rw [hY]; exact ⟨below_drewN HE.out.1 m1, Ll.ke HE.out.2 ((Ke.refl _ _).drewN m1)⟩
    rw [← hY]
    clear hY HE HC
    obtain ⟨xd, cd, ed⟩ := Lb.form HB.out.iq.dsts
    subst ed
    go_loopw [101] (fun i wz => ∃ r q : Nat, r ≤ mD ∧ i = .int .i64 r ∧ wz = Y.drewN q) (fun i _ => mD - (intOf i).toNat)
    case atStart => exact ⟨0, 0, Nat.zero_le _, rfl, rfl⟩
    case round =>
      obtain ⟨r, q, hr, rfl, hw⟩ := hrel
      by_cases hlr : r < mD
      case neg =>
        have HE : Hid (Below x0.heap.size x0 Y) := HY.out.1
        subst hw
        have hrm : ¬ ((r : Nat) : Int) < (mD : Int) := by omega
        go_wp2
        go_roundw
        case rel => exact ⟨k + 1, by omega, by first | rfl | (rw [W1]; rfl), below_drewN HE.out _⟩
        case measure => first | (rw [W1]; simp [intOf]; omega) | (simp [intOf]; omega)
      case pos =>
      obtain ⟨hbY, hLW⟩ := HY.out
      have hBY := HB.out.below hbY
      have hmb : mD ≤ 140737488351232 := by have := hBY.iq.dstsl; omega
      have hnb := hBY.iq.dstsn r hlr
      obtain ⟨V, ⟨-, a1, c1, e1, -, -, h4⟩, hV⟩ := hLW
      cases e1
      obtain ⟨b, o, rfl, -, hcc⟩ := h4 (by omega)
      obtain ⟨V2, ⟨-, a2, c2, e2, -, -, h42⟩, hV2⟩ := hBY.iq.dsts
      cases e2
      obtain ⟨b', o', rfl, -, hcc2⟩ := h42 (by omega)
      obtain ⟨s1, s2, xi, ci, ei, -, -, s4⟩ := hV r hlr
      obtain ⟨t1, t2, xj, cj, ej, -, -, t4⟩ := hV2 r hlr
      have p1 : Y.cell? ⟨b, o + r, none⟩ = some (.slice xi (nD r) ci) := by rw [← ei]; exact hcc r hlr
      have p2 : Y.cell? ⟨b', o' + r, none⟩ = some (.slice xj (nD r) cj) := by rw [← ej]; exact hcc2 r hlr
      have p3 := hBY.bx.cell (i := 2) (v := .slice (some ⟨b', o', none⟩) mD cd) rfl
      have p4 := hBY.bx.cell (i := 3) (v := .int .i64 fr) rfl
      have p5 := hBY.bx.cell (i := 4) (v := .int .i64 to) rfl
      have z1 : wr.cell? ⟨b, o + r, none⟩ = some (.slice xi (nD r) ci) := by rw [hw]; exact p1
      have z2 : wr.cell? ⟨b', o' + r, none⟩ = some (.slice xj (nD r) cj) := by rw [hw]; exact p2
      have z3 : wr.cell? ⟨w.heap.size, 2, none⟩ = some (.slice (some ⟨b', o', none⟩) mD cd) := by rw [hw]; exact p3
      have HU : Hid (wr = Y.drewN q) := hw
      have HV : Hid ((0 < nD r → ∃ b o, xi = some ⟨b, o, none⟩ ∧ ∀ t, t < nD r → Y.cell? ⟨b, o + t, none⟩ = some (.int .u8 (ap9 mR mS mD nR nS nD fr to RR SS DD r t : Nat))) ∧ (0 < nD r → ∃ b o, xj = some ⟨b, o, none⟩ ∧ ∀ t, t < nD r → Y.cell? ⟨b, o + t, none⟩ = some (.int .u8 (DD r t : Nat)))) := ⟨fun h0 => by obtain ⟨b, o, e, _, hc⟩ := s4 h0; exact ⟨b, o, e, hc⟩, fun h0 => by obtain ⟨b, o, e, _, hc⟩ := t4 h0; exact ⟨b, o, e, hc⟩⟩
      have HP : Hid (Y.cell? ⟨b, o + r, none⟩ = some (.slice xi (nD r) ci) ∧ Y.cell? ⟨b', o' + r, none⟩ = some (.slice xj (nD r) cj) ∧ Y.cell? ⟨w.heap.size, 2, none⟩ = some (.slice (some ⟨b', o', none⟩) mD cd) ∧ Y.cell? ⟨w.heap.size, 3, none⟩ = some (.int .i64 fr) ∧ Y.cell? ⟨w.heap.size, 4, none⟩ = some (.int .i64 to)) := ⟨p1, p2, p3, p4, p5⟩
      have ir : ((r : Nat) : Int) < (mD : Int) := by omega
      have W2 := wrap_succ8 (j := r) (by unfold big; omega)
      clear hbY hBY h4 hV hcc h42 hV2 hcc2 s1 s2 s4 t1 t2 t4 ei ej p1 p2 p3 p4 p5 hw
      go_wp2
      go_quiet (fail)
      go_wp2
      clear z1 z2 z3
      go_loopw [121] (fun i wz => ∃ t q : Nat, t ≤ nD r ∧ i = .int .i64 t ∧ wz = Y.drewN q) (fun i _ => nD r - (intOf i).toNat)
      case atStart => exact ⟨0, q + nq, Nat.zero_le _, rfl, by first | (rw [HU.out, World.drewN_drewN]) | rfl⟩
      case round =>
        obtain ⟨t, q2, ht, rfl, hw⟩ := hrel
        by_cases hlt2 : t < nD r
        case neg =>
          have it : ¬ ((t : Nat) : Int) < (nD r : Int) := by omega
          have HU2 : Hid (_ = Y.drewN q2) := hw
          clear hw
          go_wp2
          go_roundw
          case rel => exact ⟨r + 1, q2, hlr, by first | rfl | (rw [W2]; rfl), HU2.out⟩
          case measure => first | exact meas_lt8 hlr | (rw [W2]; exact meas_lt8 hlr)
        case pos =>
        obtain ⟨bi, oi, rfl, hci⟩ := HV.out.1 (by omega)
        obtain ⟨bj, oj, rfl, hcj⟩ := HV.out.2 (by omega)
        obtain ⟨p1, p2, p3, p4, p5⟩ := HP.out
        have r1 := hci t hlt2
        have r2 := hcj t hlt2
        have it : ((t : Nat) : Int) < (nD r : Int) := by omega
        have W3 := wrap_succ8 (j := t) (by unfold big; omega)
        by_cases d1 : (t : Int) < fr
        · rw [ap9_out (.inl d1)] at r1
          have D1 : decide ((t : Int) < fr) = true := by simpa using d1
          rw [show Y.cell? ⟨bi, oi + t, none⟩ = wr.cell? ⟨bi, oi + t, none⟩ from by rw [hw]; rfl] at r1
          rw [show Y.cell? ⟨bj, oj + t, none⟩ = wr.cell? ⟨bj, oj + t, none⟩ from by rw [hw]; rfl] at r2
          rw [show Y.cell? ⟨b, o + r, none⟩ = wr.cell? ⟨b, o + r, none⟩ from by rw [hw]; rfl] at p1
          rw [show Y.cell? ⟨b', o' + r, none⟩ = wr.cell? ⟨b', o' + r, none⟩ from by rw [hw]; rfl] at p2
          rw [show Y.cell? ⟨w.heap.size, 2, none⟩ = wr.cell? ⟨w.heap.size, 2, none⟩ from by rw [hw]; rfl] at p3
          rw [show Y.cell? ⟨w.heap.size, 3, none⟩ = wr.cell? ⟨w.heap.size, 3, none⟩ from by rw [hw]; rfl] at p4
          rw [show Y.cell? ⟨w.heap.size, 4, none⟩ = wr.cell? ⟨w.heap.size, 4, none⟩ from by rw [hw]; rfl] at p5
          have HU2 : Hid (_ = Y.drewN q2) := hw
          clear hw hci hcj d1
          go_wp2
          go_quiet (fail)
          go_wp2
          go_roundw
          case rel => exact ⟨t + 1, q2 + nq, hlt2, by first | rfl | (rw [W3]; rfl), by rw [HU2.out, World.drewN_drewN]⟩
          case measure => first | exact meas_lt8 hlt2 | (rw [W3]; exact meas_lt8 hlt2)
        · have D1 : decide ((t : Int) < fr) = false := by simpa using d1
          by_cases d2 : (t : Int) ≥ to
          · rw [ap9_out (.inr d2)] at r1
            have D2 : decide ((t : Int) ≥ to) = true := by simpa using d2
            have D3 : decide (to ≤ (t : Int)) = true := by simpa using d2
            rw [show Y.cell? ⟨bi, oi + t, none⟩ = wr.cell? ⟨bi, oi + t, none⟩ from by rw [hw]; rfl] at r1
            rw [show Y.cell? ⟨bj, oj + t, none⟩ = wr.cell? ⟨bj, oj + t, none⟩ from by rw [hw]; rfl] at r2
            rw [show Y.cell? ⟨b, o + r, none⟩ = wr.cell? ⟨b, o + r, none⟩ from by rw [hw]; rfl] at p1
            rw [show Y.cell? ⟨b', o' + r, none⟩ = wr.cell? ⟨b', o' + r, none⟩ from by rw [hw]; rfl] at p2
            rw [show Y.cell? ⟨w.heap.size, 2, none⟩ = wr.cell? ⟨w.heap.size, 2, none⟩ from by rw [hw]; rfl] at p3
            rw [show Y.cell? ⟨w.heap.size, 3, none⟩ = wr.cell? ⟨w.heap.size, 3, none⟩ from by rw [hw]; rfl] at p4
            rw [show Y.cell? ⟨w.heap.size, 4, none⟩ = wr.cell? ⟨w.heap.size, 4, none⟩ from by rw [hw]; rfl] at p5
            have HU2 : Hid (_ = Y.drewN q2) := hw
            clear hw hci hcj d1 d2
            go_wp2
            go_quiet (fail)
            go_wp2
            go_roundw
            case rel => exact ⟨t + 1, q2 + nq, hlt2, by first | rfl | (rw [W3]; rfl), by rw [HU2.out, World.drewN_drewN]⟩
            case measure => first | exact meas_lt8 hlt2 | (rw [W3]; exact meas_lt8 hlt2)
          · have D2 : decide ((t : Int) ≥ to) = false := by simpa using d2
            have D3 : decide (to ≤ (t : Int)) = false := by simpa using d2
            rw [show Y.cell? ⟨bi, oi + t, none⟩ = wr.cell? ⟨bi, oi + t, none⟩ from by rw [hw]; rfl] at r1
            rw [show Y.cell? ⟨bj, oj + t, none⟩ = wr.cell? ⟨bj, oj + t, none⟩ from by rw [hw]; rfl] at r2
            rw [show Y.cell? ⟨b, o + r, none⟩ = wr.cell? ⟨b, o + r, none⟩ from by rw [hw]; rfl] at p1
            rw [show Y.cell? ⟨b', o' + r, none⟩ = wr.cell? ⟨b', o' + r, none⟩ from by rw [hw]; rfl] at p2
            rw [show Y.cell? ⟨w.heap.size, 2, none⟩ = wr.cell? ⟨w.heap.size, 2, none⟩ from by rw [hw]; rfl] at p3
            rw [show Y.cell? ⟨w.heap.size, 3, none⟩ = wr.cell? ⟨w.heap.size, 3, none⟩ from by rw [hw]; rfl] at p4
            rw [show Y.cell? ⟨w.heap.size, 4, none⟩ = wr.cell? ⟨w.heap.size, 4, none⟩ from by rw [hw]; rfl] at p5
            have HU2 : Hid (_ = Y.drewN q2) := hw
            clear hw hci hcj d1 d2
            go_wp2
            go_quiet (fail)
            go_wp2
            go_roundw
            case rel => exact ⟨t + 1, q2 + nq, hlt2, by first | rfl | (rw [W3]; rfl), by rw [HU2.out, World.drewN_drewN]⟩
            case measure => first | exact meas_lt8 hlt2 | (rw [W3]; exact meas_lt8 hlt2)
end Go.Proofs.Ytdolghlphmjcdaa
