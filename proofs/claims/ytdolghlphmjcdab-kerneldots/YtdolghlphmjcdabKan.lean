import Derived.Test.YtdolghlphmjcdabKj7
namespace Go.Proofs.Ytdolghlphmjcdab
open Go.RowKit Gf2
set_option linter.unusedVariables false

/-- sums in their box, and what came in. -/
structure Br9 (x : World) (g : Nat) (vR vS vD : Value) (fr to cut : Int) (mR : Nat) (nR : Nat → Nat) (RR : Nat → Nat → Nat) (mS : Nat) (nS : Nat → Nat) (SS : Nat → Nat → Nat) (mD : Nat) (nD : Nat → Nat) (DD : Nat → Nat → Nat) : Prop where
  bx : Box9 x g (sv9 vR vS vD fr to cut) 24
  iq : Ip9 x vR vS vD mR nR RR mS nS SS mD nD DD
theorem Br9.below {W W' : World} {g : Nat} {vR vS vD : Value} {fr to cut : Int} {mR : Nat} {nR : Nat → Nat} {RR : Nat → Nat → Nat} {mS : Nat} {nS : Nat → Nat} {SS : Nat → Nat → Nat} {mD : Nat} {nD : Nat → Nat} {DD : Nat → Nat → Nat} (h : Br9 W g vR vS vD fr to cut mR nR RR mS nS SS mD nD DD) (hb : Below W.heap.size W W') : Br9 W' g vR vS vD fr to cut mR nR RR mS nS SS mD nD DD := ⟨h.bx.below hb, h.iq.below hb⟩

theorem ap9_in {m k d : Nat} {nr ns nd : Nat → Nat} {fr to : Int} {R S D : Nat → Nat → Nat} {i j : Nat} (h : fit9 m k d nr ns nd fr to = 0 ∧ fr ≤ (j : Int) ∧ (j : Int) < to) : ap9 m k d nr ns nd fr to R S D i j = ks (R i) S k j := by unfold ap9; rw [if_pos h]
theorem anew_same {m k d : Nat} {nr ns nd : Nat → Nat} {fr to : Int} {R S D : Nat → Nat → Nat} (h : fit9 m k d nr ns nd fr to = 0) :
    (fit9 m k d nr ns nd fr to = 0 ∧ ∀ r, r < d → ∀ t : Nat, fr ≤ (t : Int) → (t : Int) < to → D r t = ks (R r) S k t) ↔ (d = d ∧ ∀ r, r < d → nd r = nd r ∧ ∀ i, i < nd r → D r i = ap9 m k d nr ns nd fr to R S D r i) := by
  obtain ⟨⟨h1, h2, h3, h4⟩, r1, r2, r3⟩ := fit9_split h
  constructor
  · rintro ⟨-, e⟩
    refine ⟨rfl, fun r hr => ⟨rfl, fun i hi => ?_⟩⟩
    by_cases c : fr ≤ (i : Int) ∧ (i : Int) < to
    · rw [ap9_in ⟨h, c.1, c.2⟩]; exact e r hr i c.1 c.2
    · unfold ap9; rw [if_neg (fun x => c x.2)]
  · rintro ⟨-, e⟩
    refine ⟨h, fun r hr t c1 c2 => ?_⟩
    have := (e r hr).2 t (by rw [h4 r hr]; omega)
    rwa [ap9_in ⟨h, c1, c2⟩] at this
set_option maxHeartbeats 16000000 in
set_option maxRecDepth 100000 in
theorem anew9_any (p : Addr) (bk klo khi : Nat) (vR vS vD vf : Value) (nf : Nat) (Ff : Nat → Nat) (fr to cut : Int) (w : World) (hk0 : Ks w p bk klo khi) (h : Im9 w vR vS vD) (hvf : Rb w vf nf Ff) (hnf : nf ≤ 140737488351232) :
    Calls Try.prog 9 #[.pointer (some p), .agg (sv9 vR vS vD fr to cut), vf] w fun e w' => e = .returned (.bool true) ∧ Below w.heap.size w w' := by
  obtain ⟨mR, nR, RR, mS, nS, SS, mD, nD, DD, hI⟩ := h.ip
  have bX : Below w.heap.size w (w.alloc (.cells (sv9 vR vS vD fr to cut) 24)) := (Below.refl _ _).alloc (Nat.le_refl _) _
  have bY : Below (w.alloc (.cells (sv9 vR vS vD fr to cut) 24)).heap.size (w.alloc (.cells (sv9 vR vS vD fr to cut) 24)) ((w.alloc (.cells (sv9 vR vS vD fr to cut) 24)).alloc (.cells #[.int .i64 fr, .int .i64 to] 30)) := (Below.refl _ _).alloc (Nat.le_refl _) _
  have bZ := bX.trans (bY.mono bX.size)
  have hX := Box9.new w (sv9 vR vS vD fr to cut) 24
  have y3 := hX.cell (i := 3) (v := .int .i64 fr) rfl
  have y4 := hX.cell (i := 4) (v := .int .i64 to) rfl
  have hB1 : Br9 ((w.alloc (.cells (sv9 vR vS vD fr to cut) 24)).alloc (.cells #[.int .i64 fr, .int .i64 to] 30)) w.heap.size vR vS vD fr to cut mR nR RR mS nS SS mD nD DD := ⟨hX.below bY, hI.below bZ⟩
  have hP : Sb9 ((w.alloc (.cells (sv9 vR vS vD fr to cut) 24)).alloc (.cells #[.int .i64 fr, .int .i64 to] 30)) (w.alloc (.cells (sv9 vR vS vD fr to cut) 24)).heap.size fr to := ⟨heap_alloc_new _ _⟩
  have hs1 : (w.alloc (.cells (sv9 vR vS vD fr to cut) 24)).heap.size = w.heap.size + 1 := by simp
  rw [hs1] at hP
  have hK := hk0.below bZ
  have hF := hvf.below bZ
  clear hX bX bY hI h hk0 hvf hs1
  generalize sv9 vR vS vD fr to cut = A at bZ hB1 hP hK hF y3 y4 ⊢
  have HB : Hid _ := hB1
  have HW : Hid _ := bZ
  have HP : Hid _ := hP
  have HK : Hid _ := hK
  have HF0 : Hid _ := hF
  clear hB1 bZ hP hK hF
  obtain ⟨xf, cf, ef⟩ : ∃ x c, vf = .slice x nf c := Rb.form9 HF0.out
  subst ef
  go_enter Try.func9, Try.ntmps9
  go_wp2
  clear y3 y4
  generalize (w.alloc (.cells A 24)).alloc (.cells #[.int .i64 fr, .int .i64 to] 30) = x0 at HB HW HP HK HF0 ⊢
  generalize w.heap.size + 1 = gp at HP ⊢
  have HS : Hid (Below x0.heap.size x0 x0 ∧ x0.heap.size ≤ x0.heap.size) := ⟨Below.refl _ _, Nat.le_refl _⟩
  refine region_planI (fun w' => w'.cell? ⟨w.heap.size, 0, none⟩ = some (vR) ∧ w'.cell? ⟨w.heap.size, 1, none⟩ = some (vS) ∧ w'.cell? ⟨w.heap.size, 2, none⟩ = some (vD)) [0, 1, 3, 4, 6, 7, 2, 5, 8, 9, 10, 11] [6, 0, 0, 3] 199 ⟨(HB.out.below HS.out.1).bx.cell rfl, (HB.out.below HS.out.1).bx.cell rfl, (HB.out.below HS.out.1).bx.cell rfl⟩ (by kernel_rfl) (by kernel_rfl) (fun _ a d v _ h => by cases d <;> exact h) ?_
  simp only [atI, List.getElem?_cons_zero, List.getElem?_cons_succ]
  have c1 := copies9_any vR mR nR RR x0.drew (by exact (HB.out.below HS.out.1).iq.rows) (HB.out.iq.rowsl) (HB.out.iq.rowsn)
  refine planH_step ?A1 rfl (fun w' hS => ?s1) rfl (fun K hK => ?n1)
  case s1 =>
    obtain ⟨y0, y1, y2⟩ := hS
    simp only [List.take_succ_cons, List.take_zero]
    repeat still_step
    exact rfl
  case n1 =>
  go_simp
  go_wp2_with (go_at_call 10; (with_reducible refine c1.mono ?_); rintro e x1 ⟨v1, B1, rfl, r1, bb⟩)
  clear c1
  have b1 := Below.undraw bb
  clear bb
  replace HS : Hid ((Below x0.heap.size x0 x1) ∧ (x0.heap.size ≤ x0.heap.size) ∧ (Cs x0.heap.size x1.heap.size x1 v1 mR nR nR B1 RR) ∧ (x0.heap.size ≤ x1.heap.size)) := ⟨(HS.out.1).trans ((b1).mono (HS.out.1).size), HS.out.2, r1, b1.size⟩
  clear b1
  refine hK _ _ ⟨(HB.out.below HS.out.1).bx.cell rfl, (HB.out.below HS.out.1).bx.cell rfl, (HB.out.below HS.out.1).bx.cell rfl⟩ ?_
  clear hK K
  clear r1
  have c2 := copies9_any vS mS nS SS x1 (by exact (HB.out.below HS.out.1).iq.srcs) (HB.out.iq.srcsl) (HB.out.iq.srcsn)
  refine planH_step ?A2 rfl (fun w' hS => ?s2) rfl (fun K hK => ?n2)
  case s2 =>
    obtain ⟨y0, y1, y2⟩ := hS
    simp only [List.take_zero]
    exact rfl
  case n2 =>
  go_simp
  go_wp2_with (go_at_call 10; (with_reducible refine c2.mono ?_); rintro e x2 ⟨v2, B2, rfl, r2, bb⟩)
  clear c2
  have b2 := bb
  clear bb
  replace HS : Hid ((Below x0.heap.size x0 x2) ∧ (x0.heap.size ≤ x0.heap.size) ∧ (Cs x0.heap.size x1.heap.size x2 v1 mR nR nR B1 RR) ∧ (x0.heap.size ≤ x1.heap.size) ∧ (Cs x1.heap.size x2.heap.size x2 v2 mS nS nS B2 SS) ∧ (x1.heap.size ≤ x2.heap.size)) := ⟨(HS.out.1).trans ((b2).mono (HS.out.1).size), HS.out.2.1, (HS.out.2.2.1).below (b2), HS.out.2.2.2, r2, b2.size⟩
  clear b2
  refine hK _ _ ⟨(HB.out.below HS.out.1).bx.cell rfl, (HB.out.below HS.out.1).bx.cell rfl, (HB.out.below HS.out.1).bx.cell rfl⟩ ?_
  clear hK K
  clear r2
  have c3 := copies9_any vD mD nD DD x2 (by exact (HB.out.below HS.out.1).iq.dsts) (HB.out.iq.dstsl) (HB.out.iq.dstsn)
  refine planH_step ?A3 rfl (fun w' hS => ?s3) rfl (fun K hK => ?n3)
  case s3 =>
    obtain ⟨y0, y1, y2⟩ := hS
    simp only [List.take_zero]
    exact rfl
  case n3 =>
  go_simp
  go_wp2_with (go_at_call 10; (with_reducible refine c3.mono ?_); rintro e x3 ⟨v3, B3, rfl, r3, bb⟩)
  clear c3
  have b3 := bb
  clear bb
  replace HS : Hid ((Below x0.heap.size x0 x3) ∧ (x0.heap.size ≤ x0.heap.size) ∧ (Cs x0.heap.size x1.heap.size x3 v1 mR nR nR B1 RR) ∧ (x0.heap.size ≤ x1.heap.size) ∧ (Cs x1.heap.size x2.heap.size x3 v2 mS nS nS B2 SS) ∧ (x1.heap.size ≤ x2.heap.size) ∧ (Cs x2.heap.size x3.heap.size x3 v3 mD nD nD B3 DD) ∧ (x2.heap.size ≤ x3.heap.size)) := ⟨(HS.out.1).trans ((b3).mono (HS.out.1).size), HS.out.2.1, (HS.out.2.2.1).below (b3), HS.out.2.2.2.1, (HS.out.2.2.2.2.1).below (b3), HS.out.2.2.2.2.2, r3, b3.size⟩
  clear b3
  refine hK _ _ ⟨(HB.out.below HS.out.1).bx.cell rfl, (HB.out.below HS.out.1).bx.cell rfl, (HB.out.below HS.out.1).bx.cell rfl⟩ ?_
  clear hK K
  clear r3
  refine planH_last ?A4 rfl (fun w' hS => ?s4) rfl ?n4
  case s4 =>
    obtain ⟨y0, y1, y2⟩ := hS
    simp only [List.take_succ_cons, List.take_zero]
    repeat still_step
    exact rfl
  case n4 =>
  have sp0 := (HP.out.below HS.out.1).c0
  have sp1 := (HP.out.below HS.out.1).c1
  obtain ⟨f_bel, f_bel0, f_rows, f_rowssz, f_srcs, f_srcssz, f_dsts, f_dstssz⟩ := HS.out
  have c5 := cs_apply (p := p) f_dsts ((f_rows).ll (fun q h1 h2 e => by have := e.1; have := e.2; omega)) ((f_srcs).ll (fun q h1 h2 e => by have := e.1; have := e.2; omega)) (Ks.below HK.out f_bel) (by have := Ks.hi (p := p) HK.out; omega) fr to HB.out.iq.rowsl HB.out.iq.srcsl HB.out.iq.dstsl
  clear f_bel f_bel0 f_rows f_rowssz f_srcs f_srcssz f_dsts f_dstssz
  go_wp2_with (go_at_call 11; (with_reducible refine c5.mono ?_); rintro e x5 ⟨rfl, hk, hC⟩; clear c5; obtain ⟨f_bel, f_bel0, f_rows, f_rowssz, f_srcs, f_srcssz, f_dsts, f_dstssz⟩ := HS.out; replace HS : Hid ((Below x0.heap.size x0 x5) ∧ (x0.heap.size ≤ x0.heap.size) ∧ (Cs x0.heap.size x1.heap.size x5 v1 mR nR nR B1 RR) ∧ (x0.heap.size ≤ x1.heap.size) ∧ (Cs x1.heap.size x2.heap.size x5 v2 mS nS nS B2 SS) ∧ (x1.heap.size ≤ x2.heap.size) ∧ (Cs x2.heap.size x3.heap.size x5 v3 mD nD nD B3 (ap9 mR mS mD nR nS nD fr to RR SS DD)) ∧ (x2.heap.size ≤ x3.heap.size) ∧ (x3.heap.size ≤ x5.heap.size)) := ⟨f_bel.trans (hk.below (fun q hq => by have := hq.1; omega) f_bel.size), f_bel0, f_rows.keep hk (fun q h1 h2 e => by have := e.1; have := e.2; omega), f_rowssz, f_srcs.keep hk (fun q h1 h2 e => by have := e.1; have := e.2; omega), f_srcssz, hC, f_dstssz, hk.size⟩; clear hk hC f_bel f_bel0 f_rows f_rowssz f_srcs f_srcssz f_dsts f_dstssz; clear sp0 sp1; have sp0 := (HP.out.below HS.out.1).c0; have sp1 := (HP.out.below HS.out.1).c1)
  obtain ⟨bo, hbo⟩ : ∃ bo : Bool, bo = decide (fit9 mR mS mD nR nS nD fr to = 0) := ⟨_, rfl⟩
  have HO : Hid (bo = true ↔ fit9 mR mS mD nR nS nD fr to = 0) := by rw [hbo]; exact decide_eq_true_iff
  have E0 : (((fit9 mR mS mD nR nS nD fr to : Nat) : Int) == 0) = bo := by
    rw [hbo]
    by_cases e : fit9 mR mS mD nR nS nD fr to = 0
    · rw [e]; rfl
    · rw [decide_eq_false e]; simpa using (fun h => e (Int.ofNat.inj h) : ¬ ((fit9 mR mS mD nR nS nD fr to : Nat) : Int) = 0)
  clear hbo
  obtain ⟨a_rows, c_rows, e_rows, -⟩ := (HS.out.2.2.1).form
  subst e_rows
  obtain ⟨a_srcs, c_srcs, e_srcs, -⟩ := (HS.out.2.2.2.2.1).form
  subst e_srcs
  obtain ⟨a_dsts, c_dsts, e_dsts, -⟩ := (HS.out.2.2.2.2.2.2.1).form
  subst e_dsts
  obtain ⟨f_bel, f_bel0, f_rows, f_rowssz, f_srcs, f_srcssz, f_dsts, f_dstssz, f_szap5⟩ := HS.out
  have c6 := kagrees_any p bk klo khi mR mS mD nR nS nD (RR) (SS) (ap9 mR mS mD nR nS nD fr to RR SS DD) fr to (.slice a_rows mR c_rows) (.slice a_srcs mS c_srcs) (.slice a_dsts mD c_dsts) x5 (Ks.below HK.out f_bel) (by have := HB.out.iq.rowsl; omega) (by have := HB.out.iq.srcsl; omega) (by have := HB.out.iq.dstsl; omega) HB.out.iq.srcsn HB.out.iq.dstsn f_rows.lb f_srcs.lb f_dsts.lb
  clear f_bel f_bel0 f_rows f_rowssz f_srcs f_srcssz f_dsts f_dstssz f_szap5
  go_wp2_with (go_at_call 41; (with_reducible refine c6.mono ?_); rintro e x6 ⟨ba, rfl, hba, bb⟩; clear c6; obtain rfl : bo = ba := Eq.symm (Bool.eq_iff_iff.2 (hba.trans (Iff.trans ⟨fun h => h.1, fun h => ⟨h, fun r _ t h1 h2 => by unfold ap9; rw [if_pos ⟨h, h1, h2⟩]⟩⟩ HO.out.symm))); clear hba; replace HS : Hid ((Below x0.heap.size x0 x6) ∧ (x0.heap.size ≤ x0.heap.size) ∧ (Cs x0.heap.size x1.heap.size x6 (.slice a_rows mR c_rows) mR nR nR B1 RR) ∧ (x0.heap.size ≤ x1.heap.size) ∧ (Cs x1.heap.size x2.heap.size x6 (.slice a_srcs mS c_srcs) mS nS nS B2 SS) ∧ (x1.heap.size ≤ x2.heap.size) ∧ (Cs x2.heap.size x3.heap.size x6 (.slice a_dsts mD c_dsts) mD nD nD B3 (ap9 mR mS mD nR nS nD fr to RR SS DD)) ∧ (x2.heap.size ≤ x3.heap.size) ∧ (x3.heap.size ≤ x5.heap.size) ∧ (x5.heap.size ≤ x6.heap.size)) := ⟨(HS.out.1).trans ((bb).mono (HS.out.1).size), HS.out.2.1, (HS.out.2.2.1).below (bb), HS.out.2.2.2.1, (HS.out.2.2.2.2.1).below (bb), HS.out.2.2.2.2.2.1, (HS.out.2.2.2.2.2.2.1).below (bb), HS.out.2.2.2.2.2.2.2.1, HS.out.2.2.2.2.2.2.2.2, bb.size⟩; clear bb; clear sp0 sp1; have sp0 := (HP.out.below HS.out.1).c0; have sp1 := (HP.out.below HS.out.1).c1)
  have hmR : mR ≤ 140737488351232 := by have := HB.out.iq.rowsl; omega
  have HN : Hid (∀ i, i < mR → nR i ≤ 140737488351232) := HB.out.iq.rowsn
  go_loopw [65] (fun i wr => ∃ k T, k ≤ mR ∧ i = .int .i64 (k : Nat) ∧ Ke (In x0.heap.size x1.heap.size) x6 wr ∧ Cs x0.heap.size x1.heap.size wr (.slice a_rows mR c_rows) mR nR nR B1 T) (fun i _ => mR - (intOf i).toNat)
  case atStart => exact ⟨0, RR, Nat.zero_le _, rfl, Ke.refl _ _, HS.out.2.2.1⟩
  case round =>
    obtain ⟨k, RR2, hk, rfl, hke, hC⟩ := hrel
    by_cases hlt : k < mR
    case pos =>
      have W1 := wrap_succ8 (j := k) (by unfold big; omega)
      obtain ⟨av, cv, ev, -, -, hfv⟩ := hC.form
      cases ev
      obtain ⟨gv, rfl, gv1, gv2, gv3, gv4⟩ := hfv (by omega)
      have p1 := gv4 k hlt
      have ib : ((k : Nat) : Int) < (mR : Int) := by omega
      have HC : Hid _ := hC
      have HE : Hid _ := hke
      clear hfv gv4 hC hke
      go_wp2
      go_loopw [73] (fun i wz => ∃ t T, t ≤ nR k ∧ i = .int .i64 (t : Nat) ∧ Ke (In x0.heap.size x1.heap.size) x6 wz ∧ Cs x0.heap.size x1.heap.size wz (.slice (some ⟨gv, 0, none⟩) mR c_rows) mR nR nR B1 T) (fun i _ => nR k - (intOf i).toNat)
      case atStart => exact ⟨0, RR2, Nat.zero_le _, rfl, HE.out, HC.out⟩
      case round =>
        clear p1 HC HE
        obtain ⟨t, T2, ht, rfl, hke, hC⟩ := hrel
        by_cases hlt2 : t < nR k
        case pos =>
          have hnk := HN.out k hlt
          have W2 := wrap_succ8 (j := t) (by unfold big; omega)
          obtain ⟨av, cv, ev, -, -, hfv⟩ := hC.form
          cases ev
          obtain ⟨gv', eg, gv1', gv2', gv3', gv4'⟩ := hfv (by omega)
          cases eg
          have p1 := gv4' k hlt
          have hrow := hC.row k hlt
          have p2 := hrow.2.2.2.2.2.cell (i := t) hlt2
          have p3 := hrow.2.2.2.2.2.frozen t
          have hTl := hrow.2.2.2.2.1 t hlt2
          have ib2 : ((t : Nat) : Int) < (nR k : Int) := by omega
          have HC : Hid _ := hC
          have HE : Hid _ := hke
          have X : bits .xor .u8 ((T2 k t : Nat) : Int) (((t : Int) + (k : Int) + (nf : Int)) % 256) = ((T2 k t ^^^ ((t + k + nf) % 256) : Nat) : Int) := by
            rw [show ((t : Int) + (k : Int) + (nf : Int)) % 256 = (((t + k + nf) % 256 : Nat) : Int) by omega]
            exact u8_xor_nat _ _ hTl (Nat.mod_lt _ (by decide))
          have hC2 := hC.set (r := k) (j := t) hlt (Nat.xor_lt_two_pow (n := 8) hTl (Nat.mod_lt (t + k + nf) (by decide : 0 < 256)))
          have hE2 : Ke (In x0.heap.size x1.heap.size) x6 (wr.setCell ⟨B1 k, t, none⟩ (.int .u8 ((T2 k t ^^^ ((t + k + nf) % 256) : Nat) : Int))) := Ke.trans hke (((Only.refl (B1 k) wr).setCell t _).kp.ke.mono (fun z _ e => by subst e; exact ⟨hrow.1, hrow.2.1⟩))
          have HC2 : Hid _ := hC2
          have HE2 : Hid _ := hE2
          clear hfv gv4' hC hke hrow gv3' hC2 hE2 hTl
          go_wp2
          go_roundw
          case rel => exact ⟨t + 1, _, hlt2, by first | rfl | (rw [W2]; rfl), HE2.out, HC2.out⟩
          case measure => first | exact meas_lt8 hlt2 | (rw [W2]; exact meas_lt8 hlt2)
        case neg =>
          have ib2 : ¬ ((t : Nat) : Int) < (nR k : Int) := by omega
          have HC : Hid _ := hC
          have HE : Hid _ := hke
          clear hC hke
          go_wp2
          go_roundw
          case rel => exact ⟨k + 1, T2, hlt, by first | rfl | (rw [W1]; rfl), HE.out, HC.out⟩
          case measure => first | exact meas_lt8 hlt | (rw [W1]; exact meas_lt8 hlt)
    case neg =>
    have ib0 : ¬ ((k : Nat) : Int) < (mR : Int) := by omega
    have HC : Hid _ := hC
    have HE : Hid _ := hke
    clear hC hke
    obtain ⟨x7, rfl⟩ : ∃ x, x = wr := ⟨_, rfl⟩
    obtain ⟨f_bel, f_bel0, f_rows, f_rowssz, f_srcs, f_srcssz, f_dsts, f_dstssz, f_szap5, f_szag6⟩ := HS.out
    replace HS : Hid ((Below x0.heap.size x0 x7) ∧ (x0.heap.size ≤ x0.heap.size) ∧ (Cs x0.heap.size x1.heap.size x7 (.slice a_rows mR c_rows) mR nR nR B1 RR2) ∧ (x0.heap.size ≤ x1.heap.size) ∧ (Cs x1.heap.size x2.heap.size x7 (.slice a_srcs mS c_srcs) mS nS nS B2 SS) ∧ (x1.heap.size ≤ x2.heap.size) ∧ (Cs x2.heap.size x3.heap.size x7 (.slice a_dsts mD c_dsts) mD nD nD B3 (ap9 mR mS mD nR nS nD fr to RR SS DD)) ∧ (x2.heap.size ≤ x3.heap.size) ∧ (x3.heap.size ≤ x5.heap.size) ∧ (x5.heap.size ≤ x6.heap.size) ∧ (x6.heap.size ≤ x7.heap.size)) := ⟨f_bel.trans (Ke.below HE.out (fun q hq => by have := hq.1; omega) f_bel.size), f_bel0, HC.out, f_rowssz, f_srcs.keep HE.out (fun q h1 h2 e => by have := e.1; have := e.2; omega), f_srcssz, f_dsts.keep HE.out (fun q h1 h2 e => by have := e.1; have := e.2; omega), f_dstssz, f_szap5, f_szag6, Ke.size HE.out⟩
    clear HC HE f_bel f_bel0 f_rows f_rowssz f_srcs f_srcssz f_dsts f_dstssz f_szap5 f_szag6
    have hmS : mS ≤ 140737488351232 := by have := HB.out.iq.srcsl; omega
    have HN2 : Hid (∀ i, i < mS → nS i ≤ 140737488351232) := HB.out.iq.srcsn
    go_wp2
    clear ib0 hlt
    go_loopw [96] (fun i wr => ∃ k T, k ≤ mS ∧ i = .int .i64 (k : Nat) ∧ Ke (In x1.heap.size x2.heap.size) x7 wr ∧ Cs x1.heap.size x2.heap.size wr (.slice a_srcs mS c_srcs) mS nS nS B2 T) (fun i _ => mS - (intOf i).toNat)
    case atStart => exact ⟨0, SS, Nat.zero_le _, rfl, Ke.refl _ _, HS.out.2.2.2.2.1⟩
    case round =>
      obtain ⟨k2, SS2, hk2, rfl, hke, hC⟩ := hrel
      by_cases hlt : k2 < mS
      case pos =>
        have W1 := wrap_succ8 (j := k2) (by unfold big; omega)
        obtain ⟨av, cv, ev, -, -, hfv⟩ := hC.form
        cases ev
        obtain ⟨gv, rfl, gv1, gv2, gv3, gv4⟩ := hfv (by omega)
        have p1 := gv4 k2 hlt
        have ib : ((k2 : Nat) : Int) < (mS : Int) := by omega
        have HC : Hid _ := hC
        have HE : Hid _ := hke
        clear hfv gv4 hC hke
        go_wp2
        go_loopw [104] (fun i wz => ∃ t T, t ≤ nS k2 ∧ i = .int .i64 (t : Nat) ∧ Ke (In x1.heap.size x2.heap.size) x7 wz ∧ Cs x1.heap.size x2.heap.size wz (.slice (some ⟨gv, 0, none⟩) mS c_srcs) mS nS nS B2 T) (fun i _ => nS k2 - (intOf i).toNat)
        case atStart => exact ⟨0, SS2, Nat.zero_le _, rfl, HE.out, HC.out⟩
        case round =>
          clear p1 HC HE
          obtain ⟨t, T2, ht, rfl, hke, hC⟩ := hrel
          by_cases hlt2 : t < nS k2
          case pos =>
            have hnk := HN2.out k2 hlt
            have W2 := wrap_succ8 (j := t) (Nat.lt_of_lt_of_le hlt2 (Nat.le_trans hnk (by unfold big; decide)))
            have ib2 : ((t : Nat) : Int) < (nS k2 : Int) := Int.ofNat_lt.2 hlt2
            by_cases hd : t < nf
            case neg =>
              have ib3 : ¬ ((t : Nat) : Int) < (nf : Int) := fun h => hd (Int.ofNat_lt.1 h)
              have HC : Hid _ := hC
              have HE : Hid _ := hke
              clear hC hke
              go_wp2
              go_roundw
              case rel => exact ⟨t + 1, T2, hlt2, by first | rfl | (rw [W2]; rfl), HE.out, HC.out⟩
              case measure => first | exact meas_lt8 hlt2 | (rw [W2]; exact meas_lt8 hlt2)
            case pos =>
            have ib3 : ((t : Nat) : Int) < (nf : Int) := Int.ofNat_lt.2 hd
            obtain ⟨av, cv, ev, -, -, hfv⟩ := hC.form
            cases ev
            obtain ⟨gv', eg, gv1', gv2', gv3', gv4'⟩ := hfv (Nat.lt_of_le_of_lt (Nat.zero_le _) hlt)
            cases eg
            have p1 := gv4' k2 hlt
            have hrow := hC.row k2 hlt
            have p2 := hrow.2.2.2.2.2.cell (i := t) hlt2
            have p3 := hrow.2.2.2.2.2.frozen t
            have hTl := hrow.2.2.2.2.1 t hlt2
            obtain ⟨-, d2, xf', cf', ef', -, -, d4⟩ := HF0.out
            cases ef'
            obtain ⟨bf, of, rfl, hbf, hcf⟩ := d4 (Nat.lt_of_le_of_lt (Nat.zero_le _) hd)
            have hbw : Below x0.heap.size x0 wr := HS.out.1.trans (Ke.below hke (fun q hq => by have := hq.1; have := HS.out.2.2.2.1; omega) HS.out.1.size)
            have p4 := (hbw.cell (p := ⟨bf, of + t, none⟩) hbf).trans (hcf t hd)
            have hFl := d2 t hd
            have X : bits .xor .u8 ((T2 k2 t : Nat) : Int) ((((Ff t : Nat) : Int) + (k2 : Int)) % 256) = ((T2 k2 t ^^^ ((Ff t + k2) % 256) : Nat) : Int) := by
              rw [show (((Ff t : Nat) : Int) + (k2 : Int)) % 256 = (((Ff t + k2) % 256 : Nat) : Int) from by simp]
              exact u8_xor_nat _ _ hTl (Nat.mod_lt _ (by decide))
            have hC2 := (hC.set (r := k2) (j := t) hlt (Nat.xor_lt_two_pow (n := 8) hTl (Nat.mod_lt (Ff t + k2) (by decide : 0 < 256)))).drew
            have hE2 : Ke (In x1.heap.size x2.heap.size) x7 (wr.setCell ⟨B2 k2, t, none⟩ (.int .u8 ((T2 k2 t ^^^ ((Ff t + k2) % 256) : Nat) : Int))).drew := (Ke.trans hke (((Only.refl (B2 k2) wr).setCell t _).kp.ke.mono (fun z _ e => by subst e; exact ⟨hrow.1, hrow.2.1⟩))).drew
            have HC2 : Hid _ := hC2
            have HE2 : Hid _ := hE2
            clear hfv gv4' hC hke hrow gv3' hTl hFl hC2 hE2 d2 d4 hcf hbw hd gv1 gv2 gv3 gv1' gv2' hnk ht hbf
            go_wp2
            refine region_tail8 16 (by kernel_rfl) (by kernel_rfl) ?_
            simp only [List.take_succ_cons, List.take_zero, List.drop_succ_cons, List.drop_zero]
            repeat still_step
            refine wpStill_nil ?_
            go_wp2
            go_roundw
            case rel => exact ⟨t + 1, _, hlt2, by first | rfl | (rw [W2]; rfl), HE2.out, HC2.out⟩
            case measure => first | exact meas_lt8 hlt2 | (rw [W2]; exact meas_lt8 hlt2)
          case neg =>
            have ib2 : ¬ ((t : Nat) : Int) < (nS k2 : Int) := fun h => hlt2 (Int.ofNat_lt.1 h)
            have HC : Hid _ := hC
            have HE : Hid _ := hke
            clear hC hke
            go_wp2
            go_roundw
            case rel => exact ⟨k2 + 1, T2, hlt, by first | rfl | (rw [W1]; rfl), HE.out, HC.out⟩
            case measure => first | exact meas_lt8 hlt | (rw [W1]; exact meas_lt8 hlt)
      case neg =>
        have ib0 : ¬ ((k2 : Nat) : Int) < (mS : Int) := fun h => hlt (Int.ofNat_lt.1 h)
        have HC : Hid _ := hC
        have HE : Hid _ := hke
        clear hC hke
        obtain ⟨x8, rfl⟩ : ∃ x, x = wr := ⟨_, rfl⟩
        obtain ⟨f_bel, f_bel0, f_rows, f_rowssz, f_srcs, f_srcssz, f_dsts, f_dstssz, f_szap5, f_szag6, f_sztrows⟩ := HS.out
        replace HS : Hid ((Below x0.heap.size x0 x8) ∧ (x0.heap.size ≤ x0.heap.size) ∧ (Cs x0.heap.size x1.heap.size x8 (.slice a_rows mR c_rows) mR nR nR B1 RR2) ∧ (x0.heap.size ≤ x1.heap.size) ∧ (Cs x1.heap.size x2.heap.size x8 (.slice a_srcs mS c_srcs) mS nS nS B2 SS2) ∧ (x1.heap.size ≤ x2.heap.size) ∧ (Cs x2.heap.size x3.heap.size x8 (.slice a_dsts mD c_dsts) mD nD nD B3 (ap9 mR mS mD nR nS nD fr to RR SS DD)) ∧ (x2.heap.size ≤ x3.heap.size) ∧ (x3.heap.size ≤ x5.heap.size) ∧ (x5.heap.size ≤ x6.heap.size) ∧ (x6.heap.size ≤ x7.heap.size) ∧ (x7.heap.size ≤ x8.heap.size)) := ⟨f_bel.trans (Ke.below HE.out (fun q hq => by have := hq.1; omega) f_bel.size), f_bel0, f_rows.keep HE.out (fun q h1 h2 e => by have := e.1; have := e.2; omega), f_rowssz, HC.out, f_srcssz, f_dsts.keep HE.out (fun q h1 h2 e => by have := e.1; have := e.2; omega), f_dstssz, f_szap5, f_szag6, f_sztrows, Ke.size HE.out⟩
        clear HC HE f_bel f_bel0 f_rows f_rowssz f_srcs f_srcssz f_dsts f_dstssz f_szap5 f_szag6 f_sztrows
        have c9 := copies9_any (.slice a_dsts mD c_dsts) mD nD (ap9 mR mS mD nR nS nD fr to RR SS DD) x8 (HS.out.2.2.2.2.2.2.1).lb HB.out.iq.dstsl HB.out.iq.dstsn
        clear sp0 sp1
        go_wp2_with (go_at_call 10; (with_reducible refine c9.mono ?_); rintro e x9 ⟨v9, B9, rfl, r9, bb⟩; clear c9; replace HS : Hid ((Below x0.heap.size x0 x9) ∧ (x0.heap.size ≤ x0.heap.size) ∧ (Cs x0.heap.size x1.heap.size x9 (.slice a_rows mR c_rows) mR nR nR B1 RR2) ∧ (x0.heap.size ≤ x1.heap.size) ∧ (Cs x1.heap.size x2.heap.size x9 (.slice a_srcs mS c_srcs) mS nS nS B2 SS2) ∧ (x1.heap.size ≤ x2.heap.size) ∧ (Cs x2.heap.size x3.heap.size x9 (.slice a_dsts mD c_dsts) mD nD nD B3 (ap9 mR mS mD nR nS nD fr to RR SS DD)) ∧ (x2.heap.size ≤ x3.heap.size) ∧ (x3.heap.size ≤ x5.heap.size) ∧ (x5.heap.size ≤ x6.heap.size) ∧ (x6.heap.size ≤ x7.heap.size) ∧ (x7.heap.size ≤ x8.heap.size) ∧ (Cs x8.heap.size x9.heap.size x9 v9 mD nD nD B9 (ap9 mR mS mD nR nS nD fr to RR SS DD)) ∧ (x8.heap.size ≤ x9.heap.size)) := ⟨(HS.out.1).trans ((bb).mono (HS.out.1).size), HS.out.2.1, (HS.out.2.2.1).below (bb), HS.out.2.2.2.1, (HS.out.2.2.2.2.1).below (bb), HS.out.2.2.2.2.2.1, (HS.out.2.2.2.2.2.2.1).below (bb), HS.out.2.2.2.2.2.2.2.1, HS.out.2.2.2.2.2.2.2.2.1, HS.out.2.2.2.2.2.2.2.2.2.1, HS.out.2.2.2.2.2.2.2.2.2.2.1, HS.out.2.2.2.2.2.2.2.2.2.2.2, r9, bb.size⟩; clear bb r9)
        clear ib0 hlt
        refine region_planI (fun w' => w'.cell? ⟨gp, 0, none⟩ = some (.int .i64 fr) ∧ w'.cell? ⟨gp, 1, none⟩ = some (.int .i64 to)) [0, 1, 3, 5, 6, 2, 4, 7, 8] [5, 0, 0, 1] 199 ⟨(HP.out.below HS.out.1).c0, (HP.out.below HS.out.1).c1⟩ (by kernel_rfl) (by kernel_rfl) (fun _ a d v _ h => by cases d <;> exact h) ?_
        simp only [atI, List.getElem?_cons_zero, List.getElem?_cons_succ]
        have c10 := copies9_any (.slice a_rows mR c_rows) mR nR RR2 x9.drew (by exact (HS.out.2.2.1).lb) HB.out.iq.rowsl HB.out.iq.rowsn
        refine planH_step ?A10 rfl (fun w' hS => ?s10) rfl (fun K hK => ?n10)
        case s10 =>
          obtain ⟨y0, y1⟩ := hS
          simp only [List.take_succ_cons, List.take_zero]
          repeat still_step
          exact rfl
        case n10 =>
        go_simp
        go_wp2_with (go_at_call 10; (with_reducible refine c10.mono ?_); rintro e x10 ⟨v10, B10, rfl, r10, bb⟩)
        clear c10
        have b10 := Below.undraw bb
        clear bb
        replace HS : Hid ((Below x0.heap.size x0 x10) ∧ (x0.heap.size ≤ x0.heap.size) ∧ (Cs x0.heap.size x1.heap.size x10 (.slice a_rows mR c_rows) mR nR nR B1 RR2) ∧ (x0.heap.size ≤ x1.heap.size) ∧ (Cs x1.heap.size x2.heap.size x10 (.slice a_srcs mS c_srcs) mS nS nS B2 SS2) ∧ (x1.heap.size ≤ x2.heap.size) ∧ (Cs x2.heap.size x3.heap.size x10 (.slice a_dsts mD c_dsts) mD nD nD B3 (ap9 mR mS mD nR nS nD fr to RR SS DD)) ∧ (x2.heap.size ≤ x3.heap.size) ∧ (x3.heap.size ≤ x5.heap.size) ∧ (x5.heap.size ≤ x6.heap.size) ∧ (x6.heap.size ≤ x7.heap.size) ∧ (x7.heap.size ≤ x8.heap.size) ∧ (Cs x8.heap.size x9.heap.size x10 v9 mD nD nD B9 (ap9 mR mS mD nR nS nD fr to RR SS DD)) ∧ (x8.heap.size ≤ x9.heap.size) ∧ (Cs x9.heap.size x10.heap.size x10 v10 mR nR nR B10 RR2) ∧ (x9.heap.size ≤ x10.heap.size)) := ⟨(HS.out.1).trans ((b10).mono (HS.out.1).size), HS.out.2.1, (HS.out.2.2.1).below (b10), HS.out.2.2.2.1, (HS.out.2.2.2.2.1).below (b10), HS.out.2.2.2.2.2.1, (HS.out.2.2.2.2.2.2.1).below (b10), HS.out.2.2.2.2.2.2.2.1, HS.out.2.2.2.2.2.2.2.2.1, HS.out.2.2.2.2.2.2.2.2.2.1, HS.out.2.2.2.2.2.2.2.2.2.2.1, HS.out.2.2.2.2.2.2.2.2.2.2.2.1, (HS.out.2.2.2.2.2.2.2.2.2.2.2.2.1).below (b10), HS.out.2.2.2.2.2.2.2.2.2.2.2.2.2, r10, b10.size⟩
        clear b10
        refine hK _ _ ⟨(HP.out.below HS.out.1).c0, (HP.out.below HS.out.1).c1⟩ ?_
        clear hK K
        clear r10
        have c11 := copies9_any (.slice a_srcs mS c_srcs) mS nS SS2 x10 (by exact (HS.out.2.2.2.2.1).lb) HB.out.iq.srcsl HB.out.iq.srcsn
        refine planH_step ?A11 rfl (fun w' hS => ?s11) rfl (fun K hK => ?n11)
        case s11 =>
          obtain ⟨y0, y1⟩ := hS
          simp only [List.take_zero]
          exact rfl
        case n11 =>
        go_simp
        go_wp2_with (go_at_call 10; (with_reducible refine c11.mono ?_); rintro e x11 ⟨v11, B11, rfl, r11, bb⟩)
        clear c11
        have b11 := bb
        clear bb
        replace HS : Hid ((Below x0.heap.size x0 x11) ∧ (x0.heap.size ≤ x0.heap.size) ∧ (Cs x0.heap.size x1.heap.size x11 (.slice a_rows mR c_rows) mR nR nR B1 RR2) ∧ (x0.heap.size ≤ x1.heap.size) ∧ (Cs x1.heap.size x2.heap.size x11 (.slice a_srcs mS c_srcs) mS nS nS B2 SS2) ∧ (x1.heap.size ≤ x2.heap.size) ∧ (Cs x2.heap.size x3.heap.size x11 (.slice a_dsts mD c_dsts) mD nD nD B3 (ap9 mR mS mD nR nS nD fr to RR SS DD)) ∧ (x2.heap.size ≤ x3.heap.size) ∧ (x3.heap.size ≤ x5.heap.size) ∧ (x5.heap.size ≤ x6.heap.size) ∧ (x6.heap.size ≤ x7.heap.size) ∧ (x7.heap.size ≤ x8.heap.size) ∧ (Cs x8.heap.size x9.heap.size x11 v9 mD nD nD B9 (ap9 mR mS mD nR nS nD fr to RR SS DD)) ∧ (x8.heap.size ≤ x9.heap.size) ∧ (Cs x9.heap.size x10.heap.size x11 v10 mR nR nR B10 RR2) ∧ (x9.heap.size ≤ x10.heap.size) ∧ (Cs x10.heap.size x11.heap.size x11 v11 mS nS nS B11 SS2) ∧ (x10.heap.size ≤ x11.heap.size)) := ⟨(HS.out.1).trans ((b11).mono (HS.out.1).size), HS.out.2.1, (HS.out.2.2.1).below (b11), HS.out.2.2.2.1, (HS.out.2.2.2.2.1).below (b11), HS.out.2.2.2.2.2.1, (HS.out.2.2.2.2.2.2.1).below (b11), HS.out.2.2.2.2.2.2.2.1, HS.out.2.2.2.2.2.2.2.2.1, HS.out.2.2.2.2.2.2.2.2.2.1, HS.out.2.2.2.2.2.2.2.2.2.2.1, HS.out.2.2.2.2.2.2.2.2.2.2.2.1, (HS.out.2.2.2.2.2.2.2.2.2.2.2.2.1).below (b11), HS.out.2.2.2.2.2.2.2.2.2.2.2.2.2.1, (HS.out.2.2.2.2.2.2.2.2.2.2.2.2.2.2.1).below (b11), HS.out.2.2.2.2.2.2.2.2.2.2.2.2.2.2.2, r11, b11.size⟩
        clear b11
        refine hK _ _ ⟨(HP.out.below HS.out.1).c0, (HP.out.below HS.out.1).c1⟩ ?_
        clear hK K
        clear r11
        obtain ⟨f_bel, f_bel0, f_rows, f_rowssz, f_srcs, f_srcssz, f_dsts, f_dstssz, f_szap5, f_szag6, f_sztrows, f_sztsrcs, f_want, f_wantsz, f_cr, f_crsz, f_cs, f_cssz⟩ := HS.out
        have c12 := cs_apply (p := p) f_want ((f_cr).ll (fun q h1 h2 e => by have := e.1; have := e.2; omega)) ((f_cs).ll (fun q h1 h2 e => by have := e.1; have := e.2; omega)) (Ks.below HK.out f_bel) (by have := Ks.hi (p := p) HK.out; omega) (fr) (to) HB.out.iq.rowsl HB.out.iq.srcsl HB.out.iq.dstsl
        clear f_bel f_bel0 f_rows f_rowssz f_srcs f_srcssz f_dsts f_dstssz f_szap5 f_szag6 f_sztrows f_sztsrcs f_want f_wantsz f_cr f_crsz f_cs f_cssz
        refine planH_step ?A12 rfl (fun w' hS => ?s12) rfl (fun K hK => ?n12)
        case s12 =>
          obtain ⟨y0, y1⟩ := hS
          simp only [List.take_zero]
          exact rfl
        case n12 =>
        go_simp
        go_wp2_with (go_at_call 11; (with_reducible refine c12.mono ?_); rintro e x12 ⟨rfl, hk, hC⟩)
        clear c12
        obtain ⟨f_bel, f_bel0, f_rows, f_rowssz, f_srcs, f_srcssz, f_dsts, f_dstssz, f_szap5, f_szag6, f_sztrows, f_sztsrcs, f_want, f_wantsz, f_cr, f_crsz, f_cs, f_cssz⟩ := HS.out
        replace HS : Hid ((Below x0.heap.size x0 x12) ∧ (x0.heap.size ≤ x0.heap.size) ∧ (Cs x0.heap.size x1.heap.size x12 (.slice a_rows mR c_rows) mR nR nR B1 RR2) ∧ (x0.heap.size ≤ x1.heap.size) ∧ (Cs x1.heap.size x2.heap.size x12 (.slice a_srcs mS c_srcs) mS nS nS B2 SS2) ∧ (x1.heap.size ≤ x2.heap.size) ∧ (Cs x2.heap.size x3.heap.size x12 (.slice a_dsts mD c_dsts) mD nD nD B3 (ap9 mR mS mD nR nS nD fr to RR SS DD)) ∧ (x2.heap.size ≤ x3.heap.size) ∧ (x3.heap.size ≤ x5.heap.size) ∧ (x5.heap.size ≤ x6.heap.size) ∧ (x6.heap.size ≤ x7.heap.size) ∧ (x7.heap.size ≤ x8.heap.size) ∧ (Cs x8.heap.size x9.heap.size x12 v9 mD nD nD B9 (ap9 mR mS mD nR nS nD fr to RR2 SS2 (ap9 mR mS mD nR nS nD fr to RR SS DD))) ∧ (x8.heap.size ≤ x9.heap.size) ∧ (Cs x9.heap.size x10.heap.size x12 v10 mR nR nR B10 RR2) ∧ (x9.heap.size ≤ x10.heap.size) ∧ (Cs x10.heap.size x11.heap.size x12 v11 mS nS nS B11 SS2) ∧ (x10.heap.size ≤ x11.heap.size) ∧ (x11.heap.size ≤ x12.heap.size)) := ⟨f_bel.trans (hk.below (fun q hq => by have := hq.1; omega) f_bel.size), f_bel0, f_rows.keep hk (fun q h1 h2 e => by have := e.1; have := e.2; omega), f_rowssz, f_srcs.keep hk (fun q h1 h2 e => by have := e.1; have := e.2; omega), f_srcssz, f_dsts.keep hk (fun q h1 h2 e => by have := e.1; have := e.2; omega), f_dstssz, f_szap5, f_szag6, f_sztrows, f_sztsrcs, hC, f_wantsz, f_cr.keep hk (fun q h1 h2 e => by have := e.1; have := e.2; omega), f_crsz, f_cs.keep hk (fun q h1 h2 e => by have := e.1; have := e.2; omega), f_cssz, hk.size⟩
        clear hk hC f_bel f_bel0 f_rows f_rowssz f_srcs f_srcssz f_dsts f_dstssz f_szap5 f_szag6 f_sztrows f_sztsrcs f_want f_wantsz f_cr f_crsz f_cs f_cssz
        refine hK _ _ ⟨(HP.out.below HS.out.1).c0, (HP.out.below HS.out.1).c1⟩ ?_
        clear hK K
        refine planH_last ?A13 rfl (fun w' hS => ?s13) rfl ?n13
        case s13 =>
          obtain ⟨y0, y1⟩ := hS
          simp only [List.take_succ_cons, List.take_zero]
          repeat still_step
          exact rfl
        case n13 =>
        replace HS : Hid ((Below x0.heap.size x0 x12) ∧ (x0.heap.size ≤ x0.heap.size) ∧ (Cs x0.heap.size x1.heap.size x12 (.slice a_rows mR c_rows) mR nR nR B1 RR2) ∧ (x0.heap.size ≤ x1.heap.size) ∧ (Cs x1.heap.size x2.heap.size x12 (.slice a_srcs mS c_srcs) mS nS nS B2 SS2) ∧ (x1.heap.size ≤ x2.heap.size) ∧ (Cs x2.heap.size x3.heap.size x12 (.slice a_dsts mD c_dsts) mD nD nD B3 (ap9 mR mS mD nR nS nD fr to RR SS DD)) ∧ (x2.heap.size ≤ x3.heap.size) ∧ (x3.heap.size ≤ x5.heap.size) ∧ (x5.heap.size ≤ x6.heap.size) ∧ (x6.heap.size ≤ x7.heap.size) ∧ (x7.heap.size ≤ x8.heap.size) ∧ (Cs x8.heap.size x9.heap.size x12 v9 mD nD nD B9 (ap9 mR mS mD nR nS nD fr to RR2 SS2 (ap9 mR mS mD nR nS nD fr to RR SS DD))) ∧ (x8.heap.size ≤ x9.heap.size) ∧ (x9.heap.size ≤ x10.heap.size) ∧ (x10.heap.size ≤ x11.heap.size) ∧ (x11.heap.size ≤ x12.heap.size)) := ⟨HS.out.1, HS.out.2.1, HS.out.2.2.1, HS.out.2.2.2.1, HS.out.2.2.2.2.1, HS.out.2.2.2.2.2.1, HS.out.2.2.2.2.2.2.1, HS.out.2.2.2.2.2.2.2.1, HS.out.2.2.2.2.2.2.2.2.1, HS.out.2.2.2.2.2.2.2.2.2.1, HS.out.2.2.2.2.2.2.2.2.2.2.1, HS.out.2.2.2.2.2.2.2.2.2.2.2.1, HS.out.2.2.2.2.2.2.2.2.2.2.2.2.1, HS.out.2.2.2.2.2.2.2.2.2.2.2.2.2.1, HS.out.2.2.2.2.2.2.2.2.2.2.2.2.2.2.2.1, HS.out.2.2.2.2.2.2.2.2.2.2.2.2.2.2.2.2.2.1, HS.out.2.2.2.2.2.2.2.2.2.2.2.2.2.2.2.2.2.2⟩
        have sp0 := (HP.out.below HS.out.1).c0
        have sp1 := (HP.out.below HS.out.1).c1
        obtain ⟨aw, cw, ew, -⟩ := (HS.out.2.2.2.2.2.2.2.2.2.2.2.2.1).form
        subst ew
        obtain ⟨f_bel, f_bel0, f_rows, f_rowssz, f_srcs, f_srcssz, f_dsts, f_dstssz, f_szap5, f_szag6, f_sztrows, f_sztsrcs, f_want, f_wantsz, f_crsz, f_cssz, f_szap12⟩ := HS.out
        have c14 := kagrees_any p bk klo khi mR mS mD nR nS nD (RR2) (SS2) (ap9 mR mS mD nR nS nD fr to RR2 SS2 (ap9 mR mS mD nR nS nD fr to RR SS DD)) fr to (.slice a_rows mR c_rows) (.slice a_srcs mS c_srcs) (.slice aw mD cw) x12 (Ks.below HK.out f_bel) (by have := HB.out.iq.rowsl; omega) (by have := HB.out.iq.srcsl; omega) (by have := HB.out.iq.dstsl; omega) HB.out.iq.srcsn HB.out.iq.dstsn f_rows.lb f_srcs.lb f_want.lb
        clear f_bel f_bel0 f_rows f_rowssz f_srcs f_srcssz f_dsts f_dstssz f_szap5 f_szag6 f_sztrows f_sztsrcs f_want f_wantsz f_crsz f_cssz f_szap12
        go_wp2_with (go_at_call 41; (with_reducible refine c14.mono ?_); rintro e x14 ⟨bw, rfl, hbw, bb⟩; clear c14; obtain rfl : bo = bw := Eq.symm (Bool.eq_iff_iff.2 (hbw.trans (Iff.trans ⟨fun h => h.1, fun h => ⟨h, fun r _ t h1 h2 => by rw [ap9_in ⟨h, h1, h2⟩]⟩⟩ HO.out.symm))); clear hbw; replace HS : Hid ((Below x0.heap.size x0 x14) ∧ (x0.heap.size ≤ x0.heap.size) ∧ (Cs x0.heap.size x1.heap.size x14 (.slice a_rows mR c_rows) mR nR nR B1 RR2) ∧ (x0.heap.size ≤ x1.heap.size) ∧ (Cs x1.heap.size x2.heap.size x14 (.slice a_srcs mS c_srcs) mS nS nS B2 SS2) ∧ (x1.heap.size ≤ x2.heap.size) ∧ (Cs x2.heap.size x3.heap.size x14 (.slice a_dsts mD c_dsts) mD nD nD B3 (ap9 mR mS mD nR nS nD fr to RR SS DD)) ∧ (x2.heap.size ≤ x3.heap.size) ∧ (x3.heap.size ≤ x5.heap.size) ∧ (x5.heap.size ≤ x6.heap.size) ∧ (x6.heap.size ≤ x7.heap.size) ∧ (x7.heap.size ≤ x8.heap.size) ∧ (Cs x8.heap.size x9.heap.size x14 (.slice aw mD cw) mD nD nD B9 (ap9 mR mS mD nR nS nD fr to RR2 SS2 (ap9 mR mS mD nR nS nD fr to RR SS DD))) ∧ (x8.heap.size ≤ x9.heap.size) ∧ (x9.heap.size ≤ x10.heap.size) ∧ (x10.heap.size ≤ x11.heap.size) ∧ (x11.heap.size ≤ x12.heap.size) ∧ (x12.heap.size ≤ x14.heap.size)) := ⟨(HS.out.1).trans ((bb).mono (HS.out.1).size), HS.out.2.1, (HS.out.2.2.1).below (bb), HS.out.2.2.2.1, (HS.out.2.2.2.2.1).below (bb), HS.out.2.2.2.2.2.1, (HS.out.2.2.2.2.2.2.1).below (bb), HS.out.2.2.2.2.2.2.2.1, HS.out.2.2.2.2.2.2.2.2.1, HS.out.2.2.2.2.2.2.2.2.2.1, HS.out.2.2.2.2.2.2.2.2.2.2.1, HS.out.2.2.2.2.2.2.2.2.2.2.2.1, (HS.out.2.2.2.2.2.2.2.2.2.2.2.2.1).below (bb), HS.out.2.2.2.2.2.2.2.2.2.2.2.2.2.1, HS.out.2.2.2.2.2.2.2.2.2.2.2.2.2.2.1, HS.out.2.2.2.2.2.2.2.2.2.2.2.2.2.2.2.1, HS.out.2.2.2.2.2.2.2.2.2.2.2.2.2.2.2.2, bb.size⟩; clear bb; clear sp0 sp1; have sp0 := (HP.out.below HS.out.1).c0; have sp1 := (HP.out.below HS.out.1).c1)
        obtain ⟨f_bel, f_bel0, f_rows, f_rowssz, f_srcs, f_srcssz, f_dsts, f_dstssz, f_szap5, f_szag6, f_sztrows, f_sztsrcs, f_want, f_wantsz, f_crsz, f_cssz, f_szap12, f_szag14⟩ := HS.out
        have c15 := kagrees_any p bk klo khi mR mS mD nR nS nD (RR2) (SS2) (ap9 mR mS mD nR nS nD fr to RR SS DD) fr to (.slice a_rows mR c_rows) (.slice a_srcs mS c_srcs) (.slice a_dsts mD c_dsts) x14 (Ks.below HK.out f_bel) (by have := HB.out.iq.rowsl; omega) (by have := HB.out.iq.srcsl; omega) (by have := HB.out.iq.dstsl; omega) HB.out.iq.srcsn HB.out.iq.dstsn f_rows.lb f_srcs.lb f_dsts.lb
        clear f_bel f_bel0 f_rows f_rowssz f_srcs f_srcssz f_dsts f_dstssz f_szap5 f_szag6 f_sztrows f_sztsrcs f_want f_wantsz f_crsz f_cssz f_szap12 f_szag14
        go_wp2_with (go_at_call 41; (with_reducible refine c15.mono ?_); rintro e x15 ⟨bs, rfl, hbs, bb⟩; clear c15; have HBS : Hid _ := hbs; clear hbs; replace HS : Hid ((Below x0.heap.size x0 x15) ∧ (x0.heap.size ≤ x0.heap.size) ∧ (Cs x0.heap.size x1.heap.size x15 (.slice a_rows mR c_rows) mR nR nR B1 RR2) ∧ (x0.heap.size ≤ x1.heap.size) ∧ (Cs x1.heap.size x2.heap.size x15 (.slice a_srcs mS c_srcs) mS nS nS B2 SS2) ∧ (x1.heap.size ≤ x2.heap.size) ∧ (Cs x2.heap.size x3.heap.size x15 (.slice a_dsts mD c_dsts) mD nD nD B3 (ap9 mR mS mD nR nS nD fr to RR SS DD)) ∧ (x2.heap.size ≤ x3.heap.size) ∧ (x3.heap.size ≤ x5.heap.size) ∧ (x5.heap.size ≤ x6.heap.size) ∧ (x6.heap.size ≤ x7.heap.size) ∧ (x7.heap.size ≤ x8.heap.size) ∧ (Cs x8.heap.size x9.heap.size x15 (.slice aw mD cw) mD nD nD B9 (ap9 mR mS mD nR nS nD fr to RR2 SS2 (ap9 mR mS mD nR nS nD fr to RR SS DD))) ∧ (x8.heap.size ≤ x9.heap.size) ∧ (x9.heap.size ≤ x10.heap.size) ∧ (x10.heap.size ≤ x11.heap.size) ∧ (x11.heap.size ≤ x12.heap.size) ∧ (x12.heap.size ≤ x14.heap.size) ∧ (x14.heap.size ≤ x15.heap.size)) := ⟨(HS.out.1).trans ((bb).mono (HS.out.1).size), HS.out.2.1, (HS.out.2.2.1).below (bb), HS.out.2.2.2.1, (HS.out.2.2.2.2.1).below (bb), HS.out.2.2.2.2.2.1, (HS.out.2.2.2.2.2.2.1).below (bb), HS.out.2.2.2.2.2.2.2.1, HS.out.2.2.2.2.2.2.2.2.1, HS.out.2.2.2.2.2.2.2.2.2.1, HS.out.2.2.2.2.2.2.2.2.2.2.1, HS.out.2.2.2.2.2.2.2.2.2.2.2.1, (HS.out.2.2.2.2.2.2.2.2.2.2.2.2.1).below (bb), HS.out.2.2.2.2.2.2.2.2.2.2.2.2.2.1, HS.out.2.2.2.2.2.2.2.2.2.2.2.2.2.2.1, HS.out.2.2.2.2.2.2.2.2.2.2.2.2.2.2.2.1, HS.out.2.2.2.2.2.2.2.2.2.2.2.2.2.2.2.2.1, HS.out.2.2.2.2.2.2.2.2.2.2.2.2.2.2.2.2.2, bb.size⟩; clear bb; clear sp0 sp1; have sp0 := (HP.out.below HS.out.1).c0; have sp1 := (HP.out.below HS.out.1).c1)
        obtain ⟨bA, hbA⟩ : ∃ b : Bool, (b = true ↔ mD = mD ∧ ∀ r, r < mD → nD r = nD r ∧ ∀ i, i < nD r → (ap9 mR mS mD nR nS nD fr to RR SS DD) r i = (ap9 mR mS mD nR nS nD fr to RR2 SS2 (ap9 mR mS mD nR nS nD fr to RR SS DD)) r i) := ⟨@decide _ (Classical.propDecidable _), @decide_eq_true_iff _ (Classical.propDecidable _)⟩
        have hkey : bo = true → bs = bA := fun h => Bool.eq_iff_iff.2 (HBS.out.trans (Iff.trans (anew_same (HO.out.1 h)) hbA.symm))
        have cA : Calls Try.prog 15 #[(.slice a_dsts mD c_dsts), (.slice aw mD cw)] x15 fun e w' => e = .returned (.bool bA) ∧ ∃ m, w' = x15.drewN m := (all9_any (.slice a_dsts mD c_dsts) (.slice aw mD cw) mD mD nD nD (ap9 mR mS mD nR nS nD fr to RR SS DD) (ap9 mR mS mD nR nS nD fr to RR2 SS2 (ap9 mR mS mD nR nS nD fr to RR SS DD)) x15 (HS.out.2.2.2.2.2.2.1).lb (HS.out.2.2.2.2.2.2.2.2.2.2.2.2.1).lb).mono (fun e w' ⟨b, h1, h2, h3⟩ => ⟨by rw [h1, (Bool.eq_iff_iff.2 (h2.trans hbA.symm) : b = bA)], h3⟩)
        clear HBS hbA
        by_cases hq : bs = bA
        case pos =>
          subst hq
          clear hkey
          go_wp2_with (go_at_call 15; (with_reducible refine cA.mono ?_); rintro e x16 ⟨rfl, hm⟩; clear cA; have bb : Below x15.heap.size x15 x16 := (by obtain ⟨m, rfl⟩ := hm; exact below_drewN (Below.refl _ _) m); clear hm; replace HS : Hid ((Below x0.heap.size x0 x16) ∧ (x0.heap.size ≤ x0.heap.size) ∧ (Cs x0.heap.size x1.heap.size x16 (.slice a_rows mR c_rows) mR nR nR B1 RR2) ∧ (x0.heap.size ≤ x1.heap.size) ∧ (Cs x1.heap.size x2.heap.size x16 (.slice a_srcs mS c_srcs) mS nS nS B2 SS2) ∧ (x1.heap.size ≤ x2.heap.size) ∧ (Cs x2.heap.size x3.heap.size x16 (.slice a_dsts mD c_dsts) mD nD nD B3 (ap9 mR mS mD nR nS nD fr to RR SS DD)) ∧ (x2.heap.size ≤ x3.heap.size) ∧ (x3.heap.size ≤ x5.heap.size) ∧ (x5.heap.size ≤ x6.heap.size) ∧ (x6.heap.size ≤ x7.heap.size) ∧ (x7.heap.size ≤ x8.heap.size) ∧ (Cs x8.heap.size x9.heap.size x16 (.slice aw mD cw) mD nD nD B9 (ap9 mR mS mD nR nS nD fr to RR2 SS2 (ap9 mR mS mD nR nS nD fr to RR SS DD))) ∧ (x8.heap.size ≤ x9.heap.size) ∧ (x9.heap.size ≤ x10.heap.size) ∧ (x10.heap.size ≤ x11.heap.size) ∧ (x11.heap.size ≤ x12.heap.size) ∧ (x12.heap.size ≤ x14.heap.size) ∧ (x14.heap.size ≤ x15.heap.size) ∧ (x15.heap.size ≤ x16.heap.size)) := ⟨(HS.out.1).trans ((bb).mono (HS.out.1).size), HS.out.2.1, (HS.out.2.2.1).below (bb), HS.out.2.2.2.1, (HS.out.2.2.2.2.1).below (bb), HS.out.2.2.2.2.2.1, (HS.out.2.2.2.2.2.2.1).below (bb), HS.out.2.2.2.2.2.2.2.1, HS.out.2.2.2.2.2.2.2.2.1, HS.out.2.2.2.2.2.2.2.2.2.1, HS.out.2.2.2.2.2.2.2.2.2.2.1, HS.out.2.2.2.2.2.2.2.2.2.2.2.1, (HS.out.2.2.2.2.2.2.2.2.2.2.2.2.1).below (bb), HS.out.2.2.2.2.2.2.2.2.2.2.2.2.2.1, HS.out.2.2.2.2.2.2.2.2.2.2.2.2.2.2.1, HS.out.2.2.2.2.2.2.2.2.2.2.2.2.2.2.2.1, HS.out.2.2.2.2.2.2.2.2.2.2.2.2.2.2.2.2.1, HS.out.2.2.2.2.2.2.2.2.2.2.2.2.2.2.2.2.2.1, HS.out.2.2.2.2.2.2.2.2.2.2.2.2.2.2.2.2.2.2, bb.size⟩; clear bb; clear sp0 sp1; have sp0 := (HP.out.below HS.out.1).c0; have sp1 := (HP.out.below HS.out.1).c1)
          obtain ⟨f_bel, f_bel0, f_rows, f_rowssz, f_srcs, f_srcssz, f_dsts, f_dstssz, f_szap5, f_szag6, f_sztrows, f_sztsrcs, f_want, f_wantsz, f_crsz, f_cssz, f_szap12, f_szag14, f_szag15, f_szall⟩ := HS.out
          have c17 := cs_apply (p := p) f_dsts ((f_rows).ll (fun q h1 h2 e => by have := e.1; have := e.2; omega)) ((f_srcs).ll (fun q h1 h2 e => by have := e.1; have := e.2; omega)) (Ks.below HK.out f_bel) (by have := Ks.hi (p := p) HK.out; omega) fr to HB.out.iq.rowsl HB.out.iq.srcsl HB.out.iq.dstsl
          clear f_bel f_bel0 f_rows f_rowssz f_srcs f_srcssz f_dsts f_dstssz f_szap5 f_szag6 f_sztrows f_sztsrcs f_want f_wantsz f_crsz f_cssz f_szap12 f_szag14 f_szag15 f_szall
          go_wp2_with (first | (go_at_call 11; (with_reducible refine c17.mono ?_); rintro e x17 ⟨rfl, hk, hC⟩; clear c17; obtain ⟨f_bel, f_bel0, f_rows, f_rowssz, f_srcs, f_srcssz, f_dsts, f_dstssz, f_szap5, f_szag6, f_sztrows, f_sztsrcs, f_want, f_wantsz, f_crsz, f_cssz, f_szap12, f_szag14, f_szag15, f_szall⟩ := HS.out; replace HS : Hid ((Below x0.heap.size x0 x17) ∧ (x0.heap.size ≤ x0.heap.size) ∧ (Cs x0.heap.size x1.heap.size x17 (.slice a_rows mR c_rows) mR nR nR B1 RR2) ∧ (x0.heap.size ≤ x1.heap.size) ∧ (Cs x1.heap.size x2.heap.size x17 (.slice a_srcs mS c_srcs) mS nS nS B2 SS2) ∧ (x1.heap.size ≤ x2.heap.size) ∧ (Cs x2.heap.size x3.heap.size x17 (.slice a_dsts mD c_dsts) mD nD nD B3 (ap9 mR mS mD nR nS nD fr to RR2 SS2 (ap9 mR mS mD nR nS nD fr to RR SS DD))) ∧ (x2.heap.size ≤ x3.heap.size) ∧ (x3.heap.size ≤ x5.heap.size) ∧ (x5.heap.size ≤ x6.heap.size) ∧ (x6.heap.size ≤ x7.heap.size) ∧ (x7.heap.size ≤ x8.heap.size) ∧ (Cs x8.heap.size x9.heap.size x17 (.slice aw mD cw) mD nD nD B9 (ap9 mR mS mD nR nS nD fr to RR2 SS2 (ap9 mR mS mD nR nS nD fr to RR SS DD))) ∧ (x8.heap.size ≤ x9.heap.size) ∧ (x9.heap.size ≤ x10.heap.size) ∧ (x10.heap.size ≤ x11.heap.size) ∧ (x11.heap.size ≤ x12.heap.size) ∧ (x12.heap.size ≤ x14.heap.size) ∧ (x14.heap.size ≤ x15.heap.size) ∧ (x15.heap.size ≤ x16.heap.size) ∧ (x16.heap.size ≤ x17.heap.size)) := ⟨f_bel.trans (hk.below (fun q hq => by have := hq.1; omega) f_bel.size), f_bel0, f_rows.keep hk (fun q h1 h2 e => by have := e.1; have := e.2; omega), f_rowssz, f_srcs.keep hk (fun q h1 h2 e => by have := e.1; have := e.2; omega), f_srcssz, hC, f_dstssz, f_szap5, f_szag6, f_sztrows, f_sztsrcs, f_want.keep hk (fun q h1 h2 e => by have := e.1; have := e.2; omega), f_wantsz, f_crsz, f_cssz, f_szap12, f_szag14, f_szag15, f_szall, hk.size⟩; clear hk hC f_bel f_bel0 f_rows f_rowssz f_srcs f_srcssz f_dsts f_dstssz f_szap5 f_szag6 f_sztrows f_sztsrcs f_want f_wantsz f_crsz f_cssz f_szap12 f_szag14 f_szag15 f_szall; clear sp0 sp1; have sp0 := (HP.out.below HS.out.1).c0; have sp1 := (HP.out.below HS.out.1).c1) | (go_at_call 15; (with_reducible refine (all9_true (.slice a_dsts mD c_dsts) (.slice aw mD cw) mD nD (ap9 mR mS mD nR nS nD fr to RR2 SS2 (ap9 mR mS mD nR nS nD fr to RR SS DD)) (ap9 mR mS mD nR nS nD fr to RR2 SS2 (ap9 mR mS mD nR nS nD fr to RR SS DD)) x17 (HS.out.2.2.2.2.2.2.1).lb (HS.out.2.2.2.2.2.2.2.2.2.2.2.2.1).lb (fun _ _ _ _ => rfl)).mono ?_); rintro e xz ⟨rfl, m9, rfl⟩))
          go_ret
          exact ⟨rfl, below_drewN (HW.out.trans ((HS.out.1).mono HW.out.size)) m9⟩
        case neg =>
          obtain rfl : bo = false := Bool.eq_false_iff.2 (fun h => hq (hkey h))
          clear hkey
          go_wp2_with (go_at_call 15; (with_reducible refine cA.mono ?_); rintro e x16 ⟨rfl, hm⟩; clear cA; have bb : Below x15.heap.size x15 x16 := (by obtain ⟨m, rfl⟩ := hm; exact below_drewN (Below.refl _ _) m); clear hm; replace HS : Hid ((Below x0.heap.size x0 x16) ∧ (x0.heap.size ≤ x0.heap.size) ∧ (Cs x0.heap.size x1.heap.size x16 (.slice a_rows mR c_rows) mR nR nR B1 RR2) ∧ (x0.heap.size ≤ x1.heap.size) ∧ (Cs x1.heap.size x2.heap.size x16 (.slice a_srcs mS c_srcs) mS nS nS B2 SS2) ∧ (x1.heap.size ≤ x2.heap.size) ∧ (Cs x2.heap.size x3.heap.size x16 (.slice a_dsts mD c_dsts) mD nD nD B3 (ap9 mR mS mD nR nS nD fr to RR SS DD)) ∧ (x2.heap.size ≤ x3.heap.size) ∧ (x3.heap.size ≤ x5.heap.size) ∧ (x5.heap.size ≤ x6.heap.size) ∧ (x6.heap.size ≤ x7.heap.size) ∧ (x7.heap.size ≤ x8.heap.size) ∧ (Cs x8.heap.size x9.heap.size x16 (.slice aw mD cw) mD nD nD B9 (ap9 mR mS mD nR nS nD fr to RR2 SS2 (ap9 mR mS mD nR nS nD fr to RR SS DD))) ∧ (x8.heap.size ≤ x9.heap.size) ∧ (x9.heap.size ≤ x10.heap.size) ∧ (x10.heap.size ≤ x11.heap.size) ∧ (x11.heap.size ≤ x12.heap.size) ∧ (x12.heap.size ≤ x14.heap.size) ∧ (x14.heap.size ≤ x15.heap.size) ∧ (x15.heap.size ≤ x16.heap.size)) := ⟨(HS.out.1).trans ((bb).mono (HS.out.1).size), HS.out.2.1, (HS.out.2.2.1).below (bb), HS.out.2.2.2.1, (HS.out.2.2.2.2.1).below (bb), HS.out.2.2.2.2.2.1, (HS.out.2.2.2.2.2.2.1).below (bb), HS.out.2.2.2.2.2.2.2.1, HS.out.2.2.2.2.2.2.2.2.1, HS.out.2.2.2.2.2.2.2.2.2.1, HS.out.2.2.2.2.2.2.2.2.2.2.1, HS.out.2.2.2.2.2.2.2.2.2.2.2.1, (HS.out.2.2.2.2.2.2.2.2.2.2.2.2.1).below (bb), HS.out.2.2.2.2.2.2.2.2.2.2.2.2.2.1, HS.out.2.2.2.2.2.2.2.2.2.2.2.2.2.2.1, HS.out.2.2.2.2.2.2.2.2.2.2.2.2.2.2.2.1, HS.out.2.2.2.2.2.2.2.2.2.2.2.2.2.2.2.2.1, HS.out.2.2.2.2.2.2.2.2.2.2.2.2.2.2.2.2.2.1, HS.out.2.2.2.2.2.2.2.2.2.2.2.2.2.2.2.2.2.2, bb.size⟩; clear bb; clear sp0 sp1; have sp0 := (HP.out.below HS.out.1).c0; have sp1 := (HP.out.below HS.out.1).c1)
          obtain ⟨f_bel, f_bel0, f_rows, f_rowssz, f_srcs, f_srcssz, f_dsts, f_dstssz, f_szap5, f_szag6, f_sztrows, f_sztsrcs, f_want, f_wantsz, f_crsz, f_cssz, f_szap12, f_szag14, f_szag15, f_szall⟩ := HS.out
          have c17 := cs_apply (p := p) f_dsts ((f_rows).ll (fun q h1 h2 e => by have := e.1; have := e.2; omega)) ((f_srcs).ll (fun q h1 h2 e => by have := e.1; have := e.2; omega)) (Ks.below HK.out f_bel) (by have := Ks.hi (p := p) HK.out; omega) fr to HB.out.iq.rowsl HB.out.iq.srcsl HB.out.iq.dstsl
          clear f_bel f_bel0 f_rows f_rowssz f_srcs f_srcssz f_dsts f_dstssz f_szap5 f_szag6 f_sztrows f_sztsrcs f_want f_wantsz f_crsz f_cssz f_szap12 f_szag14 f_szag15 f_szall
          go_wp2_with (first | (go_at_call 11; (with_reducible refine c17.mono ?_); rintro e x17 ⟨rfl, hk, hC⟩; clear c17; obtain ⟨f_bel, f_bel0, f_rows, f_rowssz, f_srcs, f_srcssz, f_dsts, f_dstssz, f_szap5, f_szag6, f_sztrows, f_sztsrcs, f_want, f_wantsz, f_crsz, f_cssz, f_szap12, f_szag14, f_szag15, f_szall⟩ := HS.out; replace HS : Hid ((Below x0.heap.size x0 x17) ∧ (x0.heap.size ≤ x0.heap.size) ∧ (Cs x0.heap.size x1.heap.size x17 (.slice a_rows mR c_rows) mR nR nR B1 RR2) ∧ (x0.heap.size ≤ x1.heap.size) ∧ (Cs x1.heap.size x2.heap.size x17 (.slice a_srcs mS c_srcs) mS nS nS B2 SS2) ∧ (x1.heap.size ≤ x2.heap.size) ∧ (Cs x2.heap.size x3.heap.size x17 (.slice a_dsts mD c_dsts) mD nD nD B3 (ap9 mR mS mD nR nS nD fr to RR2 SS2 (ap9 mR mS mD nR nS nD fr to RR SS DD))) ∧ (x2.heap.size ≤ x3.heap.size) ∧ (x3.heap.size ≤ x5.heap.size) ∧ (x5.heap.size ≤ x6.heap.size) ∧ (x6.heap.size ≤ x7.heap.size) ∧ (x7.heap.size ≤ x8.heap.size) ∧ (Cs x8.heap.size x9.heap.size x17 (.slice aw mD cw) mD nD nD B9 (ap9 mR mS mD nR nS nD fr to RR2 SS2 (ap9 mR mS mD nR nS nD fr to RR SS DD))) ∧ (x8.heap.size ≤ x9.heap.size) ∧ (x9.heap.size ≤ x10.heap.size) ∧ (x10.heap.size ≤ x11.heap.size) ∧ (x11.heap.size ≤ x12.heap.size) ∧ (x12.heap.size ≤ x14.heap.size) ∧ (x14.heap.size ≤ x15.heap.size) ∧ (x15.heap.size ≤ x16.heap.size) ∧ (x16.heap.size ≤ x17.heap.size)) := ⟨f_bel.trans (hk.below (fun q hq => by have := hq.1; omega) f_bel.size), f_bel0, f_rows.keep hk (fun q h1 h2 e => by have := e.1; have := e.2; omega), f_rowssz, f_srcs.keep hk (fun q h1 h2 e => by have := e.1; have := e.2; omega), f_srcssz, hC, f_dstssz, f_szap5, f_szag6, f_sztrows, f_sztsrcs, f_want.keep hk (fun q h1 h2 e => by have := e.1; have := e.2; omega), f_wantsz, f_crsz, f_cssz, f_szap12, f_szag14, f_szag15, f_szall, hk.size⟩; clear hk hC f_bel f_bel0 f_rows f_rowssz f_srcs f_srcssz f_dsts f_dstssz f_szap5 f_szag6 f_sztrows f_sztsrcs f_want f_wantsz f_crsz f_cssz f_szap12 f_szag14 f_szag15 f_szall; clear sp0 sp1; have sp0 := (HP.out.below HS.out.1).c0; have sp1 := (HP.out.below HS.out.1).c1) | (go_at_call 15; (with_reducible refine (all9_true (.slice a_dsts mD c_dsts) (.slice aw mD cw) mD nD (ap9 mR mS mD nR nS nD fr to RR2 SS2 (ap9 mR mS mD nR nS nD fr to RR SS DD)) (ap9 mR mS mD nR nS nD fr to RR2 SS2 (ap9 mR mS mD nR nS nD fr to RR SS DD)) x17 (HS.out.2.2.2.2.2.2.1).lb (HS.out.2.2.2.2.2.2.2.2.2.2.2.2.1).lb (fun _ _ _ _ => rfl)).mono ?_); rintro e xz ⟨rfl, m9, rfl⟩))
          go_ret
          exact ⟨rfl, below_drewN (HW.out.trans ((HS.out.1).mono HW.out.size)) m9⟩
end Go.Proofs.Ytdolghlphmjcdab
