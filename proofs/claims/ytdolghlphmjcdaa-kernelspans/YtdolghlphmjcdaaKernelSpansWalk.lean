import Derived.Test.YtdolghlphmjcdaaKpc
import Derived.Test.YtdolghlphmjcdaaKj7
namespace Go.Proofs.Ytdolghlphmjcdaa.kernelSpans
open Go.RowKit Gf2
set_option linter.unusedVariables false

theorem cell_row (x : World) (A : Array Value) (ty : TypeId) {i : Nat} {v : Value} (hv : A[i]? = some v) : (x.alloc (.cells A ty)).cell? ⟨x.heap.size, i, none⟩ = some v := (Box9.new x A ty).cell hv

set_option maxHeartbeats 16000000 in
set_option maxRecDepth 100000 in
theorem walk (xR xS xD : Option Addr) (mR0 mS0 mD0 cR cS cD : Nat) (fr to cut row place : Int) (by9 : Nat) (w : World) (hy : by9 < 256) (h : Im9 w (.slice xR mR0 cR) (.slice xS mS0 cS) (.slice xD mD0 cD)) :
    Calls Try.prog 5 #[.agg (tv9 (.slice xR mR0 cR) (.slice xS mS0 cS) (.slice xD mD0 cD) fr to cut row place by9)] w fun e w' => e = .returned (.bool true) ∧ Below w.heap.size w w' := by
  have hX := Box9.new w (tv9 (.slice xR mR0 cR) (.slice xS mS0 cS) (.slice xD mD0 cD) fr to cut row place by9) 44
  have bX : Below w.heap.size w (w.alloc (.cells (tv9 (.slice xR mR0 cR) (.slice xS mS0 cS) (.slice xD mD0 cD) fr to cut row place by9) 44)) := (Below.refl _ _).alloc (Nat.le_refl _) _
  have y0 := hX.cell (i := 0) (v := .slice xR mR0 cR) rfl
  have y1 := hX.cell (i := 1) (v := .slice xS mS0 cS) rfl
  have y2 := hX.cell (i := 2) (v := .slice xD mD0 cD) rfl
  have y3 := hX.cell (i := 3) (v := .int .i64 fr) rfl
  have y4 := hX.cell (i := 4) (v := .int .i64 to) rfl
  have y5 := hX.cell (i := 5) (v := .int .i64 cut) rfl
  have y6 := hX.cell (i := 6) (v := .int .i64 row) rfl
  have y7 := hX.cell (i := 7) (v := .int .i64 place) rfl
  have y8 := hX.cell (i := 8) (v := .int .u8 (by9 : Int)) rfl
  generalize tv9 (.slice xR mR0 cR) (.slice xS mS0 cS) (.slice xD mD0 cD) fr to cut row place by9 = A at bX hX y0 y1 y2 y3 y4 y5 y6 y7 y8 ⊢
  have HX : Hid _ := bX
  have HI : Hid _ := h
  have HY : Hid (∀ x', Below (w.alloc (.cells A 44)).heap.size (w.alloc (.cells A 44)) x' → x'.cell? ⟨w.heap.size, 0, none⟩ = some (.slice xR mR0 cR) ∧ x'.cell? ⟨w.heap.size, 1, none⟩ = some (.slice xS mS0 cS) ∧ x'.cell? ⟨w.heap.size, 2, none⟩ = some (.slice xD mD0 cD) ∧ x'.cell? ⟨w.heap.size, 3, none⟩ = some (.int .i64 fr) ∧ x'.cell? ⟨w.heap.size, 4, none⟩ = some (.int .i64 to) ∧ x'.cell? ⟨w.heap.size, 5, none⟩ = some (.int .i64 cut) ∧ x'.cell? ⟨w.heap.size, 6, none⟩ = some (.int .i64 row) ∧ x'.cell? ⟨w.heap.size, 7, none⟩ = some (.int .i64 place) ∧ x'.cell? ⟨w.heap.size, 8, none⟩ = some (.int .u8 (by9 : Int))) := fun x' hb => ⟨(hb.cell (p := ⟨w.heap.size, 0, none⟩) hX.lt).trans y0, (hb.cell (p := ⟨w.heap.size, 1, none⟩) hX.lt).trans y1, (hb.cell (p := ⟨w.heap.size, 2, none⟩) hX.lt).trans y2, (hb.cell (p := ⟨w.heap.size, 3, none⟩) hX.lt).trans y3, (hb.cell (p := ⟨w.heap.size, 4, none⟩) hX.lt).trans y4, (hb.cell (p := ⟨w.heap.size, 5, none⟩) hX.lt).trans y5, (hb.cell (p := ⟨w.heap.size, 6, none⟩) hX.lt).trans y6, (hb.cell (p := ⟨w.heap.size, 7, none⟩) hX.lt).trans y7, (hb.cell (p := ⟨w.heap.size, 8, none⟩) hX.lt).trans y8⟩
  clear bX h hX y0 y1 y2 y3 y4 y5 y6 y7 y8
  go_enter Try.func5, Try.ntmps5
  go_wp2
  generalize w.alloc (.cells A 44) = w0 at HX HY ⊢
  refine region_planI (fun x' => x'.cell? ⟨w.heap.size, 0, none⟩ = some (.slice xR mR0 cR) ∧ x'.cell? ⟨w.heap.size, 1, none⟩ = some (.slice xS mS0 cS) ∧ x'.cell? ⟨w.heap.size, 2, none⟩ = some (.slice xD mD0 cD) ∧ x'.cell? ⟨w.heap.size, 3, none⟩ = some (.int .i64 fr) ∧ x'.cell? ⟨w.heap.size, 4, none⟩ = some (.int .i64 to) ∧ x'.cell? ⟨w.heap.size, 5, none⟩ = some (.int .i64 cut) ∧ x'.cell? ⟨w.heap.size, 6, none⟩ = some (.int .i64 row) ∧ x'.cell? ⟨w.heap.size, 7, none⟩ = some (.int .i64 place) ∧ x'.cell? ⟨w.heap.size, 8, none⟩ = some (.int .u8 (by9 : Int))) [0, 1, 2, 3, 4, 5, 6, 7, 8, 9, 10, 11, 12] [8, 0, 3] 152 (HY.out w0 (Below.refl _ _)) (by kernel_rfl) (by kernel_rfl) (fun _ a d v _ h => by cases d <;> exact h) ?_
  simp only [atI, List.getElem?_cons_zero, List.getElem?_cons_succ]
  refine planH_step ?Az rfl (fun w' hS => ?sz) rfl (fun K hK => ?nz)
  case sz =>
    obtain ⟨y0, y1, y2, y3, y4, y5, y6, y7, y8⟩ := hS
    simp only [List.take_succ_cons, List.take_zero]
    repeat still_step
    exact rfl
  case nz =>
  go_simp
  refine hK _ _ (HY.out _ (((Below.refl _ _).alloc (Nat.le_refl _) _).drew)) ?_
  clear hK K
  refine planH_step ?Ay rfl (fun w' hS => ?sy) rfl (fun K hK => ?ny)
  case sy =>
    simp only [List.take_zero]
    exact rfl
  case ny =>
  go_simp
  refine hK _ _ (HY.out _ (((Below.refl _ _).alloc (Nat.le_refl _) _).drew)) ?_
  clear hK K
  refine planH_last ?Ax rfl (fun w' hS => ?sx) rfl ?nx
  case sx =>
    simp only [List.take_succ_cons, List.take_zero]
    repeat still_step
    exact rfl
  case nx =>
  have H1 : Hid (Box9 (w0.alloc (.cells #[.slice xR mR0 cR, .slice xS mS0 cS, .slice xD mD0 cD, .int .i64 fr, .int .i64 to, .int .i64 cut] 42)).drew w0.heap.size #[.slice xR mR0 cR, .slice xS mS0 cS, .slice xD mD0 cD, .int .i64 fr, .int .i64 to, .int .i64 cut] 42 ∧ Below w.heap.size w (w0.alloc (.cells #[.slice xR mR0 cR, .slice xS mS0 cS, .slice xD mD0 cD, .int .i64 fr, .int .i64 to, .int .i64 cut] 42)).drew) :=
    ⟨(Box9.new w0 #[.slice xR mR0 cR, .slice xS mS0 cS, .slice xD mD0 cD, .int .i64 fr, .int .i64 to, .int .i64 cut] 42).below (Below.refl _ _).drew, HX.out.trans ((((Below.refl w0.heap.size w0).alloc (Nat.le_refl _) _).drew).mono HX.out.size)⟩
  clear HY
  generalize (w0.alloc (.cells #[.slice xR mR0 cR, .slice xS mS0 cS, .slice xD mD0 cD, .int .i64 fr, .int .i64 to, .int .i64 cut] 42)).drew = X1 at H1 ⊢
  have cS := sets9_any X1
  have cF := fun W => fixed9_any W
  go_wp2_with (first
    | (go_at_call 14; (with_reducible refine cS.mono ?_); rintro e w2 ⟨vl, gl, cl, P, rfl, hS, hb2⟩; clear cS; obtain ⟨hx1, hx2⟩ := H1.out; have H2 : Hid (Box9 w2 w0.heap.size #[.slice xR mR0 cR, .slice xS mS0 cS, .slice xD mD0 cD, .int .i64 fr, .int .i64 to, .int .i64 cut] 42 ∧ Below w.heap.size w w2 ∧ Sv w2 vl gl cl P) := ⟨hx1.below hb2, hx2.trans (hb2.mono hx2.size), hS⟩; obtain ⟨lo, hi, rfl, -⟩ := hS; clear hx1 hx2 hb2 H1)
    | (go_at_call 9; (with_reducible refine (cF _).mono ?_); rintro e w3 ⟨rfl, hb3⟩; clear cF; obtain ⟨hx1, hx2, hx3⟩ := H2.out; have H3 : Hid (Box9 w3 w0.heap.size #[.slice xR mR0 cR, .slice xS mS0 cS, .slice xD mD0 cD, .int .i64 fr, .int .i64 to, .int .i64 cut] 42 ∧ Below w.heap.size w w3 ∧ Sv w3 (.slice (some ⟨gl, 0, none⟩) 3 cl) gl cl P) := ⟨hx1.below hb3, hx2.trans (hb3.mono hx2.size), hx3.below hb3⟩; clear hx1 hx2 hx3 hb3 H2; have y0 := (H3.out.1).cell (i := 0) (v := .slice xR mR0 cR) rfl; have y1 := (H3.out.1).cell (i := 1) (v := .slice xS mS0 cS) rfl; have y2 := (H3.out.1).cell (i := 2) (v := .slice xD mD0 cD) rfl; have y3 := (H3.out.1).cell (i := 3) (v := .int .i64 fr) rfl; have y4 := (H3.out.1).cell (i := 4) (v := .int .i64 to) rfl; have y5 := (H3.out.1).cell (i := 5) (v := .int .i64 cut) rfl; have cP : Calls Try.prog 17 #[.slice (some ⟨gl, 0, none⟩) 3 cl, .agg #[.slice xR mR0 cR, .slice xS mS0 cS, .slice xD mD0 cD, .int .i64 fr, .int .i64 to, .int .i64 cut]] w3 fun e w' => e = .returned (.bool true) ∧ Below w3.heap.size w3 w' := pieced9_any gl cl P _ (.slice xR mR0 cR) (.slice xS mS0 cS) (.slice xD mD0 cD) fr to cut w3 H3.out.2.2 (HI.out.below H3.out.2.1))
    | (go_at_call 17; (with_reducible refine cP.mono ?_); rintro e w4 ⟨rfl, hb4⟩; clear cP y0 y1 y2 y3 y4 y5; obtain ⟨hx1, hx2, hx3⟩ := H3.out; have H4 : Hid (Box9 w4 w0.heap.size #[.slice xR mR0 cR, .slice xS mS0 cS, .slice xD mD0 cD, .int .i64 fr, .int .i64 to, .int .i64 cut] 42 ∧ Below w.heap.size w w4 ∧ Sv w4 (.slice (some ⟨gl, 0, none⟩) 3 cl) gl cl P) := ⟨hx1.below hb4, hx2.trans (hb4.mono hx2.size), hx3.below hb4⟩; clear hx1 hx2 hx3 hb4 H3; have u3 := (H4.out.1).cell (i := 3) (v := .int .i64 fr) rfl; have u4 := (H4.out.1).cell (i := 4) (v := .int .i64 to) rfl))
  clear u3 u4
  obtain ⟨mR, nR, RR, mS, nS, SS, mD, nD, DD, hIp⟩ := (HI.out.below H4.out.2.1).ip
  have bS : Below w4.heap.size w4 (w4.alloc (.cells #[.int .i64 fr, .int .i64 to] 47)) := (Below.refl _ _).alloc (Nat.le_refl _) _
  obtain ⟨q1, q2, lo', hi', e0, s1, s2, s3, s4⟩ := H4.out
  cases e0
  have HB : Hid (Bp9 (w4.alloc (.cells #[.int .i64 fr, .int .i64 to] 47)) w0.heap.size (.slice xR mR0 cR) (.slice xS mS0 cS) (.slice xD mD0 cD) fr to cut mR nR RR mS nS SS mD nD DD gl P lo' hi') := ⟨q1.below bS, hIp.below bS, Nat.lt_of_lt_of_le s3 bS.size, fun i hi => (bS.cell (p := ⟨gl, i, none⟩) s3).trans (s4 i hi).1, fun i hi => (s4 i hi).2.below bS⟩
  have HP : Hid (Sb9 (w4.alloc (.cells #[.int .i64 fr, .int .i64 to] 47)) w4.heap.size fr to) := ⟨heap_alloc_new _ _⟩
  have HW : Hid (Below w.heap.size w (w4.alloc (.cells #[.int .i64 fr, .int .i64 to] 47))) := q2.trans (bS.mono q2.size)
  have h3c : 3 ≤ cl := s1
  clear q1 q2 s1 s2 s3 s4 bS hIp H4
  generalize w4.alloc (.cells #[.int .i64 fr, .int .i64 to] 47) = x0 at HB HP HW ⊢
  generalize w4.heap.size = gp at HP ⊢
  generalize hgs : w0.heap.size = gs at HB ⊢
  obtain ⟨vR, hvR⟩ : ∃ v, v = Value.slice xR mR0 cR := ⟨_, rfl⟩
  obtain ⟨vS, hvS⟩ : ∃ v, v = Value.slice xS mS0 cS := ⟨_, rfl⟩
  obtain ⟨vD, hvD⟩ : ∃ v, v = Value.slice xD mD0 cD := ⟨_, rfl⟩
  rw [← hvR, ← hvS, ← hvD] at HB
  have hmD : mD ≤ 140737488351232 := by have := HB.out.iq.dstsl; omega
  clear hvR hvS hvD hgs HI HX
  go_loopw [44] (fun i wr => ∃ k : Nat, k ≤ 3 ∧ i = .int .i64 k ∧ Below x0.heap.size x0 wr) (fun i _ => 3 - (intOf i).toNat)
  case atStart => exact ⟨0, Nat.zero_le _, rfl, Below.refl _ _⟩
  case round =>
    obtain ⟨k, hk3, rfl, hb⟩ := hrel
    have W1 : wrap64 ((k : Int) + 1) = (k : Int) + 1 := by unfold wrap64; omega
    by_cases hlt : k < 3
    case neg =>
      have HE : Hid _ := hb
      clear hb
      have hk : k = 3 := by omega
      subst hk
      go_wp2
      go_ret
      exact ⟨rfl, HW.out.trans (HE.out.mono HW.out.size)⟩
    case pos =>
    have q1 := (HB.out.below hb).pt k hlt
    have q2 := (HB.out.below hb).bx.cell (i := 2) (v := vD) rfl
    have c1 := copies9_any vD mD nD DD wr (HB.out.below hb).iq.dsts HB.out.iq.dstsl HB.out.iq.dstsn
    have ib : ((k : Nat) : Int) < 3 := by omega
    have HS : Hid (Below x0.heap.size x0 wr ∧ x0.heap.size ≤ wr.heap.size) := ⟨hb, hb.size⟩
    clear hb
    go_wp2_with (go_at_call 18; (with_reducible refine c1.mono ?_); rintro e x1 ⟨v1, B1, rfl, r1, b1⟩; clear c1; replace HS : Hid (Below x0.heap.size x0 x1 ∧ x0.heap.size ≤ wr.heap.size ∧ Cs wr.heap.size x1.heap.size x1 v1 mD nD nD B1 DD ∧ wr.heap.size ≤ x1.heap.size) := ⟨HS.out.1.trans (b1.mono HS.out.1.size), HS.out.2, r1, b1.size⟩; clear r1 b1)
    clear q1 q2
    refine region_planI (fun w' => w'.cell? ⟨gs, 0, none⟩ = some (vR) ∧ w'.cell? ⟨gs, 1, none⟩ = some (vS) ∧ w'.cell? ⟨gp, 0, none⟩ = some (.int .i64 fr) ∧ w'.cell? ⟨gp, 1, none⟩ = some (.int .i64 to)) [0, 1, 2, 4, 5, 7, 8, 3, 6, 9, 10] [7, 0, 0, 1] 152 ⟨(HB.out.below HS.out.1).bx.cell rfl, (HB.out.below HS.out.1).bx.cell rfl, (HP.out.below HS.out.1).c0, (HP.out.below HS.out.1).c1⟩ (by kernel_rfl) (by kernel_rfl) (fun _ a d v _ h => by cases d <;> exact h) ?_
    simp only [atI, List.getElem?_cons_zero, List.getElem?_cons_succ]
    have c2 := copies9_any vR mR nR RR x1.drew (by exact (HB.out.below HS.out.1).iq.rows) (HB.out.iq.rowsl) (HB.out.iq.rowsn)
    refine planH_step ?A2 rfl (fun w' hS => ?s2) rfl (fun K hK => ?n2)
    case s2 =>
      obtain ⟨y0, y1, y2, y3⟩ := hS
      simp only [List.take_succ_cons, List.take_zero]
      repeat still_step
      exact rfl
    case n2 =>
    go_simp
    go_wp2_with (go_at_call 18; (with_reducible refine c2.mono ?_); rintro e x2 ⟨v2, B2, rfl, r2, bb⟩)
    clear c2
    have b2 := Below.undraw bb
    clear bb
    replace HS : Hid ((Below x0.heap.size x0 x2) ∧ (x0.heap.size ≤ wr.heap.size) ∧ (Cs wr.heap.size x1.heap.size x2 v1 mD nD nD B1 DD) ∧ (wr.heap.size ≤ x1.heap.size) ∧ (Cs x1.heap.size x2.heap.size x2 v2 mR nR nR B2 RR) ∧ (x1.heap.size ≤ x2.heap.size)) := ⟨(HS.out.1).trans ((b2).mono (HS.out.1).size), HS.out.2.1, (HS.out.2.2.1).below (b2), HS.out.2.2.2, r2, b2.size⟩
    clear b2
    refine hK _ _ ⟨(HB.out.below HS.out.1).bx.cell rfl, (HB.out.below HS.out.1).bx.cell rfl, (HP.out.below HS.out.1).c0, (HP.out.below HS.out.1).c1⟩ ?_
    clear hK K
    clear r2
    have c3 := copies9_any vS mS nS SS x2 (by exact (HB.out.below HS.out.1).iq.srcs) (HB.out.iq.srcsl) (HB.out.iq.srcsn)
    refine planH_step ?A3 rfl (fun w' hS => ?s3) rfl (fun K hK => ?n3)
    case s3 =>
      obtain ⟨y0, y1, y2, y3⟩ := hS
      simp only [List.take_zero]
      exact rfl
    case n3 =>
    go_simp
    go_wp2_with (go_at_call 18; (with_reducible refine c3.mono ?_); rintro e x3 ⟨v3, B3, rfl, r3, bb⟩)
    clear c3
    have b3 := bb
    clear bb
    replace HS : Hid ((Below x0.heap.size x0 x3) ∧ (x0.heap.size ≤ wr.heap.size) ∧ (Cs wr.heap.size x1.heap.size x3 v1 mD nD nD B1 DD) ∧ (wr.heap.size ≤ x1.heap.size) ∧ (Cs x1.heap.size x2.heap.size x3 v2 mR nR nR B2 RR) ∧ (x1.heap.size ≤ x2.heap.size) ∧ (Cs x2.heap.size x3.heap.size x3 v3 mS nS nS B3 SS) ∧ (x2.heap.size ≤ x3.heap.size)) := ⟨(HS.out.1).trans ((b3).mono (HS.out.1).size), HS.out.2.1, (HS.out.2.2.1).below (b3), HS.out.2.2.2.1, (HS.out.2.2.2.2.1).below (b3), HS.out.2.2.2.2.2, r3, b3.size⟩
    clear b3
    refine hK _ _ ⟨(HB.out.below HS.out.1).bx.cell rfl, (HB.out.below HS.out.1).bx.cell rfl, (HP.out.below HS.out.1).c0, (HP.out.below HS.out.1).c1⟩ ?_
    clear hK K
    clear r3
    obtain ⟨f_bel, f_bel0, f_ds, f_dssz, f_ra, f_rasz, f_sa, f_sasz⟩ := HS.out
    have c4 := cs_apply (p := P k) f_ds ((f_ra).ll (fun q h1 h2 e => by have := e.1; have := e.2; omega)) ((f_sa).ll (fun q h1 h2 e => by have := e.1; have := e.2; omega)) ((HB.out.below f_bel).ks k hlt) (by have := (HB.out.ks k hlt).hi; have := f_bel0; omega) (fr) (to) HB.out.iq.rowsl HB.out.iq.srcsl HB.out.iq.dstsl
    clear f_bel f_bel0 f_ds f_dssz f_ra f_rasz f_sa f_sasz
    refine planH_step ?A4 rfl (fun w' hS => ?s4) rfl (fun K hK => ?n4)
    case s4 =>
      obtain ⟨y0, y1, y2, y3⟩ := hS
      simp only [List.take_zero]
      exact rfl
    case n4 =>
    go_simp
    go_wp2_with (go_at_call 19; (with_reducible refine c4.mono ?_); rintro e x4 ⟨rfl, hk, hC⟩)
    clear c4
    obtain ⟨f_bel, f_bel0, f_ds, f_dssz, f_ra, f_rasz, f_sa, f_sasz⟩ := HS.out
    replace HS : Hid ((Below x0.heap.size x0 x4) ∧ (x0.heap.size ≤ wr.heap.size) ∧ (Cs wr.heap.size x1.heap.size x4 v1 mD nD nD B1 (ap9 mR mS mD nR nS nD fr to RR SS DD)) ∧ (wr.heap.size ≤ x1.heap.size) ∧ (Cs x1.heap.size x2.heap.size x4 v2 mR nR nR B2 RR) ∧ (x1.heap.size ≤ x2.heap.size) ∧ (Cs x2.heap.size x3.heap.size x4 v3 mS nS nS B3 SS) ∧ (x2.heap.size ≤ x3.heap.size) ∧ (x3.heap.size ≤ x4.heap.size)) := ⟨f_bel.trans (hk.below (fun q hq => by have := hq.1; omega) f_bel.size), f_bel0, hC, f_dssz, f_ra.keep hk (fun q h1 h2 e => by have := e.1; have := e.2; omega), f_rasz, f_sa.keep hk (fun q h1 h2 e => by have := e.1; have := e.2; omega), f_sasz, hk.size⟩
    clear hk hC f_bel f_bel0 f_ds f_dssz f_ra f_rasz f_sa f_sasz
    refine hK _ _ ⟨(HB.out.below HS.out.1).bx.cell rfl, (HB.out.below HS.out.1).bx.cell rfl, (HP.out.below HS.out.1).c0, (HP.out.below HS.out.1).c1⟩ ?_
    clear hK K
    refine planH_last ?A5 rfl (fun w' hS => ?s5) rfl ?n5
    case s5 =>
      obtain ⟨y0, y1, y2, y3⟩ := hS
      simp only [List.take_succ_cons, List.take_zero]
      repeat still_step
      exact rfl
    case n5 =>
    replace HS : Hid ((Below x0.heap.size x0 x4) ∧ (x0.heap.size ≤ wr.heap.size) ∧ (Cs wr.heap.size x1.heap.size x4 v1 mD nD nD B1 (ap9 mR mS mD nR nS nD fr to RR SS DD)) ∧ (wr.heap.size ≤ x1.heap.size) ∧ (x1.heap.size ≤ x2.heap.size) ∧ (x2.heap.size ≤ x3.heap.size) ∧ (x3.heap.size ≤ x4.heap.size)) := ⟨HS.out.1, HS.out.2.1, HS.out.2.2.1, HS.out.2.2.2.1, HS.out.2.2.2.2.2.1, HS.out.2.2.2.2.2.2.2.1, HS.out.2.2.2.2.2.2.2.2⟩
    go_wp2
    refine region_planI (fun w' => w'.cell? ⟨gs, 0, none⟩ = some (vR) ∧ w'.cell? ⟨gs, 1, none⟩ = some (vS) ∧ w'.cell? ⟨gp, 0, none⟩ = some (.int .i64 fr) ∧ w'.cell? ⟨gp, 1, none⟩ = some (.int .i64 to)) [0, 1, 2, 4, 5, 7, 8, 3, 6, 9, 10, 11, 12, 13, 14] [7, 0, 0, 5] 152 ⟨(HB.out.below HS.out.1).bx.cell rfl, (HB.out.below HS.out.1).bx.cell rfl, (HP.out.below HS.out.1).c0, (HP.out.below HS.out.1).c1⟩ (by kernel_rfl) (by kernel_rfl) (fun _ a d v _ h => by cases d <;> exact h) ?_
    simp only [atI, List.getElem?_cons_zero, List.getElem?_cons_succ]
    have c6 := copies9_any vR mR nR RR x4.drew (by exact (HB.out.below HS.out.1).iq.rows) (HB.out.iq.rowsl) (HB.out.iq.rowsn)
    refine planH_step ?A6 rfl (fun w' hS => ?s6) rfl (fun K hK => ?n6)
    case s6 =>
      obtain ⟨y0, y1, y2, y3⟩ := hS
      simp only [List.take_succ_cons, List.take_zero]
      repeat still_step
      exact rfl
    case n6 =>
    go_simp
    go_wp2_with (go_at_call 18; (with_reducible refine c6.mono ?_); rintro e x6 ⟨v6, B6, rfl, r6, bb⟩)
    clear c6
    have b6 := Below.undraw bb
    clear bb
    replace HS : Hid ((Below x0.heap.size x0 x6) ∧ (x0.heap.size ≤ wr.heap.size) ∧ (Cs wr.heap.size x1.heap.size x6 v1 mD nD nD B1 (ap9 mR mS mD nR nS nD fr to RR SS DD)) ∧ (wr.heap.size ≤ x1.heap.size) ∧ (x1.heap.size ≤ x2.heap.size) ∧ (x2.heap.size ≤ x3.heap.size) ∧ (x3.heap.size ≤ x4.heap.size) ∧ (Cs x4.heap.size x6.heap.size x6 v6 mR nR nR B6 RR) ∧ (x4.heap.size ≤ x6.heap.size)) := ⟨(HS.out.1).trans ((b6).mono (HS.out.1).size), HS.out.2.1, (HS.out.2.2.1).below (b6), HS.out.2.2.2.1, HS.out.2.2.2.2.1, HS.out.2.2.2.2.2.1, HS.out.2.2.2.2.2.2, r6, b6.size⟩
    clear b6
    refine hK _ _ ⟨(HB.out.below HS.out.1).bx.cell rfl, (HB.out.below HS.out.1).bx.cell rfl, (HP.out.below HS.out.1).c0, (HP.out.below HS.out.1).c1⟩ ?_
    clear hK K
    clear r6
    have c7 := copies9_any vS mS nS SS x6 (by exact (HB.out.below HS.out.1).iq.srcs) (HB.out.iq.srcsl) (HB.out.iq.srcsn)
    refine planH_step ?A7 rfl (fun w' hS => ?s7) rfl (fun K hK => ?n7)
    case s7 =>
      obtain ⟨y0, y1, y2, y3⟩ := hS
      simp only [List.take_zero]
      exact rfl
    case n7 =>
    go_simp
    go_wp2_with (go_at_call 18; (with_reducible refine c7.mono ?_); rintro e x7 ⟨v7, B7, rfl, r7, bb⟩)
    clear c7
    have b7 := bb
    clear bb
    replace HS : Hid ((Below x0.heap.size x0 x7) ∧ (x0.heap.size ≤ wr.heap.size) ∧ (Cs wr.heap.size x1.heap.size x7 v1 mD nD nD B1 (ap9 mR mS mD nR nS nD fr to RR SS DD)) ∧ (wr.heap.size ≤ x1.heap.size) ∧ (x1.heap.size ≤ x2.heap.size) ∧ (x2.heap.size ≤ x3.heap.size) ∧ (x3.heap.size ≤ x4.heap.size) ∧ (Cs x4.heap.size x6.heap.size x7 v6 mR nR nR B6 RR) ∧ (x4.heap.size ≤ x6.heap.size) ∧ (Cs x6.heap.size x7.heap.size x7 v7 mS nS nS B7 SS) ∧ (x6.heap.size ≤ x7.heap.size)) := ⟨(HS.out.1).trans ((b7).mono (HS.out.1).size), HS.out.2.1, (HS.out.2.2.1).below (b7), HS.out.2.2.2.1, HS.out.2.2.2.2.1, HS.out.2.2.2.2.2.1, HS.out.2.2.2.2.2.2.1, (HS.out.2.2.2.2.2.2.2.1).below (b7), HS.out.2.2.2.2.2.2.2.2, r7, b7.size⟩
    clear b7
    refine hK _ _ ⟨(HB.out.below HS.out.1).bx.cell rfl, (HB.out.below HS.out.1).bx.cell rfl, (HP.out.below HS.out.1).c0, (HP.out.below HS.out.1).c1⟩ ?_
    clear hK K
    clear r7
    obtain ⟨f_bel, f_bel0, f_ds, f_dssz, f_rasz, f_sasz, f_szap4, f_rb, f_rbsz, f_sb, f_sbsz⟩ := HS.out
    have c8 := kagrees_any (P k) k _ _ mR mS mD nR nS nD RR SS (ap9 mR mS mD nR nS nD fr to RR SS DD) fr to v6 v7 v1 x7 ((HB.out.below f_bel).ks k hlt) (by have := HB.out.iq.rowsl; omega) (by have := HB.out.iq.srcsl; omega) (by have := HB.out.iq.dstsl; omega) HB.out.iq.srcsn HB.out.iq.dstsn f_rb.lb f_sb.lb f_ds.lb
    clear f_bel f_bel0 f_ds f_dssz f_rasz f_sasz f_szap4 f_rb f_rbsz f_sb f_sbsz
    refine planH_step ?A8 rfl (fun w' hS => ?s8) rfl (fun K hK => ?n8)
    case s8 =>
      obtain ⟨y0, y1, y2, y3⟩ := hS
      simp only [List.take_zero]
      exact rfl
    case n8 =>
    go_simp
    go_wp2_with (go_at_call 20; (with_reducible refine c8.mono ?_); rintro e x8 ⟨ba, rfl, hba, bb⟩)
    clear c8
    have b8 := bb
    clear bb
    replace HS : Hid ((Below x0.heap.size x0 x8) ∧ (x0.heap.size ≤ wr.heap.size) ∧ (Cs wr.heap.size x1.heap.size x8 v1 mD nD nD B1 (ap9 mR mS mD nR nS nD fr to RR SS DD)) ∧ (wr.heap.size ≤ x1.heap.size) ∧ (x1.heap.size ≤ x2.heap.size) ∧ (x2.heap.size ≤ x3.heap.size) ∧ (x3.heap.size ≤ x4.heap.size) ∧ (Cs x4.heap.size x6.heap.size x8 v6 mR nR nR B6 RR) ∧ (x4.heap.size ≤ x6.heap.size) ∧ (Cs x6.heap.size x7.heap.size x8 v7 mS nS nS B7 SS) ∧ (x6.heap.size ≤ x7.heap.size) ∧ (x7.heap.size ≤ x8.heap.size)) := ⟨(HS.out.1).trans ((b8).mono (HS.out.1).size), HS.out.2.1, (HS.out.2.2.1).below (b8), HS.out.2.2.2.1, HS.out.2.2.2.2.1, HS.out.2.2.2.2.2.1, HS.out.2.2.2.2.2.2.1, (HS.out.2.2.2.2.2.2.2.1).below (b8), HS.out.2.2.2.2.2.2.2.2.1, (HS.out.2.2.2.2.2.2.2.2.2.1).below (b8), HS.out.2.2.2.2.2.2.2.2.2.2, b8.size⟩
    clear b8
    refine hK _ _ ⟨(HB.out.below HS.out.1).bx.cell rfl, (HB.out.below HS.out.1).bx.cell rfl, (HP.out.below HS.out.1).c0, (HP.out.below HS.out.1).c1⟩ ?_
    clear hK K
    refine planH_last ?A9 rfl (fun w' hS => ?s9) rfl ?n9
    case s9 =>
      obtain ⟨y0, y1, y2, y3⟩ := hS
      simp only [List.take_succ_cons, List.take_zero]
      repeat still_step
      exact rfl
    case n9 =>
    replace HS : Hid ((Below x0.heap.size x0 x8) ∧ (x0.heap.size ≤ wr.heap.size) ∧ (Cs wr.heap.size x1.heap.size x8 v1 mD nD nD B1 (ap9 mR mS mD nR nS nD fr to RR SS DD)) ∧ (wr.heap.size ≤ x1.heap.size) ∧ (x1.heap.size ≤ x2.heap.size) ∧ (x2.heap.size ≤ x3.heap.size) ∧ (x3.heap.size ≤ x4.heap.size) ∧ (x4.heap.size ≤ x6.heap.size) ∧ (x6.heap.size ≤ x7.heap.size) ∧ (x7.heap.size ≤ x8.heap.size)) := ⟨HS.out.1, HS.out.2.1, HS.out.2.2.1, HS.out.2.2.2.1, HS.out.2.2.2.2.1, HS.out.2.2.2.2.2.1, HS.out.2.2.2.2.2.2.1, HS.out.2.2.2.2.2.2.2.2.1, HS.out.2.2.2.2.2.2.2.2.2.2.1, HS.out.2.2.2.2.2.2.2.2.2.2.2⟩
    by_cases hf : fit9 mR mS mD nR nS nD fr to = 0
    case neg =>
      obtain rfl : ba = false := by
        cases ba with
        | false => rfl
        | true => exact absurd (hba.1 rfl).1 hf
      have hf' : ¬ ((fit9 mR mS mD nR nS nD fr to : Int) = 0) := fun e => hf (Int.ofNat.inj e)
      have HE : Hid (Below x0.heap.size x0 x8) := HS.out.1
      clear HS hba
      generalize fit9 mR mS mD nR nS nD fr to = z at hf hf' ⊢
      go_wp2
      go_roundw
      case rel => exact ⟨k + 1, by omega, by first | rfl | (rw [W1]; rfl), HE.out⟩
      case measure => first | (rw [W1]; simp [intOf]; omega) | (simp [intOf]; omega)
    case pos =>
    obtain rfl : ba = true := hba.2 ⟨hf, fun r _ t h1 h2 => by unfold ap9; rw [if_pos ⟨hf, h1, h2⟩]⟩
    clear hba
    have HF : Hid (fit9 mR mS mD nR nS nD fr to = 0) := hf
    rw [hf]
    clear hf
    have HE : Hid (Below x0.heap.size x0 x8) := HS.out.1
    obtain ⟨av, cv, ev, -, hcv, hfv⟩ := (HS.out.2.2.1).form
    subst ev
    have hcase : by9 = 0 ∨ (¬ by9 = 0 ∧ row < 0) ∨ (¬ by9 = 0 ∧ ¬ row < 0 ∧ row ≥ (mD : Int)) ∨ (¬ by9 = 0 ∧ ¬ row < 0 ∧ ¬ row ≥ (mD : Int) ∧ place < 0) ∨ (¬ by9 = 0 ∧ ¬ row < 0 ∧ ¬ row ≥ (mD : Int) ∧ ¬ place < 0) := by omega
    rcases hcase with h0 | ⟨h0, h1⟩ | ⟨h0, h1, h2⟩ | ⟨h0, h1, h2, h3⟩ | ⟨h0, h1, h2, h3⟩
    · have z0 : ((by9 : Nat) : Int) = 0 := by omega
      clear HS hfv h0
      go_wp2
      go_roundw
      case rel => exact ⟨k + 1, by omega, by first | rfl | (rw [W1]; rfl), HE.out⟩
      case measure => first | (rw [W1]; simp [intOf]; omega) | (simp [intOf]; omega)
    · have z0 : ¬ ((by9 : Nat) : Int) = 0 := by omega
      clear HS hfv h0
      go_wp2
      go_roundw
      case rel => exact ⟨k + 1, by omega, by first | rfl | (rw [W1]; rfl), HE.out⟩
      case measure => first | (rw [W1]; simp [intOf]; omega) | (simp [intOf]; omega)
    · have z0 : ¬ ((by9 : Nat) : Int) = 0 := by omega
      clear HS hfv h0
      go_wp2
      go_roundw
      case rel => exact ⟨k + 1, by omega, by first | rfl | (rw [W1]; rfl), HE.out⟩
      case measure => first | (rw [W1]; simp [intOf]; omega) | (simp [intOf]; omega)
    · have z0 : ¬ ((by9 : Nat) : Int) = 0 := by omega
      clear HS hfv h0
      go_wp2
      go_roundw
      case rel => exact ⟨k + 1, by omega, by first | rfl | (rw [W1]; rfl), HE.out⟩
      case measure => first | (rw [W1]; simp [intOf]; omega) | (simp [intOf]; omega)
    have z0 : ¬ ((by9 : Nat) : Int) = 0 := by omega
    obtain ⟨r, rfl⟩ : ∃ r : Nat, row = (r : Int) := ⟨row.toNat, by omega⟩
    obtain ⟨t, rfl⟩ : ∃ t : Nat, place = (t : Int) := ⟨place.toNat, by omega⟩
    have hr : r < mD := by omega
    obtain ⟨gv, rfl, gv1, gv2, gv3, gv4⟩ := hfv (by omega)
    have p1 := gv4 r hr
    clear gv4 gv3
    by_cases h5 : nD r ≤ t
    · clear HS
      have h5' : ((t : Nat) : Int) ≥ (nD r : Int) := by omega
      clear h5 gv1 gv2 hr
      go_wp2
      go_roundw
      case rel => exact ⟨k + 1, by omega, by first | rfl | (rw [W1]; rfl), HE.out⟩
      case measure => first | (rw [W1]; simp [intOf]; omega) | (simp [intOf]; omega)
    have h5' : ¬ ((t : Nat) : Int) ≥ (nD r : Int) := by omega
    have h5a : ((t : Nat) : Int) < (nD r : Int) := by omega
    have h2a : ((r : Nat) : Int) < (mD : Int) := by omega
    have hrow := (HS.out.2.2.1).row r hr
    have p2 := hrow.2.2.2.2.2.cell (i := t) (by omega)
    have p3 := hrow.2.2.2.2.2.frozen t
    have hTl := hrow.2.2.2.2.1 t (by omega)
    have X := u8_xor_nat (ap9 mR mS mD nR nS nD fr to RR SS DD r t) by9 hTl hy
    obtain ⟨f_bel, f_bel0, f_ds, f_dssz, f_rasz, f_sasz, f_szap4, f_rbsz, f_sbsz, f_sg8⟩ := HS.out
    have bW : Below x0.heap.size x0 (x8.setCell ⟨B1 r, t, none⟩ (.int .u8 (ap9 mR mS mD nR nS nD fr to RR SS DD r t ^^^ by9 : Nat))) := f_bel.setCell (by have := hrow.1; simp only []; omega) _
    have hC2 := f_ds.set (r := r) (j := t) hr (Nat.xor_lt_two_pow (n := 8) hTl hy)
    have HS2 : Hid (Below x0.heap.size x0 (x8.setCell ⟨B1 r, t, none⟩ (.int .u8 (ap9 mR mS mD nR nS nD fr to RR SS DD r t ^^^ by9 : Nat))) ∧ Cs wr.heap.size x1.heap.size (x8.setCell ⟨B1 r, t, none⟩ (.int .u8 (ap9 mR mS mD nR nS nD fr to RR SS DD r t ^^^ by9 : Nat))) (.slice (some ⟨gv, 0, none⟩) mD cv) mD nD nD B1 (fun i j => if i = r ∧ j = t then ap9 mR mS mD nR nS nD fr to RR SS DD r t ^^^ by9 else ap9 mR mS mD nR nS nD fr to RR SS DD i j) ∧ x0.heap.size ≤ wr.heap.size ∧ wr.heap.size ≤ x1.heap.size) := ⟨bW, hC2, f_bel0, f_dssz⟩
    clear HS bW hC2 hrow hTl HE gv1 gv2 h5 hcv f_bel f_bel0 f_ds f_dssz f_rasz f_sasz f_szap4 f_rbsz f_sbsz f_sg8
    have HV : Hid (∀ j, ap9 mR mS mD nR nS nD fr to RR SS DD r j = ap9 mR mS mD nR nS nD fr to RR SS DD r j) := fun _ => rfl
    generalize hVV : ap9 mR mS mD nR nS nD fr to RR SS DD r t ^^^ by9 = V at X HS2
    generalize hU : ap9 mR mS mD nR nS nD fr to RR SS DD r t = U at X p2
    go_wp2
    clear p1 p2 p3
    generalize x8.setCell ⟨B1 r, t, none⟩ (.int .u8 (V : Nat)) = y0 at HS2 ⊢
    have HS : Hid ((Below x0.heap.size x0 y0) ∧ (Cs wr.heap.size x1.heap.size y0 (.slice (some ⟨gv, 0, none⟩) mD cv) mD nD nD B1 (fun i j => if i = r ∧ j = t then V else ap9 mR mS mD nR nS nD fr to RR SS DD i j)) ∧ (x0.heap.size ≤ wr.heap.size) ∧ (wr.heap.size ≤ x1.heap.size)) := ⟨HS2.out.1, HS2.out.2.1, HS2.out.2.2.1, HS2.out.2.2.2⟩
    clear HS2
    refine region_planI (fun w' => w'.cell? ⟨gs, 0, none⟩ = some (vR) ∧ w'.cell? ⟨gs, 1, none⟩ = some (vS) ∧ w'.cell? ⟨gp, 0, none⟩ = some (.int .i64 fr) ∧ w'.cell? ⟨gp, 1, none⟩ = some (.int .i64 to)) [0, 1, 2, 4, 5, 7, 8, 3, 6, 9, 10, 11, 12, 13, 14] [7, 0, 0, 5] 152 ⟨(HB.out.below HS.out.1).bx.cell rfl, (HB.out.below HS.out.1).bx.cell rfl, (HP.out.below HS.out.1).c0, (HP.out.below HS.out.1).c1⟩ (by kernel_rfl) (by kernel_rfl) (fun _ a d v _ h => by cases d <;> exact h) ?_
    simp only [atI, List.getElem?_cons_zero, List.getElem?_cons_succ]
    have c10 := copies9_any vR mR nR RR y0.drew (by exact (HB.out.below HS.out.1).iq.rows) (HB.out.iq.rowsl) (HB.out.iq.rowsn)
    refine planH_step ?A10 rfl (fun w' hS => ?s10) rfl (fun K hK => ?n10)
    case s10 =>
      obtain ⟨y0, y1, y2, y3⟩ := hS
      simp only [List.take_succ_cons, List.take_zero]
      repeat still_step
      exact rfl
    case n10 =>
    go_simp
    go_wp2_with (go_at_call 18; (with_reducible refine c10.mono ?_); rintro e x10 ⟨v10, B10, rfl, r10, bb⟩)
    clear c10
    have b10 := Below.undraw bb
    clear bb
    replace HS : Hid ((Below x0.heap.size x0 x10) ∧ (Cs wr.heap.size x1.heap.size x10 (.slice (some ⟨gv, 0, none⟩) mD cv) mD nD nD B1 (fun i j => if i = r ∧ j = t then V else ap9 mR mS mD nR nS nD fr to RR SS DD i j)) ∧ (x0.heap.size ≤ wr.heap.size) ∧ (wr.heap.size ≤ x1.heap.size) ∧ (Cs y0.heap.size x10.heap.size x10 v10 mR nR nR B10 RR) ∧ (y0.heap.size ≤ x10.heap.size)) := ⟨(HS.out.1).trans ((b10).mono (HS.out.1).size), (HS.out.2.1).below (b10), HS.out.2.2.1, HS.out.2.2.2, r10, b10.size⟩
    clear b10
    refine hK _ _ ⟨(HB.out.below HS.out.1).bx.cell rfl, (HB.out.below HS.out.1).bx.cell rfl, (HP.out.below HS.out.1).c0, (HP.out.below HS.out.1).c1⟩ ?_
    clear hK K
    clear r10
    have c11 := copies9_any vS mS nS SS x10 (by exact (HB.out.below HS.out.1).iq.srcs) (HB.out.iq.srcsl) (HB.out.iq.srcsn)
    refine planH_step ?A11 rfl (fun w' hS => ?s11) rfl (fun K hK => ?n11)
    case s11 =>
      obtain ⟨y0, y1, y2, y3⟩ := hS
      simp only [List.take_zero]
      exact rfl
    case n11 =>
    go_simp
    go_wp2_with (go_at_call 18; (with_reducible refine c11.mono ?_); rintro e x11 ⟨v11, B11, rfl, r11, bb⟩)
    clear c11
    have b11 := bb
    clear bb
    replace HS : Hid ((Below x0.heap.size x0 x11) ∧ (Cs wr.heap.size x1.heap.size x11 (.slice (some ⟨gv, 0, none⟩) mD cv) mD nD nD B1 (fun i j => if i = r ∧ j = t then V else ap9 mR mS mD nR nS nD fr to RR SS DD i j)) ∧ (x0.heap.size ≤ wr.heap.size) ∧ (wr.heap.size ≤ x1.heap.size) ∧ (Cs y0.heap.size x10.heap.size x11 v10 mR nR nR B10 RR) ∧ (y0.heap.size ≤ x10.heap.size) ∧ (Cs x10.heap.size x11.heap.size x11 v11 mS nS nS B11 SS) ∧ (x10.heap.size ≤ x11.heap.size)) := ⟨(HS.out.1).trans ((b11).mono (HS.out.1).size), (HS.out.2.1).below (b11), HS.out.2.2.1, HS.out.2.2.2.1, (HS.out.2.2.2.2.1).below (b11), HS.out.2.2.2.2.2, r11, b11.size⟩
    clear b11
    refine hK _ _ ⟨(HB.out.below HS.out.1).bx.cell rfl, (HB.out.below HS.out.1).bx.cell rfl, (HP.out.below HS.out.1).c0, (HP.out.below HS.out.1).c1⟩ ?_
    clear hK K
    clear r11
    obtain ⟨f_bel, f_ds, f_bel0, f_dssz, f_rc, f_rcsz, f_sc, f_scsz⟩ := HS.out
    have c12 := kagrees_any (P k) k _ _ mR mS mD nR nS nD RR SS (fun i j => if i = r ∧ j = t then V else ap9 mR mS mD nR nS nD fr to RR SS DD i j) fr to v10 v11 (.slice (some ⟨gv, 0, none⟩) mD cv) x11 ((HB.out.below f_bel).ks k hlt) (by have := HB.out.iq.rowsl; omega) (by have := HB.out.iq.srcsl; omega) (by have := HB.out.iq.dstsl; omega) HB.out.iq.srcsn HB.out.iq.dstsn f_rc.lb f_sc.lb f_ds.lb
    clear f_bel f_ds f_bel0 f_dssz f_rc f_rcsz f_sc f_scsz
    refine planH_step ?A12 rfl (fun w' hS => ?s12) rfl (fun K hK => ?n12)
    case s12 =>
      obtain ⟨y0, y1, y2, y3⟩ := hS
      simp only [List.take_zero]
      exact rfl
    case n12 =>
    go_simp
    go_wp2_with (go_at_call 20; (with_reducible refine c12.mono ?_); rintro e x12 ⟨bc, rfl, hbc, bb⟩)
    clear c12
    have b12 := bb
    clear bb
    replace HS : Hid ((Below x0.heap.size x0 x12) ∧ (Cs wr.heap.size x1.heap.size x12 (.slice (some ⟨gv, 0, none⟩) mD cv) mD nD nD B1 (fun i j => if i = r ∧ j = t then V else ap9 mR mS mD nR nS nD fr to RR SS DD i j)) ∧ (x0.heap.size ≤ wr.heap.size) ∧ (wr.heap.size ≤ x1.heap.size) ∧ (Cs y0.heap.size x10.heap.size x12 v10 mR nR nR B10 RR) ∧ (y0.heap.size ≤ x10.heap.size) ∧ (Cs x10.heap.size x11.heap.size x12 v11 mS nS nS B11 SS) ∧ (x10.heap.size ≤ x11.heap.size) ∧ (x11.heap.size ≤ x12.heap.size)) := ⟨(HS.out.1).trans ((b12).mono (HS.out.1).size), (HS.out.2.1).below (b12), HS.out.2.2.1, HS.out.2.2.2.1, (HS.out.2.2.2.2.1).below (b12), HS.out.2.2.2.2.2.1, (HS.out.2.2.2.2.2.2.1).below (b12), HS.out.2.2.2.2.2.2.2, b12.size⟩
    clear b12
    refine hK _ _ ⟨(HB.out.below HS.out.1).bx.cell rfl, (HB.out.below HS.out.1).bx.cell rfl, (HP.out.below HS.out.1).c0, (HP.out.below HS.out.1).c1⟩ ?_
    clear hK K
    refine planH_last ?A13 rfl (fun w' hS => ?s13) rfl ?n13
    case s13 =>
      obtain ⟨y0, y1, y2, y3⟩ := hS
      simp only [List.take_succ_cons, List.take_zero]
      repeat still_step
      exact rfl
    case n13 =>
    have y3 := (HB.out.below HS.out.1).bx.cell (i := 3) (v := .int .i64 fr) rfl
    have y4 := (HB.out.below HS.out.1).bx.cell (i := 4) (v := .int .i64 to) rfl
    have HE : Hid (Below x0.heap.size x0 x12) := HS.out.1
    clear HS
    rw [HF.out]
    by_cases hin : fr ≤ (t : Int) ∧ (t : Int) < to
    · obtain rfl : bc = false := by
        cases bc with
        | false => rfl
        | true =>
          exfalso
          have h7 := (hbc.1 rfl).2 r hr t hin.1 hin.2
          rw [if_pos ⟨rfl, rfl⟩] at h7
          have h8 : U = ks (RR r) SS mS t := by rw [← hU]; unfold ap9; rw [if_pos ⟨HF.out, hin⟩]
          rw [← hVV, hU, ← h8] at h7
          have h9 : by9 = 0 := by
            have : U ^^^ (U ^^^ by9) = U ^^^ U := by rw [h7]
            rw [← Nat.xor_assoc, Nat.xor_self, Nat.zero_xor] at this
            exact this
          exact h0 h9
      have i1 : (t : Int) ≥ fr := hin.1
      have i2 : (t : Int) < to := hin.2
      clear hbc hin HV hVV hU X
      go_wp2
      go_roundw
      case rel => exact ⟨k + 1, by omega, by first | rfl | (rw [W1]; rfl), HE.out⟩
      case measure => first | (rw [W1]; simp [intOf]; omega) | (simp [intOf]; omega)
    · obtain rfl : bc = true := hbc.2 ⟨HF.out, fun i _ j h1 h2 => by
          rw [if_neg (fun e => hin (by rw [e.2] at h1 h2; exact ⟨h1, h2⟩))]
          unfold ap9
          rw [if_pos ⟨HF.out, h1, h2⟩]⟩
      have hin' : ¬ (t : Int) ≥ fr ∨ (t : Int) ≥ fr ∧ ¬ (t : Int) < to := by omega
      clear hbc hin HV hVV hU X
      rcases hin' with i1 | ⟨i1, i2⟩
      · go_wp2
        go_roundw
        case rel => exact ⟨k + 1, by omega, by first | rfl | (rw [W1]; rfl), HE.out⟩
        case measure => first | (rw [W1]; simp [intOf]; omega) | (simp [intOf]; omega)
      · go_wp2
        go_roundw
        case rel => exact ⟨k + 1, by omega, by first | rfl | (rw [W1]; rfl), HE.out⟩
        case measure => first | (rw [W1]; simp [intOf]; omega) | (simp [intOf]; omega)
theorem any9 (vR vS vD : Value) (fr to cut row place : Int) (by9 : Nat) (hy : by9 < 256) {W : World} (h : Im9 W vR vS vD) :
    Calls Try.prog 5 #[.agg (tv9 vR vS vD fr to cut row place by9)] W fun e w' => e = .returned (.bool true) ∧ Below W.heap.size W w' := by
  obtain ⟨xR, mR, cR, rfl⟩ := h.rows.form
  obtain ⟨xS, mS, cS, rfl⟩ := h.srcs.form
  obtain ⟨xD, mD, cD, rfl⟩ := h.dsts.form
  exact walk xR xS xD mR mS mD cR cS cD fr to cut row place by9 W hy h
end Go.Proofs.Ytdolghlphmjcdaa.kernelSpans
