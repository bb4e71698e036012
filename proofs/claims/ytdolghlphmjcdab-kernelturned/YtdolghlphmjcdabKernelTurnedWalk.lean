import Derived.Test.YtdolghlphmjcdabKan
import Derived.Test.YtdolghlphmjcdabKj7
import Derived.Test.YtdolghlphmjcdabEbo
namespace Go.Proofs.Ytdolghlphmjcdab.kernelTurned
open Go.RowKit Gf2
set_option linter.unusedVariables false

/-- a list that has grown reads so, in no block of E. -/
theorem gw_re {E : Nat → Prop} {w0 W : World} {v : Value} {L : Nat} {S : Nat → Nat} (h : Gw w0 W v L S) (hE : ∀ y, w0.heap.size ≤ y → ¬ E y) : Re E W v L S := by
  rcases h.2 with ⟨rfl, rfl⟩ | ⟨g, C, F, rfl, a2, a3, a4, a5⟩
  · exact ⟨Nat.zero_le _, fun i hi => absurd hi (Nat.not_lt_zero _), _, _, rfl, Nat.le_refl _, Nat.zero_le _, fun h => absurd h (Nat.lt_irrefl _)⟩
  · exact (a4.re a2 a2 a4.1 (hE g a3)).congr a5
theorem ks_upd (R : Nat → Nat) (S : Nat → Nat → Nat) (F : Nat → Nat) (q t : Nat) : ∀ k, ks R (fun i j => if i = q then S q j ^^^ F j else S i j) k t = if q < k then ks R S k t ^^^ fm 285 (R q) (F t) else ks R S k t
  | 0 => by rw [if_neg (Nat.not_lt_zero _)]; rfl
  | k + 1 => by
    show ks R (fun i j => if i = q then S q j ^^^ F j else S i j) k t ^^^ fm 285 (R k) (if k = q then S q t ^^^ F t else S k t) = if q < k + 1 then (ks R S k t ^^^ fm 285 (R k) (S k t)) ^^^ fm 285 (R q) (F t) else ks R S k t ^^^ fm 285 (R k) (S k t)
    rw [ks_upd R S F q t k]
    by_cases e : k = q
    · subst e
      rw [if_neg (Nat.lt_irrefl _), if_pos rfl, if_pos (Nat.lt_succ_self _), fld8.fm_xor, Nat.xor_assoc]
    · rw [if_neg e]
      by_cases h : q < k
      · rw [if_pos h, if_pos (by omega), Nat.xor_assoc, Nat.xor_assoc, Nat.xor_comm (fm 285 (R q) (F t))]
      · rw [if_neg h, if_neg (by omega)]
theorem sf_of_fit {mR mS mD : Nat} {nR nS nD : Nat → Nat} {fr to : Int} (h : fit9 mR mS mD nR nS nD fr to = 0) {q : Nat} (hq : q < mS) : sf9 mR mD (nS q) nD fr to = 0 := by
  obtain ⟨⟨h1, h2, h3, h4⟩, r⟩ := fit9_split h
  exact sf9_zero ⟨h1, fun i hi => (h4 i hi).trans (h3 q hq).symm⟩ (by rw [h3 q hq]; exact r)
theorem spap {mR mS mD : Nat} {nR nS nD Ff : Nat → Nat} {fr to : Int} {RR SS SS2 DD : Nat → Nat → Nat} (h : fit9 mR mS mD nR nS nD fr to = 0) {q : Nat} (hq : q < mS) (e : SS2 = fun i j => if i = q then SS q j ^^^ Ff j else SS i j) (r i : Nat) :
    sp9 mR mD (nS q) nD fr to (fun i => RR i q) Ff (ap9 mR mS mD nR nS nD fr to RR SS DD) r i = ap9 mR mS mD nR nS nD fr to RR SS2 DD r i := by
  have hs := sf_of_fit h hq
  subst e
  unfold sp9 ap9
  by_cases c : fr ≤ (i : Int) ∧ (i : Int) < to
  · rw [if_pos ⟨hs, c.1, c.2⟩, if_pos ⟨h, c.1, c.2⟩, if_pos ⟨h, c.1, c.2⟩, ks_upd, if_pos hq]
  · rw [if_neg (fun x => c x.2), if_neg (fun x => c x.2), if_neg (fun x => c x.2)]
set_option maxHeartbeats 16000000 in
set_option maxRecDepth 100000 in
theorem walk (vR vS vD vf : Value) (nf : Nat) (Ff : Nat → Nat) (fr to cut which : Int) (w : World) (h : Im9 w vR vS vD) (hvf : Rb w vf nf Ff) (hnf : nf ≤ 140737488351232) :
    Calls Try.prog 3 #[.agg (sv9 vR vS vD fr to cut), .int .i64 which, vf] w fun e w' => e = .returned (.bool true) ∧ Below w.heap.size w w' := by
  obtain ⟨mR, nR, RR, mS, nS, SS, mD, nD, DD, hI⟩ := h.ip
  obtain ⟨xR, cR, rfl⟩ := Lb.form hI.rows
  obtain ⟨xS, cS, rfl⟩ := Lb.form hI.srcs
  obtain ⟨xD, cD, rfl⟩ := Lb.form hI.dsts
  obtain ⟨xf, cf, rfl⟩ := Rb.form9 hvf
  have hX : Box9 (w.alloc (.cells #[.slice xR mR cR, .slice xS mS cS, .slice xD mD cD, .int .i64 fr, .int .i64 to, .int .i64 cut] 24)) w.heap.size #[.slice xR mR cR, .slice xS mS cS, .slice xD mD cD, .int .i64 fr, .int .i64 to, .int .i64 cut] 24 := Box9.new w _ _
  have bX : Below w.heap.size w (w.alloc (.cells #[.slice xR mR cR, .slice xS mS cS, .slice xD mD cD, .int .i64 fr, .int .i64 to, .int .i64 cut] 24)) := (Below.refl _ _).alloc (Nat.le_refl _) _
  have H1 : Hid (Box9 (w.alloc (.cells #[.slice xR mR cR, .slice xS mS cS, .slice xD mD cD, .int .i64 fr, .int .i64 to, .int .i64 cut] 24)) w.heap.size #[.slice xR mR cR, .slice xS mS cS, .slice xD mD cD, .int .i64 fr, .int .i64 to, .int .i64 cut] 24 ∧ Below w.heap.size w (w.alloc (.cells #[.slice xR mR cR, .slice xS mS cS, .slice xD mD cD, .int .i64 fr, .int .i64 to, .int .i64 cut] 24))) := ⟨hX, bX⟩
  have HI : Hid (Im9 w (.slice xR mR cR) (.slice xS mS cS) (.slice xD mD cD) ∧ Ip9 w (.slice xR mR cR) (.slice xS mS cS) (.slice xD mD cD) mR nR RR mS nS SS mD nD DD ∧ Rb w (.slice xf nf cf) nf Ff) := ⟨h, hI, hvf⟩
  clear h hI hvf hX bX
  unfold sv9
  have cS' := sets9_any (w.alloc (.cells #[.slice xR mR cR, .slice xS mS cS, .slice xD mD cD, .int .i64 fr, .int .i64 to, .int .i64 cut] 24))
  have cF := fun W => fixed9_any W
  go_enter Try.func3, Try.ntmps3
  go_wp2_with (first
    | (go_at_call 7; (with_reducible refine cS'.mono ?_); rintro e w2 ⟨vl, gl, cl, P, rfl, hS, hb2⟩; clear cS'; obtain ⟨hx1, hx2⟩ := H1.out; have H2 : Hid (Box9 w2 w.heap.size #[.slice xR mR cR, .slice xS mS cS, .slice xD mD cD, .int .i64 fr, .int .i64 to, .int .i64 cut] 24 ∧ Below w.heap.size w w2 ∧ Sv w2 vl gl cl P) := ⟨hx1.below hb2, hx2.trans (hb2.mono hx2.size), hS⟩; obtain ⟨lo, hi, rfl, -⟩ := hS; clear hx1 hx2 hb2 H1)
    | (go_at_call 8; (with_reducible refine (cF _).mono ?_); rintro e w4 ⟨rfl, hb3⟩; clear cF; obtain ⟨hx1, hx2, hx3⟩ := H2.out; have H4 : Hid (Box9 w4 w.heap.size #[.slice xR mR cR, .slice xS mS cS, .slice xD mD cD, .int .i64 fr, .int .i64 to, .int .i64 cut] 24 ∧ Below w.heap.size w w4 ∧ Sv w4 (.slice (some ⟨gl, 0, none⟩) 3 cl) gl cl P) := ⟨hx1.below hb3, hx2.trans (hb3.mono hx2.size), hx3.below hb3⟩; clear hx1 hx2 hx3 hb3 H2; have u3 := (H4.out.1).cell (i := 3) (v := .int .i64 fr) rfl; have u4 := (H4.out.1).cell (i := 4) (v := .int .i64 to) rfl))
  clear u3 u4
  have bS : Below w4.heap.size w4 (w4.alloc (.cells #[.int .i64 fr, .int .i64 to] 30)) := (Below.refl _ _).alloc (Nat.le_refl _) _
  obtain ⟨q1, q2, lo', hi', e0, s1, s2, s3, s4⟩ := H4.out
  cases e0
  have HB : Hid (Bp9 (w4.alloc (.cells #[.int .i64 fr, .int .i64 to] 30)) w.heap.size (.slice xR mR cR) (.slice xS mS cS) (.slice xD mD cD) fr to cut mR nR RR mS nS SS mD nD DD gl P lo' hi') := ⟨q1.below bS, (HI.out.2.1.below q2).below bS, Nat.lt_of_lt_of_le s3 bS.size, fun i hi => (bS.cell (p := ⟨gl, i, none⟩) s3).trans (s4 i hi).1, fun i hi => (s4 i hi).2.below bS⟩
  have HP : Hid (Sb9 (w4.alloc (.cells #[.int .i64 fr, .int .i64 to] 30)) w4.heap.size fr to) := ⟨heap_alloc_new _ _⟩
  have HW : Hid (Below w.heap.size w (w4.alloc (.cells #[.int .i64 fr, .int .i64 to] 30))) := q2.trans (bS.mono q2.size)
  have HM : Hid (Im9 (w4.alloc (.cells #[.int .i64 fr, .int .i64 to] 30)) (.slice xR mR cR) (.slice xS mS cS) (.slice xD mD cD)) := HI.out.1.below HW.out
  have HF0 : Hid (Rb (w4.alloc (.cells #[.int .i64 fr, .int .i64 to] 30)) (.slice xf nf cf) nf Ff) := HI.out.2.2.below HW.out
  have h3c : 3 ≤ cl := s1
  clear q1 q2 s1 s2 s3 s4 bS HI H4
  generalize w4.alloc (.cells #[.int .i64 fr, .int .i64 to] 30) = x0 at HB HP HW HM HF0 ⊢
  generalize w4.heap.size = gp at HP ⊢
  generalize hgs : w.heap.size = gs at HB ⊢
  go_loopw [36] (fun i wr => ∃ k : Nat, k ≤ 3 ∧ i = .int .i64 k ∧ Below x0.heap.size x0 wr) (fun i _ => 3 - (intOf i).toNat)
  case atStart => exact ⟨0, Nat.zero_le _, rfl, Below.refl _ _⟩
  case round =>
    obtain ⟨k, hk3, rfl, hb⟩ := hrel
    have W1 : wrap64 ((k : Int) + 1) = (k : Int) + 1 := by unfold wrap64; omega
    by_cases hlt : k < 3
    case neg =>
      have HE : Hid _ := hb
      clear hb
      have hk : k = 3 := by omega
      subst hk
      go_wp2
      go_ret
      exact ⟨rfl, HW.out.trans (HE.out.mono HW.out.size)⟩
    case pos =>
    have q1 := (HB.out.below hb).pt k hlt
    have y0 := (HB.out.below hb).bx.cell (i := 0) (v := .slice xR mR cR) rfl
    have y1 := (HB.out.below hb).bx.cell (i := 1) (v := .slice xS mS cS) rfl
    have y2 := (HB.out.below hb).bx.cell (i := 2) (v := .slice xD mD cD) rfl
    have y3 := (HB.out.below hb).bx.cell (i := 3) (v := .int .i64 fr) rfl
    have y4 := (HB.out.below hb).bx.cell (i := 4) (v := .int .i64 to) rfl
    have y5 := (HB.out.below hb).bx.cell (i := 5) (v := .int .i64 cut) rfl
    have c1 : Calls Try.prog 9 #[.pointer (some (P k)), .agg #[.slice xR mR cR, .slice xS mS cS, .slice xD mD cD, .int .i64 fr, .int .i64 to, .int .i64 cut], .slice xf nf cf] wr fun e w' => e = .returned (.bool true) ∧ Below wr.heap.size wr w' := anew9_any (P k) k _ _ (.slice xR mR cR) (.slice xS mS cS) (.slice xD mD cD) (.slice xf nf cf) nf Ff fr to cut wr ((HB.out.below hb).ks k hlt) (HM.out.below hb) (HF0.out.below hb) hnf
    have ib : ((k : Nat) : Int) < 3 := by omega
    have HS : Hid (Below x0.heap.size x0 wr ∧ x0.heap.size ≤ wr.heap.size) := ⟨hb, hb.size⟩
    clear hb
    go_wp2_with (go_at_call 9; (with_reducible refine c1.mono ?_); rintro e x1 ⟨rfl, b1⟩; clear c1; replace HS : Hid (Below x0.heap.size x0 x1 ∧ x0.heap.size ≤ x1.heap.size) := ⟨HS.out.1.trans (b1.mono HS.out.1.size), Nat.le_trans HS.out.2 b1.size⟩; clear b1)
    clear q1 y0 y1 y2 y3 y4 y5
    refine region_planI (fun w' => w'.cell? ⟨gs, 2, none⟩ = some (.slice xD mD cD)) [0, 1, 3, 4, 2, 5, 6, 7] [4, 0, 2] 148 ((HB.out.below HS.out.1).bx.cell rfl) (by kernel_rfl) (by kernel_rfl) (fun _ a d v _ h => by cases d <;> exact h) ?_
    simp only [atI, List.getElem?_cons_zero, List.getElem?_cons_succ]
    have c2 := copies9_any (.slice xD mD cD) mD nD DD x1.drew (by exact (HB.out.below HS.out.1).iq.dsts) (HB.out.iq.dstsl) (HB.out.iq.dstsn)
    refine planH_step ?A2 rfl (fun w' hS => ?s2) rfl (fun K hK => ?n2)
    case s2 =>
      have y0 := hS
      simp only [List.take_succ_cons, List.take_zero]
      repeat still_step
      exact rfl
    case n2 =>
    go_simp
    go_wp2_with (go_at_call 10; (with_reducible refine c2.mono ?_); rintro e x2 ⟨v2, B2, rfl, r2, bb⟩)
    clear c2
    have b2 := Below.undraw bb
    clear bb
    replace HS : Hid ((Below x0.heap.size x0 x2) ∧ (x0.heap.size ≤ x1.heap.size) ∧ (Cs x1.heap.size x2.heap.size x2 v2 mD nD nD B2 DD) ∧ (x1.heap.size ≤ x2.heap.size)) := ⟨(HS.out.1).trans ((b2).mono (HS.out.1).size), HS.out.2, r2, b2.size⟩
    clear b2
    refine hK _ _ ((HB.out.below HS.out.1).bx.cell rfl) ?_
    clear hK K
    clear r2
    have c3 := copies9_any (.slice xD mD cD) mD nD DD x2 (by exact (HB.out.below HS.out.1).iq.dsts) (HB.out.iq.dstsl) (HB.out.iq.dstsn)
    refine planH_step ?A3 rfl (fun w' hS => ?s3) rfl (fun K hK => ?n3)
    case s3 =>
      have y0 := hS
      simp only [List.take_zero]
      exact rfl
    case n3 =>
    go_simp
    go_wp2_with (go_at_call 10; (with_reducible refine c3.mono ?_); rintro e x3 ⟨v3, B3, rfl, r3, bb⟩)
    clear c3
    have b3 := bb
    clear bb
    replace HS : Hid ((Below x0.heap.size x0 x3) ∧ (x0.heap.size ≤ x1.heap.size) ∧ (Cs x1.heap.size x2.heap.size x3 v2 mD nD nD B2 DD) ∧ (x1.heap.size ≤ x2.heap.size) ∧ (Cs x2.heap.size x3.heap.size x3 v3 mD nD nD B3 DD) ∧ (x2.heap.size ≤ x3.heap.size)) := ⟨(HS.out.1).trans ((b3).mono (HS.out.1).size), HS.out.2.1, (HS.out.2.2.1).below (b3), HS.out.2.2.2, r3, b3.size⟩
    clear b3
    refine hK _ _ ((HB.out.below HS.out.1).bx.cell rfl) ?_
    clear hK K
    clear r3
    refine planH_last ?A4 rfl (fun w' hS => ?s4) rfl ?n4
    case s4 =>
      have y0 := hS
      simp only [List.take_succ_cons, List.take_zero]
      repeat still_step
      exact rfl
    case n4 =>
    go_wp2
    refine region_planI (fun w' => w'.cell? ⟨gs, 0, none⟩ = some (.slice xR mR cR) ∧ w'.cell? ⟨gs, 1, none⟩ = some (.slice xS mS cS) ∧ w'.cell? ⟨gp, 0, none⟩ = some (.int .i64 fr) ∧ w'.cell? ⟨gp, 1, none⟩ = some (.int .i64 to)) [0, 1, 2, 4, 5, 7, 8, 3, 6, 9, 10] [7, 0, 0, 1] 148 ⟨(HB.out.below HS.out.1).bx.cell rfl, (HB.out.below HS.out.1).bx.cell rfl, (HP.out.below HS.out.1).c0, (HP.out.below HS.out.1).c1⟩ (by kernel_rfl) (by kernel_rfl) (fun _ a d v _ h => by cases d <;> exact h) ?_
    simp only [atI, List.getElem?_cons_zero, List.getElem?_cons_succ]
    have c5 := copies9_any (.slice xR mR cR) mR nR RR x3.drew (by exact (HB.out.below HS.out.1).iq.rows) (HB.out.iq.rowsl) (HB.out.iq.rowsn)
    refine planH_step ?A5 rfl (fun w' hS => ?s5) rfl (fun K hK => ?n5)
    case s5 =>
      obtain ⟨y0, y1, y2, y3⟩ := hS
      simp only [List.take_succ_cons, List.take_zero]
      repeat still_step
      exact rfl
    case n5 =>
    go_simp
    go_wp2_with (go_at_call 10; (with_reducible refine c5.mono ?_); rintro e x5 ⟨v5, B5, rfl, r5, bb⟩)
    clear c5
    have b5 := Below.undraw bb
    clear bb
    replace HS : Hid ((Below x0.heap.size x0 x5) ∧ (x0.heap.size ≤ x1.heap.size) ∧ (Cs x1.heap.size x2.heap.size x5 v2 mD nD nD B2 DD) ∧ (x1.heap.size ≤ x2.heap.size) ∧ (Cs x2.heap.size x3.heap.size x5 v3 mD nD nD B3 DD) ∧ (x2.heap.size ≤ x3.heap.size) ∧ (Cs x3.heap.size x5.heap.size x5 v5 mR nR nR B5 RR) ∧ (x3.heap.size ≤ x5.heap.size)) := ⟨(HS.out.1).trans ((b5).mono (HS.out.1).size), HS.out.2.1, (HS.out.2.2.1).below (b5), HS.out.2.2.2.1, (HS.out.2.2.2.2.1).below (b5), HS.out.2.2.2.2.2, r5, b5.size⟩
    clear b5
    refine hK _ _ ⟨(HB.out.below HS.out.1).bx.cell rfl, (HB.out.below HS.out.1).bx.cell rfl, (HP.out.below HS.out.1).c0, (HP.out.below HS.out.1).c1⟩ ?_
    clear hK K
    clear r5
    have c6 := copies9_any (.slice xS mS cS) mS nS SS x5 (by exact (HB.out.below HS.out.1).iq.srcs) (HB.out.iq.srcsl) (HB.out.iq.srcsn)
    refine planH_step ?A6 rfl (fun w' hS => ?s6) rfl (fun K hK => ?n6)
    case s6 =>
      obtain ⟨y0, y1, y2, y3⟩ := hS
      simp only [List.take_zero]
      exact rfl
    case n6 =>
    go_simp
    go_wp2_with (go_at_call 10; (with_reducible refine c6.mono ?_); rintro e x6 ⟨v6, B6, rfl, r6, bb⟩)
    clear c6
    have b6 := bb
    clear bb
    replace HS : Hid ((Below x0.heap.size x0 x6) ∧ (x0.heap.size ≤ x1.heap.size) ∧ (Cs x1.heap.size x2.heap.size x6 v2 mD nD nD B2 DD) ∧ (x1.heap.size ≤ x2.heap.size) ∧ (Cs x2.heap.size x3.heap.size x6 v3 mD nD nD B3 DD) ∧ (x2.heap.size ≤ x3.heap.size) ∧ (Cs x3.heap.size x5.heap.size x6 v5 mR nR nR B5 RR) ∧ (x3.heap.size ≤ x5.heap.size) ∧ (Cs x5.heap.size x6.heap.size x6 v6 mS nS nS B6 SS) ∧ (x5.heap.size ≤ x6.heap.size)) := ⟨(HS.out.1).trans ((b6).mono (HS.out.1).size), HS.out.2.1, (HS.out.2.2.1).below (b6), HS.out.2.2.2.1, (HS.out.2.2.2.2.1).below (b6), HS.out.2.2.2.2.2.1, (HS.out.2.2.2.2.2.2.1).below (b6), HS.out.2.2.2.2.2.2.2, r6, b6.size⟩
    clear b6
    refine hK _ _ ⟨(HB.out.below HS.out.1).bx.cell rfl, (HB.out.below HS.out.1).bx.cell rfl, (HP.out.below HS.out.1).c0, (HP.out.below HS.out.1).c1⟩ ?_
    clear hK K
    clear r6
    obtain ⟨f_bel, f_bel0, f_old, f_oldsz, f_fresh, f_freshsz, f_ra, f_rasz, f_sa, f_sasz⟩ := HS.out
    have c7 := cs_apply (p := P k) f_old ((f_ra).ll (fun q h1 h2 e => by have := e.1; have := e.2; omega)) ((f_sa).ll (fun q h1 h2 e => by have := e.1; have := e.2; omega)) ((HB.out.below f_bel).ks k hlt) (by have := (HB.out.ks k hlt).hi; have := f_bel0; omega) (fr) (to) HB.out.iq.rowsl HB.out.iq.srcsl HB.out.iq.dstsl
    clear f_bel f_bel0 f_old f_oldsz f_fresh f_freshsz f_ra f_rasz f_sa f_sasz
    refine planH_step ?A7 rfl (fun w' hS => ?s7) rfl (fun K hK => ?n7)
    case s7 =>
      obtain ⟨y0, y1, y2, y3⟩ := hS
      simp only [List.take_zero]
      exact rfl
    case n7 =>
    go_simp
    go_wp2_with (go_at_call 11; (with_reducible refine c7.mono ?_); rintro e x7 ⟨rfl, hk, hC⟩)
    clear c7
    obtain ⟨f_bel, f_bel0, f_old, f_oldsz, f_fresh, f_freshsz, f_ra, f_rasz, f_sa, f_sasz⟩ := HS.out
    replace HS : Hid ((Below x0.heap.size x0 x7) ∧ (x0.heap.size ≤ x1.heap.size) ∧ (Cs x1.heap.size x2.heap.size x7 v2 mD nD nD B2 (ap9 mR mS mD nR nS nD fr to RR SS DD)) ∧ (x1.heap.size ≤ x2.heap.size) ∧ (Cs x2.heap.size x3.heap.size x7 v3 mD nD nD B3 DD) ∧ (x2.heap.size ≤ x3.heap.size) ∧ (Cs x3.heap.size x5.heap.size x7 v5 mR nR nR B5 RR) ∧ (x3.heap.size ≤ x5.heap.size) ∧ (Cs x5.heap.size x6.heap.size x7 v6 mS nS nS B6 SS) ∧ (x5.heap.size ≤ x6.heap.size) ∧ (x6.heap.size ≤ x7.heap.size)) := ⟨f_bel.trans (hk.below (fun q hq => by have := hq.1; omega) f_bel.size), f_bel0, hC, f_oldsz, f_fresh.keep hk (fun q h1 h2 e => by have := e.1; have := e.2; omega), f_freshsz, f_ra.keep hk (fun q h1 h2 e => by have := e.1; have := e.2; omega), f_rasz, f_sa.keep hk (fun q h1 h2 e => by have := e.1; have := e.2; omega), f_sasz, hk.size⟩
    clear hk hC f_bel f_bel0 f_old f_oldsz f_fresh f_freshsz f_ra f_rasz f_sa f_sasz
    refine hK _ _ ⟨(HB.out.below HS.out.1).bx.cell rfl, (HB.out.below HS.out.1).bx.cell rfl, (HP.out.below HS.out.1).c0, (HP.out.below HS.out.1).c1⟩ ?_
    clear hK K
    refine planH_last ?A8 rfl (fun w' hS => ?s8) rfl ?n8
    case s8 =>
      obtain ⟨y0, y1, y2, y3⟩ := hS
      simp only [List.take_succ_cons, List.take_zero]
      repeat still_step
      exact rfl
    case n8 =>
    replace HS : Hid ((Below x0.heap.size x0 x7) ∧ (x0.heap.size ≤ x1.heap.size) ∧ (Cs x1.heap.size x2.heap.size x7 v2 mD nD nD B2 (ap9 mR mS mD nR nS nD fr to RR SS DD)) ∧ (x1.heap.size ≤ x2.heap.size) ∧ (Cs x2.heap.size x3.heap.size x7 v3 mD nD nD B3 DD) ∧ (x2.heap.size ≤ x3.heap.size) ∧ (x3.heap.size ≤ x5.heap.size) ∧ (x5.heap.size ≤ x6.heap.size) ∧ (x6.heap.size ≤ x7.heap.size)) := ⟨HS.out.1, HS.out.2.1, HS.out.2.2.1, HS.out.2.2.2.1, HS.out.2.2.2.2.1, HS.out.2.2.2.2.2.1, HS.out.2.2.2.2.2.2.2.1, HS.out.2.2.2.2.2.2.2.2.2.1, HS.out.2.2.2.2.2.2.2.2.2.2⟩
    have HE : Hid (Below x0.heap.size x0 x7) := HS.out.1
    have y1 := (HB.out.below HS.out.1).bx.cell (i := 1) (v := .slice xS mS cS) rfl
    by_cases hf : fit9 mR mS mD nR nS nD fr to = 0
    case neg =>
      have hf' : ¬ ((fit9 mR mS mD nR nS nD fr to : Int) = 0) := fun e => hf (Int.ofNat.inj e)
      clear HS
      generalize fit9 mR mS mD nR nS nD fr to = z at hf hf' ⊢
      go_wp2
      go_roundw
      case rel => exact ⟨k + 1, by omega, by first | rfl | (rw [W1]; rfl), HE.out⟩
      case measure => first | (rw [W1]; simp [intOf]; omega) | (simp [intOf]; omega)
    case pos =>
    have HF : Hid (fit9 mR mS mD nR nS nD fr to = 0) := hf
    rw [hf]
    clear hf
    by_cases h1 : which < 0
    case pos =>
      clear HS
      go_wp2
      go_roundw
      case rel => exact ⟨k + 1, by omega, by first | rfl | (rw [W1]; rfl), HE.out⟩
      case measure => first | (rw [W1]; simp [intOf]; omega) | (simp [intOf]; omega)
    case neg =>
    by_cases h2 : which ≥ (mS : Int)
    case pos =>
      clear HS
      go_wp2
      go_roundw
      case rel => exact ⟨k + 1, by omega, by first | rfl | (rw [W1]; rfl), HE.out⟩
      case measure => first | (rw [W1]; simp [intOf]; omega) | (simp [intOf]; omega)
    case neg =>
    obtain ⟨q, rfl⟩ : ∃ q : Nat, which = (q : Int) := ⟨which.toNat, by omega⟩
    have hq : q < mS := by omega
    have h2a : ((q : Nat) : Int) < (mS : Int) := by omega
    obtain ⟨V, ⟨-, aS, cS2, eS, -, -, hS4⟩, hSV⟩ := (HB.out.below HE.out).iq.srcs
    cases eS
    obtain ⟨bS, oS, rfl, -, hSc⟩ := hS4 (by omega)
    have p1 := hSc q hq
    obtain ⟨-, -, aq, cq, eq, -, -, -⟩ := hSV q hq
    rw [eq] at p1
    clear hS4 hSc hSV eq
    by_cases h3 : nf = nS q
    case neg =>
      have h3' : ¬ ((nf : Nat) : Int) = (nS q : Int) := fun e => h3 (Int.ofNat.inj e)
      clear HS
      go_wp2
      go_roundw
      case rel => exact ⟨k + 1, by omega, by first | rfl | (rw [W1]; rfl), HE.out⟩
      case measure => first | (rw [W1]; simp [intOf]; omega) | (simp [intOf]; omega)
    case pos =>
    subst h3
    have c20 := copies9_any (.slice (some ⟨bS, oS, none⟩) mS cS) mS nS SS x7 (HB.out.below HE.out).iq.srcs HB.out.iq.srcsl HB.out.iq.srcsn
    clear HE
    go_wp2_with (go_at_call 10; (with_reducible refine c20.mono ?_); rintro e x20 ⟨v20, B20, rfl, r20, bb⟩; clear c20; replace HS : Hid ((Below x0.heap.size x0 x20) ∧ (x0.heap.size ≤ x1.heap.size) ∧ (Cs x1.heap.size x2.heap.size x20 v2 mD nD nD B2 (ap9 mR mS mD nR nS nD fr to RR SS DD)) ∧ (x1.heap.size ≤ x2.heap.size) ∧ (Cs x2.heap.size x3.heap.size x20 v3 mD nD nD B3 DD) ∧ (x2.heap.size ≤ x3.heap.size) ∧ (x3.heap.size ≤ x5.heap.size) ∧ (x5.heap.size ≤ x6.heap.size) ∧ (x6.heap.size ≤ x7.heap.size) ∧ (Cs x7.heap.size x20.heap.size x20 v20 mS nS nS B20 SS) ∧ (x7.heap.size ≤ x20.heap.size)) := ⟨(HS.out.1).trans ((bb).mono (HS.out.1).size), HS.out.2.1, (HS.out.2.2.1).below (bb), HS.out.2.2.2.1, (HS.out.2.2.2.2.1).below (bb), HS.out.2.2.2.2.2.1, HS.out.2.2.2.2.2.2.1, HS.out.2.2.2.2.2.2.2.1, HS.out.2.2.2.2.2.2.2.2, r20, bb.size⟩; clear bb r20)
    clear y1 p1
    obtain ⟨av, cv, ev, -, hcv, hfv⟩ := (HS.out.2.2.2.2.2.2.2.2.2.1).form
    subst ev
    obtain ⟨gv, rfl, gv1, gv2, gv3, gv4⟩ := hfv (by omega)
    have gv5 := gv4 q hq
    have gv6 : gv ≠ B20 q := fun e => gv3 q hq e.symm
    replace HS : Hid ((Below x0.heap.size x0 x20) ∧ (x0.heap.size ≤ x1.heap.size) ∧ (Cs x1.heap.size x2.heap.size x20 v2 mD nD nD B2 (ap9 mR mS mD nR nS nD fr to RR SS DD)) ∧ (x1.heap.size ≤ x2.heap.size) ∧ (Cs x2.heap.size x3.heap.size x20 v3 mD nD nD B3 DD) ∧ (x2.heap.size ≤ x3.heap.size) ∧ (x3.heap.size ≤ x5.heap.size) ∧ (x5.heap.size ≤ x6.heap.size) ∧ (x6.heap.size ≤ x7.heap.size) ∧ (Cs x7.heap.size x20.heap.size x20 (.slice (some ⟨gv, 0, none⟩) mS cv) mS nS nS B20 SS) ∧ (x7.heap.size ≤ x20.heap.size) ∧ (x20.cell? ⟨gv, q, none⟩ = some (.slice (some ⟨B20 q, 0, none⟩) (nS q) (nS q)))) := ⟨HS.out.1, HS.out.2.1, HS.out.2.2.1, HS.out.2.2.2.1, HS.out.2.2.2.2.1, HS.out.2.2.2.2.2.1, HS.out.2.2.2.2.2.2.1, HS.out.2.2.2.2.2.2.2.1, HS.out.2.2.2.2.2.2.2.2.1, HS.out.2.2.2.2.2.2.2.2.2.1, HS.out.2.2.2.2.2.2.2.2.2.2, gv5⟩
    clear hfv gv4 gv3 gv5
    refine region_planI (fun w' => w'.cell? ⟨gv, q, none⟩ = some (.slice (some ⟨B20 q, 0, none⟩) (nS q) (nS q))) [0, 1, 2, 3, 4, 5, 6, 7] [5, 0, 1] 148 (HS.out.2.2.2.2.2.2.2.2.2.2.2) (by kernel_rfl) (by kernel_rfl) (fun _ a d v _ h => by cases d <;> exact h) ?_
    simp only [atI, List.getElem?_cons_zero, List.getElem?_cons_succ]
    have c21 := cd9 (.slice xf (nS q) cf) (nS q) Ff x20.drew (by exact HF0.out.below (HS.out.1).drew) hnf
    refine planH_step ?A21 rfl (fun w' hS => ?s21) rfl (fun K hK => ?n21)
    case s21 =>
      have y0 := hS
      simp only [List.take_succ_cons, List.take_zero]
      repeat still_step
      exact rfl
    case n21 =>
    go_simp
    go_wp2_with (go_at_call 13; (with_reducible refine c21.mono ?_); rintro e x21 ⟨g21, rfl, r21, l21, bb⟩)
    clear c21
    have b21 := Below.undraw bb
    clear bb
    replace HS : Hid ((Below x0.heap.size x0 x21) ∧ (x0.heap.size ≤ x1.heap.size) ∧ (Cs x1.heap.size x2.heap.size x21 v2 mD nD nD B2 (ap9 mR mS mD nR nS nD fr to RR SS DD)) ∧ (x1.heap.size ≤ x2.heap.size) ∧ (Cs x2.heap.size x3.heap.size x21 v3 mD nD nD B3 DD) ∧ (x2.heap.size ≤ x3.heap.size) ∧ (x3.heap.size ≤ x5.heap.size) ∧ (x5.heap.size ≤ x6.heap.size) ∧ (x6.heap.size ≤ x7.heap.size) ∧ (Cs x7.heap.size x20.heap.size x21 (.slice (some ⟨gv, 0, none⟩) mS cv) mS nS nS B20 SS) ∧ (x7.heap.size ≤ x20.heap.size) ∧ (x21.cell? ⟨gv, q, none⟩ = some (.slice (some ⟨B20 q, 0, none⟩) (nS q) (nS q))) ∧ (Rw x21 g21 (nS q) Ff) ∧ (x20.heap.size ≤ g21) ∧ (x20.heap.size ≤ x21.heap.size)) := ⟨(HS.out.1).trans ((b21).mono (HS.out.1).size), HS.out.2.1, (HS.out.2.2.1).below (b21), HS.out.2.2.2.1, (HS.out.2.2.2.2.1).below (b21), HS.out.2.2.2.2.2.1, HS.out.2.2.2.2.2.2.1, HS.out.2.2.2.2.2.2.2.1, HS.out.2.2.2.2.2.2.2.2.1, (HS.out.2.2.2.2.2.2.2.2.2.1).below (b21), HS.out.2.2.2.2.2.2.2.2.2.2.1, (Below.cell (b21) (p := ⟨gv, q, none⟩) gv2).trans (HS.out.2.2.2.2.2.2.2.2.2.2.2), r21, l21, b21.size⟩
    clear b21
    refine hK _ _ (HS.out.2.2.2.2.2.2.2.2.2.2.2.1) ?_
    clear hK K
    clear r21 l21
    obtain ⟨f_bel, f_bel0, f_old, f_oldsz, f_fresh, f_freshsz, f_rasz, f_sasz, f_szap7, f_srcs, f_srcssz, f_sq, f_dc, f_dclo, f_sz21⟩ := HS.out
    have hB := f_srcs.row q hq
    have e22 : er9 (nS q) (nS q) = 0 := by unfold er9; rw [if_pos rfl]
    have c22 := rw_xor9 hB.2.2.2 (f_dc.re (E := fun y => y = B20 q) (Nat.le_refl _) (Nat.le_refl _) f_dc.1 (fun e => Nat.lt_irrefl _ (Nat.lt_of_lt_of_le (e ▸ hB.2.1) f_dclo)))
    rw [e22] at c22
    clear hB e22 f_bel f_bel0 f_old f_oldsz f_fresh f_freshsz f_rasz f_sasz f_szap7 f_srcs f_srcssz f_sq f_dc f_dclo f_sz21
    refine planH_step ?A22 rfl (fun w' hS => ?s22) rfl (fun K hK => ?n22)
    case s22 =>
      have y0 := hS
      simp only [List.take_zero]
      exact rfl
    case n22 =>
    go_simp
    go_wp2_with (go_at_call 12; (with_reducible refine c22.mono ?_); rintro e x22 ⟨rfl, k22, r22⟩)
    clear c22
    obtain ⟨f_bel, f_bel0, f_old, f_oldsz, f_fresh, f_freshsz, f_rasz, f_sasz, f_szap7, f_srcs, f_srcssz, f_sq, f_dc, f_dclo, f_sz21⟩ := HS.out
    obtain ⟨hB1, hB2, -, -⟩ := f_srcs.row q hq
    obtain ⟨SS2, hSS2⟩ : ∃ T : Nat → Nat → Nat, T = fun i j => if i = q then SS q j ^^^ Ff j else SS i j := ⟨_, rfl⟩
    have hC22 : Cs x7.heap.size x20.heap.size x22 (.slice (some ⟨gv, 0, none⟩) mS cv) mS nS nS B20 SS2 := f_srcs.turn (k22.ke.mono (fun y _ e => ⟨q, hq, e⟩)) (fun i hi => by
      by_cases e : i = q
      · subst e
        exact r22.congr (fun j hj => by unfold vl9; rw [if_pos rfl, hSS2]; show Ff j ^^^ SS i j = (if i = i then SS i j ^^^ Ff j else SS i j); rw [if_pos rfl, Nat.xor_comm])
      · exact (k22.rw_ (f_srcs.row i hi).2.2.2 (fun x => e (f_srcs.inj i q hi hq x))).congr (fun j hj => by rw [hSS2]; show SS i j = (if i = q then SS q j ^^^ Ff j else SS i j); rw [if_neg e]))
    replace HS : Hid ((Below x0.heap.size x0 x22) ∧ (x0.heap.size ≤ x1.heap.size) ∧ (Cs x1.heap.size x2.heap.size x22 v2 mD nD nD B2 (ap9 mR mS mD nR nS nD fr to RR SS DD)) ∧ (x1.heap.size ≤ x2.heap.size) ∧ (Cs x2.heap.size x3.heap.size x22 v3 mD nD nD B3 DD) ∧ (x2.heap.size ≤ x3.heap.size) ∧ (x3.heap.size ≤ x5.heap.size) ∧ (x5.heap.size ≤ x6.heap.size) ∧ (x6.heap.size ≤ x7.heap.size) ∧ (Cs x7.heap.size x20.heap.size x22 (.slice (some ⟨gv, 0, none⟩) mS cv) mS nS nS B20 SS2) ∧ (x7.heap.size ≤ x20.heap.size) ∧ (x22.cell? ⟨gv, q, none⟩ = some (.slice (some ⟨B20 q, 0, none⟩) (nS q) (nS q))) ∧ (x20.heap.size ≤ x21.heap.size) ∧ (x21.heap.size ≤ x22.heap.size)) := ⟨f_bel.trans (k22.below (by omega) f_bel.size), f_bel0, f_old.keep k22.ke (fun y h1 h2 e => by omega), f_oldsz, f_fresh.keep k22.ke (fun y h1 h2 e => by omega), f_freshsz, f_rasz, f_sasz, f_szap7, hC22, f_srcssz, (k22.cell (Nat.lt_of_lt_of_le gv2 f_sz21) gv6).trans f_sq, f_sz21, k22.size⟩
    clear k22 r22 hC22 hB1 hB2 f_bel f_bel0 f_old f_oldsz f_fresh f_freshsz f_rasz f_sasz f_szap7 f_srcs f_srcssz f_sq f_dc f_dclo f_sz21
    refine hK _ _ (HS.out.2.2.2.2.2.2.2.2.2.2.2.1) ?_
    clear hK K
    refine planH_last ?A23 rfl (fun w' hS => ?s23) rfl ?n23
    case s23 =>
      have y0 := hS
      simp only [List.take_succ_cons, List.take_zero]
      repeat still_step
      exact rfl
    case n23 =>
    go_wp2
    replace HS : Hid ((Below x0.heap.size x0 x22) ∧ (x0.heap.size ≤ x1.heap.size) ∧ (Cs x1.heap.size x2.heap.size x22 v2 mD nD nD B2 (ap9 mR mS mD nR nS nD fr to RR SS DD)) ∧ (x1.heap.size ≤ x2.heap.size) ∧ (Cs x2.heap.size x3.heap.size x22 v3 mD nD nD B3 DD) ∧ (x2.heap.size ≤ x3.heap.size) ∧ (x3.heap.size ≤ x5.heap.size) ∧ (x5.heap.size ≤ x6.heap.size) ∧ (x6.heap.size ≤ x7.heap.size) ∧ (Cs x7.heap.size x20.heap.size x22 (.slice (some ⟨gv, 0, none⟩) mS cv) mS nS nS B20 SS2) ∧ (x7.heap.size ≤ x20.heap.size) ∧ (x20.heap.size ≤ x21.heap.size) ∧ (x21.heap.size ≤ x22.heap.size)) := ⟨HS.out.1, HS.out.2.1, HS.out.2.2.1, HS.out.2.2.2.1, HS.out.2.2.2.2.1, HS.out.2.2.2.2.2.1, HS.out.2.2.2.2.2.2.1, HS.out.2.2.2.2.2.2.2.1, HS.out.2.2.2.2.2.2.2.2.1, HS.out.2.2.2.2.2.2.2.2.2.1, HS.out.2.2.2.2.2.2.2.2.2.2.1, HS.out.2.2.2.2.2.2.2.2.2.2.2.2.1, HS.out.2.2.2.2.2.2.2.2.2.2.2.2.2⟩
    refine region_planI (fun w' => w'.cell? ⟨gs, 0, none⟩ = some (.slice xR mR cR) ∧ w'.cell? ⟨gp, 0, none⟩ = some (.int .i64 fr) ∧ w'.cell? ⟨gp, 1, none⟩ = some (.int .i64 to)) [0, 1, 2, 4, 5, 6, 3, 7, 8] [6, 0, 1] 148 ⟨(HB.out.below HS.out.1).bx.cell rfl, (HP.out.below HS.out.1).c0, (HP.out.below HS.out.1).c1⟩ (by kernel_rfl) (by kernel_rfl) (fun _ a d v _ h => by cases d <;> exact h) ?_
    simp only [atI, List.getElem?_cons_zero, List.getElem?_cons_succ]
    have c24 := copies9_any (.slice xR mR cR) mR nR RR x22.drew (by exact (HB.out.below HS.out.1).iq.rows) (HB.out.iq.rowsl) (HB.out.iq.rowsn)
    refine planH_step ?A24 rfl (fun w' hS => ?s24) rfl (fun K hK => ?n24)
    case s24 =>
      obtain ⟨y0, y1, y2⟩ := hS
      simp only [List.take_succ_cons, List.take_zero]
      repeat still_step
      exact rfl
    case n24 =>
    go_simp
    go_wp2_with (go_at_call 10; (with_reducible refine c24.mono ?_); rintro e x24 ⟨v24, B24, rfl, r24, bb⟩)
    clear c24
    have b24 := Below.undraw bb
    clear bb
    replace HS : Hid ((Below x0.heap.size x0 x24) ∧ (x0.heap.size ≤ x1.heap.size) ∧ (Cs x1.heap.size x2.heap.size x24 v2 mD nD nD B2 (ap9 mR mS mD nR nS nD fr to RR SS DD)) ∧ (x1.heap.size ≤ x2.heap.size) ∧ (Cs x2.heap.size x3.heap.size x24 v3 mD nD nD B3 DD) ∧ (x2.heap.size ≤ x3.heap.size) ∧ (x3.heap.size ≤ x5.heap.size) ∧ (x5.heap.size ≤ x6.heap.size) ∧ (x6.heap.size ≤ x7.heap.size) ∧ (Cs x7.heap.size x20.heap.size x24 (.slice (some ⟨gv, 0, none⟩) mS cv) mS nS nS B20 SS2) ∧ (x7.heap.size ≤ x20.heap.size) ∧ (x20.heap.size ≤ x21.heap.size) ∧ (x21.heap.size ≤ x22.heap.size) ∧ (Cs x22.heap.size x24.heap.size x24 v24 mR nR nR B24 RR) ∧ (x22.heap.size ≤ x24.heap.size)) := ⟨(HS.out.1).trans ((b24).mono (HS.out.1).size), HS.out.2.1, (HS.out.2.2.1).below (b24), HS.out.2.2.2.1, (HS.out.2.2.2.2.1).below (b24), HS.out.2.2.2.2.2.1, HS.out.2.2.2.2.2.2.1, HS.out.2.2.2.2.2.2.2.1, HS.out.2.2.2.2.2.2.2.2.1, (HS.out.2.2.2.2.2.2.2.2.2.1).below (b24), HS.out.2.2.2.2.2.2.2.2.2.2.1, HS.out.2.2.2.2.2.2.2.2.2.2.2.1, HS.out.2.2.2.2.2.2.2.2.2.2.2.2, r24, b24.size⟩
    clear b24
    refine hK _ _ ⟨(HB.out.below HS.out.1).bx.cell rfl, (HP.out.below HS.out.1).c0, (HP.out.below HS.out.1).c1⟩ ?_
    clear hK K
    clear r24
    obtain ⟨f_bel, f_bel0, f_old, f_oldsz, f_fresh, f_freshsz, f_rasz, f_sasz, f_szap7, f_srcs, f_srcssz, f_sz21, f_sz22, f_rb, f_rbsz⟩ := HS.out
    have c25 := cs_apply (p := P k) f_fresh ((f_rb).ll (fun q h1 h2 e => by have := e.1; have := e.2; omega)) ((f_srcs).ll (fun q h1 h2 e => by have := e.1; have := e.2; omega)) ((HB.out.below f_bel).ks k hlt) (by have := (HB.out.ks k hlt).hi; have := f_bel0; omega) (fr) (to) HB.out.iq.rowsl HB.out.iq.srcsl HB.out.iq.dstsl
    clear f_bel f_bel0 f_old f_oldsz f_fresh f_freshsz f_rasz f_sasz f_szap7 f_srcs f_srcssz f_sz21 f_sz22 f_rb f_rbsz
    refine planH_step ?A25 rfl (fun w' hS => ?s25) rfl (fun K hK => ?n25)
    case s25 =>
      obtain ⟨y0, y1, y2⟩ := hS
      simp only [List.take_zero]
      exact rfl
    case n25 =>
    go_simp
    go_wp2_with (go_at_call 11; (with_reducible refine c25.mono ?_); rintro e x25 ⟨rfl, hk, hC⟩)
    clear c25
    obtain ⟨f_bel, f_bel0, f_old, f_oldsz, f_fresh, f_freshsz, f_rasz, f_sasz, f_szap7, f_srcs, f_srcssz, f_sz21, f_sz22, f_rb, f_rbsz⟩ := HS.out
    replace HS : Hid ((Below x0.heap.size x0 x25) ∧ (x0.heap.size ≤ x1.heap.size) ∧ (Cs x1.heap.size x2.heap.size x25 v2 mD nD nD B2 (ap9 mR mS mD nR nS nD fr to RR SS DD)) ∧ (x1.heap.size ≤ x2.heap.size) ∧ (Cs x2.heap.size x3.heap.size x25 v3 mD nD nD B3 (ap9 mR mS mD nR nS nD fr to RR SS2 DD)) ∧ (x2.heap.size ≤ x3.heap.size) ∧ (x3.heap.size ≤ x5.heap.size) ∧ (x5.heap.size ≤ x6.heap.size) ∧ (x6.heap.size ≤ x7.heap.size) ∧ (Cs x7.heap.size x20.heap.size x25 (.slice (some ⟨gv, 0, none⟩) mS cv) mS nS nS B20 SS2) ∧ (x7.heap.size ≤ x20.heap.size) ∧ (x20.heap.size ≤ x21.heap.size) ∧ (x21.heap.size ≤ x22.heap.size) ∧ (Cs x22.heap.size x24.heap.size x25 v24 mR nR nR B24 RR) ∧ (x22.heap.size ≤ x24.heap.size) ∧ (x24.heap.size ≤ x25.heap.size)) := ⟨f_bel.trans (hk.below (fun q hq => by have := hq.1; omega) f_bel.size), f_bel0, f_old.keep hk (fun q h1 h2 e => by have := e.1; have := e.2; omega), f_oldsz, hC, f_freshsz, f_rasz, f_sasz, f_szap7, f_srcs.keep hk (fun q h1 h2 e => by have := e.1; have := e.2; omega), f_srcssz, f_sz21, f_sz22, f_rb.keep hk (fun q h1 h2 e => by have := e.1; have := e.2; omega), f_rbsz, hk.size⟩
    clear hk hC f_bel f_bel0 f_old f_oldsz f_fresh f_freshsz f_rasz f_sasz f_szap7 f_srcs f_srcssz f_sz21 f_sz22 f_rb f_rbsz
    refine hK _ _ ⟨(HB.out.below HS.out.1).bx.cell rfl, (HP.out.below HS.out.1).c0, (HP.out.below HS.out.1).c1⟩ ?_
    clear hK K
    refine planH_last ?A26 rfl (fun w' hS => ?s26) rfl ?n26
    case s26 =>
      obtain ⟨y0, y1, y2⟩ := hS
      simp only [List.take_succ_cons, List.take_zero]
      repeat still_step
      exact rfl
    case n26 =>
    replace HS : Hid ((Below x0.heap.size x0 x25) ∧ (x0.heap.size ≤ x1.heap.size) ∧ (Cs x1.heap.size x2.heap.size x25 v2 mD nD nD B2 (ap9 mR mS mD nR nS nD fr to RR SS DD)) ∧ (x1.heap.size ≤ x2.heap.size) ∧ (Cs x2.heap.size x3.heap.size x25 v3 mD nD nD B3 (ap9 mR mS mD nR nS nD fr to RR SS2 DD)) ∧ (x2.heap.size ≤ x3.heap.size) ∧ (x3.heap.size ≤ x5.heap.size) ∧ (x5.heap.size ≤ x6.heap.size) ∧ (x6.heap.size ≤ x7.heap.size) ∧ (x7.heap.size ≤ x20.heap.size) ∧ (x20.heap.size ≤ x21.heap.size) ∧ (x21.heap.size ≤ x22.heap.size) ∧ (x22.heap.size ≤ x24.heap.size) ∧ (x24.heap.size ≤ x25.heap.size)) := ⟨HS.out.1, HS.out.2.1, HS.out.2.2.1, HS.out.2.2.2.1, HS.out.2.2.2.2.1, HS.out.2.2.2.2.2.1, HS.out.2.2.2.2.2.2.1, HS.out.2.2.2.2.2.2.2.1, HS.out.2.2.2.2.2.2.2.2.1, HS.out.2.2.2.2.2.2.2.2.2.2.1, HS.out.2.2.2.2.2.2.2.2.2.2.2.1, HS.out.2.2.2.2.2.2.2.2.2.2.2.2.1, HS.out.2.2.2.2.2.2.2.2.2.2.2.2.2.2.1, HS.out.2.2.2.2.2.2.2.2.2.2.2.2.2.2.2⟩
    rw [HF.out]
    have y0 := (HB.out.below HS.out.1).bx.cell (i := 0) (v := .slice xR mR cR) rfl
    go_wp2
    clear y0
    have hmR : mR ≤ 140737488351232 := Nat.le_trans (Nat.le_mul_of_pos_left mR (by decide)) HB.out.iq.rowsl
    go_loopw [17, 106] (fun v i wr => ∃ j : Nat, j ≤ mR ∧ i = .int .i64 j ∧ Gw x25 wr v j (fun i => RR i q)) (fun _ i _ => mR - (intOf i).toNat)
    case atStart => exact ⟨0, Nat.zero_le _, rfl, Gw.start _ _⟩
    case round =>
      obtain ⟨j, hj, rfl, hG⟩ := hrel
      have W2 := wrap_succ8 (j := j) (Nat.lt_of_le_of_lt (Nat.le_trans hj hmR) (by unfold big; decide))
      have hbr := (HS.out.1).trans (hG.1.mono (HS.out.1).size)
      obtain ⟨ac, Cc, ec⟩ := hG.form
      subst ec
      by_cases hltj : j < mR
      case pos =>
        obtain ⟨V2, ⟨-, aR, cR2, eR, -, -, hR4⟩, hRV⟩ := (HB.out.below hbr).iq.rows
        cases eR
        obtain ⟨bR, oR, rfl, -, hRc⟩ := hR4 (Nat.lt_of_le_of_lt (Nat.zero_le _) hltj)
        have p1 := hRc j hltj
        obtain ⟨-, t2, aj, cj, ej, -, -, t4⟩ := hRV j hltj
        rw [ej] at p1
        have hnj : nR j = mS := (fit9_split HF.out).1.2.1 j hltj
        rw [hnj] at p1 t4 t2
        obtain ⟨bj, oj, rfl, -, htc⟩ := t4 (Nat.lt_of_le_of_lt (Nat.zero_le _) hq)
        have p2 := htc q hq
        have y1 := (HB.out.below hbr).bx.cell (i := 1) (v := .slice (some ⟨bS, oS, none⟩) mS cS) rfl
        obtain ⟨w9, v9, hrun, hG2⟩ := app_gw hG (RR j q) (t2 q hq) (Nat.le_trans hltj (Nat.le_trans hmR (by decide)))
        have ibj : ((j : Nat) : Int) < (mR : Int) := Int.ofNat_lt.2 hltj
        have HG : Hid (Gw x25 w9 v9 (j + 1) (fun i => if i < j then RR i q else RR j q)) := hG2
        clear hR4 hRc hRV t2 t4 htc hG hG2 hbr ej HS hcv gv1 gv2 gv6 hnf h3c hgs
        go_wp2_with (at_builtin; refine Lib.wpList_append_run _ rfl _ _ _ _ rfl _ _ rfl rfl _ _ hrun ?_)
        go_roundw
        case rel =>
          refine ⟨_, _, _, _, _, _, _, _, _, _, _, _, _, _, _, _, _, _, _, _, _, ⟨j + 1, hltj, ?ra, ?rb⟩, rfl⟩
          case ra => first | rfl | (rw [W2]; rfl)
          case rb => exact HG.out.congr (fun i hi => by
            by_cases e : i < j
            · rw [if_pos e]
            · rw [if_neg e, show i = j from Nat.le_antisymm (Nat.le_of_lt_succ hi) (Nat.le_of_not_lt e)])
        case measure => first | exact meas_lt8 hltj | (rw [W2]; exact meas_lt8 hltj)
      case neg =>
        obtain rfl : mR = j := Nat.le_antisymm (Nat.le_of_not_lt hltj) hj
        have ibj : ¬ ((mR : Nat) : Int) < (mR : Int) := Int.lt_irrefl _
        clear hltj hj
        obtain ⟨x30, rfl⟩ : ∃ x, x = wr := ⟨_, rfl⟩
        have hx2 : x2.heap.size ≤ x25.heap.size := Nat.le_trans (HS.out.2.2.2.2.2.1) (Nat.le_trans (HS.out.2.2.2.2.2.2.1) (Nat.le_trans (HS.out.2.2.2.2.2.2.2.1) (Nat.le_trans (HS.out.2.2.2.2.2.2.2.2.1) (Nat.le_trans (HS.out.2.2.2.2.2.2.2.2.2.1) (Nat.le_trans (HS.out.2.2.2.2.2.2.2.2.2.2.1) (Nat.le_trans (HS.out.2.2.2.2.2.2.2.2.2.2.2.1) (Nat.le_trans (HS.out.2.2.2.2.2.2.2.2.2.2.2.2.1) (HS.out.2.2.2.2.2.2.2.2.2.2.2.2.2))))))))
        replace HS : Hid ((Below x0.heap.size x0 x30) ∧ (x0.heap.size ≤ x1.heap.size) ∧ (Cs x1.heap.size x2.heap.size x30 v2 mD nD nD B2 (ap9 mR mS mD nR nS nD fr to RR SS DD)) ∧ (x1.heap.size ≤ x2.heap.size) ∧ (Cs x2.heap.size x3.heap.size x30 v3 mD nD nD B3 (ap9 mR mS mD nR nS nD fr to RR SS2 DD)) ∧ (x2.heap.size ≤ x3.heap.size) ∧ (x3.heap.size ≤ x5.heap.size) ∧ (x5.heap.size ≤ x6.heap.size) ∧ (x6.heap.size ≤ x7.heap.size) ∧ (x7.heap.size ≤ x20.heap.size) ∧ (x20.heap.size ≤ x21.heap.size) ∧ (x21.heap.size ≤ x22.heap.size) ∧ (x22.heap.size ≤ x24.heap.size) ∧ (x24.heap.size ≤ x25.heap.size) ∧ (Re (In x1.heap.size x2.heap.size) x30 (.slice ac mR Cc) mR (fun i => RR i q)) ∧ (x25.heap.size ≤ x30.heap.size)) := ⟨(HS.out.1).trans ((hG.1).mono (HS.out.1).size), HS.out.2.1, (HS.out.2.2.1).below (hG.1), HS.out.2.2.2.1, (HS.out.2.2.2.2.1).below (hG.1), HS.out.2.2.2.2.2.1, HS.out.2.2.2.2.2.2.1, HS.out.2.2.2.2.2.2.2.1, HS.out.2.2.2.2.2.2.2.2.1, HS.out.2.2.2.2.2.2.2.2.2.1, HS.out.2.2.2.2.2.2.2.2.2.2.1, HS.out.2.2.2.2.2.2.2.2.2.2.2.1, HS.out.2.2.2.2.2.2.2.2.2.2.2.2.1, HS.out.2.2.2.2.2.2.2.2.2.2.2.2.2, gw_re hG (fun y hy e => Nat.not_le.2 e.2 (Nat.le_trans hx2 hy)), hG.1.size⟩
        replace hx2 : x2.heap.size ≤ x30.heap.size := Nat.le_trans hx2 hG.1.size
        clear hG hbr
        go_wp2
        refine region_planI (fun w' => w'.cell? ⟨gp, 0, none⟩ = some (.int .i64 fr) ∧ w'.cell? ⟨gp, 1, none⟩ = some (.int .i64 to)) [0, 1, 2, 4, 5, 3, 6, 7] [5, 0, 1] 148 ⟨(HP.out.below HS.out.1).c0, (HP.out.below HS.out.1).c1⟩ (by kernel_rfl) (by kernel_rfl) (fun _ a d v _ h => by cases d <;> exact h) ?_
        simp only [atI, List.getElem?_cons_zero, List.getElem?_cons_succ]
        have c31 := cd9 (.slice xf (nS q) cf) (nS q) Ff x30.drew (by exact HF0.out.below (HS.out.1).drew) hnf
        refine planH_step ?A31 rfl (fun w' hS => ?s31) rfl (fun K hK => ?n31)
        case s31 =>
          obtain ⟨y0, y1⟩ := hS
          simp only [List.take_succ_cons, List.take_zero]
          repeat still_step
          exact rfl
        case n31 =>
        go_simp
        go_wp2_with (go_at_call 13; (with_reducible refine c31.mono ?_); rintro e x31 ⟨g31, rfl, r31, l31, bb⟩)
        clear c31
        have b31 := Below.undraw bb
        clear bb
        replace HS : Hid ((Below x0.heap.size x0 x31) ∧ (x0.heap.size ≤ x1.heap.size) ∧ (Cs x1.heap.size x2.heap.size x31 v2 mD nD nD B2 (ap9 mR mS mD nR nS nD fr to RR SS DD)) ∧ (x1.heap.size ≤ x2.heap.size) ∧ (Cs x2.heap.size x3.heap.size x31 v3 mD nD nD B3 (ap9 mR mS mD nR nS nD fr to RR SS2 DD)) ∧ (x2.heap.size ≤ x3.heap.size) ∧ (x3.heap.size ≤ x5.heap.size) ∧ (x5.heap.size ≤ x6.heap.size) ∧ (x6.heap.size ≤ x7.heap.size) ∧ (x7.heap.size ≤ x20.heap.size) ∧ (x20.heap.size ≤ x21.heap.size) ∧ (x21.heap.size ≤ x22.heap.size) ∧ (x22.heap.size ≤ x24.heap.size) ∧ (x24.heap.size ≤ x25.heap.size) ∧ (Re (In x1.heap.size x2.heap.size) x31 (.slice ac mR Cc) mR (fun i => RR i q)) ∧ (x25.heap.size ≤ x30.heap.size) ∧ (Rw x31 g31 (nS q) Ff) ∧ (x30.heap.size ≤ g31) ∧ (x30.heap.size ≤ x31.heap.size)) := ⟨(HS.out.1).trans ((b31).mono (HS.out.1).size), HS.out.2.1, (HS.out.2.2.1).below (b31), HS.out.2.2.2.1, (HS.out.2.2.2.2.1).below (b31), HS.out.2.2.2.2.2.1, HS.out.2.2.2.2.2.2.1, HS.out.2.2.2.2.2.2.2.1, HS.out.2.2.2.2.2.2.2.2.1, HS.out.2.2.2.2.2.2.2.2.2.1, HS.out.2.2.2.2.2.2.2.2.2.2.1, HS.out.2.2.2.2.2.2.2.2.2.2.2.1, HS.out.2.2.2.2.2.2.2.2.2.2.2.2.1, HS.out.2.2.2.2.2.2.2.2.2.2.2.2.2.1, (HS.out.2.2.2.2.2.2.2.2.2.2.2.2.2.2.1).ke (ke_below (b31) _), HS.out.2.2.2.2.2.2.2.2.2.2.2.2.2.2.2, r31, l31, b31.size⟩
        clear b31
        refine hK _ _ ⟨(HP.out.below HS.out.1).c0, (HP.out.below HS.out.1).c1⟩ ?_
        clear hK K
        clear r31 l31
        obtain ⟨f_bel, f_bel0, f_old, f_oldsz, f_fresh, f_freshsz, f_rasz, f_sasz, f_szap7, f_srcssz, f_sz21, f_sz22, f_rbsz, f_szap25, f_col, f_szG, f_dc2, f_dc2lo, f_sz31⟩ := HS.out
        have hsf : sf9 mR mD (nS q) nD fr to = 0 := sf_of_fit HF.out hq
        have c32 := cs_spread (p := P k) f_old f_col (f_dc2.re (E := In x1.heap.size x2.heap.size) (Nat.le_refl _) (Nat.le_refl _) f_dc2.1 (fun e => Nat.not_le.2 e.2 (Nat.le_trans hx2 f_dc2lo))) ((HB.out.below f_bel).ks k hlt) (.inl (Nat.le_trans (HB.out.ks k hlt).hi f_bel0)) fr to hmR HB.out.iq.dstsl
        rw [hsf] at c32
        clear hsf f_bel f_bel0 f_old f_oldsz f_fresh f_freshsz f_rasz f_sasz f_szap7 f_srcssz f_sz21 f_sz22 f_rbsz f_szap25 f_col f_szG f_dc2 f_dc2lo f_sz31
        refine planH_step ?A32 rfl (fun w' hS => ?s32) rfl (fun K hK => ?n32)
        case s32 =>
          obtain ⟨y0, y1⟩ := hS
          simp only [List.take_zero]
          exact rfl
        case n32 =>
        go_simp
        go_wp2_with (go_at_call 14; (with_reducible refine c32.mono ?_); rintro e x32 ⟨rfl, hk, hC⟩)
        clear c32
        obtain ⟨f_bel, f_bel0, f_old, f_oldsz, f_fresh, f_freshsz, f_rasz, f_sasz, f_szap7, f_srcssz, f_sz21, f_sz22, f_rbsz, f_szap25, f_col, f_szG, f_dc2, f_dc2lo, f_sz31⟩ := HS.out
        have HZ : Hid (Below x0.heap.size x0 x32 ∧ Cs x1.heap.size x2.heap.size x32 v2 mD nD nD B2 (sp9 mR mD (nS q) nD fr to (fun i => RR i q) Ff (ap9 mR mS mD nR nS nD fr to RR SS DD)) ∧ Cs x2.heap.size x3.heap.size x32 v3 mD nD nD B3 (ap9 mR mS mD nR nS nD fr to RR SS2 DD)) := ⟨f_bel.trans (hk.below (fun y hy => Nat.le_trans f_bel0 hy.1) f_bel.size), hC, f_fresh.keep hk (fun y h1 h2 e => Nat.not_le.2 e.2 h1)⟩
        clear HS hk hC f_bel f_bel0 f_old f_oldsz f_fresh f_freshsz f_rasz f_sasz f_szap7 f_srcssz f_sz21 f_sz22 f_rbsz f_szap25 f_col f_szG f_dc2 f_dc2lo f_sz31
        refine hK _ _ ⟨(HP.out.below HZ.out.1).c0, (HP.out.below HZ.out.1).c1⟩ ?_
        clear hK K
        refine planH_last ?A33 rfl (fun w' hS => ?s33) rfl ?n33
        case s33 =>
          obtain ⟨y0, y1⟩ := hS
          simp only [List.take_succ_cons, List.take_zero]
          repeat still_step
          exact rfl
        case n33 =>
        have cA := all9_true v2 v3 mD nD (sp9 mR mD (nS q) nD fr to (fun i => RR i q) Ff (ap9 mR mS mD nR nS nD fr to RR SS DD)) (ap9 mR mS mD nR nS nD fr to RR SS2 DD) x32 HZ.out.2.1.lb HZ.out.2.2.lb (fun r hr i hi => spap HF.out hq hSS2 r i)
        go_wp2_with (go_at_call 15; (with_reducible refine cA.mono ?_); rintro e x33 ⟨rfl, m9, rfl⟩; clear cA)
        have HE : Hid (Below x0.heap.size x0 (x32.drewN m9)) := below_drewN HZ.out.1 m9
        go_roundw
        case rel => exact ⟨k + 1, hlt, by first | rfl | (rw [W1]; rfl), HE.out⟩
        case measure => first | (rw [W1]; simp [intOf]; omega) | (simp [intOf]; omega)
theorem any9 (vR vS vD : Value) (fr to cut : Int) {W : World} (h : Im9 W vR vS vD) (which : Int) {Q : Prop} (hw : Q) (a : Option Addr) (len cap : Nat) (hb : Rbm W a len cap) :
    Calls Try.prog 3 #[.agg (sv9 vR vS vD fr to cut), .int .i64 which, .slice a len cap] W fun e w' => e = .returned (.bool true) ∧ Below W.heap.size W w' := by
  obtain ⟨h1, Ff, h2⟩ := hb
  exact walk vR vS vD _ len Ff fr to cut which W h h2 h1
end Go.Proofs.Ytdolghlphmjcdab.kernelTurned
namespace Go.Proofs.Ytdolghlphmjcdab
open Go.ChangeShapes Go.WideShapes Go.ChangeAt Go.RowKit Go.Deep
set_option maxHeartbeats 2000000 in
set_option maxRecDepth 100000 in
theorem open_sumsA9 {H : Type} {enc : TypeId × Value → H} {W W' : World} {base base' : Nat} {held : Bool} {v : Value} {d : DataW H} {p : List MemPlace}
    (ho : Value.okWide Try.prog W' .any base' 24 v) (h : DataW.Trod enc Try.prog W base (fun _ => true) held 24 v d p) (hsz : ∀ n ∈ d.weights Try.prog 24, n ≤ reachBytes) :
    ∃ vR vS vD fr to cut, v = .agg (sv9 vR vS vD fr to cut) ∧ Im9 W vR vS vD := by
  obtain ⟨cs, rfl, -⟩ := okWide_struct Try.underlying24 ho
  obtain ⟨fuel, hf0⟩ := h
  obtain ⟨vR, vS, vD, fr, to, cut, e0, hI⟩ := open_sums9 hf0 hsz
  refine ⟨vR, vS, vD, fr, to, cut, ?_, hI⟩
  congr 1
  apply Array.toList_inj.1
  simpa [Value.cells] using e0
end Go.Proofs.Ytdolghlphmjcdab
