import Derived.Test.YtdolghlphmjcdaaKnp
namespace Go.Proofs.Ytdolghlphmjcdaa
open Go.RowKit Gf2
set_option linter.unusedVariables false

/-- a call in its box, and what came in. -/
structure Bq9 (x : World) (g : Nat) (kind : Int) (c : Nat) (vr vR vS vD vd vs : Value) (fr to : Int) (nr : Nat) (R : Nat → Nat) (mR : Nat) (nR : Nat → Nat) (RR : Nat → Nat → Nat) (mS : Nat) (nS : Nat → Nat) (SS : Nat → Nat → Nat) (mD : Nat) (nD : Nat → Nat) (DD : Nat → Nat → Nat) (nd : Nat) (D : Nat → Nat) (ns : Nat) (S : Nat → Nat) (p : Addr) (bk klo khi : Nat) : Prop where
  bx : Bx9 x g kind c vr vR vS vD vd vs fr to
  iq : Iq9 x c vr vR vS vD vd vs nr R mR nR RR mS nS SS mD nD DD nd D ns S
  ks : Ks x p bk klo khi
  kh : khi ≤ g
section
variable {W W' : World} {g : Nat} {kind : Int} {c : Nat} {vr vR vS vD vd vs : Value} {fr to : Int} {nr : Nat} {R : Nat → Nat} {mR : Nat} {nR : Nat → Nat} {RR : Nat → Nat → Nat} {mS : Nat} {nS : Nat → Nat} {SS : Nat → Nat → Nat} {mD : Nat} {nD : Nat → Nat} {DD : Nat → Nat → Nat} {nd : Nat} {D : Nat → Nat} {ns : Nat} {S : Nat → Nat} {p : Addr} {bk klo khi : Nat}
theorem Bq9.below (h : Bq9 W g kind c vr vR vS vD vd vs fr to nr R mR nR RR mS nS SS mD nD DD nd D ns S p bk klo khi) (hb : Below W.heap.size W W') : Bq9 W' g kind c vr vR vS vD vd vs fr to nr R mR nR RR mS nS SS mD nD DD nd D ns S p bk klo khi := ⟨h.bx.below hb, h.iq.below hb, h.ks.below hb, h.kh⟩
theorem bq9_new (h : Iq9 W c vr vR vS vD vd vs nr R mR nR RR mS nS SS mD nD DD nd D ns S) (hk : Ks W p bk klo khi) :
    Bq9 (W.alloc (.cells (cv9 kind c vr vR vS vD vd vs fr to) 25)) W.heap.size kind c vr vR vS vD vd vs fr to nr R mR nR RR mS nS SS mD nD DD nd D ns S p bk klo khi ∧ Below W.heap.size W (W.alloc (.cells (cv9 kind c vr vR vS vD vd vs fr to) 25)) := by
  have b1 : Below W.heap.size W (W.alloc (.cells (cv9 kind c vr vR vS vD vd vs fr to) 25)) := (Below.refl _ _).alloc (Nat.le_refl _) _
  exact ⟨⟨Bx9.new W kind c vr vR vS vD vd vs fr to, h.below b1, hk.below b1, hk.hi⟩, b1⟩
end

/-- what is held against what it was: dst and want, src, row, srcs. -/
structure Tl9 (Y : World) (dv wv sv rv Sv vs vr vS : Value) : Prop where
  d : ∃ n F, Rb Y dv n F ∧ Rb Y wv n F
  s : ∃ n F, Rb Y sv n F ∧ Rb Y vs n F
  r : ∃ n F, Rb Y rv n F ∧ Rb Y vr n F
  S : ∃ m n F, Lb Y Sv m n F ∧ Lb Y vS m n F
theorem refMul9 (c n m : Nat) (add : Bool) (u v : Value) (D S : Nat → Nat) (w : World) (hc : c < 256) (hu : Rb w u n D) (hv : Rb w v m S) (hn : n ≤ 140737488351232) :
    Calls Try.prog 37 #[.int .u8 (c : Int), u, v, .bool add] w fun e w' => ∃ g C, e = .returned (.tuple #[.slice (some ⟨g, 0, none⟩) n C, .int .i64 (er9 n m : Nat)]) ∧ Own8 w w' g C n (vl9 n m D (mz add c D S)) := by
  by_cases e : n = m
  · subst e
    refine (refMul9_any c n add u v D S w hc hu hv hn).mono fun e w' ⟨g, C, h1, h2, h3, h4, F, h5, h6⟩ => ⟨g, C, by rw [h1]; unfold er9; rw [if_pos rfl]; rfl, h2, h3, h4, F, h5, fun i hi => ?_⟩
    rw [h6 i hi]
    unfold vl9
    rw [if_pos rfl]
  · refine (refMul9_lens c n m add u v D S w hu hv hn e).mono fun e' w' ⟨g, C, h1, h2, h3, h4, F, h5, h6⟩ => ⟨g, C, by rw [h1]; unfold er9; rw [if_neg e]; rfl, h2, h3, h4, F, h5, fun i hi => ?_⟩
    rw [h6 i hi]
    unfold vl9
    rw [if_neg e]
theorem xor9_mz {n m : Nat} {D S : Nat → Nat} {j : Nat} (hS : ∀ i, i < m → S i < 256) (hj : j < n) : vl9 n m D (mz true 1 D S) j = vl9 n m D (fun j => S j ^^^ D j) j := by
  unfold vl9 mz
  by_cases e : n = m
  · rw [if_pos e, if_pos e, if_pos rfl, fm_comm, fld8.fm_one (hS j (by omega))]
  · rw [if_neg e, if_neg e]
theorem refDot9 (row srcs dst : Value) (k m L : Nat) (n : Nat → Nat) (R D : Nat → Nat) (S : Nat → Nat → Nat) (w : World) (h : Rb w row k R) (hs : Lb w srcs m n S) (hd : Rb w dst L D) (hL : L ≤ 140737488351232) (hk : k ≤ 140737488351232) :
    Calls Try.prog 39 #[row, srcs, dst] w fun e w' => ∃ g C, e = .returned (.tuple #[.slice (some ⟨g, 0, none⟩) L C, .int .i64 (de9 k m L n : Nat)]) ∧ Own8 w w' g C L (dv9 k m L n R D S) := by
  by_cases e : k = m
  · subst e
    refine (refDot9_any row srcs dst k L n R D S w h hs hd hL hk).mono fun e w' ⟨h1, h2⟩ => ?_
    by_cases e2 : ∀ i, i < k → n i = L
    · obtain ⟨g, C, a1, a2, a3, a4, F, a5, a6⟩ := h1 e2
      have e0 : de9 k k L n = 0 := by unfold de9; rw [if_pos ⟨rfl, e2⟩]
      refine ⟨g, C, by rw [a1, e0]; rfl, a2, a3, a4, F, a5, fun i hi => ?_⟩
      rw [a6 i hi]
      unfold dv9
      rw [if_pos e0]
    · obtain ⟨g, C, a1, a2, a3, a4, F, a5, a6⟩ := h2 e2
      have e0 : de9 k k L n = 6 := by unfold de9; rw [if_neg (fun h => e2 h.2)]
      refine ⟨g, C, by rw [a1, e0]; rfl, a2, a3, a4, F, a5, fun i hi => ?_⟩
      rw [a6 i hi]
      unfold dv9
      rw [if_neg (by rw [e0]; decide)]
  · refine (refDot9_count row srcs dst k m L n R D S w h hs hd hL e).mono fun e' w' ⟨g, C, a1, a2, a3, a4, F, a5, a6⟩ => ?_
    have e0 : de9 k m L n = 6 := by unfold de9; rw [if_neg (fun h => e h.1)]
    refine ⟨g, C, by rw [a1, e0]; rfl, a2, a3, a4, F, a5, fun i hi => ?_⟩
    rw [a6 i hi]
    unfold dv9
    rw [if_neg (by rw [e0]; decide)]
/-- what is held against what it was: dsts and want, rows, srcs, row, src. -/
structure Tq9 (Y : World) (Dv wv Rv Sv rv sv vR vS vr vs : Value) : Prop where
  d : ∃ m n F, Lb Y Dv m n F ∧ Lb Y wv m n F
  R : ∃ m n F, Lb Y Rv m n F ∧ Lb Y vR m n F
  S : ∃ m n F, Lb Y Sv m n F ∧ Lb Y vS m n F
  r : ∃ n F, Rb Y rv n F ∧ Rb Y vr n F
  s : ∃ n F, Rb Y sv n F ∧ Rb Y vs n F
end Go.Proofs.Ytdolghlphmjcdaa

namespace Go.Proofs.Ytdolghlphmjcdaa
open Go.RowKit Gf2
set_option linter.unusedVariables false

set_option maxHeartbeats 16000000 in
set_option maxRecDepth 100000 in
theorem short9_any (p : Addr) (bk klo khi : Nat) (kind : Int) (c : Nat) (vr vR vS vD vd vs : Value) (fr to : Int) (w : World) (hk : Ks w p bk klo khi) (h : In9 w c vr vR vS vD vd vs) :
    Calls Try.prog 15 #[.pointer (some p), .agg (cv9 kind c vr vR vS vD vd vs fr to)] w fun e w' => e = .returned (.bool true) ∧ Below w.heap.size w w' := by
  obtain ⟨nr, R, mR, nR, RR, mS, nS, SS, mD, nD, DD, nd, D, ns, S, hI⟩ := h.iq
  obtain ⟨hB1, hB2⟩ := bq9_new (kind := kind) (fr := fr) (to := to) hI hk
  have hsz : (w.alloc (.cells (cv9 kind c vr vR vS vD vd vs fr to) 25)).heap.size = w.heap.size + 1 := by simp
  clear hI h hk
  generalize cv9 kind c vr vR vS vD vd vs fr to = A at hB1 hB2 hsz ⊢
  have HB : Hid _ := hB1
  have HW : Hid _ := hB2
  have HZ : Hid _ := hsz
  clear hB1 hB2 hsz
  go_enter Try.func15, Try.ntmps15
  go_wp2
  generalize w.alloc (.cells A 25) = x0 at HB HW HZ ⊢
  have HS : Hid (Below x0.heap.size x0 x0) := Below.refl _ _
  refine region_planI (fun w' => w'.cell? ⟨w.heap.size, 6, none⟩ = some (vd) ∧ w'.cell? ⟨w.heap.size, 7, none⟩ = some (vs)) [0, 1, 3, 4, 2, 5, 6, 7] [4, 0, 2] 118 ⟨(HB.out.below HS.out).bx.cell rfl, (HB.out.below HS.out).bx.cell rfl⟩ (by kernel_rfl) (by kernel_rfl) (fun _ a d v _ h => by cases d <;> exact h) ?_
  simp only [atI, List.getElem?_cons_zero, List.getElem?_cons_succ]
  have c1 := cd9 vd nd D x0.drew (by exact (HB.out.below HS.out).iq.dst) (HB.out.iq.dstl)
  refine planH_step ?A1 rfl (fun w' hS => ?s1) rfl (fun K hK => ?n1)
  case s1 =>
    obtain ⟨y0, y1⟩ := hS
    simp only [List.take_succ_cons, List.take_zero]
    repeat still_step
    exact rfl
  case n1 =>
  go_simp
  go_wp2_with (go_at_call 21; (with_reducible refine c1.mono ?_); rintro e x1 ⟨g1, rfl, r1, l1, bb⟩)
  clear c1
  have b1 := Below.undraw bb
  clear bb
  replace HS : Hid ((Below x0.heap.size x0 x1) ∧ (Rw x1 g1 nd D) ∧ (x0.heap.size ≤ g1) ∧ (g1 < x1.heap.size)) := ⟨(HS.out).trans ((b1).mono (HS.out).size), r1, l1, r1.lt⟩
  clear b1
  refine hK _ _ ⟨(HB.out.below HS.out.1).bx.cell rfl, (HB.out.below HS.out.1).bx.cell rfl⟩ ?_
  clear hK K
  have c2 := cd9 vs ns S x1 (by exact (HB.out.below HS.out.1).iq.src) (HB.out.iq.srcl)
  refine planH_step ?A2 rfl (fun w' hS => ?s2) rfl (fun K hK => ?n2)
  case s2 =>
    obtain ⟨y0, y1⟩ := hS
    simp only [List.take_zero]
    exact rfl
  case n2 =>
  go_simp
  go_wp2_with (go_at_call 21; (with_reducible refine c2.mono ?_); rintro e x2 ⟨g2, rfl, r2, l2, bb⟩)
  clear c2
  have b2 := bb
  clear bb
  replace HS : Hid ((Below x0.heap.size x0 x2) ∧ (Rw x2 g1 nd D) ∧ (x0.heap.size ≤ g1) ∧ (g1 < x1.heap.size) ∧ (Rw x2 g2 ns S) ∧ (x1.heap.size ≤ g2) ∧ (g2 < x2.heap.size)) := ⟨(HS.out.1).trans ((b2).mono (HS.out.1).size), rw_below (HS.out.2.1) (b2), HS.out.2.2.1, HS.out.2.2.2, r2, l2, r2.lt⟩
  clear b2
  refine hK _ _ ⟨(HB.out.below HS.out.1).bx.cell rfl, (HB.out.below HS.out.1).bx.cell rfl⟩ ?_
  clear hK K
  refine planH_last ?A3 rfl (fun w' hS => ?s3) rfl ?n3
  case s3 =>
    obtain ⟨y0, y1⟩ := hS
    simp only [List.take_succ_cons, List.take_zero]
    repeat still_step
    exact rfl
  case n3 =>
  go_wp2
  refine region_planI (fun w' => w'.cell? ⟨w.heap.size, 2, none⟩ = some (vr) ∧ w'.cell? ⟨w.heap.size, 4, none⟩ = some (vS)) [0, 1, 3, 4, 2, 5, 6, 7] [4, 0, 2] 118 ⟨(HB.out.below HS.out.1).bx.cell rfl, (HB.out.below HS.out.1).bx.cell rfl⟩ (by kernel_rfl) (by kernel_rfl) (fun _ a d v _ h => by cases d <;> exact h) ?_
  simp only [atI, List.getElem?_cons_zero, List.getElem?_cons_succ]
  have c4 := cd9 vr nr R x2.drew (by exact (HB.out.below HS.out.1).iq.row) (HB.out.iq.rowl)
  refine planH_step ?A4 rfl (fun w' hS => ?s4) rfl (fun K hK => ?n4)
  case s4 =>
    obtain ⟨y0, y1⟩ := hS
    simp only [List.take_succ_cons, List.take_zero]
    repeat still_step
    exact rfl
  case n4 =>
  go_simp
  go_wp2_with (go_at_call 21; (with_reducible refine c4.mono ?_); rintro e x4 ⟨g4, rfl, r4, l4, bb⟩)
  clear c4
  have b4 := Below.undraw bb
  clear bb
  replace HS : Hid ((Below x0.heap.size x0 x4) ∧ (Rw x4 g1 nd D) ∧ (x0.heap.size ≤ g1) ∧ (g1 < x1.heap.size) ∧ (Rw x4 g2 ns S) ∧ (x1.heap.size ≤ g2) ∧ (g2 < x2.heap.size) ∧ (Rw x4 g4 nr R) ∧ (x2.heap.size ≤ g4) ∧ (g4 < x4.heap.size)) := ⟨(HS.out.1).trans ((b4).mono (HS.out.1).size), rw_below (HS.out.2.1) (b4), HS.out.2.2.1, HS.out.2.2.2.1, rw_below (HS.out.2.2.2.2.1) (b4), HS.out.2.2.2.2.2.1, HS.out.2.2.2.2.2.2, r4, l4, r4.lt⟩
  clear b4
  refine hK _ _ ⟨(HB.out.below HS.out.1).bx.cell rfl, (HB.out.below HS.out.1).bx.cell rfl⟩ ?_
  clear hK K
  have c5 := copies9_any vS mS nS SS x4 (by exact (HB.out.below HS.out.1).iq.srcs) (HB.out.iq.srcsl) (HB.out.iq.srcsn)
  refine planH_step ?A5 rfl (fun w' hS => ?s5) rfl (fun K hK => ?n5)
  case s5 =>
    obtain ⟨y0, y1⟩ := hS
    simp only [List.take_zero]
    exact rfl
  case n5 =>
  go_simp
  go_wp2_with (go_at_call 18; (with_reducible refine c5.mono ?_); rintro e x5 ⟨v5, B5, rfl, r5, bb⟩)
  clear c5
  have b5 := bb
  clear bb
  replace HS : Hid ((Below x0.heap.size x0 x5) ∧ (Rw x5 g1 nd D) ∧ (x0.heap.size ≤ g1) ∧ (g1 < x1.heap.size) ∧ (Rw x5 g2 ns S) ∧ (x1.heap.size ≤ g2) ∧ (g2 < x2.heap.size) ∧ (Rw x5 g4 nr R) ∧ (x2.heap.size ≤ g4) ∧ (g4 < x4.heap.size) ∧ (Cs x4.heap.size x5.heap.size x5 v5 mS nS nS B5 SS)) := ⟨(HS.out.1).trans ((b5).mono (HS.out.1).size), rw_below (HS.out.2.1) (b5), HS.out.2.2.1, HS.out.2.2.2.1, rw_below (HS.out.2.2.2.2.1) (b5), HS.out.2.2.2.2.2.1, HS.out.2.2.2.2.2.2.1, rw_below (HS.out.2.2.2.2.2.2.2.1) (b5), HS.out.2.2.2.2.2.2.2.2.1, HS.out.2.2.2.2.2.2.2.2.2, r5⟩
  clear b5
  refine hK _ _ ⟨(HB.out.below HS.out.1).bx.cell rfl, (HB.out.below HS.out.1).bx.cell rfl⟩ ?_
  clear hK K
  refine planH_last ?A6 rfl (fun w' hS => ?s6) rfl ?n6
  case s6 =>
    obtain ⟨y0, y1⟩ := hS
    simp only [List.take_succ_cons, List.take_zero]
    repeat still_step
    exact rfl
  case n6 =>
  have y0 := (HB.out.below HS.out.1).bx.cell (i := 0) (v := .int .i64 kind) rfl
  have y1 := (HB.out.below HS.out.1).bx.cell (i := 1) (v := .int .u8 (c : Int)) rfl
  have y2 := (HB.out.below HS.out.1).bx.cell (i := 2) (v := vr) rfl
  have y4 := (HB.out.below HS.out.1).bx.cell (i := 4) (v := vS) rfl
  have y6 := (HB.out.below HS.out.1).bx.cell (i := 6) (v := vd) rfl
  have y7 := (HB.out.below HS.out.1).bx.cell (i := 7) (v := vs) rfl
  have HT : Hid (∀ (V : Nat → Nat) y, Kp g1 x5 y → Rw y g1 nd V → Below x0.heap.size x0 y ∧ ∀ z C gw, Own8 y z gw C nd V → Tl9 z (.slice (some ⟨g1, 0, none⟩) nd nd) (.slice (some ⟨gw, 0, none⟩) nd C) (.slice (some ⟨g2, 0, none⟩) ns ns) (.slice (some ⟨g4, 0, none⟩) nr nr) v5 vs vr vS ∧ Below x0.heap.size x0 z) := by
    intro V y hk hR
    obtain ⟨f_bel, f_dst, f_dstlo, f_dsthi, f_src, f_srclo, f_srchi, f_row, f_rowlo, f_rowhi, f_srcs⟩ := HS.out
    have hb : Below x0.heap.size x0 y := f_bel.trans (hk.below f_dstlo f_bel.size)
    refine ⟨hb, fun z C gw hO => ?_⟩
    have hbz := hb.trans (hO.2.2.1.mono hb.size)
    have iz := (HB.out.below hbz).iq
    have e1 := rw_below hR hO.2.2.1
    have e2 := rw_below (hk.rw_ f_src (by omega)) hO.2.2.1
    have e3 := rw_below (hk.rw_ f_row (by omega)) hO.2.2.1
    have e4 := (f_srcs.keep hk.ke (fun q h1 h2 e => by omega)).below hO.2.2.1
    exact ⟨⟨⟨nd, V, e1.rb0, own8_rb9 hO⟩, ⟨ns, S, e2.rb0, iz.src⟩, ⟨nr, R, e3.rb0, iz.row⟩, ⟨mS, nS, SS, e4.lb, iz.srcs⟩⟩, hbz⟩
  have HQ : Hid (Rw x5 g1 nd D ∧ Re (fun q => q = g1) x5 (.slice (some ⟨g2, 0, none⟩) ns ns) ns S ∧ Re (fun q => q = g1) x5 (.slice (some ⟨g4, 0, none⟩) nr nr) nr R ∧ Ll (fun q => q = g1) x5 v5 mS nS SS ∧ Ks x5 p bk klo khi ∧ (g1 < klo ∨ khi ≤ g1) ∧ c < 256 ∧ nr ≤ 140737488351232 ∧ 24 * mS ≤ 140737488351232 ∧ nd ≤ 140737488351232) := by
    obtain ⟨f_bel, f_dst, f_dstlo, f_dsthi, f_src, f_srclo, f_srchi, f_row, f_rowlo, f_rowhi, f_srcs⟩ := HS.out
    have hkh := HB.out.kh
    have hz0 := HZ.out
    exact ⟨f_dst, f_src.re (Nat.le_refl _) (Nat.le_refl _) f_src.1 (by omega), f_row.re (Nat.le_refl _) (Nat.le_refl _) f_row.1 (by omega), f_srcs.ll (fun q h1 h2 e => by omega), (HB.out.below f_bel).ks, by omega, HB.out.iq.hc, HB.out.iq.rowl, HB.out.iq.srcsl, HB.out.iq.dstl⟩
  by_cases k1 : kind = 1
  · subst k1
    clear HS
    obtain ⟨d1, d2, d3, d4, d5, d6, d7, d8, d9, d10⟩ := HQ.out
    have cC := rw_mul9 (c := c) d1 d2 d5 d6 d7
    clear d1 d2 d3 d4 d5 d6 HQ
    go_wp2_with (first
      | (go_at_call 32; (with_reducible refine cC.mono ?_); rintro e y ⟨rfl, hk, hR⟩; clear cC; obtain ⟨hby, hT⟩ := HT.out (vl9 nd ns D (mz false c D S)) y hk (hR.congr (fun j _ => by unfold vl9 mz; rfl)); have iy := (HB.out.below hby).iq; have cR := refMul9 c nd ns false vd vs D S y d7 iy.dst iy.src d10; have q1 := (HB.out.below hby).bx.cell (i := 1) (v := .int .u8 (c : Int)) rfl; have q2 := (HB.out.below hby).bx.cell (i := 2) (v := vr) rfl; have q4 := (HB.out.below hby).bx.cell (i := 4) (v := vS) rfl; have q6 := (HB.out.below hby).bx.cell (i := 6) (v := vd) rfl; have q7 := (HB.out.below hby).bx.cell (i := 7) (v := vs) rfl; have HT2 : Hid _ := hT; clear hT hk hR hby iy HT y0 y1 y2 y4 y6 y7)
      | (go_at_call 37; (with_reducible refine cR.mono ?_); rintro e z ⟨gw, Cw, rfl, hO⟩; clear cR; have TT : Hid _ := HT2.out z Cw gw hO; clear hO HT2 q1 q2 q4 q6 q7; have cE1 := same90 TT.out.1.d; have t2 := (HB.out.below TT.out.2).bx.cell (i := 2) (v := vr) rfl; have t4 := (HB.out.below TT.out.2).bx.cell (i := 4) (v := vS) rfl; have t7 := (HB.out.below TT.out.2).bx.cell (i := 7) (v := vs) rfl)
      | (go_at_call 28; (with_reducible refine cE1.mono ?_); rintro e z1 ⟨rfl, m1, rfl⟩; clear cE1; have cE2 := same9 TT.out.1.s m1)
      | (go_at_call 28; (with_reducible refine cE2.mono ?_); rintro e z2 ⟨rfl, m2, rfl⟩; clear cE2; have cE3 := same9 TT.out.1.r (m1 + m2))
      | (go_at_call 28; (with_reducible refine cE3.mono ?_); rintro e z3 ⟨rfl, m3, rfl⟩; clear cE3; have cE4 := sames9 TT.out.1.S (m1 + m2 + m3))
      | (go_at_call 25; (with_reducible refine cE4.mono ?_); rintro e z4 ⟨rfl, m4, rfl⟩; clear cE4))
    go_ret
    exact ⟨rfl, HW.out.trans ((below_drewN TT.out.2 _).mono HW.out.size)⟩
  by_cases k2 : kind = 2
  · subst k2
    clear HS
    obtain ⟨d1, d2, d3, d4, d5, d6, d7, d8, d9, d10⟩ := HQ.out
    have cC := rw_add9 (c := c) d1 d2 d5 d6 d7
    clear d1 d2 d3 d4 d5 d6 HQ
    go_wp2_with (first
      | (go_at_call 22; (with_reducible refine cC.mono ?_); rintro e y ⟨rfl, hk, hR⟩; clear cC; obtain ⟨hby, hT⟩ := HT.out (vl9 nd ns D (mz true c D S)) y hk (hR.congr (fun j _ => by unfold vl9 mz; rfl)); have iy := (HB.out.below hby).iq; have cR := refMul9 c nd ns true vd vs D S y d7 iy.dst iy.src d10; have q1 := (HB.out.below hby).bx.cell (i := 1) (v := .int .u8 (c : Int)) rfl; have q2 := (HB.out.below hby).bx.cell (i := 2) (v := vr) rfl; have q4 := (HB.out.below hby).bx.cell (i := 4) (v := vS) rfl; have q6 := (HB.out.below hby).bx.cell (i := 6) (v := vd) rfl; have q7 := (HB.out.below hby).bx.cell (i := 7) (v := vs) rfl; have HT2 : Hid _ := hT; clear hT hk hR hby iy HT y0 y1 y2 y4 y6 y7)
      | (go_at_call 37; (with_reducible refine cR.mono ?_); rintro e z ⟨gw, Cw, rfl, hO⟩; clear cR; have TT : Hid _ := HT2.out z Cw gw hO; clear hO HT2 q1 q2 q4 q6 q7; have cE1 := same90 TT.out.1.d; have t2 := (HB.out.below TT.out.2).bx.cell (i := 2) (v := vr) rfl; have t4 := (HB.out.below TT.out.2).bx.cell (i := 4) (v := vS) rfl; have t7 := (HB.out.below TT.out.2).bx.cell (i := 7) (v := vs) rfl)
      | (go_at_call 28; (with_reducible refine cE1.mono ?_); rintro e z1 ⟨rfl, m1, rfl⟩; clear cE1; have cE2 := same9 TT.out.1.s m1)
      | (go_at_call 28; (with_reducible refine cE2.mono ?_); rintro e z2 ⟨rfl, m2, rfl⟩; clear cE2; have cE3 := same9 TT.out.1.r (m1 + m2))
      | (go_at_call 28; (with_reducible refine cE3.mono ?_); rintro e z3 ⟨rfl, m3, rfl⟩; clear cE3; have cE4 := sames9 TT.out.1.S (m1 + m2 + m3))
      | (go_at_call 25; (with_reducible refine cE4.mono ?_); rintro e z4 ⟨rfl, m4, rfl⟩; clear cE4))
    go_ret
    exact ⟨rfl, HW.out.trans ((below_drewN TT.out.2 _).mono HW.out.size)⟩
  by_cases k3 : kind = 3
  · subst k3
    clear HS
    obtain ⟨d1, d2, d3, d4, d5, d6, d7, d8, d9, d10⟩ := HQ.out
    have d11 := d2.2.1
    have cC := rw_xor9 d1 d2
    clear d1 d2 d3 d4 d5 d6 HQ
    go_wp2_with (first
      | (go_at_call 38; (with_reducible refine cC.mono ?_); rintro e y ⟨rfl, hk, hR⟩; clear cC; obtain ⟨hby, hT⟩ := HT.out (vl9 nd ns D (mz true 1 D S)) y hk (hR.congr (fun j hj => (xor9_mz d11 hj).symm)); have iy := (HB.out.below hby).iq; have cR := (show Calls Try.prog 37 #[.int .u8 1, vd, vs, .bool true] y _ from refMul9 1 nd ns true vd vs D S y (by decide) iy.dst iy.src d10); have q1 := (HB.out.below hby).bx.cell (i := 1) (v := .int .u8 (c : Int)) rfl; have q2 := (HB.out.below hby).bx.cell (i := 2) (v := vr) rfl; have q4 := (HB.out.below hby).bx.cell (i := 4) (v := vS) rfl; have q6 := (HB.out.below hby).bx.cell (i := 6) (v := vd) rfl; have q7 := (HB.out.below hby).bx.cell (i := 7) (v := vs) rfl; have HT2 : Hid _ := hT; clear hT hk hR hby iy HT y0 y1 y2 y4 y6 y7)
      | (go_at_call 37; (with_reducible refine cR.mono ?_); rintro e z ⟨gw, Cw, rfl, hO⟩; clear cR; have TT : Hid _ := HT2.out z Cw gw hO; clear hO HT2 q1 q2 q4 q6 q7; have cE1 := same90 TT.out.1.d; have t2 := (HB.out.below TT.out.2).bx.cell (i := 2) (v := vr) rfl; have t4 := (HB.out.below TT.out.2).bx.cell (i := 4) (v := vS) rfl; have t7 := (HB.out.below TT.out.2).bx.cell (i := 7) (v := vs) rfl)
      | (go_at_call 28; (with_reducible refine cE1.mono ?_); rintro e z1 ⟨rfl, m1, rfl⟩; clear cE1; have cE2 := same9 TT.out.1.s m1)
      | (go_at_call 28; (with_reducible refine cE2.mono ?_); rintro e z2 ⟨rfl, m2, rfl⟩; clear cE2; have cE3 := same9 TT.out.1.r (m1 + m2))
      | (go_at_call 28; (with_reducible refine cE3.mono ?_); rintro e z3 ⟨rfl, m3, rfl⟩; clear cE3; have cE4 := sames9 TT.out.1.S (m1 + m2 + m3))
      | (go_at_call 25; (with_reducible refine cE4.mono ?_); rintro e z4 ⟨rfl, m4, rfl⟩; clear cE4))
    go_ret
    exact ⟨rfl, HW.out.trans ((below_drewN TT.out.2 _).mono HW.out.size)⟩
  by_cases k4 : kind = 4
  · subst k4
    clear HS
    obtain ⟨d1, d2, d3, d4, d5, d6, d7, d8, d9, d10⟩ := HQ.out
    have cC := rw_dot9 d1 d3 d4 d5 d6 d8 d9
    clear d1 d2 d3 d4 d5 d6 HQ
    go_wp2_with (first
      | (go_at_call 23; (with_reducible refine cC.mono ?_); rintro e y ⟨rfl, hk, hR⟩; clear cC; obtain ⟨hby, hT⟩ := HT.out (dv9 nr mS nd nS R D SS) y hk (hR); have iy := (HB.out.below hby).iq; have cR := refDot9 vr vS vd nr mS nd nS R D SS y iy.row iy.srcs iy.dst d10 d8; have q1 := (HB.out.below hby).bx.cell (i := 1) (v := .int .u8 (c : Int)) rfl; have q2 := (HB.out.below hby).bx.cell (i := 2) (v := vr) rfl; have q4 := (HB.out.below hby).bx.cell (i := 4) (v := vS) rfl; have q6 := (HB.out.below hby).bx.cell (i := 6) (v := vd) rfl; have q7 := (HB.out.below hby).bx.cell (i := 7) (v := vs) rfl; have HT2 : Hid _ := hT; clear hT hk hR hby iy HT y0 y1 y2 y4 y6 y7)
      | (go_at_call 39; (with_reducible refine cR.mono ?_); rintro e z ⟨gw, Cw, rfl, hO⟩; clear cR; have TT : Hid _ := HT2.out z Cw gw hO; clear hO HT2 q1 q2 q4 q6 q7; have cE1 := same90 TT.out.1.d; have t2 := (HB.out.below TT.out.2).bx.cell (i := 2) (v := vr) rfl; have t4 := (HB.out.below TT.out.2).bx.cell (i := 4) (v := vS) rfl; have t7 := (HB.out.below TT.out.2).bx.cell (i := 7) (v := vs) rfl)
      | (go_at_call 28; (with_reducible refine cE1.mono ?_); rintro e z1 ⟨rfl, m1, rfl⟩; clear cE1; have cE2 := same9 TT.out.1.s m1)
      | (go_at_call 28; (with_reducible refine cE2.mono ?_); rintro e z2 ⟨rfl, m2, rfl⟩; clear cE2; have cE3 := same9 TT.out.1.r (m1 + m2))
      | (go_at_call 28; (with_reducible refine cE3.mono ?_); rintro e z3 ⟨rfl, m3, rfl⟩; clear cE3; have cE4 := sames9 TT.out.1.S (m1 + m2 + m3))
      | (go_at_call 25; (with_reducible refine cE4.mono ?_); rintro e z4 ⟨rfl, m4, rfl⟩; clear cE4))
    go_ret
    exact ⟨rfl, HW.out.trans ((below_drewN TT.out.2 _).mono HW.out.size)⟩
  have D1 : (kind == 1) = false := by simpa using k1
  have D2 : (kind == 2) = false := by simpa using k2
  have D3 : (kind == 3) = false := by simpa using k3
  have D4 : (kind == 4) = false := by simpa using k4
  have HL : Hid (Below x0.heap.size x0 x5) := HS.out.1
  clear HS HT HQ k1 k2 k3 k4
  go_wp2
  go_ret
  exact ⟨rfl, HW.out.trans (HL.out.mono HW.out.size)⟩
end Go.Proofs.Ytdolghlphmjcdaa
