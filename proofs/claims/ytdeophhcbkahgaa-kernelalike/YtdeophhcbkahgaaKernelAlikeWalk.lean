import Derived.Test.YtdeophhcbkahgaaKja
import Derived.Deep.RegionHeld
namespace Go.Proofs.Ytdeophhcbkahgaa.kernelAlike
open Go.RowKit Gf2
set_option linter.unusedVariables false

/-- the answers of a round. -/
def e0 (nd ns : Nat) : Int := (er9 nd ns : Nat)
/-- what the first round has left. -/
structure Lf (x : World) (f m y : Value) (a0 a1 a2 a3 a4 : Int) (mD : Nat) (n1 nD : Nat → Nat) (T1 T2 : Nat → Nat → Nat) (z0 z1 z2 z3 z4 : Nat) (C : Prop) : Prop where
  fst : Lb x f (mD + 1) n1 T1
  mor : Lb x m mD nD T2
  yes : ∃ b : Bool, y = .bool b ∧ (b = true ↔ C)
  n0 : a0 = (z0 : Int)
  n1 : a1 = (z1 : Int)
  n2 : a2 = (z2 : Int)
  n3 : a3 = (z3 : Int)
  n4 : a4 = (z4 : Int)
set_option maxHeartbeats 16000000 in
set_option maxRecDepth 100000 in
theorem walk (kind : Int) (c : Nat) (vr vR vS vD vd vs : Value) (fr to : Int) (w : World) (h : In9 w c vr vR vS vD vd vs) :
    Calls Try.prog 3 #[.agg (cv9 kind c vr vR vS vD vd vs fr to)] w fun e w' => e = .returned (.bool true) ∧ Below w.heap.size w w' := by
  have hX : Box9 (w.alloc (.cells (cv9 kind c vr vR vS vD vd vs fr to) 25)) w.heap.size (cv9 kind c vr vR vS vD vd vs fr to) 25 := Box9.new _ _ _
  have bX : Below w.heap.size w (w.alloc (.cells (cv9 kind c vr vR vS vD vd vs fr to) 25)) := (Below.refl _ _).alloc (Nat.le_refl _) _
  have HA : Hid (∀ x, Box9 x w.heap.size (cv9 kind c vr vR vS vD vd vs fr to) 25 → x.cell? ⟨w.heap.size, 8, none⟩ = some (.int .i64 fr) ∧ x.cell? ⟨w.heap.size, 9, none⟩ = some (.int .i64 to)) := fun x hx => ⟨hx.cell rfl, hx.cell rfl⟩
  have HI : Hid (In9 w c vr vR vS vD vd vs) := h
  have HQ : Hid (∀ x, Box9 x w.heap.size (cv9 kind c vr vR vS vD vd vs fr to) 25 → Box9 x w.heap.size (cv9 kind c vr vR vS vD vd vs fr to) 25) := fun _ h => h
  have c1 := sets9_any (w.alloc (.cells (cv9 kind c vr vR vS vD vd vs fr to) 25))
  obtain ⟨A, hA⟩ : ∃ A, A = cv9 kind c vr vR vS vD vd vs fr to := ⟨_, rfl⟩
  rw [← hA] at hX bX HA c1 HQ ⊢
  have HH : Hid (A = cv9 kind c vr vR vS vD vd vs fr to) := hA
  clear hA h
  have HX : Hid (Box9 (w.alloc (.cells A 25)) w.heap.size A 25 ∧ Below w.heap.size w (w.alloc (.cells A 25))) := ⟨hX, bX⟩
  clear hX bX
  have cF := fun W => fixed9_any W
  go_enter Try.func3, Try.ntmps3
  go_wp2_with (first
    | (go_at_call 6; (with_reducible refine c1.mono ?_); rintro e w2 ⟨vl, gl, cl, P, rfl, hS, hb2⟩; clear c1; have H2 : Hid (Box9 w2 w.heap.size A 25 ∧ Below w.heap.size w w2 ∧ Sv w2 vl gl cl P) := ⟨HX.out.1.below hb2, HX.out.2.trans (hb2.mono HX.out.2.size), hS⟩; obtain ⟨lo, hi, rfl, -⟩ := hS; clear hb2 HX)
    | (go_at_call 7; (with_reducible refine (cF _).mono ?_); rintro e w4 ⟨rfl, hb3⟩; clear cF; have H4 : Hid (Box9 w4 w.heap.size A 25 ∧ Below w.heap.size w w4 ∧ Sv w4 (.slice (some ⟨gl, 0, none⟩) 3 cl) gl cl P) := ⟨H2.out.1.below hb3, H2.out.2.1.trans (hb3.mono H2.out.2.1.size), H2.out.2.2.below hb3⟩; clear hb3 H2; obtain ⟨u1, u2⟩ := HA.out w4 H4.out.1))
  clear u1 u2 HA
  obtain ⟨q1, q2, lo, hi, e9, s1, s2, s3, s4⟩ := H4.out
  cases e9
  obtain ⟨nr, R, mR, nR, RR, mS, nS, SS, mD, nD, DD, nd, D, ns, S, hIq⟩ := (HI.out.below q2).iq
  have bS : Below w4.heap.size w4 (w4.alloc (.cells #[.int .i64 fr, .int .i64 to] 30)) := (Below.refl _ _).alloc (Nat.le_refl _) _
  have HB0 : Hid (Ba9 (w4.alloc (.cells #[.int .i64 fr, .int .i64 to] 30)) w.heap.size w4.heap.size gl P lo hi kind c vr vR vS vD vd vs fr to nr R mR nR RR mS nS SS mD nD DD nd D ns S) := by
    refine ⟨?_, ⟨heap_alloc_new _ _⟩, hIq.below bS, Nat.lt_of_lt_of_le s3 bS.size, fun i hi => (bS.cell (p := ⟨gl, i, none⟩) s3).trans (s4 i hi).1, fun i hi => (s4 i hi).2.below bS⟩
    rw [← HH.out]
    exact q1.below bS
  have HW : Hid (Below w.heap.size w (w4.alloc (.cells #[.int .i64 fr, .int .i64 to] 30))) := q2.trans (bS.mono q2.size)
  have h3c : 3 ≤ cl := s1
  clear q1 q2 s1 s2 s3 s4 bS hIq H4 HI HH HQ
  have HZ : Hid ((w4.alloc (.cells #[.int .i64 fr, .int .i64 to] 30)).heap.size = w4.heap.size + 1) := by show _ = _; simp
  generalize w4.alloc (.cells #[.int .i64 fr, .int .i64 to] 30) = x0 at HB0 HW HZ ⊢
  generalize w4.heap.size = gp at HB0 HZ ⊢
  generalize w.heap.size = g0 at HB0 ⊢
  have HG : Hid (∀ x, Below x0.heap.size x0 x → Below x0.heap.size x0 x) := fun _ h => h

  go_loopw [5, 6, 8, 33] (fun f m y i wr => ∃ k : Nat, k ≤ 3 ∧ i = .int .i64 k ∧ Below x0.heap.size x0 wr ∧ ∃ a0 a1 a2 a3 a4 : Int, Box9 wr (gp + 1) #[.int .i64 a0, .int .i64 a1, .int .i64 a2, .int .i64 a3, .int .i64 a4] 32 ∧ (0 < k → Lf wr f m y a0 a1 a2 a3 a4 mD (n9u mD nD nd) nD (f9u mD (ap9 mR mS mD nR nS nD fr to RR SS DD) (dv9 nr mS nd nS R (vl9 nd ns D (fun j => fm 285 c (S j) ^^^ D j)) SS)) (sp9 nr mD ns nD fr to R S DD) (er9 nd ns) (de9 nr mS nd nS) (fit9 mR mS mD nR nS nD fr to) (sf9 nr mD ns nD fr to) (fit9 mR mS mD nR nS nD fr to) (fit9 mR mS mD nR nS nD fr to = 0 ∧ ∀ r, r < mD → ∀ t : Nat, fr ≤ (t : Int) → (t : Int) < to → DD r t = ks (RR r) SS mS t))) (fun _ _ _ i _ => 3 - (intOf i).toNat)
  case atStart => exact ⟨0, Nat.zero_le _, rfl, (Below.refl _ _).alloc (Nat.le_refl _) _, 0, 0, 0, 0, 0, by have := Box9.new x0 #[.int .i64 0, .int .i64 0, .int .i64 0, .int .i64 0, .int .i64 0] 32; rw [HZ.out] at this; exact this, fun h => absurd h (Nat.lt_irrefl _)⟩
  case round =>
    obtain ⟨k, hk3, rfl, hb, a0, a1, a2, a3, a4, hE, hL⟩ := hrel
    have W1 : wrap64 ((k : Int) + 1) = (k : Int) + 1 := by unfold wrap64; omega
    by_cases hlt : k < 3
    case neg =>
      have HE : Hid _ := hb
      clear hb hE hL
      have hk : k = 3 := by omega
      subst hk
      go_wp2
      go_ret
      exact ⟨rfl, HW.out.trans (HE.out.mono HW.out.size)⟩
    case pos =>
    have ib : ((k : Nat) : Int) < 3 := by omega
    have HB : Hid (Ba9 wr g0 gp gl P lo hi kind c vr vR vS vD vd vs fr to nr R mR nR RR mS nS SS mD nD DD nd D ns S) := HB0.out.below hb
    have q1 := HB.out.pt k hlt
    have HL : Hid _ := hL
    have HE : Hid _ := hE
    have HK : Hid (Below x0.heap.size x0 wr) := hb
    clear hb hE hL
    go_wp2
    clear q1
    have HS : Hid (Below wr.heap.size wr wr) := Below.refl _ _
    have cA := cd9 vd nd D wr.drew (by exact HB.out.iq.dst) HB.out.iq.dstl
    refine region_planI (fun w' => w'.cell? ⟨g0, 6, none⟩ = some (vd) ∧ w'.cell? ⟨g0, 5, none⟩ = some (vD)) [0, 1, 3, 4, 6, 7, 2, 5, 8, 9, 10, 11] [6, 0, 0, 3] 137 ⟨(HB.out.below HS.out).bx.cell rfl, (HB.out.below HS.out).bx.cell rfl⟩ (by kernel_rfl) (by kernel_rfl) (fun _ a d v _ h => by cases d <;> exact h) ?_
    simp only [atI, List.getElem?_cons_zero, List.getElem?_cons_succ]
    refine planH_step ?A1 rfl (fun w' hS => ?s1) rfl (fun K hK => ?n1)
    case s1 =>
      obtain ⟨y0, y1⟩ := hS
      simp only [List.take_succ_cons, List.take_zero]
      repeat still_step
      exact rfl
    case n1 =>
    go_simp
    go_wp2_with (go_at_call 8; (with_reducible refine cA.mono ?_); rintro e x1 ⟨gd, rfl, r1, l1, b1⟩)
    clear cA
    have b1 := Below.undraw b1
    replace HS : Hid (Below wr.heap.size wr x1) := b1
    have H1 : Hid (Rw x1 gd nd D ∧ wr.heap.size ≤ gd) := ⟨r1, l1⟩
    clear r1 l1 b1
    have cA := copies9_any vD mD nD DD x1 (HB.out.below HS.out).iq.dsts HB.out.iq.dstsl HB.out.iq.dstsn
    refine hK _ _ ⟨(HB.out.below HS.out).bx.cell rfl, (HB.out.below HS.out).bx.cell rfl⟩ ?_
    clear hK K
    refine planH_step ?A2 rfl (fun w' hS => ?s2) rfl (fun K hK => ?n2)
    case s2 =>
      obtain ⟨y0, y1⟩ := hS
      simp only [List.take_zero]
      exact rfl
    case n2 =>
    go_simp
    go_wp2_with (go_at_call 9; (with_reducible refine cA.mono ?_); rintro e x2 ⟨v1, B1, rfl, r2, b2⟩)
    clear cA
    replace HS : Hid (Below wr.heap.size wr x2) := bta9 HS.out b2
    have H2 : Hid (Rw x2 gd nd D ∧ wr.heap.size ≤ gd ∧ gd < x1.heap.size ∧ Cs x1.heap.size x2.heap.size x2 v1 mD nD nD B1 DD ∧ x1.heap.size ≤ x2.heap.size) := ⟨rw_below H1.out.1 b2, H1.out.2, H1.out.1.lt, r2, b2.size⟩
    clear r2 b2 H1
    have cA := copies9_any vD mD nD DD x2 (HB.out.below HS.out).iq.dsts HB.out.iq.dstsl HB.out.iq.dstsn
    refine hK _ _ ⟨(HB.out.below HS.out).bx.cell rfl, (HB.out.below HS.out).bx.cell rfl⟩ ?_
    clear hK K
    refine planH_step ?A3 rfl (fun w' hS => ?s3) rfl (fun K hK => ?n3)
    case s3 =>
      obtain ⟨y0, y1⟩ := hS
      simp only [List.take_zero]
      exact rfl
    case n3 =>
    go_simp
    go_wp2_with (go_at_call 9; (with_reducible refine cA.mono ?_); rintro e x3 ⟨v2, B2, rfl, r3, b3⟩)
    clear cA
    replace HS : Hid (Below wr.heap.size wr x3) := bta9 HS.out b3
    have H3 : Hid (Ax9 wr (x3.alloc (.cells #[.int .i64 0, .int .i64 0, .int .i64 0, .int .i64 0, .int .i64 0] 32)) nd gd D mD nD v1 x1.heap.size x2.heap.size B1 DD v2 x2.heap.size x3.heap.size B2 DD x3.heap.size #[.int .i64 0, .int .i64 0, .int .i64 0, .int .i64 0, .int .i64 0]) := by
      have bA : Below x3.heap.size x3 (x3.alloc (.cells #[.int .i64 0, .int .i64 0, .int .i64 0, .int .i64 0, .int .i64 0] 32)) := (Below.refl _ _).alloc (Nat.le_refl _) _
      exact ⟨bta9 HS.out bA, rw_below (rw_below H2.out.1 b3) bA, H2.out.2.1, H2.out.2.2.1, (H2.out.2.2.2.1.below b3).below bA, r3.below bA, H2.out.2.2.2.2, Nat.le_refl _, b3.size, Nat.le_refl _, Box9.new _ _ _⟩
    clear r3 b3 H2
    refine hK _ _ ⟨(HB.out.below HS.out).bx.cell rfl, (HB.out.below HS.out).bx.cell rfl⟩ ?_
    clear hK K
    refine planH_last ?A4 rfl (fun w' hS => ?s4) rfl ?n4
    case s4 =>
      obtain ⟨y0, y1⟩ := hS
      simp only [List.take_succ_cons, List.take_zero]
      repeat still_step
      exact rfl
    case n4 =>
    go_wp2
    clear HS
    generalize x3.alloc (.cells #[.int .i64 0, .int .i64 0, .int .i64 0, .int .i64 0, .int .i64 0] 32) = x4 at H3 ⊢
    generalize x3.heap.size = gn at H3 ⊢
    have HS : Hid _ := H3.out
    clear H3
    have cA := al_add HB.out (HS.out.up (Below.refl _ _).drew) hlt
    refine region_planI (fun w' => w'.cell? ⟨g0, 1, none⟩ = some (.int .u8 (c : Int)) ∧ w'.cell? ⟨g0, 7, none⟩ = some (vs)) [0, 1, 2, 3, 4, 5, 6, 7, 8, 9] [6, 0, 1, 0] 137 ⟨(HB.out.below HS.out.bel).bx.cell rfl, (HB.out.below HS.out.bel).bx.cell rfl⟩ (by kernel_rfl) (by kernel_rfl) (fun _ a d v _ h => by cases d <;> exact h) ?_
    simp only [atI, List.getElem?_cons_zero, List.getElem?_cons_succ]
    refine planH_step ?A5 rfl (fun w' hS => ?s5) rfl (fun K hK => ?n5)
    case s5 =>
      obtain ⟨y0, y1⟩ := hS
      simp only [List.take_succ_cons, List.take_zero]
      repeat still_step
      exact rfl
    case n5 =>
    go_simp
    go_wp2_with (go_at_call 8; (with_reducible refine cA.mono ?_); rintro e x5a ⟨gx5a, rfl, hq, cB⟩)
    clear cA
    have HQ : Hid (Below wr.heap.size wr x5a) := hq
    clear hq
    have cA := cB
    clear cB
    refine hK _ _ ⟨(HB.out.below HQ.out).bx.cell rfl, (HB.out.below HQ.out).bx.cell rfl⟩ ?_
    clear hK K
    refine planH_step ?A6 rfl (fun w' hS => ?s6) rfl (fun K hK => ?n6)
    case s6 =>
      obtain ⟨y0, y1⟩ := hS
      simp only [List.take_zero]
      exact rfl
    case n6 =>
    go_simp
    go_wp2_with (go_at_call 10; (with_reducible refine cA.mono ?_); rintro e x5 ⟨rfl, hq⟩)
    clear cA
    replace HS : Hid (Ax9 wr x5 nd gd (vl9 nd ns D (fun j => fm 285 c (S j) ^^^ D j)) mD nD v1 x1.heap.size x2.heap.size B1 DD v2 x2.heap.size gn B2 DD gn #[.int .i64 0, .int .i64 0, .int .i64 0, .int .i64 0, .int .i64 0]) := hq
    clear hq
    refine hK _ _ ⟨(HB.out.below HS.out.bel).bx.cell rfl, (HB.out.below HS.out.bel).bx.cell rfl⟩ ?_
    clear hK K
    refine planH_step ?A7 rfl (fun w' hS => ?s7) rfl (fun K hK => ?n7)
    case s7 =>
      obtain ⟨y0, y1⟩ := hS
      simp only [List.take_succ_cons, List.take_zero]
      repeat still_step
      exact rfl
    case n7 =>
    have z0 := HS.out.now.cell (i := 0) (v := .int .i64 0) rfl
    have z1 := HS.out.fro 0
    replace HS : Hid (Ax9 wr (x5.setCell ⟨gn, 0, none⟩ (.int .i64 (er9 nd ns : Nat))) nd gd (vl9 nd ns D (fun j => fm 285 c (S j) ^^^ D j)) mD nD v1 x1.heap.size x2.heap.size B1 DD v2 x2.heap.size gn B2 DD gn #[.int .i64 (er9 nd ns : Nat), .int .i64 0, .int .i64 0, .int .i64 0, .int .i64 0]) := HS.out.snow 0 (.int .i64 (er9 nd ns : Nat))
    go_simp
    go_wp2
    clear z0 z1
    refine hK _ _ ⟨(HB.out.below HS.out.bel).bx.cell rfl, (HB.out.below HS.out.bel).bx.cell rfl⟩ ?_
    clear hK K
    refine planH_last ?A8 rfl (fun w' hS => ?s8) rfl ?n8
    case s8 =>
      obtain ⟨y0, y1⟩ := hS
      simp only [List.take_zero]
      exact rfl
    case n8 =>
    go_wp2
    generalize x5.setCell ⟨gn, 0, none⟩ (.int .i64 (er9 nd ns : Nat)) = x5z at HS ⊢
    have cA := al_dot HB.out (HS.out.up (Below.refl _ _).drew) hlt
    refine region_planI (fun w' => w'.cell? ⟨g0, 2, none⟩ = some (vr) ∧ w'.cell? ⟨g0, 4, none⟩ = some (vS)) [0, 1, 2, 4, 5, 7, 3, 6, 8, 9, 10] [6, 0, 0, 1, 0] 137 ⟨(HB.out.below HS.out.bel).bx.cell rfl, (HB.out.below HS.out.bel).bx.cell rfl⟩ (by kernel_rfl) (by kernel_rfl) (fun _ a d v _ h => by cases d <;> exact h) ?_
    simp only [atI, List.getElem?_cons_zero, List.getElem?_cons_succ]
    refine planH_step ?A9 rfl (fun w' hS => ?s9) rfl (fun K hK => ?n9)
    case s9 =>
      obtain ⟨y0, y1⟩ := hS
      simp only [List.take_succ_cons, List.take_zero]
      repeat still_step
      exact rfl
    case n9 =>
    go_simp
    go_wp2_with (go_at_call 8; (with_reducible refine cA.mono ?_); rintro e x6a ⟨gx6a, rfl, hq, cB⟩)
    clear cA
    have HQ : Hid (Below wr.heap.size wr x6a) := hq
    clear hq
    have cA := cB
    clear cB
    refine hK _ _ ⟨(HB.out.below HQ.out).bx.cell rfl, (HB.out.below HQ.out).bx.cell rfl⟩ ?_
    clear hK K
    refine planH_step ?A10 rfl (fun w' hS => ?s10) rfl (fun K hK => ?n10)
    case s10 =>
      obtain ⟨y0, y1⟩ := hS
      simp only [List.take_zero]
      exact rfl
    case n10 =>
    go_simp
    go_wp2_with (go_at_call 9; (with_reducible refine cA.mono ?_); rintro e x6b ⟨ux6b, rfl, hq, cB⟩)
    clear cA
    have HQ : Hid (Below wr.heap.size wr x6b) := hq
    clear hq
    have cA := cB
    clear cB
    refine hK _ _ ⟨(HB.out.below HQ.out).bx.cell rfl, (HB.out.below HQ.out).bx.cell rfl⟩ ?_
    clear hK K
    refine planH_step ?A11 rfl (fun w' hS => ?s11) rfl (fun K hK => ?n11)
    case s11 =>
      obtain ⟨y0, y1⟩ := hS
      simp only [List.take_zero]
      exact rfl
    case n11 =>
    go_simp
    go_wp2_with (go_at_call 11; (with_reducible refine cA.mono ?_); rintro e x6 ⟨rfl, hq⟩)
    clear cA
    replace HS : Hid (Ax9 wr x6 nd gd (dv9 nr mS nd nS R (vl9 nd ns D (fun j => fm 285 c (S j) ^^^ D j)) SS) mD nD v1 x1.heap.size x2.heap.size B1 DD v2 x2.heap.size gn B2 DD gn #[.int .i64 (er9 nd ns : Nat), .int .i64 0, .int .i64 0, .int .i64 0, .int .i64 0]) := hq
    clear hq
    refine hK _ _ ⟨(HB.out.below HS.out.bel).bx.cell rfl, (HB.out.below HS.out.bel).bx.cell rfl⟩ ?_
    clear hK K
    refine planH_step ?A12 rfl (fun w' hS => ?s12) rfl (fun K hK => ?n12)
    case s12 =>
      obtain ⟨y0, y1⟩ := hS
      simp only [List.take_succ_cons, List.take_zero]
      repeat still_step
      exact rfl
    case n12 =>
    have z0 := HS.out.now.cell (i := 1) (v := .int .i64 0) rfl
    have z1 := HS.out.fro 1
    replace HS : Hid (Ax9 wr (x6.setCell ⟨gn, 1, none⟩ (.int .i64 (de9 nr mS nd nS : Nat))) nd gd (dv9 nr mS nd nS R (vl9 nd ns D (fun j => fm 285 c (S j) ^^^ D j)) SS) mD nD v1 x1.heap.size x2.heap.size B1 DD v2 x2.heap.size gn B2 DD gn #[.int .i64 (er9 nd ns : Nat), .int .i64 (de9 nr mS nd nS : Nat), .int .i64 0, .int .i64 0, .int .i64 0]) := HS.out.snow 1 (.int .i64 (de9 nr mS nd nS : Nat))
    go_simp
    go_wp2
    clear z0 z1
    refine hK _ _ ⟨(HB.out.below HS.out.bel).bx.cell rfl, (HB.out.below HS.out.bel).bx.cell rfl⟩ ?_
    clear hK K
    refine planH_last ?A13 rfl (fun w' hS => ?s13) rfl ?n13
    case s13 =>
      obtain ⟨y0, y1⟩ := hS
      simp only [List.take_zero]
      exact rfl
    case n13 =>
    go_wp2
    generalize x6.setCell ⟨gn, 1, none⟩ (.int .i64 (de9 nr mS nd nS : Nat)) = x6z at HS ⊢
    have cA := al_apply HB.out (HS.out.up (Below.refl _ _).drew) hlt
    refine region_planI (fun w' => w'.cell? ⟨g0, 3, none⟩ = some (vR) ∧ w'.cell? ⟨g0, 4, none⟩ = some (vS) ∧ w'.cell? ⟨gp, 0, none⟩ = some (.int .i64 fr) ∧ w'.cell? ⟨gp, 1, none⟩ = some (.int .i64 to)) [0, 1, 2, 4, 5, 7, 8, 3, 6, 9, 10, 11] [7, 0, 0, 1, 0] 137 ⟨(HB.out.below HS.out.bel).bx.cell rfl, (HB.out.below HS.out.bel).bx.cell rfl, (HB.out.below HS.out.bel).sb.c0, (HB.out.below HS.out.bel).sb.c1⟩ (by kernel_rfl) (by kernel_rfl) (fun _ a d v _ h => by cases d <;> exact h) ?_
    simp only [atI, List.getElem?_cons_zero, List.getElem?_cons_succ]
    refine planH_step ?A14 rfl (fun w' hS => ?s14) rfl (fun K hK => ?n14)
    case s14 =>
      obtain ⟨y0, y1, y2, y3⟩ := hS
      simp only [List.take_succ_cons, List.take_zero]
      repeat still_step
      exact rfl
    case n14 =>
    go_simp
    go_wp2_with (go_at_call 9; (with_reducible refine cA.mono ?_); rintro e x7a ⟨ux7a, rfl, hq, cB⟩)
    clear cA
    have HQ : Hid (Below wr.heap.size wr x7a) := hq
    clear hq
    have cA := cB
    clear cB
    refine hK _ _ ⟨(HB.out.below HQ.out).bx.cell rfl, (HB.out.below HQ.out).bx.cell rfl, (HB.out.below HQ.out).sb.c0, (HB.out.below HQ.out).sb.c1⟩ ?_
    clear hK K
    refine planH_step ?A15 rfl (fun w' hS => ?s15) rfl (fun K hK => ?n15)
    case s15 =>
      obtain ⟨y0, y1, y2, y3⟩ := hS
      simp only [List.take_zero]
      exact rfl
    case n15 =>
    go_simp
    go_wp2_with (go_at_call 9; (with_reducible refine cA.mono ?_); rintro e x7b ⟨ux7b, rfl, hq, cB⟩)
    clear cA
    have HQ : Hid (Below wr.heap.size wr x7b) := hq
    clear hq
    have cA := cB
    clear cB
    refine hK _ _ ⟨(HB.out.below HQ.out).bx.cell rfl, (HB.out.below HQ.out).bx.cell rfl, (HB.out.below HQ.out).sb.c0, (HB.out.below HQ.out).sb.c1⟩ ?_
    clear hK K
    refine planH_step ?A16 rfl (fun w' hS => ?s16) rfl (fun K hK => ?n16)
    case s16 =>
      obtain ⟨y0, y1, y2, y3⟩ := hS
      simp only [List.take_zero]
      exact rfl
    case n16 =>
    go_simp
    go_wp2_with (go_at_call 12; (with_reducible refine cA.mono ?_); rintro e x7 ⟨rfl, hq⟩)
    clear cA
    replace HS : Hid (Ax9 wr x7 nd gd (dv9 nr mS nd nS R (vl9 nd ns D (fun j => fm 285 c (S j) ^^^ D j)) SS) mD nD v1 x1.heap.size x2.heap.size B1 (ap9 mR mS mD nR nS nD fr to RR SS DD) v2 x2.heap.size gn B2 DD gn #[.int .i64 (er9 nd ns : Nat), .int .i64 (de9 nr mS nd nS : Nat), .int .i64 0, .int .i64 0, .int .i64 0]) := hq
    clear hq
    refine hK _ _ ⟨(HB.out.below HS.out.bel).bx.cell rfl, (HB.out.below HS.out.bel).bx.cell rfl, (HB.out.below HS.out.bel).sb.c0, (HB.out.below HS.out.bel).sb.c1⟩ ?_
    clear hK K
    refine planH_step ?A17 rfl (fun w' hS => ?s17) rfl (fun K hK => ?n17)
    case s17 =>
      obtain ⟨y0, y1, y2, y3⟩ := hS
      simp only [List.take_succ_cons, List.take_zero]
      repeat still_step
      exact rfl
    case n17 =>
    have z0 := HS.out.now.cell (i := 2) (v := .int .i64 0) rfl
    have z1 := HS.out.fro 2
    replace HS : Hid (Ax9 wr (x7.setCell ⟨gn, 2, none⟩ (.int .i64 (fit9 mR mS mD nR nS nD fr to : Nat))) nd gd (dv9 nr mS nd nS R (vl9 nd ns D (fun j => fm 285 c (S j) ^^^ D j)) SS) mD nD v1 x1.heap.size x2.heap.size B1 (ap9 mR mS mD nR nS nD fr to RR SS DD) v2 x2.heap.size gn B2 DD gn #[.int .i64 (er9 nd ns : Nat), .int .i64 (de9 nr mS nd nS : Nat), .int .i64 (fit9 mR mS mD nR nS nD fr to : Nat), .int .i64 0, .int .i64 0]) := HS.out.snow 2 (.int .i64 (fit9 mR mS mD nR nS nD fr to : Nat))
    go_simp
    go_wp2
    clear z0 z1
    refine hK _ _ ⟨(HB.out.below HS.out.bel).bx.cell rfl, (HB.out.below HS.out.bel).bx.cell rfl, (HB.out.below HS.out.bel).sb.c0, (HB.out.below HS.out.bel).sb.c1⟩ ?_
    clear hK K
    refine planH_last ?A18 rfl (fun w' hS => ?s18) rfl ?n18
    case s18 =>
      obtain ⟨y0, y1, y2, y3⟩ := hS
      simp only [List.take_zero]
      exact rfl
    case n18 =>
    go_wp2
    generalize x7.setCell ⟨gn, 2, none⟩ (.int .i64 (fit9 mR mS mD nR nS nD fr to : Nat)) = x7z at HS ⊢
    have cA := al_spread HB.out (HS.out.up (Below.refl _ _).drew) hlt
    refine region_planI (fun w' => w'.cell? ⟨g0, 2, none⟩ = some (vr) ∧ w'.cell? ⟨g0, 7, none⟩ = some (vs) ∧ w'.cell? ⟨gp, 0, none⟩ = some (.int .i64 fr) ∧ w'.cell? ⟨gp, 1, none⟩ = some (.int .i64 to)) [0, 1, 2, 4, 5, 7, 8, 3, 6, 9, 10, 11] [7, 0, 0, 1, 0] 137 ⟨(HB.out.below HS.out.bel).bx.cell rfl, (HB.out.below HS.out.bel).bx.cell rfl, (HB.out.below HS.out.bel).sb.c0, (HB.out.below HS.out.bel).sb.c1⟩ (by kernel_rfl) (by kernel_rfl) (fun _ a d v _ h => by cases d <;> exact h) ?_
    simp only [atI, List.getElem?_cons_zero, List.getElem?_cons_succ]
    refine planH_step ?A19 rfl (fun w' hS => ?s19) rfl (fun K hK => ?n19)
    case s19 =>
      obtain ⟨y0, y1, y2, y3⟩ := hS
      simp only [List.take_succ_cons, List.take_zero]
      repeat still_step
      exact rfl
    case n19 =>
    go_simp
    go_wp2_with (go_at_call 8; (with_reducible refine cA.mono ?_); rintro e x8a ⟨gx8a, rfl, hq, cB⟩)
    clear cA
    have HQ : Hid (Below wr.heap.size wr x8a) := hq
    clear hq
    have cA := cB
    clear cB
    refine hK _ _ ⟨(HB.out.below HQ.out).bx.cell rfl, (HB.out.below HQ.out).bx.cell rfl, (HB.out.below HQ.out).sb.c0, (HB.out.below HQ.out).sb.c1⟩ ?_
    clear hK K
    refine planH_step ?A20 rfl (fun w' hS => ?s20) rfl (fun K hK => ?n20)
    case s20 =>
      obtain ⟨y0, y1, y2, y3⟩ := hS
      simp only [List.take_zero]
      exact rfl
    case n20 =>
    go_simp
    go_wp2_with (go_at_call 8; (with_reducible refine cA.mono ?_); rintro e x8b ⟨gx8b, rfl, hq, cB⟩)
    clear cA
    have HQ : Hid (Below wr.heap.size wr x8b) := hq
    clear hq
    have cA := cB
    clear cB
    refine hK _ _ ⟨(HB.out.below HQ.out).bx.cell rfl, (HB.out.below HQ.out).bx.cell rfl, (HB.out.below HQ.out).sb.c0, (HB.out.below HQ.out).sb.c1⟩ ?_
    clear hK K
    refine planH_step ?A21 rfl (fun w' hS => ?s21) rfl (fun K hK => ?n21)
    case s21 =>
      obtain ⟨y0, y1, y2, y3⟩ := hS
      simp only [List.take_zero]
      exact rfl
    case n21 =>
    go_simp
    go_wp2_with (go_at_call 13; (with_reducible refine cA.mono ?_); rintro e x8 ⟨rfl, hq⟩)
    clear cA
    replace HS : Hid (Ax9 wr x8 nd gd (dv9 nr mS nd nS R (vl9 nd ns D (fun j => fm 285 c (S j) ^^^ D j)) SS) mD nD v1 x1.heap.size x2.heap.size B1 (ap9 mR mS mD nR nS nD fr to RR SS DD) v2 x2.heap.size gn B2 (sp9 nr mD ns nD fr to R S DD) gn #[.int .i64 (er9 nd ns : Nat), .int .i64 (de9 nr mS nd nS : Nat), .int .i64 (fit9 mR mS mD nR nS nD fr to : Nat), .int .i64 0, .int .i64 0]) := hq
    clear hq
    refine hK _ _ ⟨(HB.out.below HS.out.bel).bx.cell rfl, (HB.out.below HS.out.bel).bx.cell rfl, (HB.out.below HS.out.bel).sb.c0, (HB.out.below HS.out.bel).sb.c1⟩ ?_
    clear hK K
    refine planH_step ?A22 rfl (fun w' hS => ?s22) rfl (fun K hK => ?n22)
    case s22 =>
      obtain ⟨y0, y1, y2, y3⟩ := hS
      simp only [List.take_succ_cons, List.take_zero]
      repeat still_step
      exact rfl
    case n22 =>
    have z0 := HS.out.now.cell (i := 3) (v := .int .i64 0) rfl
    have z1 := HS.out.fro 3
    replace HS : Hid (Ax9 wr (x8.setCell ⟨gn, 3, none⟩ (.int .i64 (sf9 nr mD ns nD fr to : Nat))) nd gd (dv9 nr mS nd nS R (vl9 nd ns D (fun j => fm 285 c (S j) ^^^ D j)) SS) mD nD v1 x1.heap.size x2.heap.size B1 (ap9 mR mS mD nR nS nD fr to RR SS DD) v2 x2.heap.size gn B2 (sp9 nr mD ns nD fr to R S DD) gn #[.int .i64 (er9 nd ns : Nat), .int .i64 (de9 nr mS nd nS : Nat), .int .i64 (fit9 mR mS mD nR nS nD fr to : Nat), .int .i64 (sf9 nr mD ns nD fr to : Nat), .int .i64 0]) := HS.out.snow 3 (.int .i64 (sf9 nr mD ns nD fr to : Nat))
    go_simp
    go_wp2
    clear z0 z1
    refine hK _ _ ⟨(HB.out.below HS.out.bel).bx.cell rfl, (HB.out.below HS.out.bel).bx.cell rfl, (HB.out.below HS.out.bel).sb.c0, (HB.out.below HS.out.bel).sb.c1⟩ ?_
    clear hK K
    refine planH_last ?A23 rfl (fun w' hS => ?s23) rfl ?n23
    case s23 =>
      obtain ⟨y0, y1, y2, y3⟩ := hS
      simp only [List.take_zero]
      exact rfl
    case n23 =>
    go_wp2
    generalize x8.setCell ⟨gn, 3, none⟩ (.int .i64 (sf9 nr mD ns nD fr to : Nat)) = x8z at HS ⊢
    have cA := al_agrees HB.out (HS.out.up (Below.refl _ _).drew) hlt
    refine region_planI (fun w' => w'.cell? ⟨g0, 3, none⟩ = some (vR) ∧ w'.cell? ⟨g0, 4, none⟩ = some (vS) ∧ w'.cell? ⟨g0, 5, none⟩ = some (vD) ∧ w'.cell? ⟨gp, 0, none⟩ = some (.int .i64 fr) ∧ w'.cell? ⟨gp, 1, none⟩ = some (.int .i64 to)) [0, 1, 2, 4, 5, 7, 8, 10, 3, 6, 9, 11, 12, 13, 14, 15, 16] [8, 0, 0, 0, 5] 137 ⟨(HB.out.below HS.out.bel).bx.cell rfl, (HB.out.below HS.out.bel).bx.cell rfl, (HB.out.below HS.out.bel).bx.cell rfl, (HB.out.below HS.out.bel).sb.c0, (HB.out.below HS.out.bel).sb.c1⟩ (by kernel_rfl) (by kernel_rfl) (fun _ a d v _ h => by cases d <;> exact h) ?_
    simp only [atI, List.getElem?_cons_zero, List.getElem?_cons_succ]
    refine planH_step ?A24 rfl (fun w' hS => ?s24) rfl (fun K hK => ?n24)
    case s24 =>
      obtain ⟨y0, y1, y2, y3, y4⟩ := hS
      simp only [List.take_succ_cons, List.take_zero]
      repeat still_step
      exact rfl
    case n24 =>
    go_simp
    go_wp2_with (go_at_call 9; (with_reducible refine cA.mono ?_); rintro e x9a ⟨ux9a, rfl, hq, cB⟩)
    clear cA
    have HQ : Hid (Below wr.heap.size wr x9a) := hq
    clear hq
    have cA := cB
    clear cB
    refine hK _ _ ⟨(HB.out.below HQ.out).bx.cell rfl, (HB.out.below HQ.out).bx.cell rfl, (HB.out.below HQ.out).bx.cell rfl, (HB.out.below HQ.out).sb.c0, (HB.out.below HQ.out).sb.c1⟩ ?_
    clear hK K
    refine planH_step ?A25 rfl (fun w' hS => ?s25) rfl (fun K hK => ?n25)
    case s25 =>
      obtain ⟨y0, y1, y2, y3, y4⟩ := hS
      simp only [List.take_zero]
      exact rfl
    case n25 =>
    go_simp
    go_wp2_with (go_at_call 9; (with_reducible refine cA.mono ?_); rintro e x9b ⟨ux9b, rfl, hq, cB⟩)
    clear cA
    have HQ : Hid (Below wr.heap.size wr x9b) := hq
    clear hq
    have cA := cB
    clear cB
    refine hK _ _ ⟨(HB.out.below HQ.out).bx.cell rfl, (HB.out.below HQ.out).bx.cell rfl, (HB.out.below HQ.out).bx.cell rfl, (HB.out.below HQ.out).sb.c0, (HB.out.below HQ.out).sb.c1⟩ ?_
    clear hK K
    refine planH_step ?A26 rfl (fun w' hS => ?s26) rfl (fun K hK => ?n26)
    case s26 =>
      obtain ⟨y0, y1, y2, y3, y4⟩ := hS
      simp only [List.take_zero]
      exact rfl
    case n26 =>
    go_simp
    go_wp2_with (go_at_call 9; (with_reducible refine cA.mono ?_); rintro e x9c ⟨ux9c, rfl, hq, cB⟩)
    clear cA
    have HQ : Hid (Below wr.heap.size wr x9c) := hq
    clear hq
    have cA := cB
    clear cB
    refine hK _ _ ⟨(HB.out.below HQ.out).bx.cell rfl, (HB.out.below HQ.out).bx.cell rfl, (HB.out.below HQ.out).bx.cell rfl, (HB.out.below HQ.out).sb.c0, (HB.out.below HQ.out).sb.c1⟩ ?_
    clear hK K
    refine planH_step ?A27 rfl (fun w' hS => ?s27) rfl (fun K hK => ?n27)
    case s27 =>
      obtain ⟨y0, y1, y2, y3, y4⟩ := hS
      simp only [List.take_zero]
      exact rfl
    case n27 =>
    go_simp
    go_wp2_with (go_at_call 14; (with_reducible refine cA.mono ?_); rintro e x9 ⟨ba, rfl, hba, hq⟩)
    clear cA
    replace HS : Hid (Ax9 wr x9 nd gd (dv9 nr mS nd nS R (vl9 nd ns D (fun j => fm 285 c (S j) ^^^ D j)) SS) mD nD v1 x1.heap.size x2.heap.size B1 (ap9 mR mS mD nR nS nD fr to RR SS DD) v2 x2.heap.size gn B2 (sp9 nr mD ns nD fr to R S DD) gn #[.int .i64 (er9 nd ns : Nat), .int .i64 (de9 nr mS nd nS : Nat), .int .i64 (fit9 mR mS mD nR nS nD fr to : Nat), .int .i64 (sf9 nr mD ns nD fr to : Nat), .int .i64 0]) := hq
    have Hba : Hid _ := hba
    clear hq hba
    refine hK _ _ ⟨(HB.out.below HS.out.bel).bx.cell rfl, (HB.out.below HS.out.bel).bx.cell rfl, (HB.out.below HS.out.bel).bx.cell rfl, (HB.out.below HS.out.bel).sb.c0, (HB.out.below HS.out.bel).sb.c1⟩ ?_
    clear hK K
    refine planH_last ?A28 rfl (fun w' hS => ?s28) rfl ?n28
    case s28 =>
      obtain ⟨y0, y1, y2, y3, y4⟩ := hS
      simp only [List.take_succ_cons, List.take_zero]
      repeat still_step
      exact rfl
    case n28 =>
    have z0 := HS.out.now.cell (i := 4) (v := .int .i64 0) rfl
    have z1 := HS.out.fro 4
    replace HS : Hid (Ax9 wr (x9.setCell ⟨gn, 4, none⟩ (.int .i64 (fit9 mR mS mD nR nS nD fr to : Nat))) nd gd (dv9 nr mS nd nS R (vl9 nd ns D (fun j => fm 285 c (S j) ^^^ D j)) SS) mD nD v1 x1.heap.size x2.heap.size B1 (ap9 mR mS mD nR nS nD fr to RR SS DD) v2 x2.heap.size gn B2 (sp9 nr mD ns nD fr to R S DD) gn #[.int .i64 (er9 nd ns : Nat), .int .i64 (de9 nr mS nd nS : Nat), .int .i64 (fit9 mR mS mD nR nS nD fr to : Nat), .int .i64 (sf9 nr mD ns nD fr to : Nat), .int .i64 (fit9 mR mS mD nR nS nD fr to : Nat)]) := HS.out.snow 4 (.int .i64 (fit9 mR mS mD nR nS nD fr to : Nat))
    have cL := al_lists HS.out HB.out.iq.dstsl HB.out.iq.dstsn
    obtain ⟨v1a, v1c, ev1⟩ := Lb.form HS.out.ds.lb
    subst ev1
    by_cases hk0 : k = 0
    case pos =>
      subst hk0
      go_wp2_with (first
        | (go_at_call 9; (with_reducible refine cL.mono ?_); rintro e x10 ⟨u1, rfl, u, x11, hrun, hS5, hL5⟩; replace HS : Hid (Ax9 wr x11 nd gd (dv9 nr mS nd nS R (vl9 nd ns D (fun j => fm 285 c (S j) ^^^ D j)) SS) mD nD (.slice v1a mD v1c) x1.heap.size x2.heap.size B1 (ap9 mR mS mD nR nS nD fr to RR SS DD) v2 x2.heap.size gn B2 (sp9 nr mD ns nD fr to R S DD) gn #[.int .i64 (er9 nd ns : Nat), .int .i64 (de9 nr mS nd nS : Nat), .int .i64 (fit9 mR mS mD nR nS nD fr to : Nat), .int .i64 (sf9 nr mD ns nD fr to : Nat), .int .i64 (fit9 mR mS mD nR nS nD fr to : Nat)]) := hS5; have H5 : Hid (Ll (fun b => b < wr.heap.size) x11 u (mD + 1) (n9u mD nD nd) (f9u mD (ap9 mR mS mD nR nS nD fr to RR SS DD) (dv9 nr mS nd nS R (vl9 nd ns D (fun j => fm 285 c (S j) ^^^ D j)) SS))) := hL5; obtain ⟨ua, uc, eu⟩ := Lb.form hL5.lb; subst eu; clear hS5 hL5 cL z0 z1)
        | (at_builtin; refine Lib.wpList_append_run _ rfl _ _ _ _ rfl _ _ rfl rfl _ _ hrun ?_; clear hrun))
      have t0 := HS.out.now.cell (i := 0) (v := .int .i64 (er9 nd ns : Nat)) rfl
      have HE2 : Hid (Box9 x11 (gp + 1) #[.int .i64 a0, .int .i64 a1, .int .i64 a2, .int .i64 a3, .int .i64 a4] 32) := HE.out.below HS.out.bel
      have fE : ∀ i, x11.frozen? ⟨gp + 1, i, none⟩ = false := fun i => frozen_of_row _ _ _ _ _ HE2.out.blk
      have e0 := HE2.out.cell (i := 0) (v := .int .i64 a0) rfl
      have e1 := HE2.out.cell (i := 1) (v := .int .i64 a1) rfl
      have e2 := HE2.out.cell (i := 2) (v := .int .i64 a2) rfl
      have e3 := HE2.out.cell (i := 3) (v := .int .i64 a3) rfl
      have e4 := HE2.out.cell (i := 4) (v := .int .i64 a4) rfl
      have f0 := fE 0
      have f1 := fE 1
      have f2 := fE 2
      have f3 := fE 3
      have f4 := fE 4
      clear fE t0
      refine region_planI (fun w' => w'.cell? ⟨gn, 0, none⟩ = some (.int .i64 (er9 nd ns : Nat)) ∧ w'.cell? ⟨gn, 1, none⟩ = some (.int .i64 (de9 nr mS nd nS : Nat)) ∧ w'.cell? ⟨gn, 2, none⟩ = some (.int .i64 (fit9 mR mS mD nR nS nD fr to : Nat)) ∧ w'.cell? ⟨gn, 3, none⟩ = some (.int .i64 (sf9 nr mD ns nD fr to : Nat)) ∧ w'.cell? ⟨gn, 4, none⟩ = some (.int .i64 (fit9 mR mS mD nR nS nD fr to : Nat))) [0, 1, 2, 3, 4, 5, 6, 7] [6, 1] 137 ⟨HS.out.now.cell rfl, HS.out.now.cell rfl, HS.out.now.cell rfl, HS.out.now.cell rfl, HS.out.now.cell rfl⟩ (by kernel_rfl) (by kernel_rfl) (fun _ a d v _ h => by cases d <;> exact h) ?_
      simp only [atI, List.getElem?_cons_zero, List.getElem?_cons_succ]
      refine planH_step ?A29 rfl (fun w' hS => ?s29) rfl (fun K hK => ?n29)
      case s29 =>
        obtain ⟨y0, y1, y2, y3, y4⟩ := hS
        simp only [List.take_succ_cons, List.take_zero]
        repeat still_step
        exact rfl
      case n29 =>
      go_simp
      go_wp2
      obtain ⟨hE3, hK3⟩ := five9 HE2.out (.int .i64 (er9 nd ns : Nat)) (.int .i64 (de9 nr mS nd nS : Nat)) (.int .i64 (fit9 mR mS mD nR nS nD fr to : Nat)) (.int .i64 (sf9 nr mD ns nD fr to : Nat)) (.int .i64 (fit9 mR mS mD nR nS nD fr to : Nat))
      have hge : gp + 1 < wr.heap.size := HE.out.lt
      have a0x := HS.out.dlo
      have a1x := HS.out.dhi
      have a2x := HS.out.o1
      have a3x := HS.out.o12
      have a4x := HS.out.o2
      have a5x := HS.out.nlo
      have hb0 : Below x0.heap.size x0 x11 := bta9 HK.out HS.out.bel
      have H6 : Hid (Below x0.heap.size x0 (((((x11.setCell ⟨gp + 1, 0, none⟩ (.int .i64 (er9 nd ns : Nat))).setCell ⟨gp + 1, 1, none⟩ (.int .i64 (de9 nr mS nd nS : Nat))).setCell ⟨gp + 1, 2, none⟩ (.int .i64 (fit9 mR mS mD nR nS nD fr to : Nat))).setCell ⟨gp + 1, 3, none⟩ (.int .i64 (sf9 nr mD ns nD fr to : Nat))).setCell ⟨gp + 1, 4, none⟩ (.int .i64 (fit9 mR mS mD nR nS nD fr to : Nat))).drew ∧ Box9 (((((x11.setCell ⟨gp + 1, 0, none⟩ (.int .i64 (er9 nd ns : Nat))).setCell ⟨gp + 1, 1, none⟩ (.int .i64 (de9 nr mS nd nS : Nat))).setCell ⟨gp + 1, 2, none⟩ (.int .i64 (fit9 mR mS mD nR nS nD fr to : Nat))).setCell ⟨gp + 1, 3, none⟩ (.int .i64 (sf9 nr mD ns nD fr to : Nat))).setCell ⟨gp + 1, 4, none⟩ (.int .i64 (fit9 mR mS mD nR nS nD fr to : Nat))).drew (gp + 1) #[.int .i64 (er9 nd ns : Nat), .int .i64 (de9 nr mS nd nS : Nat), .int .i64 (fit9 mR mS mD nR nS nD fr to : Nat), .int .i64 (sf9 nr mD ns nD fr to : Nat), .int .i64 (fit9 mR mS mD nR nS nD fr to : Nat)] 32 ∧ Lb (((((x11.setCell ⟨gp + 1, 0, none⟩ (.int .i64 (er9 nd ns : Nat))).setCell ⟨gp + 1, 1, none⟩ (.int .i64 (de9 nr mS nd nS : Nat))).setCell ⟨gp + 1, 2, none⟩ (.int .i64 (fit9 mR mS mD nR nS nD fr to : Nat))).setCell ⟨gp + 1, 3, none⟩ (.int .i64 (sf9 nr mD ns nD fr to : Nat))).setCell ⟨gp + 1, 4, none⟩ (.int .i64 (fit9 mR mS mD nR nS nD fr to : Nat))).drew (.slice ua (mD + 1) uc) (mD + 1) (n9u mD nD nd) (f9u mD (ap9 mR mS mD nR nS nD fr to RR SS DD) (dv9 nr mS nd nS R (vl9 nd ns D (fun j => fm 285 c (S j) ^^^ D j)) SS)) ∧ Lb (((((x11.setCell ⟨gp + 1, 0, none⟩ (.int .i64 (er9 nd ns : Nat))).setCell ⟨gp + 1, 1, none⟩ (.int .i64 (de9 nr mS nd nS : Nat))).setCell ⟨gp + 1, 2, none⟩ (.int .i64 (fit9 mR mS mD nR nS nD fr to : Nat))).setCell ⟨gp + 1, 3, none⟩ (.int .i64 (sf9 nr mD ns nD fr to : Nat))).setCell ⟨gp + 1, 4, none⟩ (.int .i64 (fit9 mR mS mD nR nS nD fr to : Nat))).drew v2 mD nD (sp9 nr mD ns nD fr to R S DD) ∧ Box9 (((((x11.setCell ⟨gp + 1, 0, none⟩ (.int .i64 (er9 nd ns : Nat))).setCell ⟨gp + 1, 1, none⟩ (.int .i64 (de9 nr mS nd nS : Nat))).setCell ⟨gp + 1, 2, none⟩ (.int .i64 (fit9 mR mS mD nR nS nD fr to : Nat))).setCell ⟨gp + 1, 3, none⟩ (.int .i64 (sf9 nr mD ns nD fr to : Nat))).setCell ⟨gp + 1, 4, none⟩ (.int .i64 (fit9 mR mS mD nR nS nD fr to : Nat))).drew gn #[.int .i64 (er9 nd ns : Nat), .int .i64 (de9 nr mS nd nS : Nat), .int .i64 (fit9 mR mS mD nR nS nD fr to : Nat), .int .i64 (sf9 nr mD ns nD fr to : Nat), .int .i64 (fit9 mR mS mD nR nS nD fr to : Nat)] 32) := by
        refine ⟨hb0.trans (hK3.below (by rw [HZ.out]; exact Nat.le_refl _) hb0.size), hE3, ?_, ?_, ⟨by rw [hK3.2 gn HS.out.now.lt (by omega)]; exact HS.out.now.blk⟩⟩
        · exact ((Ll.mono H5.out (fun x _ e => by omega)).ke hK3.ke).lb
        · exact ((HS.out.ot.ll (fun x e1 e2 e => by omega)).ke hK3.ke).lb
      clear hE3 hK3 hge a0x a1x a2x a3x a4x a5x hb0 e0 e1 e2 e3 e4 f0 f1 f2 f3 f4
      generalize (((((x11.setCell ⟨gp + 1, 0, none⟩ (.int .i64 (er9 nd ns : Nat))).setCell ⟨gp + 1, 1, none⟩ (.int .i64 (de9 nr mS nd nS : Nat))).setCell ⟨gp + 1, 2, none⟩ (.int .i64 (fit9 mR mS mD nR nS nD fr to : Nat))).setCell ⟨gp + 1, 3, none⟩ (.int .i64 (sf9 nr mD ns nD fr to : Nat))).setCell ⟨gp + 1, 4, none⟩ (.int .i64 (fit9 mR mS mD nR nS nD fr to : Nat))).drew = x12 at H6 ⊢
      refine hK _ _ ⟨H6.out.2.2.2.2.cell rfl, H6.out.2.2.2.2.cell rfl, H6.out.2.2.2.2.cell rfl, H6.out.2.2.2.2.cell rfl, H6.out.2.2.2.2.cell rfl⟩ ?_
      clear hK K
      refine planH_last ?A30 rfl (fun w' hS => ?s30) rfl ?n30
      case s30 =>
        obtain ⟨y0, y1, y2, y3, y4⟩ := hS
        simp only [List.take_succ_cons, List.take_zero]
        repeat still_step
        exact rfl
      case n30 =>
      go_wp2
      go_roundw
      case rel => exact ⟨1, by decide, by first | rfl | (rw [W1]; rfl), H6.out.1, _, _, _, _, _, H6.out.2.1, fun _ => ⟨H6.out.2.2.1, H6.out.2.2.2.1, ⟨ba, rfl, Hba.out⟩, rfl, rfl, rfl, rfl, rfl⟩⟩
      case measure => first | (rw [W1]; simp [intOf]; done) | (simp [intOf]; done) | (simp [intOf]; omega)
    case neg =>
    obtain ⟨hf, hm, ⟨b, rfl, hyb⟩, rfl, rfl, rfl, rfl, rfl⟩ := HL.out (by omega)
    obtain rfl : ba = b := Bool.eq_iff_iff.2 (Hba.out.trans hyb.symm)
    have D0 : ((k : Int) == 0) = false := by simpa using hk0
    have HF : Hid (Lb wr u5 (mD + 1) (n9u mD nD nd) (f9u mD (ap9 mR mS mD nR nS nD fr to RR SS DD) (dv9 nr mS nd nS R (vl9 nd ns D (fun j => fm 285 c (S j) ^^^ D j)) SS)) ∧ Lb wr u6 mD nD (sp9 nr mD ns nD fr to R S DD)) := ⟨hf, hm⟩
    clear hf hm hyb hk0
    have hq5 := fun W => eq5_9 ((er9 nd ns : Nat)) ((de9 nr mS nd nS : Nat)) ((fit9 mR mS mD nR nS nD fr to : Nat)) ((sf9 nr mD ns nD fr to : Nat)) ((fit9 mR mS mD nR nS nD fr to : Nat)) W
    go_wp2_with (first
      | (go_at_call 9; (with_reducible refine cL.mono ?_); rintro e x10 ⟨u1, rfl, u, x11, hrun, hS5, hL5⟩; replace HS : Hid (Ax9 wr x11 nd gd (dv9 nr mS nd nS R (vl9 nd ns D (fun j => fm 285 c (S j) ^^^ D j)) SS) mD nD (.slice v1a mD v1c) x1.heap.size x2.heap.size B1 (ap9 mR mS mD nR nS nD fr to RR SS DD) v2 x2.heap.size gn B2 (sp9 nr mD ns nD fr to R S DD) gn #[.int .i64 (er9 nd ns : Nat), .int .i64 (de9 nr mS nd nS : Nat), .int .i64 (fit9 mR mS mD nR nS nD fr to : Nat), .int .i64 (sf9 nr mD ns nD fr to : Nat), .int .i64 (fit9 mR mS mD nR nS nD fr to : Nat)]) := hS5; obtain ⟨ua, uc, eu⟩ := Lb.form hL5.lb; subst eu; have cE := all9_true (.slice ua (mD + 1) uc) u5 (mD + 1) _ _ _ x11 hL5.lb (Lb.below HF.out.1 HS.out.bel) (fun _ _ _ _ => rfl); clear hS5 hL5 cL z0 z1)
      | (at_builtin; refine Lib.wpList_append_run _ rfl _ _ _ _ rfl _ _ rfl rfl _ _ hrun ?_; clear hrun)
      | (go_at_call 15; (with_reducible refine cE.mono ?_); rintro e x12 ⟨rfl, m12, h12⟩; have b12 : Below x11.heap.size x11 x12 := (by rw [h12]; exact below_drewN (Below.refl _ _) m12); replace HS : Hid (Ax9 wr x12 nd gd (dv9 nr mS nd nS R (vl9 nd ns D (fun j => fm 285 c (S j) ^^^ D j)) SS) mD nD (.slice v1a mD v1c) x1.heap.size x2.heap.size B1 (ap9 mR mS mD nR nS nD fr to RR SS DD) v2 x2.heap.size gn B2 (sp9 nr mD ns nD fr to R S DD) gn #[.int .i64 (er9 nd ns : Nat), .int .i64 (de9 nr mS nd nS : Nat), .int .i64 (fit9 mR mS mD nR nS nD fr to : Nat), .int .i64 (sf9 nr mD ns nD fr to : Nat), .int .i64 (fit9 mR mS mD nR nS nD fr to : Nat)]) := HS.out.up b12; have cG := all9_true v2 u6 mD _ _ _ x12 HS.out.ot.lb (Lb.below HF.out.2 HS.out.bel) (fun _ _ _ _ => rfl); clear cE b12 h12)
      | (go_at_call 15; (with_reducible refine cG.mono ?_); rintro e x13 ⟨rfl, m13, h13⟩; have b13 : Below x12.heap.size x12 x13 := (by rw [h13]; exact below_drewN (Below.refl _ _) m13); replace HS : Hid (Ax9 wr x13 nd gd (dv9 nr mS nd nS R (vl9 nd ns D (fun j => fm 285 c (S j) ^^^ D j)) SS) mD nD (.slice v1a mD v1c) x1.heap.size x2.heap.size B1 (ap9 mR mS mD nR nS nD fr to RR SS DD) v2 x2.heap.size gn B2 (sp9 nr mD ns nD fr to R S DD) gn #[.int .i64 (er9 nd ns : Nat), .int .i64 (de9 nr mS nd nS : Nat), .int .i64 (fit9 mR mS mD nR nS nD fr to : Nat), .int .i64 (sf9 nr mD ns nD fr to : Nat), .int .i64 (fit9 mR mS mD nR nS nD fr to : Nat)]) := HS.out.up b13; clear cG b13 h13; have r0 := HS.out.now.cell (i := 0) rfl; have r1 := HS.out.now.cell (i := 1) rfl; have r2 := HS.out.now.cell (i := 2) rfl; have r3 := HS.out.now.cell (i := 3) rfl; have r4 := HS.out.now.cell (i := 4) rfl; have q0 := (HE.out.below HS.out.bel).cell (i := 0) rfl; have q1 := (HE.out.below HS.out.bel).cell (i := 1) rfl; have q2 := (HE.out.below HS.out.bel).cell (i := 2) rfl; have q3 := (HE.out.below HS.out.bel).cell (i := 3) rfl; have q4 := (HE.out.below HS.out.bel).cell (i := 4) rfl))
    go_roundw
    case rel => exact ⟨k + 1, by omega, by first | rfl | (rw [W1]; rfl), bta9 HK.out HS.out.bel, _, _, _, _, _, HE.out.below HS.out.bel, fun _ => ⟨Lb.below HF.out.1 HS.out.bel, Lb.below HF.out.2 HS.out.bel, ⟨ba, rfl, Hba.out⟩, rfl, rfl, rfl, rfl, rfl⟩⟩
    case measure => first | (rw [W1]; simp [intOf]; omega) | (simp [intOf]; omega)
theorem walkA (kind : Int) (c : Nat) (vr vR vS vD vd vs : Value) (fr to : Int) {W : World} (h : In9 W c vr vR vS vD vd vs) :
    Calls Try.prog 3 #[.agg (cv9 kind c vr vR vS vD vd vs fr to)] W fun e w' => e = .returned (.bool true) ∧ Below W.heap.size W w' := walk kind c vr vR vS vD vd vs fr to W h
end Go.Proofs.Ytdeophhcbkahgaa.kernelAlike
