import Derived.Test.YtdeophhcbkahgaaKje
import Derived.Test.YtdeophhcbkahgaaKjd
import Derived.Deep.CutRange
import Derived.JoinedCond
namespace Go.Proofs.Ytdeophhcbkahgaa.kernelRoom
open Go.RowKit Gf2
set_option linter.unusedVariables false

/-- a room's twelve cells. -/
def rv9 (kind : Int) (c : Nat) (vr vR vS vD vd vs : Value) (fr tq : Int) (vg : Value) (back : Int) : Array Value := #[.int .i64 kind, .int .u8 (c : Int), vr, vR, vS, vD, vd, vs, .int .i64 fr, .int .i64 tq, vg, .int .i64 back]
/-- the call and its span in boxes of their own. -/
theorem room_cells (w : World) (A : Array Value) (fr tq : Int) : (∀ i v, A[i]? = some v → (w.alloc (.cells A 25)).cell? ⟨w.heap.size, i, none⟩ = some v) ∧
    (∀ i v, A[i]? = some v → ((w.alloc (.cells A 25)).alloc (.cells #[.int .i64 fr, .int .i64 tq] 30)).cell? ⟨w.heap.size, i, none⟩ = some v) ∧
    ((w.alloc (.cells A 25)).alloc (.cells #[.int .i64 fr, .int .i64 tq] 30)).cell? ⟨w.heap.size + 1, 0, none⟩ = some (.int .i64 fr) ∧
    ((w.alloc (.cells A 25)).alloc (.cells #[.int .i64 fr, .int .i64 tq] 30)).cell? ⟨w.heap.size + 1, 1, none⟩ = some (.int .i64 tq) ∧
    Below w.heap.size w ((w.alloc (.cells A 25)).alloc (.cells #[.int .i64 fr, .int .i64 tq] 30)) := by
  have b1 : Below w.heap.size w (w.alloc (.cells A 25)) := (Below.refl _ _).alloc (Nat.le_refl _) _
  have b2 : Below (w.alloc (.cells A 25)).heap.size (w.alloc (.cells A 25)) ((w.alloc (.cells A 25)).alloc (.cells #[.int .i64 fr, .int .i64 tq] 30)) := (Below.refl _ _).alloc (Nat.le_refl _) _
  have hx : Box9 (w.alloc (.cells A 25)) w.heap.size A 25 := Box9.new _ _ _
  have hs := span_cells (w.alloc (.cells A 25)) fr tq
  have e : (w.alloc (.cells A 25)).heap.size = w.heap.size + 1 := by simp
  rw [e] at hs
  exact ⟨fun i v h => hx.cell h, fun i v h => (hx.below b2).cell h, hs.1, hs.2, bta9 b1 b2⟩
section
variable {w w4 y0 : World} {c : Nat} {vr vR vS vD vd vs : Value} {nr : Nat} {R : Nat → Nat} {mR : Nat} {nR : Nat → Nat} {RR : Nat → Nat → Nat} {mS : Nat} {nS : Nat → Nat} {SS : Nat → Nat → Nat} {mD : Nat} {nD : Nat → Nat} {DD : Nat → Nat → Nat} {nd : Nat} {D : Nat → Nat} {ns : Nat} {S : Nat → Nat} {vg : Value} {kg : Nat} {G : Nat → Nat} {p : Addr} {bk klo khi : Nat}
theorem room_start (h1 : Iq9 w c vr vR vS vD vd vs nr R mR nR RR mS nS SS mD nD DD nd D ns S) (h2 : Rb w vg kg G ∧ kg ≤ 1048576 ∧ mS ≤ 1048576 ∧ (∀ i, i < mS → nS i ≤ 1048576) ∧ mD ≤ 1048576 ∧ (∀ i, i < mD → nD i ≤ 1048576)) (hk : Ks w4 p bk klo khi) (hb : Below w.heap.size w w4) (hy : Below w4.heap.size w4 y0) :
    Ir9 y0 c vr vR vS vD vd vs nr R mR nR RR mS nS SS mD nD DD nd D ns S vg kg G p bk klo khi :=
  ⟨h1.below (bta9 hb hy), h2.1.below (bta9 hb hy), h2.2.1, h2.2.2.1, h2.2.2.2.1, h2.2.2.2.2.1, h2.2.2.2.2.2, hk.below hy⟩
end
/-- a place among three. -/
theorem pm3 (k : Int) : ∃ r : Nat, r < 3 ∧ IntKind.i64.wrap (k.tmod 3) = k.tmod 3 ∧ IntKind.i64.wrap (k.tmod 3 + 3) = k.tmod 3 + 3 ∧ (k.tmod 3 + 3).tmod 3 = (r : Int) := by
  obtain ⟨h1, h2, h3, h4⟩ := pm9_facts (k := k) (m := 3) (by decide) (by decide)
  exact ⟨_, h1, h2, h3, h4⟩
set_option maxHeartbeats 16000000 in
set_option maxRecDepth 100000 in
theorem walk (kind : Int) (c : Nat) (vr vR vS vD vd vs : Value) (fr tq : Int) (vg : Value) (back : Int) (nr : Nat) (R : Nat → Nat) (mR : Nat) (nR : Nat → Nat) (RR : Nat → Nat → Nat) (mS : Nat) (nS : Nat → Nat) (SS : Nat → Nat → Nat) (mD : Nat) (nD : Nat → Nat) (DD : Nat → Nat → Nat) (nd : Nat) (D : Nat → Nat) (ns : Nat) (S : Nat → Nat) (kg : Nat) (G : Nat → Nat) (w : World)
    (hq : Iq9 w c vr vR vS vD vd vs nr R mR nR RR mS nS SS mD nD DD nd D ns S) (hgap : Rb w vg kg G) (hkg : kg ≤ 1048576) (hmS : mS ≤ 1048576) (hnS : ∀ i, i < mS → nS i ≤ 1048576) (hmD : mD ≤ 1048576) (hnD : ∀ i, i < mD → nD i ≤ 1048576) :
    Calls Try.prog 4 #[.agg (rv9 kind c vr vR vS vD vd vs fr tq vg back)] w fun e w' => e = .returned (.bool true) ∧ Below w.heap.size w w' := by
  obtain ⟨xr, cr, er⟩ := hq.row.form9
  obtain ⟨xR, cR, eR⟩ := Lb.form hq.rows
  obtain ⟨xS, cS, eS⟩ := Lb.form hq.srcs
  obtain ⟨xD, cD, eD⟩ := Lb.form hq.dsts
  obtain ⟨xd, cd, ed⟩ := hq.dst.form9
  obtain ⟨xs, cs, es⟩ := hq.src.form9
  obtain ⟨xg, cg, eg⟩ := hgap.form9
  subst er eR eS eD ed es eg
  have hX : Box9 (w.alloc (.cells (rv9 kind c (.slice xr nr cr) (.slice xR mR cR) (.slice xS mS cS) (.slice xD mD cD) (.slice xd nd cd) (.slice xs ns cs) fr tq (.slice xg kg cg) back) 45)) w.heap.size (rv9 kind c (.slice xr nr cr) (.slice xR mR cR) (.slice xS mS cS) (.slice xD mD cD) (.slice xd nd cd) (.slice xs ns cs) fr tq (.slice xg kg cg) back) 45 := Box9.new _ _ _
  have bX : Below w.heap.size w (w.alloc (.cells (rv9 kind c (.slice xr nr cr) (.slice xR mR cR) (.slice xS mS cS) (.slice xD mD cD) (.slice xd nd cd) (.slice xs ns cs) fr tq (.slice xg kg cg) back) 45)) := (Below.refl _ _).alloc (Nat.le_refl _) _
  have HI : Hid (Iq9 w c (.slice xr nr cr) (.slice xR mR cR) (.slice xS mS cS) (.slice xD mD cD) (.slice xd nd cd) (.slice xs ns cs) nr R mR nR RR mS nS SS mD nD DD nd D ns S ∧ Rb w (.slice xg kg cg) kg G ∧ kg ≤ 1048576 ∧ mS ≤ 1048576 ∧ (∀ i, i < mS → nS i ≤ 1048576) ∧ mD ≤ 1048576 ∧ (∀ i, i < mD → nD i ≤ 1048576)) := ⟨hq, hgap, hkg, hmS, hnS, hmD, hnD⟩
  have HA : Hid (∀ x, Box9 x w.heap.size (rv9 kind c (.slice xr nr cr) (.slice xR mR cR) (.slice xS mS cS) (.slice xD mD cD) (.slice xd nd cd) (.slice xs ns cs) fr tq (.slice xg kg cg) back) 45 → x.cell? ⟨w.heap.size, 0, none⟩ = some (.int .i64 kind) ∧ x.cell? ⟨w.heap.size, 1, none⟩ = some (.int .u8 (c : Int)) ∧ x.cell? ⟨w.heap.size, 2, none⟩ = some ((.slice xr nr cr)) ∧ x.cell? ⟨w.heap.size, 3, none⟩ = some ((.slice xR mR cR)) ∧ x.cell? ⟨w.heap.size, 4, none⟩ = some ((.slice xS mS cS)) ∧ x.cell? ⟨w.heap.size, 5, none⟩ = some ((.slice xD mD cD)) ∧ x.cell? ⟨w.heap.size, 6, none⟩ = some ((.slice xd nd cd)) ∧ x.cell? ⟨w.heap.size, 7, none⟩ = some ((.slice xs ns cs)) ∧ x.cell? ⟨w.heap.size, 8, none⟩ = some (.int .i64 fr) ∧ x.cell? ⟨w.heap.size, 9, none⟩ = some (.int .i64 tq) ∧ x.cell? ⟨w.heap.size, 10, none⟩ = some ((.slice xg kg cg)) ∧ x.cell? ⟨w.heap.size, 11, none⟩ = some (.int .i64 back)) := fun x hx => ⟨hx.cell rfl, hx.cell rfl, hx.cell rfl, hx.cell rfl, hx.cell rfl, hx.cell rfl, hx.cell rfl, hx.cell rfl, hx.cell rfl, hx.cell rfl, hx.cell rfl, hx.cell rfl⟩
  have cF := fixed9_any (w.alloc (.cells (rv9 kind c (.slice xr nr cr) (.slice xR mR cR) (.slice xS mS cS) (.slice xD mD cD) (.slice xd nd cd) (.slice xs ns cs) fr tq (.slice xg kg cg) back) 45))
  obtain ⟨A, hA⟩ : ∃ A, A = (rv9 kind c (.slice xr nr cr) (.slice xR mR cR) (.slice xS mS cS) (.slice xD mD cD) (.slice xd nd cd) (.slice xs ns cs) fr tq (.slice xg kg cg) back) := ⟨_, rfl⟩
  rw [← hA] at hX bX HA cF ⊢
  have HX : Hid (Box9 (w.alloc (.cells A 45)) w.heap.size A 45 ∧ Below w.heap.size w (w.alloc (.cells A 45))) := ⟨hX, bX⟩
  clear hA hX bX hq hgap hkg hmS hnS hmD hnD
  obtain ⟨r, hr3, B1, B2, B3⟩ := pm3 back
  have B4 : IntKind.i64.wrap (r : Int) = (r : Int) := by rw [IntKind.wrap_i64]; omega
  have i3 : ((r : Nat) : Int) < 3 := by omega
  have cS' := fun W => sets9_any W
  go_enter Try.func4, Try.ntmps4
  go_upto_region 9 with (first
    | (go_at_call 7; (with_reducible refine cF.mono ?_); rintro e w2 ⟨rfl, hb2⟩; clear cF; have H2 : Hid (Box9 w2 w.heap.size A 45 ∧ Below w.heap.size w w2) := ⟨HX.out.1.below hb2, bta9 HX.out.2 hb2⟩; clear hb2 HX)
    | (go_at_call 6; (with_reducible refine (cS' _).mono ?_); rintro e w4 ⟨vl, gl, cl, P, rfl, hS, hb3⟩; clear cS'; have H4 : Hid (Box9 w4 w.heap.size A 45 ∧ Below w.heap.size w w4 ∧ Sv w4 vl gl cl P) := ⟨H2.out.1.below hb3, bta9 H2.out.2 hb3, hS⟩; obtain ⟨lo, hi, rfl, s1, s2, s3, s4⟩ := hS; have gp0 := (s4 r hr3).1; have h3c : 3 ≤ cl := s1; have HKs : Hid (Ks w4 (P r) r (lo r) (hi r)) := (s4 r hr3).2; clear hb3 H2 s1 s2 s3 s4; obtain ⟨z0, z1, z2, z3, z4, z5, z6, z7, z8, z9, z10, z11⟩ := HA.out w4 H4.out.1; have y0c := room_cells w4 #[.int .i64 kind, .int .u8 (c : Int), .slice xr nr cr, .slice xR mR cR, .slice xS mS cS, .slice xD mD cD, .slice xd nd cd, .slice xs ns cs, .int .i64 fr, .int .i64 tq] fr tq; have u8 := y0c.1 8 (.int .i64 fr) rfl; have u9 := y0c.1 9 (.int .i64 tq) rfl; have HY : Hid _ := y0c; clear y0c))
  obtain ⟨y0, hy0⟩ : ∃ y0, y0 = ((w4.alloc (.cells #[.int .i64 kind, .int .u8 (c : Int), .slice xr nr cr, .slice xR mR cR, .slice xS mS cS, .slice xD mD cD, .slice xd nd cd, .slice xs ns cs, .int .i64 fr, .int .i64 tq] 25)).alloc (.cells #[.int .i64 fr, .int .i64 tq] 30)) := ⟨_, rfl⟩
  have HH : Hid (Ir9 y0 c (.slice xr nr cr) (.slice xR mR cR) (.slice xS mS cS) (.slice xD mD cD) (.slice xd nd cd) (.slice xs ns cs) nr R mR nR RR mS nS SS mD nD DD nd D ns S (.slice xg kg cg) kg G (P r) r (lo r) (hi r)) := by rw [hy0]; exact room_start HI.out.1 HI.out.2 HKs.out H4.out.2.1 HY.out.2.2.2.2
  have HK : Hid (∀ x, Below y0.heap.size y0 x → x.cell? ⟨w.heap.size, 10, none⟩ = some ((.slice xg kg cg)) ∧ x.cell? ⟨w4.heap.size, 2, none⟩ = some ((.slice xr nr cr)) ∧ x.cell? ⟨w4.heap.size, 3, none⟩ = some ((.slice xR mR cR)) ∧ x.cell? ⟨w4.heap.size, 4, none⟩ = some ((.slice xS mS cS)) ∧ x.cell? ⟨w4.heap.size, 5, none⟩ = some ((.slice xD mD cD)) ∧ x.cell? ⟨w4.heap.size, 7, none⟩ = some ((.slice xs ns cs)) ∧ x.cell? ⟨w4.heap.size, 8, none⟩ = some (.int .i64 fr) ∧ x.cell? ⟨w4.heap.size, 9, none⟩ = some (.int .i64 tq) ∧ x.cell? ⟨w4.heap.size + 1, 0, none⟩ = some (.int .i64 fr) ∧ x.cell? ⟨w4.heap.size + 1, 1, none⟩ = some (.int .i64 tq)) := by
    intro x hx
    rw [hy0] at hx
    obtain ⟨-, a1, a2, a3, b4⟩ := HY.out
    have sz : ((w4.alloc (.cells #[.int .i64 kind, .int .u8 (c : Int), .slice xr nr cr, .slice xR mR cR, .slice xS mS cS, .slice xD mD cD, .slice xd nd cd, .slice xs ns cs, .int .i64 fr, .int .i64 tq] 25)).alloc (.cells #[.int .i64 fr, .int .i64 tq] 30)).heap.size = w4.heap.size + 2 := by simp
    have e1 : ∀ i v, (#[.int .i64 kind, .int .u8 (c : Int), .slice xr nr cr, .slice xR mR cR, .slice xS mS cS, .slice xD mD cD, .slice xd nd cd, .slice xs ns cs, .int .i64 fr, .int .i64 tq] : Array Value)[i]? = some v → x.cell? ⟨w4.heap.size, i, none⟩ = some v := fun i v h => (hx.cell (p := ⟨w4.heap.size, i, none⟩) (by show w4.heap.size < _; rw [sz]; omega)).trans (a1 i v h)
    have e2 := (hx.cell (p := ⟨w4.heap.size + 1, 0, none⟩) (by show w4.heap.size + 1 < _; rw [sz]; omega)).trans a2
    have e3 := (hx.cell (p := ⟨w4.heap.size + 1, 1, none⟩) (by show w4.heap.size + 1 < _; rw [sz]; omega)).trans a3
    have e4 := (HA.out x ((H4.out.1.below b4).below hx)).2.2.2.2.2.2.2.2.2.2.1
    exact ⟨e4, e1 2 _ rfl, e1 3 _ rfl, e1 4 _ rfl, e1 5 _ rfl, e1 7 _ rfl, e1 8 _ rfl, e1 9 _ rfl, e2, e3⟩
  have HW : Hid (Below w.heap.size w y0) := by rw [hy0]; exact bta9 H4.out.2.1 HY.out.2.2.2.2
  rw [← hy0]
  clear z0 z1 z2 z3 z4 z5 z6 z7 z8 z9 z10 z11 u8 u9 gp0 hy0 HY H4 HI HA HKs B1 B2 B3 B4
  generalize w4.heap.size = g1 at HK ⊢
  generalize w.heap.size = g0 at HK ⊢
  obtain ⟨k10, k2, k3, k4, k5, k7, k8, k9, p0, p1⟩ := HK.out y0 (Below.refl _ _)
  have c1 := rm_first HH.out (Below.refl _ _) fr tq
  go_upto_region 12 with (first
    | (go_at_call 16; (with_reducible refine c1.mono ?_); rintro e x1 ⟨gF, CF, vF, rfl, hb, c2⟩; clear c1 k10 k2 k3 k4 k5 k7 k8 k9 p0 p1; obtain ⟨k10, k2, k3, k4, k5, k7, k8, k9, p0, p1⟩ := HK.out x1 hb; clear hb)
    | (go_at_call 16; (with_reducible refine c2.mono ?_); rintro e x2 ⟨gI, CI, vI, rfl, hb, c3⟩; clear c2 k10 k2 k3 k4 k5 k7 k8 k9 p0 p1; obtain ⟨k10, k2, k3, k4, k5, k7, k8, k9, p0, p1⟩ := HK.out x2 hb; clear hb)
    | (go_at_call 8; (with_reducible refine c3.mono ?_); rintro e x3 ⟨gW, rfl, hb, c4⟩; clear c3 k10 k2 k3 k4 k5 k7 k8 k9 p0 p1; obtain ⟨k10, k2, k3, k4, k5, k7, k8, k9, p0, p1⟩ := HK.out x3 hb; clear hb))
  refine region_planI (fun w' => w'.cell? ⟨g1, 3, none⟩ = some ((.slice xR mR cR)) ∧ w'.cell? ⟨g1 + 1, 0, none⟩ = some (.int .i64 fr) ∧ w'.cell? ⟨g1 + 1, 1, none⟩ = some (.int .i64 tq)) [0, 1, 2, 4, 5, 6, 3, 7, 8] [6, 0, 1] 147 ⟨k3, p0, p1⟩ (by kernel_rfl) (by kernel_rfl) (fun _ a d v _ h => by cases d <;> exact h) ?_
  simp only [atI, List.getElem?_cons_zero, List.getElem?_cons_succ]
  clear k10 k2 k3 k4 k5 k7 k8 k9 p0 p1
  refine planH_step ?A1 rfl (fun w' hS => ?s1) rfl (fun K hK => ?n1)
  case s1 =>
    obtain ⟨k3, p0, p1⟩ := hS
    simp only [List.take_succ_cons, List.take_zero]
    repeat still_step
    exact rfl
  case n1 =>
  go_simp
  go_wp2_with (go_at_call 9; (with_reducible refine c4.mono ?_); rintro e x4 ⟨u4, rfl, hb, c5⟩)
  clear c4
  obtain ⟨k10, k2, k3, k4, k5, k7, k8, k9, p0, p1⟩ := HK.out x4 hb
  have HBx4 : Hid (Below y0.heap.size y0 x4) := hb
  clear hb
  refine hK _ _ ⟨k3, p0, p1⟩ ?_
  clear hK K k10 k2 k3 k4 k5 k7 k8 k9 p0 p1
  refine planH_step ?A2 rfl (fun w' hS => ?s2) rfl (fun K hK => ?n2)
  case s2 =>
    obtain ⟨k3, p0, p1⟩ := hS
    simp only [List.take_zero]
    exact rfl
  case n2 =>
  go_simp
  go_wp2_with (go_at_call 12; (with_reducible refine c5.mono ?_); rintro e x5 ⟨rfl, hb, c6⟩)
  clear c5
  obtain ⟨k10, k2, k3, k4, k5, k7, k8, k9, p0, p1⟩ := HK.out x5 hb
  have HBx5 : Hid (Below y0.heap.size y0 x5) := hb
  clear hb
  refine hK _ _ ⟨k3, p0, p1⟩ ?_
  clear hK K k10 k2 k3 k4 k5 k7 k8 k9 p0 p1
  refine planH_last ?A3 rfl (fun w' hS => ?s3) rfl ?n3
  case s3 =>
    obtain ⟨k3, p0, p1⟩ := hS
    simp only [List.take_succ_cons, List.take_zero]
    repeat still_step
    exact rfl
  case n3 =>
  obtain ⟨k10, k2, k3, k4, k5, k7, k8, k9, p0, p1⟩ := HK.out x5 HBx5.out
  generalize hfz : fit9 mR mS mD nR nS nD fr tq = fz at *
  go_upto_region 18 with (first
    | (go_at_call 17; (with_reducible refine c6.mono ?_); rintro e x6 ⟨vw, rfl, hb, c7⟩; clear c6 k10 k2 k3 k4 k5 k7 k8 k9 p0 p1; obtain ⟨k10, k2, k3, k4, k5, k7, k8, k9, p0, p1⟩ := HK.out x6 hb; clear hb)
    | (go_at_call 16; (with_reducible refine c7.mono ?_); rintro e x7 ⟨gV, CV, vV, rfl, hb, c8⟩; clear c7 k10 k2 k3 k4 k5 k7 k8 k9 p0 p1; obtain ⟨k10, k2, k3, k4, k5, k7, k8, k9, p0, p1⟩ := HK.out x7 hb; clear hb)
    | (go_at_call 18; (with_reducible refine c8.mono ?_); rintro e x8 ⟨rfl, hb, c9⟩; clear c8 k10 k2 k3 k4 k5 k7 k8 k9 p0 p1; obtain ⟨k10, k2, k3, k4, k5, k7, k8, k9, p0, p1⟩ := HK.out x8 hb; clear hb)
    | (go_at_call 18; (with_reducible refine c9.mono ?_); rintro e x9 ⟨rfl, hb⟩; clear c9 k10 k2 k3 k4 k5 k7 k8 k9 p0 p1; obtain ⟨k10, k2, k3, k4, k5, k7, k8, k9, p0, p1⟩ := HK.out x9 hb; have d1 := rm_second HH.out hb fr tq; clear hb)
    | (go_at_call 16; (with_reducible refine d1.mono ?_); rintro e v2 ⟨hI, DI, wI, rfl, hb, d2⟩; clear d1 k10 k2 k3 k4 k5 k7 k8 k9 p0 p1; obtain ⟨k10, k2, k3, k4, k5, k7, k8, k9, p0, p1⟩ := HK.out v2 hb; clear hb))
  refine region_planI (fun w' => w'.cell? ⟨g1, 2, none⟩ = some ((.slice xr nr cr)) ∧ w'.cell? ⟨g1, 7, none⟩ = some ((.slice xs ns cs)) ∧ w'.cell? ⟨g1 + 1, 0, none⟩ = some (.int .i64 fr) ∧ w'.cell? ⟨g1 + 1, 1, none⟩ = some (.int .i64 tq)) [0, 1, 2, 4, 5, 7, 8, 3, 6, 9, 10] [7, 0, 0, 1] 147 ⟨k2, k7, p0, p1⟩ (by kernel_rfl) (by kernel_rfl) (fun _ a d v _ h => by cases d <;> exact h) ?_
  simp only [atI, List.getElem?_cons_zero, List.getElem?_cons_succ]
  clear k10 k2 k3 k4 k5 k7 k8 k9 p0 p1
  refine planH_step ?A4 rfl (fun w' hS => ?s4) rfl (fun K hK => ?n4)
  case s4 =>
    obtain ⟨k2, k7, p0, p1⟩ := hS
    simp only [List.take_succ_cons, List.take_zero]
    repeat still_step
    exact rfl
  case n4 =>
  go_simp
  go_wp2_with (go_at_call 8; (with_reducible refine d2.mono ?_); rintro e v3 ⟨h3, rfl, hb, d3⟩)
  clear d2
  obtain ⟨k10, k2, k3, k4, k5, k7, k8, k9, p0, p1⟩ := HK.out v3 hb
  have HBv3 : Hid (Below y0.heap.size y0 v3) := hb
  clear hb
  refine hK _ _ ⟨k2, k7, p0, p1⟩ ?_
  clear hK K k10 k2 k3 k4 k5 k7 k8 k9 p0 p1
  refine planH_step ?A5 rfl (fun w' hS => ?s5) rfl (fun K hK => ?n5)
  case s5 =>
    obtain ⟨k2, k7, p0, p1⟩ := hS
    simp only [List.take_zero]
    exact rfl
  case n5 =>
  go_simp
  go_wp2_with (go_at_call 8; (with_reducible refine d3.mono ?_); rintro e v4 ⟨h4, rfl, hb, d4⟩)
  clear d3
  obtain ⟨k10, k2, k3, k4, k5, k7, k8, k9, p0, p1⟩ := HK.out v4 hb
  have HBv4 : Hid (Below y0.heap.size y0 v4) := hb
  clear hb
  refine hK _ _ ⟨k2, k7, p0, p1⟩ ?_
  clear hK K k10 k2 k3 k4 k5 k7 k8 k9 p0 p1
  refine planH_step ?A6 rfl (fun w' hS => ?s6) rfl (fun K hK => ?n6)
  case s6 =>
    obtain ⟨k2, k7, p0, p1⟩ := hS
    simp only [List.take_zero]
    exact rfl
  case n6 =>
  go_simp
  go_wp2_with (go_at_call 13; (with_reducible refine d4.mono ?_); rintro e v5 ⟨rfl, hb, d5⟩)
  clear d4
  obtain ⟨k10, k2, k3, k4, k5, k7, k8, k9, p0, p1⟩ := HK.out v5 hb
  have HBv5 : Hid (Below y0.heap.size y0 v5) := hb
  clear hb
  refine hK _ _ ⟨k2, k7, p0, p1⟩ ?_
  clear hK K k10 k2 k3 k4 k5 k7 k8 k9 p0 p1
  refine planH_last ?A7 rfl (fun w' hS => ?s7) rfl ?n7
  case s7 =>
    obtain ⟨k2, k7, p0, p1⟩ := hS
    simp only [List.take_succ_cons, List.take_zero]
    repeat still_step
    exact rfl
  case n7 =>
  obtain ⟨k10, k2, k3, k4, k5, k7, k8, k9, p0, p1⟩ := HK.out v5 HBv5.out
  generalize hsz : sf9 nr mD ns nD fr tq = sz at *
  go_wp2_with (first
    | (go_at_call 19; (with_reducible refine d5.mono ?_); rintro e v6 ⟨vx, rfl, hb, d6⟩; clear d5 k10 k2 k3 k4 k5 k7 k8 k9 p0 p1; obtain ⟨k10, k2, k3, k4, k5, k7, k8, k9, p0, p1⟩ := HK.out v6 hb; clear hb)
    | (go_at_call 16; (with_reducible refine d6.mono ?_); rintro e v7 ⟨hV, DV, wV, rfl, hb, d7⟩; clear d6 k10 k2 k3 k4 k5 k7 k8 k9 p0 p1; obtain ⟨k10, k2, k3, k4, k5, k7, k8, k9, p0, p1⟩ := HK.out v7 hb; clear hb)
    | (go_at_call 18; (with_reducible refine d7.mono ?_); rintro e v8 ⟨rfl, hb⟩; clear d7 k10 k2 k3 k4 k5 k7 k8 k9 p0 p1; have HZ : Hid (Below w.heap.size w v8) := bta9 HW.out hb; clear hb))
  go_ret
  exact ⟨rfl, HZ.out⟩
end Go.Proofs.Ytdeophhcbkahgaa.kernelRoom
namespace Go.Proofs.Ytdeophhcbkahgaa.kernelRoom
open Go.ChangeShapes Go.WideShapes Go.ChangeAt Go.RowKit Go.Deep
set_option linter.unusedVariables false

-- layer 9: KernelRoom: what came in, opened, and few
theorem bulk_pos {H : Type} (d : DataW H) : 1 ≤ Rows.uptoBulk d := by
  cases d with
  | lit l => cases l <;> simp [Rows.uptoBulk]
  | _ => simp [Rows.uptoBulk]
theorem bulk_len {H : Type} : ∀ l : List (DataW H), l.length ≤ Rows.uptoBulkAll l
  | [] => by simp [Rows.uptoBulkAll]
  | d :: r => by
    have h1 := bulk_pos d
    have h2 := bulk_len r
    simp only [Rows.uptoBulkAll, List.length_cons]
    omega
theorem bulk_mem {H : Type} {d : DataW H} : ∀ {l : List (DataW H)}, d ∈ l → Rows.uptoBulk d ≤ Rows.uptoBulkAll l
  | e :: r, h => by
    simp only [Rows.uptoBulkAll]
    rcases List.mem_cons.1 h with rfl | h
    · omega
    · have := bulk_mem h
      omega
/-- few bytes. -/
def Bf9 (W : World) (v : Value) : Prop := ∃ n S, Rb W v n S ∧ n ≤ 1048576
/-- few lists of few bytes. -/
def Lf9 (W : World) (v : Value) : Prop := ∃ m n S, Lb W v m n S ∧ m ≤ 1048576 ∧ ∀ i, i < m → n i ≤ 1048576
theorem open_few {H : Type} {enc : TypeId × Value → H} {W : World} {base : Nat} {held : Bool} {fuel : Nat} {v : Value} {x : DataW H × List MemPlace}
    (h : DataW.trod enc Try.prog W base (fun _ => true) held fuel 22 [v] = some x) (hb : Rows.uptoBulk x.1 ≤ 1048576) : Bf9 W v := by
  obtain ⟨a, len, cap, rfl⟩ : ∃ a len cap, v = .slice a len cap := by
    rcases open_slice Try.underlying22 h with ⟨hcs, _⟩ | ⟨a', len', cap', m, n, D, Pl, hcs, _⟩
    · simp at hcs; exact ⟨_, _, _, hcs⟩
    · simp at hcs; exact ⟨_, _, _, hcs⟩
  obtain ⟨-, F, hF⟩ := open_bytes5 h (fun el sp he => by
    rw [he] at hb
    simp only [Rows.uptoBulk] at hb
    have h1 := bulk_len el
    have h2 := bulk_len sp
    rw [bytes_u8]
    unfold reachBytes
    omega)
  refine ⟨len, F, hF, ?_⟩
  rcases open_slice Try.underlying22 h with ⟨hcs, _⟩ | ⟨a', len', cap', m, n, D, Pl, hcs, -, -, -, -, hxe, -⟩
  · simp at hcs
    obtain ⟨-, rfl, -⟩ := hcs
    omega
  · simp at hcs
    obtain ⟨-, rfl, -⟩ := hcs
    rw [hxe] at hb
    simp only [Rows.uptoBulk] at hb
    have h1 := bulk_len ((List.range len).map D)
    rw [List.length_map, List.length_range] at h1
    omega
theorem open_lists_few {H : Type} {enc : TypeId × Value → H} {W : World} {base : Nat} {held : Bool} {fuel : Nat} {v : Value} {x : DataW H × List MemPlace}
    (h : DataW.trod enc Try.prog W base (fun _ => true) held fuel 23 [v] = some x) (hb : Rows.uptoBulk x.1 ≤ 1048576) : Lf9 W v := by
  rcases open_slice Try.underlying23 h with ⟨hcs, _⟩ | ⟨a', len, cap, m, n, D, Pl, hcs, hb', hl, hm, hmm, hxe, hx⟩
  · simp at hcs
    subst hcs
    exact ⟨0, fun _ => 0, fun _ _ => 0, ⟨fun _ => .slice none 0 0, ⟨by unfold big; omega, none, 0, rfl, by omega, by unfold big; omega, fun h => absurd h (Nat.lt_irrefl _)⟩, fun i hi => absurd hi (Nat.not_lt_zero _)⟩, by omega, fun i hi => absurd hi (Nat.not_lt_zero _)⟩
  · simp at hcs
    subst hcs
    rw [hxe] at hb
    simp only [Rows.uptoBulk] at hb
    have l1 := bulk_len ((List.range len).map D)
    rw [List.length_map, List.length_range] at l1
    have hcap : cap ≤ 9223372036854775807 := by unfold maxLen at hm; omega
    have hlm : len ≤ m := by rw [hmm]; split <;> omega
    have c1 : Try.prog.cellsOf 22 = 1 := by kernel_rfl
    have each : ∀ i, i < len → ∃ u, W.cell? ((a'.add i).add 0) = some u ∧ Bf9 W u := by
      intro i hi
      obtain ⟨cs', h1, h2⟩ := hx i (by omega)
      rw [c1] at h1
      obtain ⟨_, hlen, hcell⟩ := World.cells?_some h1
      match cs', hlen with
      | [v0], _ =>
        have z0 := hcell 0 (by omega)
        have mD : D i ∈ (List.range len).map D := List.mem_map.2 ⟨i, List.mem_range.2 hi, rfl⟩
        have := bulk_mem mD
        exact ⟨v0, by simpa using z0, open_few h2 (by show Rows.uptoBulk (D i) ≤ 1048576; omega)⟩
    by_cases h0 : len = 0
    · subst h0
      exact ⟨0, fun _ => 0, fun _ _ => 0, ⟨fun _ => .slice none 0 0, ⟨by unfold big; omega, _, _, rfl, by omega, by unfold big; omega, fun h => absurd h (Nat.lt_irrefl _)⟩, fun i hi => absurd hi (Nat.not_lt_zero _)⟩, by omega, fun i hi => absurd hi (Nat.not_lt_zero _)⟩
    · obtain ⟨b, off, spot⟩ := a'
      have hspot : spot = none := by
        obtain ⟨v, z0, -⟩ := each 0 (by omega)
        simpa [Addr.add] using World.cell?_spot z0
      subst hspot
      have each' : ∀ i : Nat, ∃ u n S, i < len → W.cell? ⟨b, off + i, none⟩ = some u ∧ Rb W u n S ∧ n ≤ 1048576 := by
        intro i
        by_cases hi : i < len
        · obtain ⟨u, z, n, S, h1, h2⟩ := each i hi
          simp only [add_plain, Nat.add_zero] at z
          exact ⟨u, n, S, fun _ => ⟨z, h1, h2⟩⟩
        · exact ⟨.slice none 0 0, 0, fun _ => 0, fun h => absurd h hi⟩
      obtain ⟨U, hU⟩ := Classical.skolem.1 each'
      obtain ⟨N, hN⟩ := Classical.skolem.1 hU
      obtain ⟨S, hS⟩ := Classical.skolem.1 hN
      refine ⟨len, N, S, ⟨U, ⟨by unfold big; omega, _, _, rfl, hl, by unfold big; omega, fun _ => ⟨b, off, rfl, ⟨?_, fun e => e⟩, fun i hi => (hS i hi).1⟩⟩, fun i hi => (hS i hi).2.1.re (fun _ _ e => e)⟩, by omega, fun i hi => (hS i hi).2.2⟩
      exact cell_lt5 (hS 0 (by omega)).1
/-- a call that came in, few. -/
structure If9 (W : World) (c : Nat) (vr vR vS vD vd vs : Value) : Prop where
  hc : c < 256
  row : Bf9 W vr
  rows : Lf9 W vR
  srcs : Lf9 W vS
  dsts : Lf9 W vD
  dst : Bf9 W vd
  src : Bf9 W vs
set_option maxHeartbeats 2000000 in
set_option maxRecDepth 100000 in
theorem open_callf {H : Type} {enc : TypeId × Value → H} {W : World} {base : Nat} {held : Bool} {fuel : Nat} {cs : List Value} {x : DataW H × List MemPlace}
    (h : DataW.trod enc Try.prog W base (fun _ => true) held fuel 25 cs = some x) (hb : Rows.uptoBulk x.1 ≤ 1048576) :
    ∃ kind c vr vR vS vD vd vs fr tq, cs = (cv9 kind c vr vR vS vD vd vs fr tq).toList ∧ If9 W c vr vR vS vD vd vs := by
  have c10 : Try.prog.cellsOf 25 = 10 := by kernel_rfl
  have c3 : Try.prog.cellsOf 3 = 1 := by kernel_rfl
  have c5 : Try.prog.cellsOf 5 = 1 := by kernel_rfl
  have c22 : Try.prog.cellsOf 22 = 1 := by kernel_rfl
  have c23 : Try.prog.cellsOf 23 = 1 := by kernel_rfl
  obtain ⟨xs, k, hk, hxy, hlen, hxl, hf⟩ := DataW.trod_struct Try.underlying25 h
  rw [c10] at hlen
  have hD : x.1 = .agg (xs.map (·.1)) := congrArg Prod.fst hxy
  rw [hD] at hb
  obtain ⟨y0, y1, y2, y3, y4, y5, y6, y7, y8, y9, hxs⟩ : ∃ y0 y1 y2 y3 y4 y5 y6 y7 y8 y9, xs = [y0, y1, y2, y3, y4, y5, y6, y7, y8, y9] := by
    match xs, hxl with
    | [y0, y1, y2, y3, y4, y5, y6, y7, y8, y9], _ => exact ⟨_, _, _, _, _, _, _, _, _, _, rfl⟩
  obtain ⟨v0, v1, v2, v3, v4, v5, v6, v7, v8, v9, hcs'⟩ : ∃ v0 v1 v2 v3 v4 v5 v6 v7 v8 v9, cs = [v0, v1, v2, v3, v4, v5, v6, v7, v8, v9] := by
    match cs, hlen with
    | [v0, v1, v2, v3, v4, v5, v6, v7, v8, v9], _ => exact ⟨_, _, _, _, _, _, _, _, _, _, rfl⟩
  subst hxs hcs'
  simp only [Rows.uptoBulk, List.map_cons, List.map_nil, Rows.uptoBulkAll] at hb
  have g0 := hf 0 _ rfl
  have g1 := hf 1 _ rfl
  have g2 := hf 2 _ rfl
  have g3 := hf 3 _ rfl
  have g4 := hf 4 _ rfl
  have g5 := hf 5 _ rfl
  have g6 := hf 6 _ rfl
  have g7 := hf 7 _ rfl
  have g8 := hf 8 _ rfl
  have g9 := hf 9 _ rfl
  simp [c3, c5, c22, c23] at g0 g1 g2 g3 g4 g5 g6 g7 g8 g9
  obtain ⟨k0, e0, -, w0⟩ := DataW.trod_int Try.underlying3 g0
  obtain ⟨k1, e1, -, w1⟩ := DataW.trod_int Try.underlying5 g1
  obtain ⟨k8, e8, -, w8⟩ := DataW.trod_int Try.underlying3 g8
  obtain ⟨k9, e9, -, w9⟩ := DataW.trod_int Try.underlying3 g9
  have b2 := open_few g2 (by omega)
  have b3 := open_lists_few g3 (by omega)
  have b4 := open_lists_few g4 (by omega)
  have b5 := open_lists_few g5 (by omega)
  have b6 := open_few g6 (by omega)
  have b7 := open_few g7 (by omega)
  simp at e0 e1 e8 e9
  have d1 := bounds_u8 w1
  have t1 : ((k1.toNat : Nat) : Int) = k1 := by omega
  refine ⟨k0, k1.toNat, v2, v3, v4, v5, v6, v7, k8, k9, ?_, by omega, b2, b3, b4, b5, b6, b7⟩
  subst e0 e1 e8 e9
  unfold cv9
  rw [t1]
set_option maxHeartbeats 2000000 in
set_option maxRecDepth 100000 in
theorem open_room {H : Type} {enc : TypeId × Value → H} {W W' : World} {base base' : Nat} {held : Bool} {v : Value} {d : DataW H} {p : List MemPlace}
    (ho : Value.okWide Try.prog W' .any base' 45 v) (h : DataW.Trod enc Try.prog W base (fun _ => true) held 45 v d p) (hb : Rows.uptoBulk d ≤ 1048576) :
    ∃ kind c vr vR vS vD vd vs fr tq vg back, v = .agg (rv9 kind c vr vR vS vD vd vs fr tq vg back) ∧ If9 W c vr vR vS vD vd vs ∧ Bf9 W vg := by
  obtain ⟨cs, rfl, -⟩ := okWide_struct Try.underlying45 ho
  obtain ⟨fuel, hf0⟩ := h
  have c12 : Try.prog.cellsOf 45 = 12 := by kernel_rfl
  have c10 : Try.prog.cellsOf 25 = 10 := by kernel_rfl
  have c3 : Try.prog.cellsOf 3 = 1 := by kernel_rfl
  have c22 : Try.prog.cellsOf 22 = 1 := by kernel_rfl
  obtain ⟨xs, k, hk, hxy, hlen, hxl, hf⟩ := DataW.trod_struct Try.underlying45 hf0
  rw [c12] at hlen
  have hD : d = .agg (xs.map (·.1)) := congrArg Prod.fst hxy
  rw [hD] at hb
  obtain ⟨y0, y1, y2, hxs⟩ : ∃ y0 y1 y2, xs = [y0, y1, y2] := by
    match xs, hxl with
    | [y0, y1, y2], _ => exact ⟨_, _, _, rfl⟩
  obtain ⟨L, hL⟩ : ∃ L, L = (Value.agg cs).cells.toList := ⟨_, rfl⟩
  rw [← hL] at hlen hf
  obtain ⟨v0, v1, v2, v3, v4, v5, v6, v7, v8, v9, v10, v11, hcs'⟩ : ∃ v0 v1 v2 v3 v4 v5 v6 v7 v8 v9 v10 v11, L = [v0, v1, v2, v3, v4, v5, v6, v7, v8, v9, v10, v11] := by
    match L, hlen with
    | [v0, v1, v2, v3, v4, v5, v6, v7, v8, v9, v10, v11], _ => exact ⟨_, _, _, _, _, _, _, _, _, _, _, _, rfl⟩
  rw [hcs'] at hf hL
  subst hxs
  simp only [Rows.uptoBulk, List.map_cons, List.map_nil, Rows.uptoBulkAll] at hb
  have g0 := hf 0 _ rfl
  have g1 := hf 1 _ rfl
  have g2 := hf 2 _ rfl
  simp [c3, c22, c10] at g0 g1 g2
  obtain ⟨k2, e2, -, w2⟩ := DataW.trod_int Try.underlying3 g2
  have b1 := open_few g1 (by omega)
  obtain ⟨kind, c, vr, vR, vS, vD, vd, vs, fr, tq, e0, hI⟩ := open_callf g0 (by omega)
  simp at e2
  refine ⟨kind, c, vr, vR, vS, vD, vd, vs, fr, tq, v10, k2, ?_, hI, b1⟩
  congr 1
  apply Array.toList_inj.1
  have hL' : [v0, v1, v2, v3, v4, v5, v6, v7, v8, v9, v10, v11] = cs.toList := by simpa [Value.cells] using hL
  rw [← hL']
  unfold cv9 at e0
  simp at e0
  obtain ⟨rfl, rfl, rfl, rfl, rfl, rfl, rfl, rfl, rfl, rfl⟩ := e0
  subst e2
  unfold rv9
  rfl
theorem walkA (kind : Int) (c : Nat) (vr vR vS vD vd vs : Value) (fr tq : Int) (vg : Value) (back : Int) {W : World} (h : If9 W c vr vR vS vD vd vs) (hg : Bf9 W vg) :
    Calls Try.prog 4 #[.agg (rv9 kind c vr vR vS vD vd vs fr tq vg back)] W fun e w' => e = .returned (.bool true) ∧ Below W.heap.size W w' := by
  obtain ⟨hc, ⟨nr, R, a1, a2⟩, ⟨mR, nR, RR, b1, b2, b3⟩, ⟨mS, nS, SS, c1, c2, c3⟩, ⟨mD, nD, DD, d1, d2, d3⟩, ⟨nd, D, e1, e2⟩, ⟨ns, S, f1, f2⟩⟩ := h
  obtain ⟨kg, G, g1, g2⟩ := hg
  exact walk kind c vr vR vS vD vd vs fr tq vg back nr R mR nR RR mS nS SS mD nD DD nd D ns S kg G W ⟨hc, a1, by omega, b1, by omega, fun i hi => by have := b3 i hi; omega, c1, by omega, fun i hi => by have := c3 i hi; omega, d1, by omega, fun i hi => by have := d3 i hi; omega, e1, by omega, f1, by omega⟩ g1 g2 c2 c3 d2 d3
end Go.Proofs.Ytdeophhcbkahgaa.kernelRoom
