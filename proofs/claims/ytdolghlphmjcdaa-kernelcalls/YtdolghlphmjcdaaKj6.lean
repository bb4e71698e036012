import Derived.Test.YtdolghlphmjcdaaKj5
import Derived.Test.YtdolghlphmjcdaaEsk
namespace Go.Proofs.Ytdolghlphmjcdaa
open Go.RowKit Gf2
set_option linter.unusedVariables false

section
variable {w : World} {kind : Int} {c : Nat} {vr vR vS vD vd vs : Value} {fr to : Int} {nr : Nat} {R : Nat → Nat} {mR : Nat} {nR : Nat → Nat} {RR : Nat → Nat → Nat} {mS : Nat} {nS : Nat → Nat} {SS : Nat → Nat → Nat} {mD : Nat} {nD : Nat → Nat} {DD : Nat → Nat → Nat} {nd : Nat} {D : Nat → Nat} {ns : Nat} {S : Nat → Nat}
theorem bs9_new (h : Iq9 w c vr vR vS vD vd vs nr R mR nR RR mS nS SS mD nD DD nd D ns S) :
    Bs9 ((w.alloc (.cells (cv9 kind c vr vR vS vD vd vs fr to) 25)).alloc (.cells #[.int .i64 fr, .int .i64 to] 47)) w.heap.size kind c vr vR vS vD vd vs fr to nr R mR nR RR mS nS SS mD nD DD nd D ns S ∧
    Below w.heap.size w ((w.alloc (.cells (cv9 kind c vr vR vS vD vd vs fr to) 25)).alloc (.cells #[.int .i64 fr, .int .i64 to] 47)) := by
  have b1 : Below w.heap.size w (w.alloc (.cells (cv9 kind c vr vR vS vD vd vs fr to) 25)) := (Below.refl _ _).alloc (Nat.le_refl _) _
  have hs : (w.alloc (.cells (cv9 kind c vr vR vS vD vd vs fr to) 25)).heap.size = w.heap.size + 1 := by simp
  have b2 : Below (w.alloc (.cells (cv9 kind c vr vR vS vD vd vs fr to) 25)).heap.size (w.alloc (.cells (cv9 kind c vr vR vS vD vd vs fr to) 25)) ((w.alloc (.cells (cv9 kind c vr vR vS vD vd vs fr to) 25)).alloc (.cells #[.int .i64 fr, .int .i64 to] 47)) := (Below.refl _ _).alloc (Nat.le_refl _) _
  have b3 := b1.trans (b2.mono b1.size)
  exact ⟨⟨(Bx9.new w kind c vr vR vS vD vd vs fr to).below b2, ⟨by rw [← hs]; exact heap_alloc_new _ _⟩, h.below b3⟩, b3⟩
end

set_option maxHeartbeats 16000000 in
set_option maxRecDepth 100000 in
theorem nothing9_any (kind : Int) (c : Nat) (vr vR vS vD vd vs : Value) (fr to : Int) (w : World) (h : In9 w c vr vR vS vD vd vs) :
    Calls Try.prog 10 #[.agg (cv9 kind c vr vR vS vD vd vs fr to)] w fun e w' => e = .returned (.bool true) ∧ Below w.heap.size w w' := by
  obtain ⟨nr, R, mR, nR, RR, mS, nS, SS, mD, nD, DD, nd, D, ns, S, hI⟩ := h.iq
  have hX := Bx9.new w kind c vr vR vS vD vd vs fr to
  have z8 := hX.cell (i := 8) (v := .int .i64 fr) rfl
  have z9 := hX.cell (i := 9) (v := .int .i64 to) rfl
  obtain ⟨hB1, hB2⟩ := bs9_new (kind := kind) (fr := fr) (to := to) hI
  clear hX hI h
  generalize cv9 kind c vr vR vS vD vd vs fr to = A at hB1 hB2 z8 z9 ⊢
  have HB : Hid _ := hB1
  have HW : Hid _ := hB2
  clear hB1 hB2
  go_enter Try.func10, Try.ntmps10
  go_wp2
  clear z8 z9
  generalize (w.alloc (.cells A 25)).alloc (.cells #[.int .i64 fr, .int .i64 to] 47) = x0 at HB HW ⊢
  have HS : Hid (Below x0.heap.size x0 x0) := Below.refl _ _
  refine region_planI (fun w' => w'.cell? ⟨w.heap.size, 6, none⟩ = some (vd) ∧ w'.cell? ⟨w.heap.size, 5, none⟩ = some (vD)) [0, 1, 3, 4, 2, 5, 6, 7] [4, 0, 2] 124 ⟨(HB.out.below HS.out).bx.cell rfl, (HB.out.below HS.out).bx.cell rfl⟩ (by kernel_rfl) (by kernel_rfl) (fun _ a d v _ h => by cases d <;> exact h) ?_
  simp only [atI, List.getElem?_cons_zero, List.getElem?_cons_succ]
  have c1 := cd9 vd nd D x0.drew (by exact (HB.out.below HS.out).iq.dst) (HB.out.iq.dstl)
  refine planH_step ?A1 rfl (fun w' hS => ?s1) rfl (fun K hK => ?n1)
  case s1 =>
    obtain ⟨y0, y1⟩ := hS
    simp only [List.take_succ_cons, List.take_zero]
    repeat still_step
    exact rfl
  case n1 =>
  go_simp
  go_wp2_with (go_at_call 21; (with_reducible refine c1.mono ?_); rintro e x1 ⟨g1, rfl, r1, l1, bb⟩)
  clear c1
  have b1 := Below.undraw bb
  clear bb
  replace HS : Hid ((Below x0.heap.size x0 x1) ∧ (Rw x1 g1 nd D) ∧ (x0.heap.size ≤ g1)) := ⟨(HS.out).trans ((b1).mono (HS.out).size), r1, l1⟩
  clear b1
  refine hK _ _ ⟨(HB.out.below HS.out.1).bx.cell rfl, (HB.out.below HS.out.1).bx.cell rfl⟩ ?_
  clear hK K
  have c2 := copies9_any vD mD nD DD x1 (by exact (HB.out.below HS.out.1).iq.dsts) (HB.out.iq.dstsl) (HB.out.iq.dstsn)
  refine planH_step ?A2 rfl (fun w' hS => ?s2) rfl (fun K hK => ?n2)
  case s2 =>
    obtain ⟨y0, y1⟩ := hS
    simp only [List.take_zero]
    exact rfl
  case n2 =>
  go_simp
  go_wp2_with (go_at_call 18; (with_reducible refine c2.mono ?_); rintro e x2 ⟨v2, B2, rfl, r2, bb⟩)
  clear c2
  have b2 := bb
  clear bb
  replace HS : Hid ((Below x0.heap.size x0 x2) ∧ (Rw x2 g1 nd D) ∧ (x0.heap.size ≤ g1) ∧ (Cs x1.heap.size x2.heap.size x2 v2 mD nD nD B2 DD)) := ⟨(HS.out.1).trans ((b2).mono (HS.out.1).size), rw_below (HS.out.2.1) (b2), HS.out.2.2, r2⟩
  clear b2
  refine hK _ _ ⟨(HB.out.below HS.out.1).bx.cell rfl, (HB.out.below HS.out.1).bx.cell rfl⟩ ?_
  clear hK K
  refine planH_last ?A3 rfl (fun w' hS => ?s3) rfl ?n3
  case s3 =>
    obtain ⟨y0, y1⟩ := hS
    simp only [List.take_succ_cons, List.take_zero]
    repeat still_step
    exact rfl
  case n3 =>
  go_wp2
  refine region_planI (fun w' => w'.cell? ⟨w.heap.size, 1, none⟩ = some (.int .u8 (c : Int)) ∧ w'.cell? ⟨w.heap.size, 7, none⟩ = some (vs)) [0, 1, 2, 3, 4, 5, 6, 7, 8] [6, 0, 1] 124 ⟨(HB.out.below HS.out.1).bx.cell rfl, (HB.out.below HS.out.1).bx.cell rfl⟩ (by kernel_rfl) (by kernel_rfl) (fun _ a d v _ h => by cases d <;> exact h) ?_
  simp only [atI, List.getElem?_cons_zero, List.getElem?_cons_succ]
  have c4 := cd9 vs ns S x2.drew (by exact (HB.out.below HS.out.1).iq.src) (HB.out.iq.srcl)
  refine planH_step ?A4 rfl (fun w' hS => ?s4) rfl (fun K hK => ?n4)
  case s4 =>
    obtain ⟨y0, y1⟩ := hS
    simp only [List.take_succ_cons, List.take_zero]
    repeat still_step
    exact rfl
  case n4 =>
  go_simp
  go_wp2_with (go_at_call 21; (with_reducible refine c4.mono ?_); rintro e x4 ⟨g4, rfl, r4, l4, bb⟩)
  clear c4
  have b4 := Below.undraw bb
  clear bb
  replace HS : Hid ((Below x0.heap.size x0 x4) ∧ (Rw x4 g1 nd D) ∧ (x0.heap.size ≤ g1) ∧ (Cs x1.heap.size x2.heap.size x4 v2 mD nD nD B2 DD)) := ⟨(HS.out.1).trans ((b4).mono (HS.out.1).size), rw_below (HS.out.2.1) (b4), HS.out.2.2.1, (HS.out.2.2.2).below (b4)⟩
  clear b4
  refine hK _ _ ⟨(HB.out.below HS.out.1).bx.cell rfl, (HB.out.below HS.out.1).bx.cell rfl⟩ ?_
  clear hK K
  clear r4 l4
  have c5 := kmul_nil (c : Int) (.slice (some ⟨g1, 0, none⟩) nd nd) (.slice (some ⟨g4, 0, none⟩) ns ns) x4
  refine planH_step ?A5 rfl (fun w' hS => ?s5) rfl (fun K hK => ?n5)
  case s5 =>
    obtain ⟨y0, y1⟩ := hS
    simp only [List.take_zero]
    exact rfl
  case n5 =>
  go_simp
  go_wp2_with (go_at_call 32; (with_reducible refine c5.mono ?_); rintro e x5 ⟨rfl, bb⟩)
  clear c5
  have b5 := bb
  clear bb
  replace HS : Hid ((Below x0.heap.size x0 x5) ∧ (Rw x5 g1 nd D) ∧ (x0.heap.size ≤ g1) ∧ (Cs x1.heap.size x2.heap.size x5 v2 mD nD nD B2 DD)) := ⟨(HS.out.1).trans ((b5).mono (HS.out.1).size), rw_below (HS.out.2.1) (b5), HS.out.2.2.1, (HS.out.2.2.2).below (b5)⟩
  clear b5
  refine hK _ _ ⟨(HB.out.below HS.out.1).bx.cell rfl, (HB.out.below HS.out.1).bx.cell rfl⟩ ?_
  clear hK K
  refine planH_last ?A6 rfl (fun w' hS => ?s6) rfl ?n6
  case s6 =>
    obtain ⟨y0, y1⟩ := hS
    simp only [List.take_succ_cons, List.take_zero]
    repeat still_step
    exact rfl
  case n6 =>
  go_wp2
  refine region_planI (fun w' => w'.cell? ⟨w.heap.size, 1, none⟩ = some (.int .u8 (c : Int)) ∧ w'.cell? ⟨w.heap.size, 7, none⟩ = some (vs)) [0, 1, 2, 3, 4, 5, 6, 7, 8] [6, 0, 1] 124 ⟨(HB.out.below HS.out.1).bx.cell rfl, (HB.out.below HS.out.1).bx.cell rfl⟩ (by kernel_rfl) (by kernel_rfl) (fun _ a d v _ h => by cases d <;> exact h) ?_
  simp only [atI, List.getElem?_cons_zero, List.getElem?_cons_succ]
  have c7 := cd9 vs ns S x5.drew (by exact (HB.out.below HS.out.1).iq.src) (HB.out.iq.srcl)
  refine planH_step ?A7 rfl (fun w' hS => ?s7) rfl (fun K hK => ?n7)
  case s7 =>
    obtain ⟨y0, y1⟩ := hS
    simp only [List.take_succ_cons, List.take_zero]
    repeat still_step
    exact rfl
  case n7 =>
  go_simp
  go_wp2_with (go_at_call 21; (with_reducible refine c7.mono ?_); rintro e x7 ⟨g7, rfl, r7, l7, bb⟩)
  clear c7
  have b7 := Below.undraw bb
  clear bb
  replace HS : Hid ((Below x0.heap.size x0 x7) ∧ (Rw x7 g1 nd D) ∧ (x0.heap.size ≤ g1) ∧ (Cs x1.heap.size x2.heap.size x7 v2 mD nD nD B2 DD)) := ⟨(HS.out.1).trans ((b7).mono (HS.out.1).size), rw_below (HS.out.2.1) (b7), HS.out.2.2.1, (HS.out.2.2.2).below (b7)⟩
  clear b7
  refine hK _ _ ⟨(HB.out.below HS.out.1).bx.cell rfl, (HB.out.below HS.out.1).bx.cell rfl⟩ ?_
  clear hK K
  clear r7 l7
  have c8 := kadd_nil (c : Int) (.slice (some ⟨g1, 0, none⟩) nd nd) (.slice (some ⟨g7, 0, none⟩) ns ns) x7
  refine planH_step ?A8 rfl (fun w' hS => ?s8) rfl (fun K hK => ?n8)
  case s8 =>
    obtain ⟨y0, y1⟩ := hS
    simp only [List.take_zero]
    exact rfl
  case n8 =>
  go_simp
  go_wp2_with (go_at_call 22; (with_reducible refine c8.mono ?_); rintro e x8 ⟨rfl, bb⟩)
  clear c8
  have b8 := bb
  clear bb
  replace HS : Hid ((Below x0.heap.size x0 x8) ∧ (Rw x8 g1 nd D) ∧ (x0.heap.size ≤ g1) ∧ (Cs x1.heap.size x2.heap.size x8 v2 mD nD nD B2 DD)) := ⟨(HS.out.1).trans ((b8).mono (HS.out.1).size), rw_below (HS.out.2.1) (b8), HS.out.2.2.1, (HS.out.2.2.2).below (b8)⟩
  clear b8
  refine hK _ _ ⟨(HB.out.below HS.out.1).bx.cell rfl, (HB.out.below HS.out.1).bx.cell rfl⟩ ?_
  clear hK K
  refine planH_last ?A9 rfl (fun w' hS => ?s9) rfl ?n9
  case s9 =>
    obtain ⟨y0, y1⟩ := hS
    simp only [List.take_succ_cons, List.take_zero]
    repeat still_step
    exact rfl
  case n9 =>
  go_wp2
  refine region_planI (fun w' => w'.cell? ⟨w.heap.size, 2, none⟩ = some (vr) ∧ w'.cell? ⟨w.heap.size, 4, none⟩ = some (vS)) [0, 1, 2, 4, 5, 7, 3, 6, 8, 9] [6, 0, 0, 1] 124 ⟨(HB.out.below HS.out.1).bx.cell rfl, (HB.out.below HS.out.1).bx.cell rfl⟩ (by kernel_rfl) (by kernel_rfl) (fun _ a d v _ h => by cases d <;> exact h) ?_
  simp only [atI, List.getElem?_cons_zero, List.getElem?_cons_succ]
  have c10 := cd9 vr nr R x8.drew (by exact (HB.out.below HS.out.1).iq.row) (HB.out.iq.rowl)
  refine planH_step ?A10 rfl (fun w' hS => ?s10) rfl (fun K hK => ?n10)
  case s10 =>
    obtain ⟨y0, y1⟩ := hS
    simp only [List.take_succ_cons, List.take_zero]
    repeat still_step
    exact rfl
  case n10 =>
  go_simp
  go_wp2_with (go_at_call 21; (with_reducible refine c10.mono ?_); rintro e x10 ⟨g10, rfl, r10, l10, bb⟩)
  clear c10
  have b10 := Below.undraw bb
  clear bb
  replace HS : Hid ((Below x0.heap.size x0 x10) ∧ (Rw x10 g1 nd D) ∧ (x0.heap.size ≤ g1) ∧ (Cs x1.heap.size x2.heap.size x10 v2 mD nD nD B2 DD)) := ⟨(HS.out.1).trans ((b10).mono (HS.out.1).size), rw_below (HS.out.2.1) (b10), HS.out.2.2.1, (HS.out.2.2.2).below (b10)⟩
  clear b10
  refine hK _ _ ⟨(HB.out.below HS.out.1).bx.cell rfl, (HB.out.below HS.out.1).bx.cell rfl⟩ ?_
  clear hK K
  clear r10 l10
  have c11 := copies9_any vS mS nS SS x10 (by exact (HB.out.below HS.out.1).iq.srcs) (HB.out.iq.srcsl) (HB.out.iq.srcsn)
  refine planH_step ?A11 rfl (fun w' hS => ?s11) rfl (fun K hK => ?n11)
  case s11 =>
    obtain ⟨y0, y1⟩ := hS
    simp only [List.take_zero]
    exact rfl
  case n11 =>
  go_simp
  go_wp2_with (go_at_call 18; (with_reducible refine c11.mono ?_); rintro e x11 ⟨v11, B11, rfl, r11, bb⟩)
  clear c11
  have b11 := bb
  clear bb
  replace HS : Hid ((Below x0.heap.size x0 x11) ∧ (Rw x11 g1 nd D) ∧ (x0.heap.size ≤ g1) ∧ (Cs x1.heap.size x2.heap.size x11 v2 mD nD nD B2 DD)) := ⟨(HS.out.1).trans ((b11).mono (HS.out.1).size), rw_below (HS.out.2.1) (b11), HS.out.2.2.1, (HS.out.2.2.2).below (b11)⟩
  clear b11
  refine hK _ _ ⟨(HB.out.below HS.out.1).bx.cell rfl, (HB.out.below HS.out.1).bx.cell rfl⟩ ?_
  clear hK K
  clear r11
  have c12 := kdot_nil (some ⟨g10, 0, none⟩) nr nr v11 (some ⟨g1, 0, none⟩) nd nd x11
  refine planH_step ?A12 rfl (fun w' hS => ?s12) rfl (fun K hK => ?n12)
  case s12 =>
    obtain ⟨y0, y1⟩ := hS
    simp only [List.take_zero]
    exact rfl
  case n12 =>
  go_simp
  go_wp2_with (go_at_call 23; (with_reducible refine c12.mono ?_); rintro e x12 ⟨rfl, bb⟩)
  clear c12
  have b12 := bb
  clear bb
  replace HS : Hid ((Below x0.heap.size x0 x12) ∧ (Rw x12 g1 nd D) ∧ (x0.heap.size ≤ g1) ∧ (Cs x1.heap.size x2.heap.size x12 v2 mD nD nD B2 DD)) := ⟨(HS.out.1).trans ((b12).mono (HS.out.1).size), rw_below (HS.out.2.1) (b12), HS.out.2.2.1, (HS.out.2.2.2).below (b12)⟩
  clear b12
  refine hK _ _ ⟨(HB.out.below HS.out.1).bx.cell rfl, (HB.out.below HS.out.1).bx.cell rfl⟩ ?_
  clear hK K
  refine planH_last ?A13 rfl (fun w' hS => ?s13) rfl ?n13
  case s13 =>
    obtain ⟨y0, y1⟩ := hS
    simp only [List.take_succ_cons, List.take_zero]
    repeat still_step
    exact rfl
  case n13 =>
  go_wp2
  refine region_planI (fun w' => w'.cell? ⟨w.heap.size, 3, none⟩ = some (vR) ∧ w'.cell? ⟨w.heap.size, 4, none⟩ = some (vS) ∧ w'.cell? ⟨w.heap.size + 1, 0, none⟩ = some (.int .i64 fr) ∧ w'.cell? ⟨w.heap.size + 1, 1, none⟩ = some (.int .i64 to)) [0, 1, 2, 4, 5, 7, 8, 3, 6, 9, 10] [7, 0, 0, 1] 124 ⟨(HB.out.below HS.out.1).bx.cell rfl, (HB.out.below HS.out.1).bx.cell rfl, (HB.out.below HS.out.1).sb.c0, (HB.out.below HS.out.1).sb.c1⟩ (by kernel_rfl) (by kernel_rfl) (fun _ a d v _ h => by cases d <;> exact h) ?_
  simp only [atI, List.getElem?_cons_zero, List.getElem?_cons_succ]
  have c14 := copies9_any vR mR nR RR x12.drew (by exact (HB.out.below HS.out.1).iq.rows) (HB.out.iq.rowsl) (HB.out.iq.rowsn)
  refine planH_step ?A14 rfl (fun w' hS => ?s14) rfl (fun K hK => ?n14)
  case s14 =>
    obtain ⟨y0, y1, y2, y3⟩ := hS
    simp only [List.take_succ_cons, List.take_zero]
    repeat still_step
    exact rfl
  case n14 =>
  go_simp
  go_wp2_with (go_at_call 18; (with_reducible refine c14.mono ?_); rintro e x14 ⟨v14, B14, rfl, r14, bb⟩)
  clear c14
  have b14 := Below.undraw bb
  clear bb
  replace HS : Hid ((Below x0.heap.size x0 x14) ∧ (Rw x14 g1 nd D) ∧ (x0.heap.size ≤ g1) ∧ (Cs x1.heap.size x2.heap.size x14 v2 mD nD nD B2 DD)) := ⟨(HS.out.1).trans ((b14).mono (HS.out.1).size), rw_below (HS.out.2.1) (b14), HS.out.2.2.1, (HS.out.2.2.2).below (b14)⟩
  clear b14
  refine hK _ _ ⟨(HB.out.below HS.out.1).bx.cell rfl, (HB.out.below HS.out.1).bx.cell rfl, (HB.out.below HS.out.1).sb.c0, (HB.out.below HS.out.1).sb.c1⟩ ?_
  clear hK K
  clear r14
  have c15 := copies9_any vS mS nS SS x14 (by exact (HB.out.below HS.out.1).iq.srcs) (HB.out.iq.srcsl) (HB.out.iq.srcsn)
  refine planH_step ?A15 rfl (fun w' hS => ?s15) rfl (fun K hK => ?n15)
  case s15 =>
    obtain ⟨y0, y1, y2, y3⟩ := hS
    simp only [List.take_zero]
    exact rfl
  case n15 =>
  go_simp
  go_wp2_with (go_at_call 18; (with_reducible refine c15.mono ?_); rintro e x15 ⟨v15, B15, rfl, r15, bb⟩)
  clear c15
  have b15 := bb
  clear bb
  replace HS : Hid ((Below x0.heap.size x0 x15) ∧ (Rw x15 g1 nd D) ∧ (x0.heap.size ≤ g1) ∧ (Cs x1.heap.size x2.heap.size x15 v2 mD nD nD B2 DD)) := ⟨(HS.out.1).trans ((b15).mono (HS.out.1).size), rw_below (HS.out.2.1) (b15), HS.out.2.2.1, (HS.out.2.2.2).below (b15)⟩
  clear b15
  refine hK _ _ ⟨(HB.out.below HS.out.1).bx.cell rfl, (HB.out.below HS.out.1).bx.cell rfl, (HB.out.below HS.out.1).sb.c0, (HB.out.below HS.out.1).sb.c1⟩ ?_
  clear hK K
  clear r15
  have c16 := kapply_nil v14 v15 v2 fr to x15
  refine planH_step ?A16 rfl (fun w' hS => ?s16) rfl (fun K hK => ?n16)
  case s16 =>
    obtain ⟨y0, y1, y2, y3⟩ := hS
    simp only [List.take_zero]
    exact rfl
  case n16 =>
  go_simp
  go_wp2_with (go_at_call 19; (with_reducible refine c16.mono ?_); rintro e x16 ⟨rfl, bb⟩)
  clear c16
  have b16 := bb
  clear bb
  replace HS : Hid ((Below x0.heap.size x0 x16) ∧ (Rw x16 g1 nd D) ∧ (x0.heap.size ≤ g1) ∧ (Cs x1.heap.size x2.heap.size x16 v2 mD nD nD B2 DD)) := ⟨(HS.out.1).trans ((b16).mono (HS.out.1).size), rw_below (HS.out.2.1) (b16), HS.out.2.2.1, (HS.out.2.2.2).below (b16)⟩
  clear b16
  refine hK _ _ ⟨(HB.out.below HS.out.1).bx.cell rfl, (HB.out.below HS.out.1).bx.cell rfl, (HB.out.below HS.out.1).sb.c0, (HB.out.below HS.out.1).sb.c1⟩ ?_
  clear hK K
  refine planH_last ?A17 rfl (fun w' hS => ?s17) rfl ?n17
  case s17 =>
    obtain ⟨y0, y1, y2, y3⟩ := hS
    simp only [List.take_succ_cons, List.take_zero]
    repeat still_step
    exact rfl
  case n17 =>
  go_wp2
  refine region_planI (fun w' => w'.cell? ⟨w.heap.size, 3, none⟩ = some (vR) ∧ w'.cell? ⟨w.heap.size, 4, none⟩ = some (vS) ∧ w'.cell? ⟨w.heap.size + 1, 0, none⟩ = some (.int .i64 fr) ∧ w'.cell? ⟨w.heap.size + 1, 1, none⟩ = some (.int .i64 to)) [0, 1, 2, 4, 5, 7, 8, 3, 6, 9, 10, 11, 12, 13, 14] [7, 0, 0, 5] 124 ⟨(HB.out.below HS.out.1).bx.cell rfl, (HB.out.below HS.out.1).bx.cell rfl, (HB.out.below HS.out.1).sb.c0, (HB.out.below HS.out.1).sb.c1⟩ (by kernel_rfl) (by kernel_rfl) (fun _ a d v _ h => by cases d <;> exact h) ?_
  simp only [atI, List.getElem?_cons_zero, List.getElem?_cons_succ]
  have c18 := copies9_any vR mR nR RR x16.drew (by exact (HB.out.below HS.out.1).iq.rows) (HB.out.iq.rowsl) (HB.out.iq.rowsn)
  refine planH_step ?A18 rfl (fun w' hS => ?s18) rfl (fun K hK => ?n18)
  case s18 =>
    obtain ⟨y0, y1, y2, y3⟩ := hS
    simp only [List.take_succ_cons, List.take_zero]
    repeat still_step
    exact rfl
  case n18 =>
  go_simp
  go_wp2_with (go_at_call 18; (with_reducible refine c18.mono ?_); rintro e x18 ⟨v18, B18, rfl, r18, bb⟩)
  clear c18
  have b18 := Below.undraw bb
  clear bb
  replace HS : Hid ((Below x0.heap.size x0 x18) ∧ (Rw x18 g1 nd D) ∧ (x0.heap.size ≤ g1) ∧ (Cs x1.heap.size x2.heap.size x18 v2 mD nD nD B2 DD)) := ⟨(HS.out.1).trans ((b18).mono (HS.out.1).size), rw_below (HS.out.2.1) (b18), HS.out.2.2.1, (HS.out.2.2.2).below (b18)⟩
  clear b18
  refine hK _ _ ⟨(HB.out.below HS.out.1).bx.cell rfl, (HB.out.below HS.out.1).bx.cell rfl, (HB.out.below HS.out.1).sb.c0, (HB.out.below HS.out.1).sb.c1⟩ ?_
  clear hK K
  clear r18
  have c19 := copies9_any vS mS nS SS x18 (by exact (HB.out.below HS.out.1).iq.srcs) (HB.out.iq.srcsl) (HB.out.iq.srcsn)
  refine planH_step ?A19 rfl (fun w' hS => ?s19) rfl (fun K hK => ?n19)
  case s19 =>
    obtain ⟨y0, y1, y2, y3⟩ := hS
    simp only [List.take_zero]
    exact rfl
  case n19 =>
  go_simp
  go_wp2_with (go_at_call 18; (with_reducible refine c19.mono ?_); rintro e x19 ⟨v19, B19, rfl, r19, bb⟩)
  clear c19
  have b19 := bb
  clear bb
  replace HS : Hid ((Below x0.heap.size x0 x19) ∧ (Rw x19 g1 nd D) ∧ (x0.heap.size ≤ g1) ∧ (Cs x1.heap.size x2.heap.size x19 v2 mD nD nD B2 DD)) := ⟨(HS.out.1).trans ((b19).mono (HS.out.1).size), rw_below (HS.out.2.1) (b19), HS.out.2.2.1, (HS.out.2.2.2).below (b19)⟩
  clear b19
  refine hK _ _ ⟨(HB.out.below HS.out.1).bx.cell rfl, (HB.out.below HS.out.1).bx.cell rfl, (HB.out.below HS.out.1).sb.c0, (HB.out.below HS.out.1).sb.c1⟩ ?_
  clear hK K
  clear r19
  have c20 := kagrees_nil v18 v19 v2 fr to x19
  refine planH_step ?A20 rfl (fun w' hS => ?s20) rfl (fun K hK => ?n20)
  case s20 =>
    obtain ⟨y0, y1, y2, y3⟩ := hS
    simp only [List.take_zero]
    exact rfl
  case n20 =>
  go_simp
  go_wp2_with (go_at_call 20; (with_reducible refine c20.mono ?_); rintro e x20 ⟨rfl, bb⟩)
  clear c20
  have b20 := bb
  clear bb
  replace HS : Hid ((Below x0.heap.size x0 x20) ∧ (Rw x20 g1 nd D) ∧ (x0.heap.size ≤ g1) ∧ (Cs x1.heap.size x2.heap.size x20 v2 mD nD nD B2 DD)) := ⟨(HS.out.1).trans ((b20).mono (HS.out.1).size), rw_below (HS.out.2.1) (b20), HS.out.2.2.1, (HS.out.2.2.2).below (b20)⟩
  clear b20
  refine hK _ _ ⟨(HB.out.below HS.out.1).bx.cell rfl, (HB.out.below HS.out.1).bx.cell rfl, (HB.out.below HS.out.1).sb.c0, (HB.out.below HS.out.1).sb.c1⟩ ?_
  clear hK K
  refine planH_last ?A21 rfl (fun w' hS => ?s21) rfl ?n21
  case s21 =>
    obtain ⟨y0, y1, y2, y3⟩ := hS
    simp only [List.take_succ_cons, List.take_zero]
    repeat still_step
    exact rfl
  case n21 =>
  go_wp2
  refine region_planI (fun w' => w'.cell? ⟨w.heap.size, 2, none⟩ = some (vr) ∧ w'.cell? ⟨w.heap.size, 7, none⟩ = some (vs) ∧ w'.cell? ⟨w.heap.size + 1, 0, none⟩ = some (.int .i64 fr) ∧ w'.cell? ⟨w.heap.size + 1, 1, none⟩ = some (.int .i64 to)) [0, 1, 2, 4, 5, 7, 8, 3, 6, 9, 10] [7, 0, 0, 1] 124 ⟨(HB.out.below HS.out.1).bx.cell rfl, (HB.out.below HS.out.1).bx.cell rfl, (HB.out.below HS.out.1).sb.c0, (HB.out.below HS.out.1).sb.c1⟩ (by kernel_rfl) (by kernel_rfl) (fun _ a d v _ h => by cases d <;> exact h) ?_
  simp only [atI, List.getElem?_cons_zero, List.getElem?_cons_succ]
  have c22 := cd9 vr nr R x20.drew (by exact (HB.out.below HS.out.1).iq.row) (HB.out.iq.rowl)
  refine planH_step ?A22 rfl (fun w' hS => ?s22) rfl (fun K hK => ?n22)
  case s22 =>
    obtain ⟨y0, y1, y2, y3⟩ := hS
    simp only [List.take_succ_cons, List.take_zero]
    repeat still_step
    exact rfl
  case n22 =>
  go_simp
  go_wp2_with (go_at_call 21; (with_reducible refine c22.mono ?_); rintro e x22 ⟨g22, rfl, r22, l22, bb⟩)
  clear c22
  have b22 := Below.undraw bb
  clear bb
  replace HS : Hid ((Below x0.heap.size x0 x22) ∧ (Rw x22 g1 nd D) ∧ (x0.heap.size ≤ g1) ∧ (Cs x1.heap.size x2.heap.size x22 v2 mD nD nD B2 DD)) := ⟨(HS.out.1).trans ((b22).mono (HS.out.1).size), rw_below (HS.out.2.1) (b22), HS.out.2.2.1, (HS.out.2.2.2).below (b22)⟩
  clear b22
  refine hK _ _ ⟨(HB.out.below HS.out.1).bx.cell rfl, (HB.out.below HS.out.1).bx.cell rfl, (HB.out.below HS.out.1).sb.c0, (HB.out.below HS.out.1).sb.c1⟩ ?_
  clear hK K
  clear r22 l22
  have c23 := cd9 vs ns S x22 (by exact (HB.out.below HS.out.1).iq.src) (HB.out.iq.srcl)
  refine planH_step ?A23 rfl (fun w' hS => ?s23) rfl (fun K hK => ?n23)
  case s23 =>
    obtain ⟨y0, y1, y2, y3⟩ := hS
    simp only [List.take_zero]
    exact rfl
  case n23 =>
  go_simp
  go_wp2_with (go_at_call 21; (with_reducible refine c23.mono ?_); rintro e x23 ⟨g23, rfl, r23, l23, bb⟩)
  clear c23
  have b23 := bb
  clear bb
  replace HS : Hid ((Below x0.heap.size x0 x23) ∧ (Rw x23 g1 nd D) ∧ (x0.heap.size ≤ g1) ∧ (Cs x1.heap.size x2.heap.size x23 v2 mD nD nD B2 DD)) := ⟨(HS.out.1).trans ((b23).mono (HS.out.1).size), rw_below (HS.out.2.1) (b23), HS.out.2.2.1, (HS.out.2.2.2).below (b23)⟩
  clear b23
  refine hK _ _ ⟨(HB.out.below HS.out.1).bx.cell rfl, (HB.out.below HS.out.1).bx.cell rfl, (HB.out.below HS.out.1).sb.c0, (HB.out.below HS.out.1).sb.c1⟩ ?_
  clear hK K
  clear r23 l23
  have c24 := kspread_nil (.slice (some ⟨g22, 0, none⟩) nr nr) (.slice (some ⟨g23, 0, none⟩) ns ns) v2 fr to x23
  refine planH_step ?A24 rfl (fun w' hS => ?s24) rfl (fun K hK => ?n24)
  case s24 =>
    obtain ⟨y0, y1, y2, y3⟩ := hS
    simp only [List.take_zero]
    exact rfl
  case n24 =>
  go_simp
  go_wp2_with (go_at_call 24; (with_reducible refine c24.mono ?_); rintro e x24 ⟨rfl, bb⟩)
  clear c24
  have b24 := bb
  clear bb
  replace HS : Hid ((Below x0.heap.size x0 x24) ∧ (Rw x24 g1 nd D) ∧ (x0.heap.size ≤ g1) ∧ (Cs x1.heap.size x2.heap.size x24 v2 mD nD nD B2 DD)) := ⟨(HS.out.1).trans ((b24).mono (HS.out.1).size), rw_below (HS.out.2.1) (b24), HS.out.2.2.1, (HS.out.2.2.2).below (b24)⟩
  clear b24
  refine hK _ _ ⟨(HB.out.below HS.out.1).bx.cell rfl, (HB.out.below HS.out.1).bx.cell rfl, (HB.out.below HS.out.1).sb.c0, (HB.out.below HS.out.1).sb.c1⟩ ?_
  clear hK K
  refine planH_last ?A25 rfl (fun w' hS => ?s25) rfl ?n25
  case s25 =>
    obtain ⟨y0, y1, y2, y3⟩ := hS
    simp only [List.take_succ_cons, List.take_zero]
    repeat still_step
    exact rfl
  case n25 =>
  have cB := kback_nil x24
  have HE : Hid (∀ y, Below x24.heap.size x24 y → (Below x0.heap.size x0 y ∧ Rw y g1 nd D ∧ Cs x1.heap.size x2.heap.size y v2 mD nD nD B2 DD)) := fun y hb => ⟨HS.out.1.trans (hb.mono HS.out.1.size), rw_below HS.out.2.1 hb, HS.out.2.2.2.below hb⟩
  go_wp2_with (first
    | (go_at_call 13; (with_reducible refine cB.mono ?_); rintro e y1 ⟨rfl, hb1⟩; clear cB; obtain ⟨e1, e2, e3⟩ := HE.out y1 hb1; have y5 := (HB.out.below e1).bx.cell (i := 5) (v := vD) rfl; have y6 := (HB.out.below e1).bx.cell (i := 6) (v := vd) rfl; have cE := equal9_true (.slice (some ⟨g1, 0, none⟩) nd nd) vd nd D y1 e2.rb0 (HB.out.below e1).iq.dst; have H1 : Hid (Below x0.heap.size x0 y1 ∧ Cs x1.heap.size x2.heap.size y1 v2 mD nD nD B2 DD) := ⟨e1, e3⟩; clear e1 e2 e3 hb1)
    | (go_at_call 28; (with_reducible refine cE.mono ?_); rintro e y2 ⟨rfl, m1, rfl⟩; clear cE; have cA := all9_true v2 vD mD nD DD DD (y1.drewN m1) (H1.out.2.drewN m1).lb (HB.out.below (below_drewN H1.out.1 m1)).iq.dsts (fun _ _ _ _ => rfl))
    | (go_at_call 25; (with_reducible refine cA.mono ?_); rintro e y3 ⟨rfl, m2, rfl⟩; clear cA))
  go_ret
  exact ⟨rfl, HW.out.trans ((below_drewN H1.out.1 _).mono HW.out.size)⟩
end Go.Proofs.Ytdolghlphmjcdaa
namespace Go.Proofs.Ytdolghlphmjcdaa
open Go.RowKit Gf2
set_option linter.unusedVariables false

/-- a call in its box, and what came in. -/
structure Bq9 (x : World) (g : Nat) (kind : Int) (c : Nat) (vr vR vS vD vd vs : Value) (fr to : Int) (nr : Nat) (R : Nat → Nat) (mR : Nat) (nR : Nat → Nat) (RR : Nat → Nat → Nat) (mS : Nat) (nS : Nat → Nat) (SS : Nat → Nat → Nat) (mD : Nat) (nD : Nat → Nat) (DD : Nat → Nat → Nat) (nd : Nat) (D : Nat → Nat) (ns : Nat) (S : Nat → Nat) (p : Addr) (bk klo khi : Nat) : Prop where
  bx : Bx9 x g kind c vr vR vS vD vd vs fr to
  iq : Iq9 x c vr vR vS vD vd vs nr R mR nR RR mS nS SS mD nD DD nd D ns S
  ks : Ks x p bk klo khi
  kh : khi ≤ g
section
variable {W W' : World} {g : Nat} {kind : Int} {c : Nat} {vr vR vS vD vd vs : Value} {fr to : Int} {nr : Nat} {R : Nat → Nat} {mR : Nat} {nR : Nat → Nat} {RR : Nat → Nat → Nat} {mS : Nat} {nS : Nat → Nat} {SS : Nat → Nat → Nat} {mD : Nat} {nD : Nat → Nat} {DD : Nat → Nat → Nat} {nd : Nat} {D : Nat → Nat} {ns : Nat} {S : Nat → Nat} {p : Addr} {bk klo khi : Nat}
theorem Bq9.below (h : Bq9 W g kind c vr vR vS vD vd vs fr to nr R mR nR RR mS nS SS mD nD DD nd D ns S p bk klo khi) (hb : Below W.heap.size W W') : Bq9 W' g kind c vr vR vS vD vd vs fr to nr R mR nR RR mS nS SS mD nD DD nd D ns S p bk klo khi := ⟨h.bx.below hb, h.iq.below hb, h.ks.below hb, h.kh⟩
theorem bq9_new (h : Iq9 W c vr vR vS vD vd vs nr R mR nR RR mS nS SS mD nD DD nd D ns S) (hk : Ks W p bk klo khi) :
    Bq9 (W.alloc (.cells (cv9 kind c vr vR vS vD vd vs fr to) 25)) W.heap.size kind c vr vR vS vD vd vs fr to nr R mR nR RR mS nS SS mD nD DD nd D ns S p bk klo khi ∧ Below W.heap.size W (W.alloc (.cells (cv9 kind c vr vR vS vD vd vs fr to) 25)) := by
  have b1 : Below W.heap.size W (W.alloc (.cells (cv9 kind c vr vR vS vD vd vs fr to) 25)) := (Below.refl _ _).alloc (Nat.le_refl _) _
  exact ⟨⟨Bx9.new W kind c vr vR vS vD vd vs fr to, h.below b1, hk.below b1, hk.hi⟩, b1⟩
end

/-- what is held against what it was: dst and want, src, row, srcs. -/
structure Tl9 (Y : World) (dv wv sv rv Sv vs vr vS : Value) : Prop where
  d : ∃ n F, Rb Y dv n F ∧ Rb Y wv n F
  s : ∃ n F, Rb Y sv n F ∧ Rb Y vs n F
  r : ∃ n F, Rb Y rv n F ∧ Rb Y vr n F
  S : ∃ m n F, Lb Y Sv m n F ∧ Lb Y vS m n F
theorem refMul9 (c n m : Nat) (add : Bool) (u v : Value) (D S : Nat → Nat) (w : World) (hc : c < 256) (hu : Rb w u n D) (hv : Rb w v m S) (hn : n ≤ 140737488351232) :
    Calls Try.prog 37 #[.int .u8 (c : Int), u, v, .bool add] w fun e w' => ∃ g C, e = .returned (.tuple #[.slice (some ⟨g, 0, none⟩) n C, .int .i64 (er9 n m : Nat)]) ∧ Own8 w w' g C n (vl9 n m D (mz add c D S)) := by
  by_cases e : n = m
  · subst e
    refine (refMul9_any c n add u v D S w hc hu hv hn).mono fun e w' ⟨g, C, h1, h2, h3, h4, F, h5, h6⟩ => ⟨g, C, by rw [h1]; unfold er9; rw [if_pos rfl]; rfl, h2, h3, h4, F, h5, fun i hi => ?_⟩
    rw [h6 i hi]
    unfold vl9
    rw [if_pos rfl]
  · refine (refMul9_lens c n m add u v D S w hu hv hn e).mono fun e' w' ⟨g, C, h1, h2, h3, h4, F, h5, h6⟩ => ⟨g, C, by rw [h1]; unfold er9; rw [if_neg e]; rfl, h2, h3, h4, F, h5, fun i hi => ?_⟩
    rw [h6 i hi]
    unfold vl9
    rw [if_neg e]
theorem xor9_mz {n m : Nat} {D S : Nat → Nat} {j : Nat} (hS : ∀ i, i < m → S i < 256) (hj : j < n) : vl9 n m D (mz true 1 D S) j = vl9 n m D (fun j => S j ^^^ D j) j := by
  unfold vl9 mz
  by_cases e : n = m
  · rw [if_pos e, if_pos e, if_pos rfl, fm_comm, fld8.fm_one (hS j (by omega))]
  · rw [if_neg e, if_neg e]
theorem refDot9 (row srcs dst : Value) (k m L : Nat) (n : Nat → Nat) (R D : Nat → Nat) (S : Nat → Nat → Nat) (w : World) (h : Rb w row k R) (hs : Lb w srcs m n S) (hd : Rb w dst L D) (hL : L ≤ 140737488351232) (hk : k ≤ 140737488351232) :
    Calls Try.prog 39 #[row, srcs, dst] w fun e w' => ∃ g C, e = .returned (.tuple #[.slice (some ⟨g, 0, none⟩) L C, .int .i64 (de9 k m L n : Nat)]) ∧ Own8 w w' g C L (dv9 k m L n R D S) := by
  by_cases e : k = m
  · subst e
    refine (refDot9_any row srcs dst k L n R D S w h hs hd hL hk).mono fun e w' ⟨h1, h2⟩ => ?_
    by_cases e2 : ∀ i, i < k → n i = L
    · obtain ⟨g, C, a1, a2, a3, a4, F, a5, a6⟩ := h1 e2
      have e0 : de9 k k L n = 0 := by unfold de9; rw [if_pos ⟨rfl, e2⟩]
      refine ⟨g, C, by rw [a1, e0]; rfl, a2, a3, a4, F, a5, fun i hi => ?_⟩
      rw [a6 i hi]
      unfold dv9
      rw [if_pos e0]
    · obtain ⟨g, C, a1, a2, a3, a4, F, a5, a6⟩ := h2 e2
      have e0 : de9 k k L n = 6 := by unfold de9; rw [if_neg (fun h => e2 h.2)]
      refine ⟨g, C, by rw [a1, e0]; rfl, a2, a3, a4, F, a5, fun i hi => ?_⟩
      rw [a6 i hi]
      unfold dv9
      rw [if_neg (by rw [e0]; decide)]
  · refine (refDot9_count row srcs dst k m L n R D S w h hs hd hL e).mono fun e' w' ⟨g, C, a1, a2, a3, a4, F, a5, a6⟩ => ?_
    have e0 : de9 k m L n = 6 := by unfold de9; rw [if_neg (fun h => e h.1)]
    refine ⟨g, C, by rw [a1, e0]; rfl, a2, a3, a4, F, a5, fun i hi => ?_⟩
    rw [a6 i hi]
    unfold dv9
    rw [if_neg (by rw [e0]; decide)]
/-- what is held against what it was: dsts and want, rows, srcs, row, src. -/
structure Tq9 (Y : World) (Dv wv Rv Sv rv sv vR vS vr vs : Value) : Prop where
  d : ∃ m n F, Lb Y Dv m n F ∧ Lb Y wv m n F
  R : ∃ m n F, Lb Y Rv m n F ∧ Lb Y vR m n F
  S : ∃ m n F, Lb Y Sv m n F ∧ Lb Y vS m n F
  r : ∃ n F, Rb Y rv n F ∧ Rb Y vr n F
  s : ∃ n F, Rb Y sv n F ∧ Rb Y vs n F
end Go.Proofs.Ytdolghlphmjcdaa

namespace Go.Proofs.Ytdolghlphmjcdaa
open Go.RowKit Gf2
set_option linter.unusedVariables false

set_option maxHeartbeats 16000000 in
set_option maxRecDepth 100000 in
theorem short9_any (p : Addr) (bk klo khi : Nat) (kind : Int) (c : Nat) (vr vR vS vD vd vs : Value) (fr to : Int) (w : World) (hk : Ks w p bk klo khi) (h : In9 w c vr vR vS vD vd vs) :
    Calls Try.prog 15 #[.pointer (some p), .agg (cv9 kind c vr vR vS vD vd vs fr to)] w fun e w' => e = .returned (.bool true) ∧ Below w.heap.size w w' := by
  obtain ⟨nr, R, mR, nR, RR, mS, nS, SS, mD, nD, DD, nd, D, ns, S, hI⟩ := h.iq
  obtain ⟨hB1, hB2⟩ := bq9_new (kind := kind) (fr := fr) (to := to) hI hk
  have hsz : (w.alloc (.cells (cv9 kind c vr vR vS vD vd vs fr to) 25)).heap.size = w.heap.size + 1 := by simp
  clear hI h hk
  generalize cv9 kind c vr vR vS vD vd vs fr to = A at hB1 hB2 hsz ⊢
  have HB : Hid _ := hB1
  have HW : Hid _ := hB2
  have HZ : Hid _ := hsz
  clear hB1 hB2 hsz
  go_enter Try.func15, Try.ntmps15
  go_wp2
  generalize w.alloc (.cells A 25) = x0 at HB HW HZ ⊢
  have HS : Hid (Below x0.heap.size x0 x0) := Below.refl _ _
  refine region_planI (fun w' => w'.cell? ⟨w.heap.size, 6, none⟩ = some (vd) ∧ w'.cell? ⟨w.heap.size, 7, none⟩ = some (vs)) [0, 1, 3, 4, 2, 5, 6, 7] [4, 0, 2] 118 ⟨(HB.out.below HS.out).bx.cell rfl, (HB.out.below HS.out).bx.cell rfl⟩ (by kernel_rfl) (by kernel_rfl) (fun _ a d v _ h => by cases d <;> exact h) ?_
  simp only [atI, List.getElem?_cons_zero, List.getElem?_cons_succ]
  have c1 := cd9 vd nd D x0.drew (by exact (HB.out.below HS.out).iq.dst) (HB.out.iq.dstl)
  refine planH_step ?A1 rfl (fun w' hS => ?s1) rfl (fun K hK => ?n1)
  case s1 =>
    obtain ⟨y0, y1⟩ := hS
    simp only [List.take_succ_cons, List.take_zero]
    repeat still_step
    exact rfl
  case n1 =>
  go_simp
  go_wp2_with (go_at_call 21; (with_reducible refine c1.mono ?_); rintro e x1 ⟨g1, rfl, r1, l1, bb⟩)
  clear c1
  have b1 := Below.undraw bb
  clear bb
  replace HS : Hid ((Below x0.heap.size x0 x1) ∧ (Rw x1 g1 nd D) ∧ (x0.heap.size ≤ g1) ∧ (g1 < x1.heap.size)) := ⟨(HS.out).trans ((b1).mono (HS.out).size), r1, l1, r1.lt⟩
  clear b1
  refine hK _ _ ⟨(HB.out.below HS.out.1).bx.cell rfl, (HB.out.below HS.out.1).bx.cell rfl⟩ ?_
  clear hK K
  have c2 := cd9 vs ns S x1 (by exact (HB.out.below HS.out.1).iq.src) (HB.out.iq.srcl)
  refine planH_step ?A2 rfl (fun w' hS => ?s2) rfl (fun K hK => ?n2)
  case s2 =>
    obtain ⟨y0, y1⟩ := hS
    simp only [List.take_zero]
    exact rfl
  case n2 =>
  go_simp
  go_wp2_with (go_at_call 21; (with_reducible refine c2.mono ?_); rintro e x2 ⟨g2, rfl, r2, l2, bb⟩)
  clear c2
  have b2 := bb
  clear bb
  replace HS : Hid ((Below x0.heap.size x0 x2) ∧ (Rw x2 g1 nd D) ∧ (x0.heap.size ≤ g1) ∧ (g1 < x1.heap.size) ∧ (Rw x2 g2 ns S) ∧ (x1.heap.size ≤ g2) ∧ (g2 < x2.heap.size)) := ⟨(HS.out.1).trans ((b2).mono (HS.out.1).size), rw_below (HS.out.2.1) (b2), HS.out.2.2.1, HS.out.2.2.2, r2, l2, r2.lt⟩
  clear b2
  refine hK _ _ ⟨(HB.out.below HS.out.1).bx.cell rfl, (HB.out.below HS.out.1).bx.cell rfl⟩ ?_
  clear hK K
  refine planH_last ?A3 rfl (fun w' hS => ?s3) rfl ?n3
  case s3 =>
    obtain ⟨y0, y1⟩ := hS
    simp only [List.take_succ_cons, List.take_zero]
    repeat still_step
    exact rfl
  case n3 =>
  go_wp2
  refine region_planI (fun w' => w'.cell? ⟨w.heap.size, 2, none⟩ = some (vr) ∧ w'.cell? ⟨w.heap.size, 4, none⟩ = some (vS)) [0, 1, 3, 4, 2, 5, 6, 7] [4, 0, 2] 118 ⟨(HB.out.below HS.out.1).bx.cell rfl, (HB.out.below HS.out.1).bx.cell rfl⟩ (by kernel_rfl) (by kernel_rfl) (fun _ a d v _ h => by cases d <;> exact h) ?_
  simp only [atI, List.getElem?_cons_zero, List.getElem?_cons_succ]
  have c4 := cd9 vr nr R x2.drew (by exact (HB.out.below HS.out.1).iq.row) (HB.out.iq.rowl)
  refine planH_step ?A4 rfl (fun w' hS => ?s4) rfl (fun K hK => ?n4)
  case s4 =>
    obtain ⟨y0, y1⟩ := hS
    simp only [List.take_succ_cons, List.take_zero]
    repeat still_step
    exact rfl
  case n4 =>
  go_simp
  go_wp2_with (go_at_call 21; (with_reducible refine c4.mono ?_); rintro e x4 ⟨g4, rfl, r4, l4, bb⟩)
  clear c4
  have b4 := Below.undraw bb
  clear bb
  replace HS : Hid ((Below x0.heap.size x0 x4) ∧ (Rw x4 g1 nd D) ∧ (x0.heap.size ≤ g1) ∧ (g1 < x1.heap.size) ∧ (Rw x4 g2 ns S) ∧ (x1.heap.size ≤ g2) ∧ (g2 < x2.heap.size) ∧ (Rw x4 g4 nr R) ∧ (x2.heap.size ≤ g4) ∧ (g4 < x4.heap.size)) := ⟨(HS.out.1).trans ((b4).mono (HS.out.1).size), rw_below (HS.out.2.1) (b4), HS.out.2.2.1, HS.out.2.2.2.1, rw_below (HS.out.2.2.2.2.1) (b4), HS.out.2.2.2.2.2.1, HS.out.2.2.2.2.2.2, r4, l4, r4.lt⟩
  clear b4
  refine hK _ _ ⟨(HB.out.below HS.out.1).bx.cell rfl, (HB.out.below HS.out.1).bx.cell rfl⟩ ?_
  clear hK K
  have c5 := copies9_any vS mS nS SS x4 (by exact (HB.out.below HS.out.1).iq.srcs) (HB.out.iq.srcsl) (HB.out.iq.srcsn)
  refine planH_step ?A5 rfl (fun w' hS => ?s5) rfl (fun K hK => ?n5)
  case s5 =>
    obtain ⟨y0, y1⟩ := hS
    simp only [List.take_zero]
    exact rfl
  case n5 =>
  go_simp
  go_wp2_with (go_at_call 18; (with_reducible refine c5.mono ?_); rintro e x5 ⟨v5, B5, rfl, r5, bb⟩)
  clear c5
  have b5 := bb
  clear bb
  replace HS : Hid ((Below x0.heap.size x0 x5) ∧ (Rw x5 g1 nd D) ∧ (x0.heap.size ≤ g1) ∧ (g1 < x1.heap.size) ∧ (Rw x5 g2 ns S) ∧ (x1.heap.size ≤ g2) ∧ (g2 < x2.heap.size) ∧ (Rw x5 g4 nr R) ∧ (x2.heap.size ≤ g4) ∧ (g4 < x4.heap.size) ∧ (Cs x4.heap.size x5.heap.size x5 v5 mS nS nS B5 SS)) := ⟨(HS.out.1).trans ((b5).mono (HS.out.1).size), rw_below (HS.out.2.1) (b5), HS.out.2.2.1, HS.out.2.2.2.1, rw_below (HS.out.2.2.2.2.1) (b5), HS.out.2.2.2.2.2.1, HS.out.2.2.2.2.2.2.1, rw_below (HS.out.2.2.2.2.2.2.2.1) (b5), HS.out.2.2.2.2.2.2.2.2.1, HS.out.2.2.2.2.2.2.2.2.2, r5⟩
  clear b5
  refine hK _ _ ⟨(HB.out.below HS.out.1).bx.cell rfl, (HB.out.below HS.out.1).bx.cell rfl⟩ ?_
  clear hK K
  refine planH_last ?A6 rfl (fun w' hS => ?s6) rfl ?n6
  case s6 =>
    obtain ⟨y0, y1⟩ := hS
    simp only [List.take_succ_cons, List.take_zero]
    repeat still_step
    exact rfl
  case n6 =>
  have y0 := (HB.out.below HS.out.1).bx.cell (i := 0) (v := .int .i64 kind) rfl
  have y1 := (HB.out.below HS.out.1).bx.cell (i := 1) (v := .int .u8 (c : Int)) rfl
  have y2 := (HB.out.below HS.out.1).bx.cell (i := 2) (v := vr) rfl
  have y4 := (HB.out.below HS.out.1).bx.cell (i := 4) (v := vS) rfl
  have y6 := (HB.out.below HS.out.1).bx.cell (i := 6) (v := vd) rfl
  have y7 := (HB.out.below HS.out.1).bx.cell (i := 7) (v := vs) rfl
  have HT : Hid (∀ (V : Nat → Nat) y, Kp g1 x5 y → Rw y g1 nd V → Below x0.heap.size x0 y ∧ ∀ z C gw, Own8 y z gw C nd V → Tl9 z (.slice (some ⟨g1, 0, none⟩) nd nd) (.slice (some ⟨gw, 0, none⟩) nd C) (.slice (some ⟨g2, 0, none⟩) ns ns) (.slice (some ⟨g4, 0, none⟩) nr nr) v5 vs vr vS ∧ Below x0.heap.size x0 z) := by
    intro V y hk hR
    obtain ⟨f_bel, f_dst, f_dstlo, f_dsthi, f_src, f_srclo, f_srchi, f_row, f_rowlo, f_rowhi, f_srcs⟩ := HS.out
    have hb : Below x0.heap.size x0 y := f_bel.trans (hk.below f_dstlo f_bel.size)
    refine ⟨hb, fun z C gw hO => ?_⟩
    have hbz := hb.trans (hO.2.2.1.mono hb.size)
    have iz := (HB.out.below hbz).iq
    have e1 := rw_below hR hO.2.2.1
    have e2 := rw_below (hk.rw_ f_src (by omega)) hO.2.2.1
    have e3 := rw_below (hk.rw_ f_row (by omega)) hO.2.2.1
    have e4 := (f_srcs.keep hk.ke (fun q h1 h2 e => by omega)).below hO.2.2.1
    exact ⟨⟨⟨nd, V, e1.rb0, own8_rb9 hO⟩, ⟨ns, S, e2.rb0, iz.src⟩, ⟨nr, R, e3.rb0, iz.row⟩, ⟨mS, nS, SS, e4.lb, iz.srcs⟩⟩, hbz⟩
  have HQ : Hid (Rw x5 g1 nd D ∧ Re (fun q => q = g1) x5 (.slice (some ⟨g2, 0, none⟩) ns ns) ns S ∧ Re (fun q => q = g1) x5 (.slice (some ⟨g4, 0, none⟩) nr nr) nr R ∧ Ll (fun q => q = g1) x5 v5 mS nS SS ∧ Ks x5 p bk klo khi ∧ (g1 < klo ∨ khi ≤ g1) ∧ c < 256 ∧ nr ≤ 140737488351232 ∧ 24 * mS ≤ 140737488351232 ∧ nd ≤ 140737488351232) := by
    obtain ⟨f_bel, f_dst, f_dstlo, f_dsthi, f_src, f_srclo, f_srchi, f_row, f_rowlo, f_rowhi, f_srcs⟩ := HS.out
    have hkh := HB.out.kh
    have hz0 := HZ.out
    exact ⟨f_dst, f_src.re (Nat.le_refl _) (Nat.le_refl _) f_src.1 (by omega), f_row.re (Nat.le_refl _) (Nat.le_refl _) f_row.1 (by omega), f_srcs.ll (fun q h1 h2 e => by omega), (HB.out.below f_bel).ks, by omega, HB.out.iq.hc, HB.out.iq.rowl, HB.out.iq.srcsl, HB.out.iq.dstl⟩
  by_cases k1 : kind = 1
  · subst k1
    clear HS
    obtain ⟨d1, d2, d3, d4, d5, d6, d7, d8, d9, d10⟩ := HQ.out
    have cC := rw_mul9 (c := c) d1 d2 d5 d6 d7
    clear d1 d2 d3 d4 d5 d6 HQ
    go_wp2_with (first
      | (go_at_call 32; (with_reducible refine cC.mono ?_); rintro e y ⟨rfl, hk, hR⟩; clear cC; obtain ⟨hby, hT⟩ := HT.out (vl9 nd ns D (mz false c D S)) y hk (hR.congr (fun j _ => by unfold vl9 mz; rfl)); have iy := (HB.out.below hby).iq; have cR := refMul9 c nd ns false vd vs D S y d7 iy.dst iy.src d10; have q1 := (HB.out.below hby).bx.cell (i := 1) (v := .int .u8 (c : Int)) rfl; have q2 := (HB.out.below hby).bx.cell (i := 2) (v := vr) rfl; have q4 := (HB.out.below hby).bx.cell (i := 4) (v := vS) rfl; have q6 := (HB.out.below hby).bx.cell (i := 6) (v := vd) rfl; have q7 := (HB.out.below hby).bx.cell (i := 7) (v := vs) rfl; have HT2 : Hid _ := hT; clear hT hk hR hby iy HT y0 y1 y2 y4 y6 y7)
      | (go_at_call 37; (with_reducible refine cR.mono ?_); rintro e z ⟨gw, Cw, rfl, hO⟩; clear cR; have TT : Hid _ := HT2.out z Cw gw hO; clear hO HT2 q1 q2 q4 q6 q7; have cE1 := same90 TT.out.1.d; have t2 := (HB.out.below TT.out.2).bx.cell (i := 2) (v := vr) rfl; have t4 := (HB.out.below TT.out.2).bx.cell (i := 4) (v := vS) rfl; have t7 := (HB.out.below TT.out.2).bx.cell (i := 7) (v := vs) rfl)
      | (go_at_call 28; (with_reducible refine cE1.mono ?_); rintro e z1 ⟨rfl, m1, rfl⟩; clear cE1; have cE2 := same9 TT.out.1.s m1)
      | (go_at_call 28; (with_reducible refine cE2.mono ?_); rintro e z2 ⟨rfl, m2, rfl⟩; clear cE2; have cE3 := same9 TT.out.1.r (m1 + m2))
      | (go_at_call 28; (with_reducible refine cE3.mono ?_); rintro e z3 ⟨rfl, m3, rfl⟩; clear cE3; have cE4 := sames9 TT.out.1.S (m1 + m2 + m3))
      | (go_at_call 25; (with_reducible refine cE4.mono ?_); rintro e z4 ⟨rfl, m4, rfl⟩; clear cE4))
    go_ret
    exact ⟨rfl, HW.out.trans ((below_drewN TT.out.2 _).mono HW.out.size)⟩
  by_cases k2 : kind = 2
  · subst k2
    clear HS
    obtain ⟨d1, d2, d3, d4, d5, d6, d7, d8, d9, d10⟩ := HQ.out
    have cC := rw_add9 (c := c) d1 d2 d5 d6 d7
    clear d1 d2 d3 d4 d5 d6 HQ
    go_wp2_with (first
      | (go_at_call 22; (with_reducible refine cC.mono ?_); rintro e y ⟨rfl, hk, hR⟩; clear cC; obtain ⟨hby, hT⟩ := HT.out (vl9 nd ns D (mz true c D S)) y hk (hR.congr (fun j _ => by unfold vl9 mz; rfl)); have iy := (HB.out.below hby).iq; have cR := refMul9 c nd ns true vd vs D S y d7 iy.dst iy.src d10; have q1 := (HB.out.below hby).bx.cell (i := 1) (v := .int .u8 (c : Int)) rfl; have q2 := (HB.out.below hby).bx.cell (i := 2) (v := vr) rfl; have q4 := (HB.out.below hby).bx.cell (i := 4) (v := vS) rfl; have q6 := (HB.out.below hby).bx.cell (i := 6) (v := vd) rfl; have q7 := (HB.out.below hby).bx.cell (i := 7) (v := vs) rfl; have HT2 : Hid _ := hT; clear hT hk hR hby iy HT y0 y1 y2 y4 y6 y7)
      | (go_at_call 37; (with_reducible refine cR.mono ?_); rintro e z ⟨gw, Cw, rfl, hO⟩; clear cR; have TT : Hid _ := HT2.out z Cw gw hO; clear hO HT2 q1 q2 q4 q6 q7; have cE1 := same90 TT.out.1.d; have t2 := (HB.out.below TT.out.2).bx.cell (i := 2) (v := vr) rfl; have t4 := (HB.out.below TT.out.2).bx.cell (i := 4) (v := vS) rfl; have t7 := (HB.out.below TT.out.2).bx.cell (i := 7) (v := vs) rfl)
      | (go_at_call 28; (with_reducible refine cE1.mono ?_); rintro e z1 ⟨rfl, m1, rfl⟩; clear cE1; have cE2 := same9 TT.out.1.s m1)
      | (go_at_call 28; (with_reducible refine cE2.mono ?_); rintro e z2 ⟨rfl, m2, rfl⟩; clear cE2; have cE3 := same9 TT.out.1.r (m1 + m2))
      | (go_at_call 28; (with_reducible refine cE3.mono ?_); rintro e z3 ⟨rfl, m3, rfl⟩; clear cE3; have cE4 := sames9 TT.out.1.S (m1 + m2 + m3))
      | (go_at_call 25; (with_reducible refine cE4.mono ?_); rintro e z4 ⟨rfl, m4, rfl⟩; clear cE4))
    go_ret
    exact ⟨rfl, HW.out.trans ((below_drewN TT.out.2 _).mono HW.out.size)⟩
  by_cases k3 : kind = 3
  · subst k3
    clear HS
    obtain ⟨d1, d2, d3, d4, d5, d6, d7, d8, d9, d10⟩ := HQ.out
    have d11 := d2.2.1
    have cC := rw_xor9 d1 d2
    clear d1 d2 d3 d4 d5 d6 HQ
    go_wp2_with (first
      | (go_at_call 38; (with_reducible refine cC.mono ?_); rintro e y ⟨rfl, hk, hR⟩; clear cC; obtain ⟨hby, hT⟩ := HT.out (vl9 nd ns D (mz true 1 D S)) y hk (hR.congr (fun j hj => (xor9_mz d11 hj).symm)); have iy := (HB.out.below hby).iq; have cR := (show Calls Try.prog 37 #[.int .u8 1, vd, vs, .bool true] y _ from refMul9 1 nd ns true vd vs D S y (by decide) iy.dst iy.src d10); have q1 := (HB.out.below hby).bx.cell (i := 1) (v := .int .u8 (c : Int)) rfl; have q2 := (HB.out.below hby).bx.cell (i := 2) (v := vr) rfl; have q4 := (HB.out.below hby).bx.cell (i := 4) (v := vS) rfl; have q6 := (HB.out.below hby).bx.cell (i := 6) (v := vd) rfl; have q7 := (HB.out.below hby).bx.cell (i := 7) (v := vs) rfl; have HT2 : Hid _ := hT; clear hT hk hR hby iy HT y0 y1 y2 y4 y6 y7)
      | (go_at_call 37; (with_reducible refine cR.mono ?_); rintro e z ⟨gw, Cw, rfl, hO⟩; clear cR; have TT : Hid _ := HT2.out z Cw gw hO; clear hO HT2 q1 q2 q4 q6 q7; have cE1 := same90 TT.out.1.d; have t2 := (HB.out.below TT.out.2).bx.cell (i := 2) (v := vr) rfl; have t4 := (HB.out.below TT.out.2).bx.cell (i := 4) (v := vS) rfl; have t7 := (HB.out.below TT.out.2).bx.cell (i := 7) (v := vs) rfl)
      | (go_at_call 28; (with_reducible refine cE1.mono ?_); rintro e z1 ⟨rfl, m1, rfl⟩; clear cE1; have cE2 := same9 TT.out.1.s m1)
      | (go_at_call 28; (with_reducible refine cE2.mono ?_); rintro e z2 ⟨rfl, m2, rfl⟩; clear cE2; have cE3 := same9 TT.out.1.r (m1 + m2))
      | (go_at_call 28; (with_reducible refine cE3.mono ?_); rintro e z3 ⟨rfl, m3, rfl⟩; clear cE3; have cE4 := sames9 TT.out.1.S (m1 + m2 + m3))
      | (go_at_call 25; (with_reducible refine cE4.mono ?_); rintro e z4 ⟨rfl, m4, rfl⟩; clear cE4))
    go_ret
    exact ⟨rfl, HW.out.trans ((below_drewN TT.out.2 _).mono HW.out.size)⟩
  by_cases k4 : kind = 4
  · subst k4
    clear HS
    obtain ⟨d1, d2, d3, d4, d5, d6, d7, d8, d9, d10⟩ := HQ.out
    have cC := rw_dot9 d1 d3 d4 d5 d6 d8 d9
    clear d1 d2 d3 d4 d5 d6 HQ
    go_wp2_with (first
      | (go_at_call 23; (with_reducible refine cC.mono ?_); rintro e y ⟨rfl, hk, hR⟩; clear cC; obtain ⟨hby, hT⟩ := HT.out (dv9 nr mS nd nS R D SS) y hk (hR); have iy := (HB.out.below hby).iq; have cR := refDot9 vr vS vd nr mS nd nS R D SS y iy.row iy.srcs iy.dst d10 d8; have q1 := (HB.out.below hby).bx.cell (i := 1) (v := .int .u8 (c : Int)) rfl; have q2 := (HB.out.below hby).bx.cell (i := 2) (v := vr) rfl; have q4 := (HB.out.below hby).bx.cell (i := 4) (v := vS) rfl; have q6 := (HB.out.below hby).bx.cell (i := 6) (v := vd) rfl; have q7 := (HB.out.below hby).bx.cell (i := 7) (v := vs) rfl; have HT2 : Hid _ := hT; clear hT hk hR hby iy HT y0 y1 y2 y4 y6 y7)
      | (go_at_call 39; (with_reducible refine cR.mono ?_); rintro e z ⟨gw, Cw, rfl, hO⟩; clear cR; have TT : Hid _ := HT2.out z Cw gw hO; clear hO HT2 q1 q2 q4 q6 q7; have cE1 := same90 TT.out.1.d; have t2 := (HB.out.below TT.out.2).bx.cell (i := 2) (v := vr) rfl; have t4 := (HB.out.below TT.out.2).bx.cell (i := 4) (v := vS) rfl; have t7 := (HB.out.below TT.out.2).bx.cell (i := 7) (v := vs) rfl)
      | (go_at_call 28; (with_reducible refine cE1.mono ?_); rintro e z1 ⟨rfl, m1, rfl⟩; clear cE1; have cE2 := same9 TT.out.1.s m1)
      | (go_at_call 28; (with_reducible refine cE2.mono ?_); rintro e z2 ⟨rfl, m2, rfl⟩; clear cE2; have cE3 := same9 TT.out.1.r (m1 + m2))
      | (go_at_call 28; (with_reducible refine cE3.mono ?_); rintro e z3 ⟨rfl, m3, rfl⟩; clear cE3; have cE4 := sames9 TT.out.1.S (m1 + m2 + m3))
      | (go_at_call 25; (with_reducible refine cE4.mono ?_); rintro e z4 ⟨rfl, m4, rfl⟩; clear cE4))
    go_ret
    exact ⟨rfl, HW.out.trans ((below_drewN TT.out.2 _).mono HW.out.size)⟩
  have D1 : (kind == 1) = false := by simpa using k1
  have D2 : (kind == 2) = false := by simpa using k2
  have D3 : (kind == 3) = false := by simpa using k3
  have D4 : (kind == 4) = false := by simpa using k4
  have HL : Hid (Below x0.heap.size x0 x5) := HS.out.1
  clear HS HT HQ k1 k2 k3 k4
  go_wp2
  go_ret
  exact ⟨rfl, HW.out.trans (HL.out.mono HW.out.size)⟩
end Go.Proofs.Ytdolghlphmjcdaa
