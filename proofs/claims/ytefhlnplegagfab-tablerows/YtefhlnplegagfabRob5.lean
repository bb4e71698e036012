import Derived.Test.YtefhlnplegagfabRoa5
namespace Go.Proofs.Ytefhlnplegagfab
open Go.RowKit Gf2
set_option linter.unusedVariables false

set_option maxHeartbeats 8000000 in
set_option maxRecDepth 100000 in
theorem rows5_few (x : Option Addr) (len cx : Nat) (X : Nat → Nat) (w : World) (hx : Rb w (.slice x len cx) len X) (hlen : len ≤ 40) :
    Calls Try.prog 3 #[.slice x len cx] w fun e w' => e = .returned (.bool true) ∧ Below w.heap.size w w' := by
  have cA := awake5_any w
  have cN := fun W => tknew_any W
  have D : decide ((40 : Int) < (len : Int)) = false := by simp; omega
  have HX : Hid (Rb w (.slice x len cx) len X ∧ len ≤ 40) := ⟨hx, hlen⟩
  obtain ⟨n, hn⟩ : ∃ n, n = 1 + len := ⟨_, rfl⟩
  have hn1 : n ≤ 41 := by omega
  have hn0 : 0 < n := by omega
  have HN : Hid (n = 1 + len) := hn
  clear hx hlen hn
  go_enter Try.func3, Try.ntmps3
  go_wp2_with (first
    | (go_at_call 4; (with_reducible refine cA.mono ?_); rintro e w1 ⟨p, h1, rfl, hk1, hb1⟩)
    | (go_at_call 5; (with_reducible refine (cN _).mono ?_); rintro e w2 ⟨q, rfl, hk2, hb2⟩; obtain ⟨V, g, C, c, hrun, hC, hg, hR, hb3⟩ := app3 w2 (HX.out.1.below (hb1.trans (hb2.mono hb1.size))) HX.out.2; rw [← HN.out] at hrun hC; have hV : RV w V p q w.heap.size h1 w1.heap.size w2.heap.size g C n c := ⟨(hb1.trans (hb2.mono hb1.size)).trans (hb3.mono (Nat.le_trans hb1.size hb2.size)), ker_below (ker_below hk1 hb2) hb3, ker_below hk2 hb3, hR, hC⟩; have hgV := hR.lt; clear hk1 hk2 hb1 hb2 hb3 hR hC hg)
    | (at_builtin; refine Lib.wpList_append_run _ rfl _ _ _ _ rfl _ _ rfl rfl _ _ hrun ?_))
  clear hrun D cA cN
  go_loopw [5, 6] (fun av iv wr => ∃ (i : Nat) (B : Nat → Nat), i ≤ n ∧ iv = .int .i64 i ∧ Below V.heap.size V wr ∧ Mk wr V.heap.size av (3 * i) B c) (fun _ iv _ => n - (intOf iv).toNat)
  case atStart => exact ⟨0, _, Nat.zero_le _, rfl, Below.refl _ _, mk_none _ _ _⟩
  case round =>
    obtain ⟨i, B, hi, rfl, hbr, hM⟩ := hrel
    by_cases hlt : i < n
    · have R0 := hV.ker hbr
      obtain ⟨q0, hci⟩ := R0.cell hlt
      have iN : ((i : Nat) : Int) < (n : Int) := by omega
      have hsr := hbr.size
      have cR1 := krow_any p _ _ (c i) wr R0.k hci
      have HM : Hid (Mk wr V.heap.size _ (3 * i) B c ∧ Below V.heap.size V wr) := ⟨hM, hbr⟩
      clear hM hbr
      go_wp2_with (first
        | (go_at_call 6; first
          | ((with_reducible refine cR1.mono ?_); rintro e x1 ⟨rfl, r1, b1, s1⟩; have R1 := R0.ker b1; have q1 := (R1.cell hlt).1; have cR2 := krow_any p _ _ (c i) x1 R1.k hci; clear cR1)
          | ((with_reducible refine cR2.mono ?_); rintro e x2 ⟨rfl, r2, b2, s2⟩; have R2 := R1.ker b2; have q2 := (R2.cell hlt).1; have cR3 := krow_any q _ _ (c i) x2 R2.u hci; clear cR2)
          | ((with_reducible refine cR3.mono ?_); rintro e x3 ⟨rfl, r3, b3, s3⟩; have R3 := R2.ker b3; have q3 := (R3.cell hlt).1; obtain ⟨gg, cp, x5, hrun, hM5, hb5⟩ := append3 HM.out.1 hsr (by omega) b1 s1 r1.2.2 b2 s2 r2.2.2 b3 s3 r3.2.2; clear cR3))
        | (at_builtin; refine Lib.wpList_append_run _ rfl _ _ _ _ rfl _ _ rfl rfl _ _ hrun ?_))
      go_roundw
      case rel =>
        obtain ⟨B', hM'⟩ := hM5
        exact ⟨i + 1, B', by omega, by go_num, HM.out.2.trans (hb5.mono (Nat.le_refl _)), hM'⟩
      case measure => simp [intOf]; omega
    · have hin : n = i := by omega
      subst hin
      obtain ⟨ga, cp, rfl, hgl, hgh⟩ := hM.own.form (by omega)
      obtain ⟨wA, hwA⟩ : ∃ wA : World, wA = wr := ⟨_, rfl⟩
      subst hwA
      have hsA := hbr.size
      have RA := hV.ker hbr
      have HA : Hid (Mk wA V.heap.size (.slice (some ⟨ga, 0, none⟩) (3 * n) cp) (3 * n) B c ∧ Below V.heap.size V wA ∧ RV w wA p q w.heap.size h1 w1.heap.size w2.heap.size g C n c) := ⟨hM, hbr, RA⟩
      clear hM hbr RA
      go_wp2
      go_loopw [13] (fun iv wq => ∃ i : Nat, i ≤ 3 * n ∧ iv = .int .i64 i ∧ Below wA.heap.size wA wq) (fun iv _ => 3 * n - (intOf iv).toNat)
      case atStart => exact ⟨0, Nat.zero_le _, rfl, Below.refl _ _⟩
      case round =>
        obtain ⟨i, hi3, rfl, hbq⟩ := hrel
        by_cases hlt : i < 3 * n
        · obtain ⟨hM, hbr, RA⟩ := HA.out
          have Rq := RA.ker hbq
          obtain ⟨q1, hci⟩ := Rq.cell (i := i / 3) (by omega)
          have q2 : wr.cell? ⟨ga, i, none⟩ = some (.slice (some ⟨B i, 0, none⟩) 256 256) := (hbq.cell (p := ⟨ga, i, none⟩) hgh).trans ((ls_of_mk hM hgh).cell i hlt)
          have hBi := (hM.rows i hlt).lt
          have hrow : Rw wr (B i) 256 (fun x => fm 285 (c (i / 3)) x) := ⟨by decide, fun x _ => fm8_lt _ _, (hM.rows i hlt).of_block (hbq.block _ hBi)⟩
          have iN : ((i : Nat) : Int) < ((3 * n : Nat) : Int) := by omega
          have iN' : ((i : Nat) : Int) < 3 * (n : Int) := by omega
          have e3 : (i : Int).tdiv 3 = (i : Int) / 3 := Int.tdiv_eq_ediv_of_nonneg (by omega)
          have iN2 : (i : Int) / 3 < (n : Int) := by omega
          have iN4 : (0 : Int) ≤ (i : Int) / 3 := by omega
          have iN3 : ((i : Int) / 3).toNat = i / 3 := by omega
          have eW : IntKind.i64.wrap ((i : Int) / 3) = (i : Int) / 3 := by rw [IntKind.wrap_i64]; omega
          have hsq := hbq.size
          have hgc := Rq.cs.lt
          have cRow := refRow6_nat (c (i / 3)) wr.drew hci
          have HB : Hid (Below wA.heap.size wA wr ∧ Rw wr (B i) 256 (fun x => fm 285 (c (i / 3)) x) ∧ g < wr.heap.size ∧ ga < wr.heap.size ∧ B i < wr.heap.size) := ⟨hbq, hrow, hgc, by omega, by omega⟩
          clear hM hbr RA Rq hbq hrow hgc
          go_wp2
          refine region_planH (fun w' => w'.cell? ⟨g, i / 3, none⟩ = some (.int .u8 (c (i / 3) : Nat)) ∧ w'.cell? ⟨ga, i, none⟩ = some (.slice (some ⟨B i, 0, none⟩) 256 256)) [9, 0, 1] 176 ⟨q1, q2⟩ (by kernel_rfl) (by kernel_rfl) (by kernel_rfl) (fun _ a d v _ h => by cases d <;> exact h) ?_
          refine planH_step ?A1 rfl (fun w' hS => ?s1) rfl (fun K hK => ?n1)
          case s1 =>
            obtain ⟨y1, y2⟩ := hS
            simp only [List.take_succ_cons, List.take_zero]
            repeat still_step
            exact rfl
          case n1 =>
          go_simp
          go_wp2_with (go_at_call 8; (with_reducible refine cRow.mono ?_); rintro e x1 ⟨rfl, r1', b1', s1'⟩)
          have b1 : Below wr.heap.size wr x1 := ⟨b1'.os, b1'.tape, b1'.output, b1'.size, b1'.block⟩
          have r1 : Rw x1 wr.heap.size 256 (fun x => fm 285 (c (i / 3)) x) := ⟨by decide, fun x _ => fm8_lt _ _, r1'⟩
          have z1 := (b1.cell (p := ⟨g, i / 3, none⟩) HB.out.2.2.1).trans q1
          have z2 := (b1.cell (p := ⟨ga, i, none⟩) HB.out.2.2.2.1).trans q2
          have cE := equal5_true (.slice (some ⟨B i, 0, none⟩) 256 256) (.slice (some ⟨wr.heap.size, 0, none⟩) 256 256) 256 _ x1 (rw_below HB.out.2.1 b1).rb0 r1.rb0
          clear r1' b1' s1' cRow
          refine hK _ _ ⟨z1, z2⟩ ?_
          clear hK K
          refine planH_step ?A2 rfl (fun w' hS => ?s2) rfl (fun K hK => ?n2)
          case s2 =>
            simp only [List.take_zero]
            exact rfl
          case n2 =>
          go_simp
          go_wp2_with (go_at_call 7; (with_reducible refine cE.mono ?_); rintro e x2 ⟨rfl, m2, hx2⟩)
          refine hK _ _ ⟨?_, ?_⟩ ?_
          · exact z1
          · exact z2
          clear hK K
          refine planH_last ?A3 rfl (fun w' hS => ?s3) rfl ?n3
          case s3 =>
            simp only [List.take_succ_cons, List.take_zero]
            repeat still_step
            exact rfl
          case n3 =>
          clear z1 z2 q1 q2 cE
          go_wp2
          go_roundw
          case rel => exact ⟨i + 1, by omega, by go_num, HB.out.1.trans (below_drewN (b1.mono (by omega)) _)⟩
          case measure => simp [intOf]; omega
        · have hi3n : 3 * n = i := by omega
          obtain ⟨wB, hwB⟩ : ∃ wB : World, wB = wr := ⟨_, rfl⟩
          subst hwB
          obtain ⟨hM, hbr, RA⟩ := HA.out
          have hMB := hM.below hbq
          have hsq := hbq.size
          have LB := ls_of_mk hMB (by omega)
          have cap1 := apart_any V.heap.size ga (3 * n) cp B _ wB (by omega) (by omega) LB hMB.rows
          have HB : Hid (Below V.heap.size V wB) := hbr.trans (hbq.mono (by omega))
          clear hM hbr RA hbq hMB LB
          subst hi3n
          have hz := fun W => zeros5_any 4 W (by decide)
          have hz : ∀ W, Calls Try.prog 10 #[.int .i64 4] W fun e w' => e = .returned (.slice (some ⟨W.heap.size, 0, none⟩) 4 4) ∧ w' = W.alloc (.cells (madeCells #[.int .u8 0] 4) 5) := hz
          go_wp2_with (first
            | (go_at_call 9; (with_reducible refine cap1.mono ?_); rintro e wC ⟨rfl, hbC⟩)
            | (go_at_call 10; (with_reducible refine (hz _).mono ?_); rintro e wD ⟨rfl, hwD⟩; have rD : Rw wD wC.heap.size 4 (fun _ => 0) := hwD ▸ made_rw 4 (by decide) wC; have bD : Below wC.heap.size wC wD := hwD ▸ ((Below.refl _ _).alloc (Nat.le_refl _) _); clear hwD))
          have pc : Below V.heap.size V wC := HB.out.trans hbC
          have hsC := pc.size
          have pD : Below V.heap.size V wD := pc.trans (bD.mono hsC)
          clear cap1 hbC hz
          clear bD pc
          have lD := rD.lt
          have hu2 := hV.u.hi
          go_loopw [15] (fun iv wq => ∃ (i : Nat) (F : Nat → Nat), i ≤ n ∧ iv = .int .i64 i ∧ Below V.heap.size V wq ∧ Rw wq wC.heap.size 4 F) (fun iv _ => n - (intOf iv).toNat)
          case atStart => exact ⟨0, _, Nat.zero_le _, rfl, pD, rD⟩
          case round =>
            obtain ⟨i, F, hi4, rfl, hbq, rq⟩ := hrel
            by_cases hlt : i < n
            · have Rq := hV.ker hbq
              obtain ⟨q0, hci⟩ := Rq.cell hlt
              have iN : ((i : Nat) : Int) < (n : Int) := by omega
              have cR := krow_any p _ _ (c i) wr Rq.k hci
              have hgc := Rq.cs.lt
              have l3 := fm8_lt (c i) 3
              have HQ : Hid (Below V.heap.size V wr ∧ Rw wr wC.heap.size 4 F ∧ RV w wr p q w.heap.size h1 w1.heap.size w2.heap.size g C n c) := ⟨hbq, rq, Rq⟩
              clear hbq rq Rq pD rD lD
              go_wp2_with (go_at_call 6; (with_reducible refine cR.mono ?_); rintro e x1 ⟨rfl, r1, b1, s1⟩; have q1 := (b1.cell (p := ⟨g, i, none⟩) hgc).trans q0; have hgc1 := Nat.lt_of_lt_of_le hgc b1.size)
              clear s1
              have cF := refRow6_nat (c i) x1.drew hci
              have k1 : Ker x1 p w.heap.size h1 := ker_below (W' := x1) HQ.out.2.2.k b1
              have k1 : Ker x1.drew p w.heap.size h1 := k1
              have cE : ∀ x2, Below x1.drew.heap.size x1.drew x2 → x2.rowIs x1.drew.heap.size 5 256 (fun x => .int .u8 (fm 285 (c i) x : Nat)) → Calls Try.prog 7 #[.slice (some ⟨wr.heap.size, 0, none⟩) 256 256, .slice (some ⟨x1.heap.size, 0, none⟩) 256 256] x2 fun e w' => e = .returned (.bool true) ∧ ∃ m, w' = x2.drewN m :=
                fun x2 b2 r2 => equal5_true _ _ 256 (fun x => fm 285 (c i) x) x2 (rw_below (W := x1.drew) (W' := x2) ⟨r1.1, r1.2.1, r1.2.2.drew⟩ b2).rb0 (Rw.rb0 (F := fun x => fm 285 (c i) x) ⟨by decide, fun x _ => fm8_lt _ _, r2⟩)
              have cP : ∀ x2 m, Below x1.drew.heap.size x1.drew x2 → Calls Try.prog 11 #[.pointer (some p), .int .u8 (c i : Nat), .int .u8 3] (x2.drewN m) fun e w' => e = .returned (.int .u8 (fm 285 (c i) 3 : Nat)) ∧ ∃ m', w' = (x2.drewN m).drewN m' :=
                fun x2 m b2 => kprod_any p _ _ (c i) 3 (x2.drewN m) ((ker_below (W := x1.drew) k1 b2).drewN m) hci (by decide)
              have cM : ∀ W, Calls Try.prog 12 #[.int .u8 (c i : Nat), .int .u8 3] W fun e w' => e = .returned (.int .u8 (fm 285 (c i) 3 : Nat)) ∧ w' = W := fun W => refMul_nat (c i) 3 W hci (by decide)
              have HE : Hid (∀ x2, Below x1.drew.heap.size x1.drew x2 → x2.rowIs x1.drew.heap.size 5 256 (fun x => .int .u8 (fm 285 (c i) x : Nat)) → _) := cE
              have HP : Hid (∀ x2 m, Below x1.drew.heap.size x1.drew x2 → _) := cP
              have HR1 : Hid (Rw x1 wr.heap.size 256 (fun i_1 => fm 285 (c i) i_1) ∧ Below wr.heap.size wr x1) := ⟨r1, b1⟩
              clear cE cP r1 b1 q0
              go_region_held (fun w' => w'.cell? ⟨g, i, none⟩ = some (.int .u8 (c i : Nat))) (go_keep) (first
                | (go_at_call 8; (with_reducible refine cF.mono ?_); rintro e x2 ⟨rfl, r2, b2, s2⟩; have q2 := (b2.cell (p := ⟨g, i, none⟩) hgc1).trans q1; have cE2 := HE.out x2 b2 r2; have B2 : Hid (Below x1.drew.heap.size x1.drew x2) := b2; clear r2 b2 s2)
                | (go_at_call 7; (with_reducible refine cE2.mono ?_); rintro e x3 ⟨rfl, m3, rfl⟩; have cP3 := HP.out x2 m3 B2.out)
                | (go_at_call 11; (with_reducible refine cP3.mono ?_); rintro e x4 ⟨rfl, m4, rfl⟩)
                | (go_at_call 12; (with_reducible refine (cM _).mono ?_); rintro e x5 ⟨rfl, rfl⟩))
              all_goals
                obtain ⟨x5, hx5⟩ : ∃ x5 : World, x5 = x2.drewN (m3 + m4) := ⟨_, rfl⟩
                have bb1 : Below wr.heap.size wr x1 := HR1.out.2
                have bb2 : Below x1.heap.size x1 x2 := ⟨B2.out.os, B2.out.tape, B2.out.output, B2.out.size, B2.out.block⟩
                have bb5 : Below wr.heap.size wr x5 := by rw [hx5]; exact below_drewN (bb1.trans (bb2.mono bb1.size)) (m3 + m4)
                have f5 := row_mul (W := x5) (HQ.out.2.2.ker bb5) (rw_below HQ.out.2.1 bb5) (HQ.out.1.trans (bb5.mono HQ.out.1.size)) hgV hsC hu2 hlt
                rw [← hx5]
                obtain ⟨y0, cU⟩ := f5
                have hg5 : g < x5.heap.size := Nat.lt_of_lt_of_le hgc bb5.size
                have HG : Hid (g < x5.heap.size) := hg5
                clear hx5 bb1 bb2 bb5 q1 k1 hgc hgc1 HE HP HR1 B2 cR cF cE2 cP3 hg5
                go_wp2
                refine region_planS (fun w' => w'.cell? ⟨g, i, none⟩ = some (.int .u8 (c i : Nat))) [6, 0, 19, 2] 176 y0 (by kernel_rfl) (by kernel_rfl) (by kernel_rfl) (fun _ a d v _ h => by cases d <;> exact h) ?_
                refine planS_step ?Y1 rfl (fun w' hS => ?s1) rfl (fun K hK => ?n1)
                case s1 =>
                  simp only [List.take_succ_cons, List.take_zero]
                  repeat still_step
                  exact rfl
                case n1 =>
                go_simp
                refine hK (fun w' => w'.cell? ⟨g, i, none⟩ = some (.int .u8 (c i : Nat))) _ _ (fun _ h => h) ?_ ?_
                · exact ((below_alloc5 x5 _).cell (p := ⟨g, i, none⟩) HG.out).trans y0
                clear hK K
                refine planS_step ?Y2 rfl (fun w' hS => ?s2) rfl (fun K hK => ?n2)
                case s2 =>
                  simp only [List.take_zero]
                  exact rfl
                case n2 =>
                go_simp
                go_wp2_with (go_at_call 13; (with_reducible refine cU.mono ?_); rintro e x6 ⟨rfl, y1, y2, y3, bV, F', rF'⟩)
                refine hK (fun w' => w'.cell? ⟨g, i, none⟩ = some (.int .u8 (c i : Nat)) ∧ w'.cell? ⟨wC.heap.size, 0, none⟩ = some (.int .u8 (c i : Nat)) ∧ w'.cell? ⟨wC.heap.size, 2, none⟩ = some (.int .u8 (fm 285 (c i) 3 : Nat))) _ _ (fun _ h => h.1) ⟨y3, y1, y2⟩ ?_
                clear hK K cU
                refine planS_step ?Y3 rfl (fun w' hS => ?s3) rfl (fun K hK => ?n3)
                case s3 =>
                  obtain ⟨k1, k2, k3⟩ := hS
                  simp only [List.take_succ_cons, List.take_zero]
                  repeat still_step
                  exact rfl
                case n3 =>
                go_simp
                go_wp2_with (go_at_call 12; (with_reducible refine (cM _).mono ?_); rintro e x7 ⟨rfl, rfl⟩)
                refine hK _ _ _ (fun _ h => h) ⟨y3, y1, y2⟩ ?_
                clear hK K
                refine planS_last ?Y4 rfl (fun w' hS => ?s4) rfl ?n4
                case s4 =>
                  simp only [List.take_succ_cons, List.take_zero]
                  repeat still_step
                  exact rfl
                case n4 =>
                go_wp2
                go_roundw
                case rel => exact ⟨i + 1, F', by omega, by go_num, bV, rF'⟩
                case measure => simp [intOf]; omega
            · have hin : n = i := by omega
              subst hin
              go_wp2
              go_ret
              exact ⟨rfl, hV.bel.trans (hbq.mono (by have := hV.bel.size; omega))⟩
end Go.Proofs.Ytefhlnplegagfab
