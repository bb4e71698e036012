import Derived.Test.YtemjodlhpelbaaaDoorAcl
namespace Go.Proofs.YtemjodlhpelbaaaDoor
open Go.RowKit Gf2
set_option linter.unusedVariables false

set_option maxHeartbeats 16000000 in
set_option maxRecDepth 100000 in
theorem afftColumns_main (b o n cap : Nat) (cl a : Int) (F : Nat → Nat) (r v : Int) (q : Nat) (w : World) (h : Q6 w (.slice (some ⟨b, o, none⟩) n cap) n F) (hn : 2 * n ≤ 140737488351232) (e1 : cl.tmod 5 = r) (e2 : wrap64 (r + 5) = v) (e3 : v.tmod 5 = (q : Int)) (hq : q < 5) (q0 : 0 < q) (hqn : q ≤ n) (hC : Cab w) (hT : Tzt w) :
    Calls Tryd.prog 7 #[.slice (some ⟨b, o, none⟩) n cap, .int .i64 cl, .int .i64 a] w fun e w' => e = .returned (.bool true) ∧ Below w.heap.size w w' := by
  obtain ⟨N0, hN0⟩ : ∃ N0, N0 = n / q := ⟨_, rfl⟩
  obtain ⟨p0, p1, p2, p3⟩ := div_nums q0 hN0 hqn
  obtain ⟨l1, l2, l3, hcell⟩ : n ≤ cap ∧ b < w.heap.size ∧ cap ≤ big ∧ ∀ i, i < n → w.cell? ⟨b, o + i, none⟩ = some (.int .u16 (F i : Nat)) := by
    obtain ⟨-, -, a, cap', e, h5, h6, h4⟩ := h
    cases e
    obtain ⟨b', o', e, hl, hc⟩ := h4 (by omega)
    cases e
    exact ⟨h5, hl, h6, hc⟩
  have k1 := cols_first b o n cap q N0 a w p0 (by omega) hC hT
  have hmk := make_w6 N0 (by omega)
  have W0 := wrap_N p2 hn
  have HQ : Hid (n ≤ cap ∧ b < w.heap.size ∧ (∀ i, i < n → w.cell? ⟨b, o + i, none⟩ = some (.int .u16 (F i : Nat))) ∧ (∀ i, i < n → F i < 65536) ∧ Cab w ∧ Tzt w ∧ N0 * q ≤ n ∧ cap ≤ big) := ⟨l1, l2, hcell, h.2.1, hC, hT, p3, l3⟩
  have HH : Hid (0 < q ∧ q < 5) := ⟨q0, hq⟩
  have z0 : ((q : Int) == 0) = false := by simp; omega
  have z1 : (q : Int) ≠ 0 := by omega
  have z2 : ¬ (n : Int) < (q : Int) := by omega
  have D1 : decide ((n : Int) < (q : Int)) = false := by simp; omega
  clear h hn hN0 p0 p2 p3 l1 l2 l3 hcell hC hT q0 hqn hq
  go_enter Tryd.func7, Tryd.ntmps7
  go_upto_region 8 with (first
    | (go_at_call 9; (with_reducible refine k1.mono ?_); rintro e w1 ⟨rfl, HB1, k2⟩)
    | (go_at_call 10; (with_reducible refine k2.mono ?_); rintro e w2 ⟨k, N, rfl, HN, k3⟩)
    | (go_at_call 11; (with_reducible refine k3.mono ?_); rintro e w3 ⟨s, rfl, HS, HB⟩))
  clear k1 k2 k3 hmk W0 p1 e1 e2 e3
  have hmr := make_rows14 N (by have := HN.out.2.2.2; omega) w3
  obtain ⟨gr, hgr⟩ : ∃ gr, gr = w3.heap.size := ⟨_, rfl⟩
  obtain ⟨W3, hW3⟩ : ∃ W3, W3 = w3.alloc (.cells (madeCells #[.slice none 0 0] N) 22) := ⟨_, rfl⟩
  have HW3 : Hid (Cl w3 W3 gr N q 0 (fun _ => 0) (fun _ => 0) (fun _ _ => 0) F ∧ w3.heap.size ≤ gr ∧ N * q ≤ n) := by
    refine ⟨⟨by rw [hW3]; exact below_alloc _ _, ?_, fun j hj => absurd hj (Nat.not_lt_zero _), fun j j' hj => absurd hj (Nat.not_lt_zero _)⟩, by rw [hgr]; exact Nat.le_refl _, Nat.le_trans (Nat.mul_le_mul_right q HN.out.2.2.1) HQ.out.2.2.2.2.2.2.1⟩
    rw [hW3, hgr]
    exact (World.rowIs_made w3 (.slice none 0 0) N 22).congr (fun j hj => by rw [if_neg (Nat.not_lt_zero _)])
  replace hgr : Hid (gr = w3.heap.size) := hgr
  replace hW3 : Hid (W3 = w3.alloc (.cells (madeCells #[.slice none 0 0] N) 22)) := hW3
  go_wp2
  rw [← hgr.out, ← hW3.out]
  clear hmr hgr hW3
  go_loopw [11] (fun iv wr => ∃ (i : Nat) (B C : Nat → Nat) (G : Nat → Nat → Nat), i ≤ N ∧ iv = .int .i64 i ∧ Cl w3 wr gr N q i B C G F) (fun iv _ => N - (intOf iv).toNat)
  case atStart => exact ⟨0, _, _, _, Nat.zero_le _, rfl, HW3.out.1⟩
  case round =>
    obtain ⟨i, B, C, G, hi, rfl, hl⟩ := hrel
    by_cases hlt : i < N
    · obtain ⟨X, hX⟩ : ∃ X, X = i * q := ⟨_, rfl⟩
      have HWW : Hid (wrap64 ((i : Int) * (q : Int)) = (X : Int) ∧ wrap64 ((X : Int) + (q : Int)) = ((X + q : Nat) : Int) ∧ X + q ≤ n ∧ ((i : Nat) : Int) < (N : Int) ∧ wrap64 ((i : Int) + 1) = (i : Int) + 1 ∧ X ≤ 2048) := col_wraps hlt HH.out.2 HN.out.2.2.2 HW3.out.2.2 hX
      have x1 := HWW.out.2.2.1
      have tb := HWW.out.2.2.2.1
      have x2 := HWW.out.2.2.2.2.2
      obtain ⟨q1, q2, q3, q4, q5, q6, q7, q8⟩ := HQ.out
      have bw : Below w.heap.size w wr := bthen13 HB.out hl.bel
      have hsl : ∀ W, (Instr.slice 22 (.slice (some ⟨b, o, none⟩) n cap) (some (.int .i64 (X : Int))) (some (.int .i64 ((X + q : Nat) : Int))) none).run Tryd.prog W = .ok (.slice (some ⟨b, o + X, none⟩) q (cap - X)) W := fun W => by
        rw [cut6 b o n cap X (X + q) (by have := HH.out.1; omega) x1 q1, Nat.add_sub_cancel_left]
      have qq : Q6 wr (.slice (some ⟨b, o + X, none⟩) q (cap - X)) q (fun x => F (X + x)) := by
        refine ⟨by have := HH.out.2; unfold big; omega, fun x hx => q4 _ (by omega), _, _, rfl, by omega, by omega, fun _ => ⟨b, o + X, rfl, Nat.lt_of_lt_of_le q2 bw.size, fun x hx => ?_⟩⟩
        rw [bw.cell (p := ⟨b, o + X + x, none⟩) q2, Nat.add_assoc]
        exact q3 (X + x) (by omega)
      obtain ⟨w4, g, C0, F0, run, hC0, hg, hR, hF, hb4⟩ := app_lit14 wr qq (by have := HH.out.2; omega)
      have nx := hl.next HW3.out.2.1 hlt hb4 hg hR hC0 (fun x hx => by rw [← hX]; exact hF x hx)
      have y1 : w4.cell? ⟨gr, i, none⟩ = some (.slice none 0 0) := by
        have := (hl.lst.of_block (hb4.block gr hl.lst.lt)).cell (i := i) hlt
        rw [if_neg (Nat.lt_irrefl _)] at this
        exact this
      have y2 := (hl.lst.of_block (hb4.block gr hl.lst.lt)).frozen i
      obtain ⟨Z, hZ⟩ : ∃ Z, Z = X + q := ⟨_, rfl⟩
      have W1 := HWW.out.1
      have W2 := HWW.out.2.1
      have W3' := HWW.out.2.2.2.2.1
      rw [← hZ] at W2 hsl
      have HX : Hid (Cl w3 (w4.setCell ⟨gr, i, none⟩ (.slice (some ⟨g, 0, none⟩) q C0)) gr N q (i + 1) (fun j => if j = i then g else B j) (fun j => if j = i then C0 else C j) (fun j => if j = i then F0 else G j) F) := nx
      clear hl hX x1 x2 q1 q2 q3 q4 q5 q6 q7 q8 bw qq hC0 hg hR hF hb4 nx hZ
      go_wp2_with (at_builtin; refine Lib.wpList_append_run _ rfl _ _ _ _ rfl _ _ rfl rfl _ _ run ?_)
      go_roundw
      case rel => exact ⟨i + 1, _, _, _, hlt, by first | rfl | (rw [W3']; rfl), HX.out⟩
      case measure => first | exact meas_lt8 hlt | (rw [W3']; exact meas_lt8 hlt)
    · obtain rfl : i = N := Nat.le_antisymm hi (Nat.le_of_not_lt hlt)
      obtain ⟨q1, q2, q3, q4, q5, q6, q7, q8⟩ := HQ.out
      have bw : Below w.heap.size w wr := bthen13 HB.out hl.bel
      have hE : ∀ x, Eb B i x → w.heap.size ≤ x := fun x ⟨j, hj, e⟩ => by
        have h1 := (hl.row j hj).2.2.1
        have h2 := HW3.out.2.1
        have h3 := HB.out.size
        omega
      have k5 := fwr14 k i q s gr 0 i B C G w wr ((Bs.self q5 q6).then bw) hE hl.rw (pow16 HN.out.2.1 (by have := HN.out.2.2.2; omega)) HN.out.2.1 HS.out.1 HS.out.2 (by have := HH.out.2; omega)
      have tb : ¬ ((i : Nat) : Int) < (i : Int) := by omega
      have HG : Hid ((∀ j, j < i → ∀ x, x < q → G j x = F (j * q + x)) ∧ Below w.heap.size w wr ∧ (∀ x, Eb B i x → w.heap.size ≤ x)) := ⟨fun j hj => (hl.row j hj).2.2.2, bw, hE⟩
      clear hl bw hE q1 q2 q3 q4 q5 q6 q7 q8
      go_wp2_with (go_at_call 19; (with_reducible refine k5.mono ?_); rintro e w5 ⟨rfl, R5, K5⟩)
      clear k5
      have HM : Hid (Rw w5 gr 0 i q B C (cw q (fun f => fw s k f k) G) ∧ Below w.heap.size w w5) := ⟨R5, HG.out.2.1.trans (K5.below HG.out.2.2 HG.out.2.1.size)⟩
      clear R5 K5
      go_loopw [12] (fun cv wc => ∃ c : Nat, c ≤ q ∧ cv = .int .i64 c ∧ Below w5.heap.size w5 wc) (fun cv _ => q - (intOf cv).toNat)
      case atStart => exact ⟨0, Nat.zero_le _, rfl, Below.refl _ _⟩
      case round =>
        rename_i hrel
        obtain ⟨c, hc, rfl, hb6⟩ := hrel
        by_cases hlc : c < q
        · have hmk := make_w6 i (by have := HN.out.2.2.2; omega) wr
          obtain ⟨gl, hgl⟩ : ∃ gl, gl = wr.heap.size := ⟨_, rfl⟩
          obtain ⟨W6, hW6⟩ : ∃ W6, W6 = wr.alloc (.cells (madeCells #[.int .u16 0] i) 31) := ⟨_, rfl⟩
          have HL : Hid (R6 W6 gl i (fun _ => 0) ∧ Below w5.heap.size w5 W6 ∧ w5.heap.size ≤ gl) := by
            rw [hW6, hgl]
            exact ⟨made_r6 i (by have := HN.out.2.2.2; omega) _, bthen13 hb6 (made_b6 i _), hb6.size⟩
          have tc : ((c : Nat) : Int) < (q : Int) := by omega
          have HWc : Hid (wrap64 ((c : Int) + 1) = (c : Int) + 1) := wrap_succ8 (j := c) (by have := HH.out.2; unfold big; omega)
          replace hgl : Hid (gl = wr.heap.size) := hgl
          replace hW6 : Hid (W6 = wr.alloc (.cells (madeCells #[.int .u16 0] i) 31)) := hW6
          clear hb6
          go_wp2
          rw [← hgl.out, ← hW6.out]
          clear hmk hgl hW6
          go_loopw [14] (fun jv wz => ∃ j : Nat, j ≤ i ∧ jv = .int .i64 j ∧ R6 wz gl i (pl (fun _ => 0) 0 j (fun y => F (y * q + c))) ∧ Kp gl W6 wz) (fun jv _ => i - (intOf jv).toNat)
          case atStart => exact ⟨0, Nat.zero_le _, rfl, by rw [pl_none]; exact HL.out.1, Kp.refl _ _⟩
          case round =>
            rename_i hrel
            obtain ⟨j, hj, rfl, hr, hk⟩ := hrel
            have bl : Below w5.heap.size w5 wr := HL.out.2.1.trans (hk.below HL.out.2.2 HL.out.2.1.size)
            have bw : Below w.heap.size w wr := bthen13 HM.out.2 bl
            by_cases hlj : j < i
            · obtain ⟨X, hX⟩ : ∃ X, X = j * q := ⟨_, rfl⟩
              have HWW : Hid (wrap64 ((j : Int) * (q : Int)) = (X : Int) ∧ wrap64 ((X : Int) + (q : Int)) = ((X + q : Nat) : Int) ∧ X + q ≤ n ∧ ((j : Nat) : Int) < (i : Int) ∧ wrap64 ((j : Int) + 1) = (j : Int) + 1 ∧ X ≤ 2048) := col_wraps hlj HH.out.2 HN.out.2.2.2 HW3.out.2.2 hX
              obtain ⟨Y, hY⟩ : ∃ Y, Y = X + c := ⟨_, rfl⟩
              have HWY : Hid (wrap64 ((X : Int) + (c : Int)) = (Y : Int) ∧ ((Y : Nat) : Int) < (n : Int) ∧ Y < n) := col_at HWW.out.2.2.2.2.2 hlc HH.out.2 HWW.out.2.2.1 hY
              obtain ⟨q1, q2, q3, q4, q5, q6, q7, q8⟩ := HQ.out
              have y1 := (bw.cell (p := ⟨b, o + Y, none⟩) q2).trans (q3 Y HWY.out.2.2)
              have y2 := hr.2.2.cell (i := j) hlj
              have y3 := hr.2.2.frozen j
              have l1 := q4 Y HWY.out.2.2
              have HV : Hid (R6 (wr.setCell ⟨gl, j, none⟩ (.int .u16 (F Y : Nat))) gl i (pl (fun _ => 0) 0 (j + 1) (fun y => F (y * q + c))) ∧ Kp gl W6 (wr.setCell ⟨gl, j, none⟩ (.int .u16 (F Y : Nat)))) :=
                ⟨(hr.set _ _ l1).congr (fun x hx => by
                  have := congrFun (pl_next (F := fun _ => 0) (S := fun y => F (y * q + c)) (o := 0) (t := j)) x
                  rw [Nat.zero_add, ← hX, ← hY] at this
                  exact this), hk.setCell _ _⟩
              obtain ⟨D, hD⟩ : ∃ D, D = F Y := ⟨_, rfl⟩
              rw [← hD] at y1 HV
              have tb := HWW.out.2.2.2.1
              have tY := HWY.out.2.1
              have W1 := HWW.out.1
              have W2 := HWW.out.2.2.2.2.1
              have W4 := HWY.out.1
              clear hr hk bl bw q1 q2 q3 q4 q5 q6 q7 q8 l1 hD hX hY
              go_wp2
              go_roundw
              case rel => exact ⟨j + 1, hlj, by first | rfl | (rw [W2]; rfl), HV.out.1, HV.out.2⟩
              case measure => first | exact meas_lt8 hlj | (rw [W2]; exact meas_lt8 hlj)
            · obtain rfl : j = i := Nat.le_antisymm hj (Nat.le_of_not_lt hlj)
              obtain ⟨q1, q2, q3, q4, q5, q6, q7, q8⟩ := HQ.out
              have k7 := fwd14 (.slice (some ⟨gl, 0, none⟩) j j) k j s (fun y => F (y * q + c)) w wr ((Bs.self q5 q6).then bw) (hr.all.congr (fun y hy => by rw [pl0, if_pos hy])) (pow16 HN.out.2.1 (by have := HN.out.2.2.2; omega)) HN.out.2.1 HS.out.1 HS.out.2
              obtain ⟨g7, hg7⟩ : ∃ g7, g7 = wr.heap.size := ⟨_, rfl⟩
              rw [← hg7] at k7
              have HB6 : Hid (Below w5.heap.size w5 wr ∧ wr.heap.size = g7) := ⟨bl, hg7.symm⟩
              have tb : ¬ ((j : Nat) : Int) < (j : Int) := by omega
              clear hr hk bl bw q1 q2 q3 q4 q5 q6 q7 q8 hg7
              go_wp2_with (go_at_call 13; (with_reducible refine k7.mono ?_); rintro e w7 ⟨rfl, r7, b7⟩)
              have H7 : Hid (R6 w7 g7 j (fw s k (fun y => F (y * q + c)) k) ∧ Below w5.heap.size w5 w7) := ⟨r7, HB6.out.1.trans (b7.mono (by have := HB6.out.1.size; have := HB6.out.2; omega))⟩
              clear k7 r7 b7 HB6
              go_loopw [17] (fun yv wq => ∃ y d : Nat, y ≤ j ∧ yv = .int .i64 y ∧ wq = w7.drewN d) (fun yv _ => j - (intOf yv).toNat)
              case atStart => exact ⟨0, 0, Nat.zero_le _, rfl, rfl⟩
              case round =>
                rename_i hrel
                obtain ⟨y, d, hy, rfl, hw⟩ := hrel
                by_cases hly : y < j
                · obtain ⟨m1, m2⟩ := H7.out
                  have R7 := HM.out.1.below m2
                  have y1 : wr.cell? ⟨gr, y, none⟩ = some (.slice (some ⟨B y, 0, none⟩) q (C y)) := by
                    rw [hw]
                    have := R7.cell y hly
                    rw [Nat.zero_add] at this
                    exact this
                  have ev : cw q (fun f => fw s k f k) G y c = fw s k (fun z => F (z * q + c)) k y := by
                    unfold cw
                    rw [if_pos hlc]
                    exact fw_congr (fun z hz => HG.out.1 z (by rw [HN.out.2.1]; exact hz) c hlc) k (Nat.le_refl _) y (by rw [← HN.out.2.1]; exact hly)
                  have y2 : wr.cell? ⟨B y, c, none⟩ = some (.int .u16 (fw s k (fun z => F (z * q + c)) k y : Nat)) := by
                    rw [hw, ← ev]
                    exact (R7.row y hly).2.2.cell (i := c) (by have := R7.len y hly; omega)
                  have y3 : wr.cell? ⟨g7, y, none⟩ = some (.int .u16 (fw s k (fun z => F (z * q + c)) k y : Nat)) := by rw [hw]; exact m1.2.2.cell (i := y) hly
                  obtain ⟨V, hV⟩ : ∃ V, V = fw s k (fun z => F (z * q + c)) k y := ⟨_, rfl⟩
                  rw [← hV] at y2 y3
                  obtain ⟨Cy, hCy⟩ : ∃ Cy, Cy = C y := ⟨_, rfl⟩
                  obtain ⟨By, hBy⟩ : ∃ By, By = B y := ⟨_, rfl⟩
                  rw [← hCy, ← hBy] at y1
                  rw [← hBy] at y2
                  have HX : Hid (wr = w7.drewN d) := hw
                  have tb2 : ((y : Nat) : Int) < (j : Int) := by omega
                  have W1 := wrap_succ8 (j := y) (by have := HN.out.2.2.2; unfold big; omega)
                  clear hw m1 m2 R7 ev hV hCy hBy
                  go_wp2
                  go_quiet (fail)
                  go_wp2
                  go_roundw
                  case rel => exact ⟨y + 1, d + nq, hly, by first | rfl | (rw [W1]; rfl), by rw [HX.out, World.drewN_drewN]⟩
                  case measure => first | exact meas_lt8 hly | (rw [W1]; exact meas_lt8 hly)
                · have tb2 : ¬ ((y : Nat) : Int) < (j : Int) := by omega
                  have HX : Hid (wr = w7.drewN d) := hw
                  have W1 := HWc.out
                  clear hw
                  go_wp2
                  go_roundw
                  case rel => exact ⟨c + 1, hlc, by first | rfl | (rw [W1]; rfl), by rw [HX.out]; exact below_drewN H7.out.2 d⟩
                  case measure => first | exact meas_lt8 hlc | (rw [W1]; exact meas_lt8 hlc)
        · obtain ⟨q1, q2, q3, q4, q5, q6, q7, q8⟩ := HQ.out
          have bw : Below w.heap.size w wr := bthen13 HM.out.2 hb6
          have k8 := ivr14 k i q s gr 0 i B C _ w wr ((Bs.self q5 q6).then bw) HG.out.2.2 (HM.out.1.below hb6) (pow16 HN.out.2.1 (by have := HN.out.2.2.2; omega)) HN.out.2.1 HS.out.1 HS.out.2 (by have := HH.out.2; omega)
          rw [cw_cw, show (fun f => iw s (fw s k f k) k) = fun f => f from funext fun f => iw_fw s k f, cw_id] at k8
          have HBw : Hid (Below w.heap.size w wr) := bw
          have tc : ¬ ((c : Nat) : Int) < (q : Int) := by omega
          clear bw hb6 q1 q2 q3 q4 q5 q6 q7 q8
          go_wp2_with (go_at_call 20; (with_reducible refine k8.mono ?_); rintro e w9 ⟨rfl, R9, K9⟩)
          clear k8
          have H9 : Hid (Rw w9 gr 0 i q B C G ∧ Below w.heap.size w w9) := ⟨R9, HBw.out.trans (K9.below HG.out.2.2 HBw.out.size)⟩
          clear R9 K9 HBw
          go_loopw [18] (fun yv wq => ∃ y d : Nat, y ≤ i ∧ yv = .int .i64 y ∧ wq = w9.drewN d) (fun yv _ => i - (intOf yv).toNat)
          case atStart => exact ⟨0, 0, Nat.zero_le _, rfl, rfl⟩
          case round =>
            rename_i hrel
            obtain ⟨y, d, hy, rfl, hw⟩ := hrel
            by_cases hly : y < i
            · obtain ⟨X, hX⟩ : ∃ X, X = y * q := ⟨_, rfl⟩
              have HWW : Hid (wrap64 ((y : Int) * (q : Int)) = (X : Int) ∧ wrap64 ((X : Int) + (q : Int)) = ((X + q : Nat) : Int) ∧ X + q ≤ n ∧ ((y : Nat) : Int) < (i : Int) ∧ wrap64 ((y : Int) + 1) = (y : Int) + 1 ∧ X ≤ 2048) := col_wraps hly HH.out.2 HN.out.2.2.2 HW3.out.2.2 hX
              obtain ⟨q1, q2, q3, q4, q5, q6, q7, q8⟩ := HQ.out
              obtain ⟨m1, m2⟩ := H9.out
              have x1 := HWW.out.2.2.1
              have y1 : wr.cell? ⟨gr, y, none⟩ = some (.slice (some ⟨B y, 0, none⟩) q (C y)) := by
                rw [hw]
                have := m1.cell y hly
                rw [Nat.zero_add] at this
                exact this
              have qq : ∀ m, Q6 (wr.drewN m) (.slice (some ⟨b, o + X, none⟩) q (cap - X)) q (fun x => F (X + x)) := fun m => by
                rw [hw, World.drewN_drewN]
                refine ⟨by have := HH.out.2; unfold big; omega, fun x hx => q4 _ (by omega), _, _, rfl, by omega, by omega, fun _ => ⟨b, o + X, rfl, Nat.lt_of_lt_of_le q2 m2.size, fun x hx => ?_⟩⟩
                show w9.cell? _ = _
                rw [m2.cell (p := ⟨b, o + X + x, none⟩) q2, Nat.add_assoc]
                exact q3 (X + x) (by omega)
              have qr : ∀ m, Q6 (wr.drewN m) (.slice (some ⟨B y, 0, none⟩) q (C y)) q (fun x => F (X + x)) := fun m => by
                rw [hw, World.drewN_drewN]
                exact ((m1.row y hly).q6 (m1.len y hly) (m1.len y hly) (m1.row y hly).1 (fun x hx => by rw [hX]; exact HG.out.1 y hly x hx)).drewN _
              have hsl : ∀ W, (Instr.slice 22 (.slice (some ⟨b, o, none⟩) n cap) (some (.int .i64 (X : Int))) (some (.int .i64 ((X + q : Nat) : Int))) none).run Tryd.prog W = .ok (.slice (some ⟨b, o + X, none⟩) q (cap - X)) W := fun W => by
                rw [cut6 b o n cap X (X + q) (by have := HH.out.1; omega) x1 q1, Nat.add_sub_cancel_left]
              have c9 : ∀ m, Calls Tryd.prog 14 #[.slice (some ⟨B y, 0, none⟩) q (C y), .slice (some ⟨b, o + X, none⟩) q (cap - X)] (wr.drewN m) fun e w' => e = .returned (.bool true) ∧ ∃ j, w' = (wr.drewN m).drewN j := fun m => alike14 _ _ q _ _ (qr m) (qq m)
              obtain ⟨Z, hZ⟩ : ∃ Z, Z = X + q := ⟨_, rfl⟩
              have tb := HWW.out.2.2.2.1
              have W1 := HWW.out.1
              have W2 := HWW.out.2.1
              have W3' := HWW.out.2.2.2.2.1
              rw [← hZ] at W2 hsl
              obtain ⟨By, hBy⟩ : ∃ By, By = B y := ⟨_, rfl⟩
              obtain ⟨Cy, hCy⟩ : ∃ Cy, Cy = C y := ⟨_, rfl⟩
              rw [← hBy, ← hCy] at y1
              rw [← hBy, ← hCy] at c9
              have HX : Hid (wr = w9.drewN d) := hw
              clear hw m1 m2 q1 q2 q3 q4 q5 q6 q7 q8 qq qr hX x1 hZ hBy hCy
              go_wp2
              go_quiet (first | (go_at_call 14; with_reducible exact Calls.quiet_of (c9 _)))
              go_wp2
              go_roundw
              case rel => exact ⟨y + 1, d + nq, hly, by first | rfl | (rw [W3']; rfl), by rw [HX.out, World.drewN_drewN]⟩
              case measure => first | exact meas_lt8 hly | (rw [W3']; exact meas_lt8 hly)
            · have tb2 : ¬ ((y : Nat) : Int) < (i : Int) := by omega
              have HX : Hid (wr = w9.drewN d) := hw
              clear hw
              go_wp2
              go_ret
              exact ⟨rfl, by rw [HX.out]; exact below_drewN H9.out.2 d⟩
set_option maxHeartbeats 4000000 in
set_option maxRecDepth 100000 in
theorem afftColumns_any (a0 : Option Addr) (n cap : Nat) (cl a : Int) (w : World) (h : Qbm w a0 n cap) (hC : Cab w) (hT : Tzt w) :
    Calls Tryd.prog 7 #[.slice a0 n cap, .int .i64 cl, .int .i64 a] w fun e w' => e = .returned (.bool true) ∧ Below w.heap.size w w' := by
  obtain ⟨r, v, q, e1, e2, e3, hq⟩ := col_q cl
  obtain ⟨hn, F, hQ⟩ := h
  have k1 := awake14 w hC hT
  by_cases q0 : q = 0
  · subst q0
    clear hQ hC hT hn
    go_enter Tryd.func7, Tryd.ntmps7
    go_wp2_with (go_at_call 9; ((with_reducible refine (k1).mono ?_); (rintro e w1 ⟨rfl, HB⟩)))
    go_ret
    exact ⟨rfl, HB⟩
  · by_cases hqn : q ≤ n
    · obtain ⟨b, o, rfl⟩ : ∃ b o, a0 = some ⟨b, o, none⟩ := by
        obtain ⟨-, -, a, cap', e, -, -, h4⟩ := hQ
        cases e
        obtain ⟨b, o, e, -⟩ := h4 (by omega)
        exact ⟨b, o, e⟩
      exact afftColumns_main b o n cap cl a F r v q w hQ hn e1 e2 e3 hq (by omega) hqn hC hT
    · have z0 : ((q : Int) == 0) = false := by simp; omega
      have z1 : (q : Int) ≠ 0 := by omega
      have z2 : (n : Int) < (q : Int) := by omega
      have D1 : decide ((n : Int) < (q : Int)) = true := by simp; omega
      clear hQ hC hT hn
      go_enter Tryd.func7, Tryd.ntmps7
      go_wp2_with (go_at_call 9; ((with_reducible refine (k1).mono ?_); (rintro e w1 ⟨rfl, HB⟩)))
      go_ret
      exact ⟨rfl, HB⟩
end Go.Proofs.YtemjodlhpelbaaaDoor
