import Derived.Test.YtgdnjbaohfiijaaDoorRj6
namespace Go.Proofs.YtgdnjbaohfiijaaDoor
open Go.RowKit Gf2
set_option linter.unusedVariables false

-- (laid by wip/genrgj.py)
set_option maxHeartbeats 2000000 in
set_option maxRecDepth 100000 in
theorem refRows14_fwd (A : Option Addr) (gb ob nr cr n s : Nat) (X : Nat → Option Addr) (L Cx : Nat → Nat) (F : Nat → Nat → Nat) (w : World) (hA : 0 < nr → A = some ⟨gb, ob, none⟩) (h : Ri14 w gb ob nr X L Cx F) (hn : 24 * nr ≤ 140737488351232) (k : Nat) (hp : nr = 2 ^ k) (hk : k ≤ 16) (hr1 : 0 < nr) (hr2 : ∀ j, j < nr → L j = L 0) (hL0 : L 0 = n) (hd : nr ∣ s) (hs : s + nr ≤ 65536) :
    Calls Tryd.prog 37 #[.slice A nr cr, .int .i64 (s : Int), .bool false] w fun e w' => ∃ (gr : Nat), e = .returned (.tuple #[.slice (some ⟨gr, 0, none⟩) nr nr, .int .i64 0]) ∧ w.heap.size ≤ gr ∧ ∃ (B C : Nat → Nat) (G : Nat → Nat → Nat), Lr w w' gr nr nr L (cw n (fun f => fw s k f k) F) false B C G := by
  have k1 := refPow_yes k nr hp hk
  have k4 := refCoset (s : Int) nr nr hr1
  rw [show decide (Beg (s : Int) nr nr) = true from decide_eq_true (beg_of hd hs)] at k4
  have HP : Hid (nr = 2 ^ k ∧ k ≤ 16 ∧ nr ∣ s ∧ s + nr ≤ 65536 ∧ L 0 = n) := ⟨hp, hk, hd, hs, hL0⟩
  have hmr := make_rows14 nr (by omega) w
  obtain ⟨gr, hgr⟩ : ∃ gr, gr = w.heap.size := ⟨_, rfl⟩
  obtain ⟨W3, hW3⟩ : ∃ W3, W3 = w.alloc (.cells (madeCells #[.slice none 0 0] nr) 26) := ⟨_, rfl⟩
  have HW3 : Hid (Lr w W3 gr nr 0 L F false (fun _ => 0) (fun _ => 0) (fun _ _ => 0) ∧ w.heap.size ≤ gr) := by
    refine ⟨⟨by rw [hW3]; exact below_alloc _ _, ?_, fun j hj => absurd hj (Nat.not_lt_zero _), fun j j' hj => absurd hj (Nat.not_lt_zero _)⟩, by rw [hgr]; exact Nat.le_refl _⟩
    rw [hW3, hgr]
    exact (World.rowIs_made w (.slice none 0 0) nr 26).congr (fun j hj => by rw [if_neg (Nat.not_lt_zero _)])
  have HR : Hid (Ri14 w gb ob nr X L Cx F ∧ 24 * nr ≤ 140737488351232 ∧ (0 < nr → A = some ⟨gb, ob, none⟩) ∧ 0 < nr ∧ ∀ j, j < nr → L j = L 0) := ⟨h, hn, hA, hr1, hr2⟩
  replace hgr : Hid (gr = w.heap.size) := hgr
  replace hW3 : Hid (W3 = w.alloc (.cells (madeCells #[.slice none 0 0] nr) 26)) := hW3
  clear h hn hA hp hr1 hr2 hs hk hd hL0
  go_enter Tryd.func37, Tryd.ntmps37
  go_wp2
  rw [← hgr.out, ← hW3.out]
  go_loopw [9] (fun iv wr => ∃ (i : Nat) (B C : Nat → Nat) (G : Nat → Nat → Nat), i ≤ nr ∧ iv = .int .i64 i ∧ Lr w wr gr nr i L F false B C G) (fun iv _ => nr - (intOf iv).toNat)
  case atStart => exact ⟨0, _, _, _, Nat.zero_le _, rfl, HW3.out.1⟩
  case round =>
    obtain ⟨i, B, C, G, hi, rfl, hl⟩ := hrel
    by_cases hlt : i < nr
    · obtain rfl := HR.out.2.2.1 (by omega)
      have ib : ((i : Nat) : Int) < (nr : Int) := Int.ofNat_lt.mpr hlt
      have hr := HR.out.1.below hl.bel
      have c0 := hr.cell i hlt
      have c1 : (wr.alloc (.cells #[] 34)).cell? ⟨gb, ob + i, none⟩ = some (.slice (X i) (L i) (Cx i)) := ((below_alloc wr _).cell (p := ⟨gb, ob + i, none⟩) hr.lt).trans c0
      obtain ⟨w4, g4, C4, F4, run4, hC4, hg4, hR4, hF4, hb4⟩ := app_lit14 wr (hr.row i hlt) (lens14 (hr.len i hlt)).1
      have y1 : w4.cell? ⟨gr, i, none⟩ = some (.slice none 0 0) := by
        have := (hl.lst.of_block (hb4.block gr hl.lst.lt)).cell (i := i) hlt
        rw [if_neg (Nat.lt_irrefl _)] at this
        exact this
      have y2 := (hl.lst.of_block (hb4.block gr hl.lst.lt)).frozen i
      have W1 : wrap64 ((i : Int) + 1) = (i : Int) + 1 := wrap14 hlt HR.out.2.1
      have HX : Hid (Lr w (w4.setCell ⟨gr, i, none⟩ (.slice (some ⟨g4, 0, none⟩) (L i) C4)) gr nr (i + 1) L F false _ _ _) := hl.next HW3.out.2 hlt hb4 hg4 hR4 hC4 hF4 (fun e => by cases e)
      obtain ⟨Y, hY⟩ : ∃ Y, Y = L i := ⟨_, rfl⟩
      rw [← hY] at *
      clear hl hr hC4 hg4 hR4 hF4 hb4 hmr hW3 hgr k1
      go_wp2_with (at_builtin; refine Lib.wpList_append_run _ rfl _ _ _ _ rfl _ _ rfl rfl _ _ run4 ?_)
      go_roundw
      case rel => exact ⟨i + 1, _, _, _, hlt, by first | rfl | (rw [W1]; rfl), HX.out⟩
      case measure => first | exact meas_lt8 hlt | (rw [W1]; exact meas_lt8 hlt)
    · obtain rfl : i = nr := Nat.le_antisymm hi (Nat.le_of_not_lt hlt)
      have tb : ¬ ((i : Nat) : Int) < (i : Int) := by omega
      obtain ⟨wz, hz0⟩ : ∃ wz, wz = wr := ⟨_, rfl⟩
      have HL : Hid (Lr w wz gr i i L F false B C G) := by rw [hz0]; exact hl
      have HZ : Hid (wz = wr) := hz0
      have k2 := k1 wr
      clear hl hmr hW3 hgr k1 hz0
      obtain rfl := HR.out.2.2.1 HR.out.2.2.2.1
      go_wp2_with (go_at_call 31; ((with_reducible refine (k2).mono ?_); rintro e w' ⟨rfl, rfl⟩))
      go_loopw [10] (fun jv wt => ∃ j m : Nat, j ≤ i ∧ jv = .int .i64 j ∧ wt = wz.drewN m) (fun jv _ => i - (intOf jv).toNat)
      case atStart => exact ⟨0, 0, Nat.zero_le _, rfl, HZ.out.symm⟩
      case round =>
        obtain ⟨j, m, hj, rfl, hw⟩ := hrel
        by_cases hji : j < i
        · have e := HR.out.2.2.2.2 j hji
          have ib : ((j : Nat) : Int) < (i : Int) := Int.ofNat_lt.mpr hji
          have i0 : 0 < i := Nat.lt_of_le_of_lt (Nat.zero_le _) hji
          have ib0 : (0 : Int) < (i : Int) := Int.ofNat_lt.mpr i0
          have hr := HR.out.1.below HL.out.bel
          have c0 : wr.cell? ⟨gb, ob + j, none⟩ = some (.slice (X j) (L j) (Cx j)) := by rw [hw]; exact hr.cell j hji
          have c1 : wr.cell? ⟨gb, ob, none⟩ = some (.slice (X 0) (L 0) (Cx 0)) := by rw [hw]; exact hr.cell 0 i0
          have HW : Hid (wr = wz.drewN m) := hw
          have W1 : wrap64 ((j : Int) + 1) = (j : Int) + 1 := wrap14 hji HR.out.2.1
          clear hr hw
          rw [e] at c0
          clear k4
          go_wp2
          go_quiet (fail)
          go_wp2
          go_roundw
          case rel => exact ⟨j + 1, m + nq, hji, by first | rfl | (rw [W1]; rfl), by rw [HW.out, World.drewN_drewN]⟩
          case measure => first | exact meas_lt8 hji | (rw [W1]; exact meas_lt8 hji)
        · obtain rfl : j = i := Nat.le_antisymm hj (Nat.le_of_not_lt hji)
          have k5 := k4 wr
          have HW : Hid (wr = wz.drewN m) := hw
          have k6 := elems14b wr
          have HLz : Hid (Lr w wr gr j j L F false B C G ∧ ∀ y, y < j → B y < wr.heap.size) := by
            rw [hw]
            exact ⟨HL.out.below (below_drewN (Below.refl _ _) _), fun y hy => (HL.out.row y hy).1.lt⟩
          clear hw k4 HZ
          go_wp2_with (first | (go_at_call 32; ((with_reducible refine (k5).mono ?_); rintro e w' ⟨rfl, rfl⟩)) | (go_at_call 34; ((with_reducible refine (k6).mono ?_); (rintro e w1 ⟨gw, cw', rfl, hWe, hgw, bE⟩))))
          have HB : Hid ((∀ y, y < j → B y < gw) ∧ w.heap.size ≤ gr) := ⟨fun y hy => Nat.lt_of_lt_of_le (HLz.out.2 y hy) hgw, HW3.out.2⟩
          have H0 : Hid (Lr w w1 gr j j L (cz (fun f => fw s k f k) F 0 0) false B C G ∧ We14 w1 gw) := ⟨(HLz.out.1.below bE).congrF (fun y hy x hx => (cz_zero _ _ _ _).symm), hWe⟩
          clear k5 k6 HW HL hWe bE HLz hgw
          go_loopw [12] (fun cv wc => ∃ (c : Nat) (G : Nat → Nat → Nat), c ≤ n ∧ cv = .int .i64 c ∧ Lr w wc gr j j L (cz (fun f => fw s k f k) F c 0) false B C G ∧ We14 wc gw) (fun cv _ => n - (intOf cv).toNat)
          case atStart => exact ⟨0, G, Nat.zero_le _, rfl, H0.out.1, H0.out.2⟩
          case round =>
            obtain ⟨c, G, hc, rfl, hl, hWe⟩ := hrel
            clear H0
            have j0 := HR.out.2.2.2.1
            have ib0 : (0 : Int) < (j : Int) := Int.ofNat_lt.mpr j0
            have hr := HR.out.1.below hl.bel
            have c0 : wr.cell? ⟨gb, ob, none⟩ = some (.slice (X 0) n (Cx 0)) := by have := hr.cell 0 j0; rw [HP.out.2.2.2.2] at this; exact this
            by_cases hlt : c < n
            · have cb : ((c : Nat) : Int) < (n : Int) := Int.ofNat_lt.mpr hlt
              have hj6 : j ≤ 65536 := by have := HP.out.2.2.2.1; omega
              have hmk := make_w6 j (by omega) wr
              have hn2 : 2 * n ≤ 140737488351232 := by have := HR.out.1.len 0 j0; rw [HP.out.2.2.2.2] at this; exact this
              obtain ⟨gl, hgl⟩ : ∃ gl, gl = wr.heap.size := ⟨_, rfl⟩
              obtain ⟨W4, hW4⟩ : ∃ W4, W4 = wr.alloc (.cells (madeCells #[.int .u16 0] j) 34) := ⟨_, rfl⟩
              have H4 : Hid (R6 W4 gl j (fun _ => 0) ∧ Lr w W4 gr j j L (cz (fun f => fw s k f k) F c 0) false B C G ∧ We14 W4 gw ∧ Ri14 W4 gb ob j X L Cx F ∧ (∀ y, y < j → B y < gl) ∧ gr < gl ∧ gw < gl ∧ gb < gl ∧ (∀ y b o, y < j → 0 < L y → X y = some ⟨b, o, none⟩ → b < gl)) := by
                have b4 := made_b6 j wr
                rw [hW4, hgl]
                refine ⟨made_r6 j (by omega) wr, hl.below b4, hWe.below b4, hr.below b4, fun y hy => (hl.row y hy).1.lt, hl.lst.lt, hWe.1, hr.lt, fun y b o hy h0 e => ?_⟩
                obtain ⟨-, -, a, cap, e1, -, -, h4⟩ := hr.row y hy
                cases e1
                obtain ⟨b', o', e2, hl', -⟩ := h4 h0
                rw [e] at e2
                cases e2
                exact hl'
              have HC : Hid (c < n ∧ j ≤ 65536 ∧ 2 * n ≤ 140737488351232) := ⟨hlt, hj6, hn2⟩
              replace hgl : Hid (gl = wr.heap.size) := hgl
              replace hW4 : Hid (W4 = wr.alloc (.cells (madeCells #[.int .u16 0] j) 34)) := hW4
              clear hl hWe hr hlt hj6 hn2 hc
              go_wp2
              rw [← hgl.out, ← hW4.out]
              clear hmk hgl hW4 c0
              go_loopw [14] (fun iv wq => ∃ i : Nat, i ≤ j ∧ iv = .int .i64 i ∧ R6 wq gl j (fun x => if x < i then F x c else 0) ∧ Kp gl W4 wq) (fun iv _ => j - (intOf iv).toNat)
              case atStart => exact ⟨0, Nat.zero_le _, rfl, H4.out.1.congr (fun x hx => by rw [if_neg (Nat.not_lt_zero _)]), Kp.refl _ _⟩
              case round =>
                rename_i hrel
                obtain ⟨i, hi, rfl, hq, hkp⟩ := hrel
                by_cases hij : i < j
                · have tb2 : ((i : Nat) : Int) < (j : Int) := Int.ofNat_lt.mpr hij
                  have hLi : L i = n := (HR.out.2.2.2.2 i hij).trans HP.out.2.2.2.2
                  obtain ⟨c4, l4, e4, i4, b4, g4, w4, q4, x4⟩ := H4.out
                  obtain ⟨bx, ox, hX, hcx, hFx⟩ := i4.at hij (by rw [hLi]; exact HC.out.1)
                  have y0 : wr.cell? ⟨gb, ob + i, none⟩ = some (.slice (some ⟨bx, ox, none⟩) n (Cx i)) := by
                    rw [hkp.cell i4.lt (Nat.ne_of_lt q4), i4.cell i hij, hX, hLi]
                  have y1 : wr.cell? ⟨bx, ox + c, none⟩ = some (.int .u16 (F i c : Nat)) := by
                    have lb := x4 i bx ox hij (by rw [hLi]; exact Nat.lt_of_le_of_lt (Nat.zero_le _) HC.out.1) hX
                    rw [hkp.cell (Nat.lt_trans lb c4.lt) (Nat.ne_of_lt lb)]
                    exact hcx
                  have y2 : wr.cell? ⟨gl, i, none⟩ = some (.int .u16 0) := by
                    have h9 := hq.2.2.cell (i := i) hij
                    simp only [Nat.lt_irrefl, if_false] at h9
                    exact h9
                  have y3 := hq.2.2.frozen i
                  have W1 : wrap64 ((i : Int) + 1) = (i : Int) + 1 := wrap14 hij HR.out.2.1
                  obtain ⟨V, hV⟩ : ∃ V, V = F i c := ⟨_, rfl⟩
                  have HV : Hid (R6 (wr.setCell ⟨gl, i, none⟩ (.int .u16 (V : Nat))) gl j (fun x => if x < i + 1 then F x c else 0) ∧ Kp gl W4 (wr.setCell ⟨gl, i, none⟩ (.int .u16 (V : Nat)))) := by
                    rw [hV]
                    exact ⟨(hq.set i (F i c) hFx).congr (fun x hx => fill_next (F := fun y => F y c)), hkp.setCell _ _⟩
                  rw [← hV] at y1
                  clear hq hkp hLi c4 l4 e4 i4 b4 g4 w4 q4 x4 hX hcx hFx hV
                  go_wp2
                  go_roundw
                  case rel => exact ⟨i + 1, hij, by first | rfl | (rw [W1]; rfl), HV.out.1, HV.out.2⟩
                  case measure => first | exact meas_lt8 hij | (rw [W1]; exact meas_lt8 hij)
                · obtain rfl : j = i := Nat.le_antisymm (Nat.le_of_not_lt hij) hi
                  have tb2 : ¬ ((j : Nat) : Int) < (j : Int) := by omega
                  obtain ⟨p1, p2, p3, p4, p5⟩ := HP.out
                  obtain ⟨c4, l4, e4, i4, b4, g4, w4, q4, x4⟩ := H4.out
                  have q : Q6 wr (.slice (some ⟨gl, 0, none⟩) j j) j (fun y => F y c) := hq.q6 (Nat.le_refl _) (Nat.le_refl _) (Nat.le_trans HC.out.2.1 (by decide)) (fun y hy => by simp only [if_pos hy])
                  have hWe' : We14 wr gw := ⟨Nat.lt_of_lt_of_le e4.1 hkp.size, fun y hy => (hkp.cell e4.1 (Nat.ne_of_lt w4)).trans (e4.2 y hy)⟩
                  have hl' := l4.kp hkp (Nat.le_trans HB.out.2 (Nat.le_of_lt g4)) (Nat.ne_of_lt g4) (fun y hy => Nat.ne_of_lt (b4 y hy))
                  have c1 := refvals gw cw' k gl 0 j j s (fun y => F y c) wr p2 p1 p4 q hWe'
                  have HE : Hid (Lr w wr gr j j L (cz (fun f => fw s k f k) F c 0) false B C G ∧ We14 wr gw ∧ (∀ y, y < j → F y c < 65536) ∧ ∀ y, y < j → B y < wr.heap.size) := ⟨hl', hWe', q.2.1, fun y hy => (hl'.row y hy).1.lt⟩
                  clear p1 p2 p3 p4 p5 c4 l4 e4 i4 b4 g4 w4 q4 x4 q hWe' hl' hq hkp H4
                  go_wp2_with (go_at_call 33; (with_reducible refine c1.mono ?_); rintro e w4 ⟨gd, Cd, Gd, rfl, hCd, hgd, hRd, hGd, bd⟩)
                  clear c1
                  have HX : Hid (Lr w w4 gr j j L (cz (fun f => fw s k f k) F c 0) false B C G ∧ We14 w4 gw ∧ R6 w4 gd Cd Gd ∧ j ≤ Cd ∧ (∀ y, y < j → B y < gd) ∧ ∀ y, y < j → Gd y = (fun f => fw s k f k) (fun y => F y c) y) := by
                    obtain ⟨d1, d2, d3, d4⟩ := HE.out
                    obtain ⟨p1, p2, p3, p4, p5⟩ := HP.out
                    refine ⟨d1.below bd, d2.below bd, hRd, hCd, fun y hy => Nat.lt_of_lt_of_le (d4 y hy) hgd, fun y hy => ?_⟩
                    rw [hGd y hy]
                    rw [p1] at p3 p4 hy d3
                    exact vl_fw p2 p3 p4 d3 hy
                  clear hCd hgd hRd hGd bd HE
                  go_loopw [15] (fun iv wq => ∃ (i : Nat) (G : Nat → Nat → Nat), i ≤ j ∧ iv = .int .i64 i ∧ Lr w wq gr j j L (cz (fun f => fw s k f k) F c i) false B C G ∧ We14 wq gw ∧ R6 wq gd Cd Gd) (fun iv _ => j - (intOf iv).toNat)
                  case atStart => exact ⟨0, G, Nat.zero_le _, rfl, HX.out.1, HX.out.2.1, HX.out.2.2.1⟩
                  case round =>
                    obtain ⟨i, G, hi, rfl, hl, hWe, hRd⟩ := hrel
                    by_cases hij : i < j
                    · have tb3 : ((i : Nat) : Int) < (j : Int) := Int.ofNat_lt.mpr hij
                      have hLi : L i = n := (HR.out.2.2.2.2 i hij).trans HP.out.2.2.2.2
                      have y0 : wr.cell? ⟨gr, i, none⟩ = some (.slice (some ⟨B i, 0, none⟩) n (C i)) := by
                        have h9 := hl.lst.cell (i := i) hij
                        rw [if_pos hij, hLi] at h9
                        exact h9
                      have hcL : c < L i := by rw [hLi]; exact HC.out.1
                      have y1 := hRd.2.2.cell (i := i) (Nat.lt_of_lt_of_le hij HX.out.2.2.2.1)
                      have r1 := hl.row i hij
                      have y2 := r1.1.2.2.cell (i := c) (Nat.lt_of_lt_of_le hcL r1.2.1)
                      have y3 := r1.1.2.2.frozen c
                      have W1 : wrap64 ((i : Int) + 1) = (i : Int) + 1 := wrap14 hij HR.out.2.1
                      have hgi := hRd.2.1 i (Nat.lt_of_lt_of_le hij HX.out.2.2.2.1)
                      obtain ⟨V, hV⟩ : ∃ V, V = Gd i := ⟨_, rfl⟩
                      obtain ⟨b, hb⟩ : ∃ b, b = B i := ⟨_, rfl⟩
                      obtain ⟨Z, hZ⟩ : ∃ Z, Z = G i c := ⟨_, rfl⟩
                      have HV : Hid (Lr w (wr.setCell ⟨b, c, none⟩ (.int .u16 (V : Nat))) gr j j L (cz (fun f => fw s k f k) F c (i + 1)) false B C (fun j' x => if j' = i ∧ x = c then V else G j' x) ∧ We14 (wr.setCell ⟨b, c, none⟩ (.int .u16 (V : Nat))) gw ∧ R6 (wr.setCell ⟨b, c, none⟩ (.int .u16 (V : Nat))) gd Cd Gd) := by
                        have k9 : Kp b wr (wr.setCell ⟨b, c, none⟩ (.int .u16 (V : Nat))) := (Kp.refl _ wr).setCell _ _
                        have n1 : gw ≠ b := by rw [hb]; exact Ne.symm (Nat.ne_of_lt (HB.out.1 i hij))
                        have n2 : gd ≠ b := by rw [hb]; exact Ne.symm (Nat.ne_of_lt (HX.out.2.2.2.2.1 i hij))
                        refine ⟨?_, ⟨Nat.lt_of_lt_of_le hWe.1 k9.size, fun y hy => (k9.cell hWe.1 n1).trans (hWe.2 y hy)⟩, hRd.kp k9 n2⟩
                        have h9 := hl.put HB.out.2 hij hcL hgi
                        rw [hb, hV]
                        refine h9.congrF (fun j' hj' x hx => ?_)
                        rw [HX.out.2.2.2.2.2 i hij]
                        exact cz_put (fun f => fw s k f k) F c i j' x
                      rw [← hb] at y0 y2 y3
                      rw [← hV] at y1
                      rw [← hZ] at y2
                      have cb2 : ((c : Nat) : Int) < (n : Int) := Int.ofNat_lt.mpr HC.out.1
                      clear hl hWe hRd r1 hLi hcL hgi hV hb hZ
                      go_wp2
                      refine region_tail13 10 (by kernel_rfl) (by kernel_rfl) ?_
                      simp only [List.take_succ_cons, List.take_zero, List.drop_succ_cons, List.drop_zero]
                      repeat still_step
                      refine wpStill_nil ?_
                      go_wp2
                      go_roundw
                      case rel => exact ⟨i + 1, _, hij, by first | rfl | (rw [W1]; rfl), HV.out.1.below (Below.refl _ _).drew, HV.out.2.1.below (Below.refl _ _).drew, HV.out.2.2.drew⟩
                      case measure => first | exact meas_lt8 hij | (rw [W1]; exact meas_lt8 hij)
                    · obtain rfl : j = i := Nat.le_antisymm (Nat.le_of_not_lt hij) hi
                      have tb3 : ¬ ((j : Nat) : Int) < (j : Int) := by omega
                      have W1 : wrap64 ((c : Int) + 1) = (c : Int) + 1 := rn_idx HC.out.1 HC.out.2.2
                      have hcn := HC.out.1
                      have HV : Hid (Lr w wr gr j j L (cz (fun f => fw s k f k) F (c + 1) 0) false B C G ∧ We14 wr gw) := ⟨hl.congrF (fun y hy x hx => cz_full _ _ hy), hWe⟩
                      clear hl hWe hRd HX HC
                      go_wp2
                      go_roundw
                      case rel => exact ⟨c + 1, G, hcn, by first | rfl | (rw [W1]; rfl), HV.out.1, HV.out.2⟩
                      case measure => first | exact meas_lt8 hcn | (rw [W1]; exact meas_lt8 hcn)
            · obtain rfl : n = c := Nat.le_antisymm (Nat.le_of_not_lt hlt) hc
              have tb2 : ¬ ((n : Nat) : Int) < (n : Int) := by omega
              have HV : Hid (Lr w wr gr j j L (cw n (fun f => fw s k f k) F) false B C G) := hl.congrF (fun y hy x hx => cz_end _ _ _ _ _)
              clear hl hWe hr
              go_wp2
              go_ret2
              exact ⟨gr, rfl, HB.out.2, B, C, G, HV.out⟩
end Go.Proofs.YtgdnjbaohfiijaaDoor
namespace Go.Proofs.YtgdnjbaohfiijaaDoor
open Go.RowKit Gf2
set_option linter.unusedVariables false

-- (laid by wip/genrgj.py)
set_option maxHeartbeats 2000000 in
set_option maxRecDepth 100000 in
theorem refRows14_inv (A : Option Addr) (gb ob nr cr n s : Nat) (X : Nat → Option Addr) (L Cx : Nat → Nat) (F : Nat → Nat → Nat) (w : World) (hA : 0 < nr → A = some ⟨gb, ob, none⟩) (h : Ri14 w gb ob nr X L Cx F) (hn : 24 * nr ≤ 140737488351232) (k : Nat) (hp : nr = 2 ^ k) (hk : k ≤ 16) (hr1 : 0 < nr) (hr2 : ∀ j, j < nr → L j = L 0) (hL0 : L 0 = n) (hd : nr ∣ s) (hs : s + nr ≤ 65536) :
    Calls Tryd.prog 37 #[.slice A nr cr, .int .i64 (s : Int), .bool true] w fun e w' => ∃ (gr : Nat), e = .returned (.tuple #[.slice (some ⟨gr, 0, none⟩) nr nr, .int .i64 0]) ∧ w.heap.size ≤ gr ∧ ∃ (B C : Nat → Nat) (G : Nat → Nat → Nat), Lr w w' gr nr nr L (cw n (fun f => iw s f k) F) false B C G := by
  have k1 := refPow_yes k nr hp hk
  have k4 := refCoset (s : Int) nr nr hr1
  rw [show decide (Beg (s : Int) nr nr) = true from decide_eq_true (beg_of hd hs)] at k4
  have HP : Hid (nr = 2 ^ k ∧ k ≤ 16 ∧ nr ∣ s ∧ s + nr ≤ 65536 ∧ L 0 = n) := ⟨hp, hk, hd, hs, hL0⟩
  have hmr := make_rows14 nr (by omega) w
  obtain ⟨gr, hgr⟩ : ∃ gr, gr = w.heap.size := ⟨_, rfl⟩
  obtain ⟨W3, hW3⟩ : ∃ W3, W3 = w.alloc (.cells (madeCells #[.slice none 0 0] nr) 26) := ⟨_, rfl⟩
  have HW3 : Hid (Lr w W3 gr nr 0 L F false (fun _ => 0) (fun _ => 0) (fun _ _ => 0) ∧ w.heap.size ≤ gr) := by
    refine ⟨⟨by rw [hW3]; exact below_alloc _ _, ?_, fun j hj => absurd hj (Nat.not_lt_zero _), fun j j' hj => absurd hj (Nat.not_lt_zero _)⟩, by rw [hgr]; exact Nat.le_refl _⟩
    rw [hW3, hgr]
    exact (World.rowIs_made w (.slice none 0 0) nr 26).congr (fun j hj => by rw [if_neg (Nat.not_lt_zero _)])
  have HR : Hid (Ri14 w gb ob nr X L Cx F ∧ 24 * nr ≤ 140737488351232 ∧ (0 < nr → A = some ⟨gb, ob, none⟩) ∧ 0 < nr ∧ ∀ j, j < nr → L j = L 0) := ⟨h, hn, hA, hr1, hr2⟩
  replace hgr : Hid (gr = w.heap.size) := hgr
  replace hW3 : Hid (W3 = w.alloc (.cells (madeCells #[.slice none 0 0] nr) 26)) := hW3
  clear h hn hA hp hr1 hr2 hs hk hd hL0
  go_enter Tryd.func37, Tryd.ntmps37
  go_wp2
  rw [← hgr.out, ← hW3.out]
  go_loopw [9] (fun iv wr => ∃ (i : Nat) (B C : Nat → Nat) (G : Nat → Nat → Nat), i ≤ nr ∧ iv = .int .i64 i ∧ Lr w wr gr nr i L F false B C G) (fun iv _ => nr - (intOf iv).toNat)
  case atStart => exact ⟨0, _, _, _, Nat.zero_le _, rfl, HW3.out.1⟩
  case round =>
    obtain ⟨i, B, C, G, hi, rfl, hl⟩ := hrel
    by_cases hlt : i < nr
    · obtain rfl := HR.out.2.2.1 (by omega)
      have ib : ((i : Nat) : Int) < (nr : Int) := Int.ofNat_lt.mpr hlt
      have hr := HR.out.1.below hl.bel
      have c0 := hr.cell i hlt
      have c1 : (wr.alloc (.cells #[] 34)).cell? ⟨gb, ob + i, none⟩ = some (.slice (X i) (L i) (Cx i)) := ((below_alloc wr _).cell (p := ⟨gb, ob + i, none⟩) hr.lt).trans c0
      obtain ⟨w4, g4, C4, F4, run4, hC4, hg4, hR4, hF4, hb4⟩ := app_lit14 wr (hr.row i hlt) (lens14 (hr.len i hlt)).1
      have y1 : w4.cell? ⟨gr, i, none⟩ = some (.slice none 0 0) := by
        have := (hl.lst.of_block (hb4.block gr hl.lst.lt)).cell (i := i) hlt
        rw [if_neg (Nat.lt_irrefl _)] at this
        exact this
      have y2 := (hl.lst.of_block (hb4.block gr hl.lst.lt)).frozen i
      have W1 : wrap64 ((i : Int) + 1) = (i : Int) + 1 := wrap14 hlt HR.out.2.1
      have HX : Hid (Lr w (w4.setCell ⟨gr, i, none⟩ (.slice (some ⟨g4, 0, none⟩) (L i) C4)) gr nr (i + 1) L F false _ _ _) := hl.next HW3.out.2 hlt hb4 hg4 hR4 hC4 hF4 (fun e => by cases e)
      obtain ⟨Y, hY⟩ : ∃ Y, Y = L i := ⟨_, rfl⟩
      rw [← hY] at *
      clear hl hr hC4 hg4 hR4 hF4 hb4 hmr hW3 hgr k1
      go_wp2_with (at_builtin; refine Lib.wpList_append_run _ rfl _ _ _ _ rfl _ _ rfl rfl _ _ run4 ?_)
      go_roundw
      case rel => exact ⟨i + 1, _, _, _, hlt, by first | rfl | (rw [W1]; rfl), HX.out⟩
      case measure => first | exact meas_lt8 hlt | (rw [W1]; exact meas_lt8 hlt)
    · obtain rfl : i = nr := Nat.le_antisymm hi (Nat.le_of_not_lt hlt)
      have tb : ¬ ((i : Nat) : Int) < (i : Int) := by omega
      obtain ⟨wz, hz0⟩ : ∃ wz, wz = wr := ⟨_, rfl⟩
      have HL : Hid (Lr w wz gr i i L F false B C G) := by rw [hz0]; exact hl
      have HZ : Hid (wz = wr) := hz0
      have k2 := k1 wr
      clear hl hmr hW3 hgr k1 hz0
      obtain rfl := HR.out.2.2.1 HR.out.2.2.2.1
      go_wp2_with (go_at_call 31; ((with_reducible refine (k2).mono ?_); rintro e w' ⟨rfl, rfl⟩))
      go_loopw [10] (fun jv wt => ∃ j m : Nat, j ≤ i ∧ jv = .int .i64 j ∧ wt = wz.drewN m) (fun jv _ => i - (intOf jv).toNat)
      case atStart => exact ⟨0, 0, Nat.zero_le _, rfl, HZ.out.symm⟩
      case round =>
        obtain ⟨j, m, hj, rfl, hw⟩ := hrel
        by_cases hji : j < i
        · have e := HR.out.2.2.2.2 j hji
          have ib : ((j : Nat) : Int) < (i : Int) := Int.ofNat_lt.mpr hji
          have i0 : 0 < i := Nat.lt_of_le_of_lt (Nat.zero_le _) hji
          have ib0 : (0 : Int) < (i : Int) := Int.ofNat_lt.mpr i0
          have hr := HR.out.1.below HL.out.bel
          have c0 : wr.cell? ⟨gb, ob + j, none⟩ = some (.slice (X j) (L j) (Cx j)) := by rw [hw]; exact hr.cell j hji
          have c1 : wr.cell? ⟨gb, ob, none⟩ = some (.slice (X 0) (L 0) (Cx 0)) := by rw [hw]; exact hr.cell 0 i0
          have HW : Hid (wr = wz.drewN m) := hw
          have W1 : wrap64 ((j : Int) + 1) = (j : Int) + 1 := wrap14 hji HR.out.2.1
          clear hr hw
          rw [e] at c0
          clear k4
          go_wp2
          go_quiet (fail)
          go_wp2
          go_roundw
          case rel => exact ⟨j + 1, m + nq, hji, by first | rfl | (rw [W1]; rfl), by rw [HW.out, World.drewN_drewN]⟩
          case measure => first | exact meas_lt8 hji | (rw [W1]; exact meas_lt8 hji)
        · obtain rfl : j = i := Nat.le_antisymm hj (Nat.le_of_not_lt hji)
          have k5 := k4 wr
          have HW : Hid (wr = wz.drewN m) := hw
          have k6 := elems14b wr
          have HLz : Hid (Lr w wr gr j j L F false B C G ∧ ∀ y, y < j → B y < wr.heap.size) := by
            rw [hw]
            exact ⟨HL.out.below (below_drewN (Below.refl _ _) _), fun y hy => (HL.out.row y hy).1.lt⟩
          clear hw k4 HZ
          go_wp2_with (first | (go_at_call 32; ((with_reducible refine (k5).mono ?_); rintro e w' ⟨rfl, rfl⟩)) | (go_at_call 34; ((with_reducible refine (k6).mono ?_); (rintro e w1 ⟨gw, cw', rfl, hWe, hgw, bE⟩))))
          have HB : Hid ((∀ y, y < j → B y < gw) ∧ w.heap.size ≤ gr) := ⟨fun y hy => Nat.lt_of_lt_of_le (HLz.out.2 y hy) hgw, HW3.out.2⟩
          have H0 : Hid (Lr w w1 gr j j L (cz (fun f => iw s f k) F 0 0) false B C G ∧ We14 w1 gw) := ⟨(HLz.out.1.below bE).congrF (fun y hy x hx => (cz_zero _ _ _ _).symm), hWe⟩
          clear k5 k6 HW HL hWe bE HLz hgw
          go_loopw [12] (fun cv wc => ∃ (c : Nat) (G : Nat → Nat → Nat), c ≤ n ∧ cv = .int .i64 c ∧ Lr w wc gr j j L (cz (fun f => iw s f k) F c 0) false B C G ∧ We14 wc gw) (fun cv _ => n - (intOf cv).toNat)
          case atStart => exact ⟨0, G, Nat.zero_le _, rfl, H0.out.1, H0.out.2⟩
          case round =>
            obtain ⟨c, G, hc, rfl, hl, hWe⟩ := hrel
            clear H0
            have j0 := HR.out.2.2.2.1
            have ib0 : (0 : Int) < (j : Int) := Int.ofNat_lt.mpr j0
            have hr := HR.out.1.below hl.bel
            have c0 : wr.cell? ⟨gb, ob, none⟩ = some (.slice (X 0) n (Cx 0)) := by have := hr.cell 0 j0; rw [HP.out.2.2.2.2] at this; exact this
            by_cases hlt : c < n
            · have cb : ((c : Nat) : Int) < (n : Int) := Int.ofNat_lt.mpr hlt
              have hj6 : j ≤ 65536 := by have := HP.out.2.2.2.1; omega
              have hmk := make_w6 j (by omega) wr
              have hn2 : 2 * n ≤ 140737488351232 := by have := HR.out.1.len 0 j0; rw [HP.out.2.2.2.2] at this; exact this
              obtain ⟨gl, hgl⟩ : ∃ gl, gl = wr.heap.size := ⟨_, rfl⟩
              obtain ⟨W4, hW4⟩ : ∃ W4, W4 = wr.alloc (.cells (madeCells #[.int .u16 0] j) 34) := ⟨_, rfl⟩
              have H4 : Hid (R6 W4 gl j (fun _ => 0) ∧ Lr w W4 gr j j L (cz (fun f => iw s f k) F c 0) false B C G ∧ We14 W4 gw ∧ Ri14 W4 gb ob j X L Cx F ∧ (∀ y, y < j → B y < gl) ∧ gr < gl ∧ gw < gl ∧ gb < gl ∧ (∀ y b o, y < j → 0 < L y → X y = some ⟨b, o, none⟩ → b < gl)) := by
                have b4 := made_b6 j wr
                rw [hW4, hgl]
                refine ⟨made_r6 j (by omega) wr, hl.below b4, hWe.below b4, hr.below b4, fun y hy => (hl.row y hy).1.lt, hl.lst.lt, hWe.1, hr.lt, fun y b o hy h0 e => ?_⟩
                obtain ⟨-, -, a, cap, e1, -, -, h4⟩ := hr.row y hy
                cases e1
                obtain ⟨b', o', e2, hl', -⟩ := h4 h0
                rw [e] at e2
                cases e2
                exact hl'
              have HC : Hid (c < n ∧ j ≤ 65536 ∧ 2 * n ≤ 140737488351232) := ⟨hlt, hj6, hn2⟩
              replace hgl : Hid (gl = wr.heap.size) := hgl
              replace hW4 : Hid (W4 = wr.alloc (.cells (madeCells #[.int .u16 0] j) 34)) := hW4
              clear hl hWe hr hlt hj6 hn2 hc
              go_wp2
              rw [← hgl.out, ← hW4.out]
              clear hmk hgl hW4 c0
              go_loopw [14] (fun iv wq => ∃ i : Nat, i ≤ j ∧ iv = .int .i64 i ∧ R6 wq gl j (fun x => if x < i then F x c else 0) ∧ Kp gl W4 wq) (fun iv _ => j - (intOf iv).toNat)
              case atStart => exact ⟨0, Nat.zero_le _, rfl, H4.out.1.congr (fun x hx => by rw [if_neg (Nat.not_lt_zero _)]), Kp.refl _ _⟩
              case round =>
                rename_i hrel
                obtain ⟨i, hi, rfl, hq, hkp⟩ := hrel
                by_cases hij : i < j
                · have tb2 : ((i : Nat) : Int) < (j : Int) := Int.ofNat_lt.mpr hij
                  have hLi : L i = n := (HR.out.2.2.2.2 i hij).trans HP.out.2.2.2.2
                  obtain ⟨c4, l4, e4, i4, b4, g4, w4, q4, x4⟩ := H4.out
                  obtain ⟨bx, ox, hX, hcx, hFx⟩ := i4.at hij (by rw [hLi]; exact HC.out.1)
                  have y0 : wr.cell? ⟨gb, ob + i, none⟩ = some (.slice (some ⟨bx, ox, none⟩) n (Cx i)) := by
                    rw [hkp.cell i4.lt (Nat.ne_of_lt q4), i4.cell i hij, hX, hLi]
                  have y1 : wr.cell? ⟨bx, ox + c, none⟩ = some (.int .u16 (F i c : Nat)) := by
                    have lb := x4 i bx ox hij (by rw [hLi]; exact Nat.lt_of_le_of_lt (Nat.zero_le _) HC.out.1) hX
                    rw [hkp.cell (Nat.lt_trans lb c4.lt) (Nat.ne_of_lt lb)]
                    exact hcx
                  have y2 : wr.cell? ⟨gl, i, none⟩ = some (.int .u16 0) := by
                    have h9 := hq.2.2.cell (i := i) hij
                    simp only [Nat.lt_irrefl, if_false] at h9
                    exact h9
                  have y3 := hq.2.2.frozen i
                  have W1 : wrap64 ((i : Int) + 1) = (i : Int) + 1 := wrap14 hij HR.out.2.1
                  obtain ⟨V, hV⟩ : ∃ V, V = F i c := ⟨_, rfl⟩
                  have HV : Hid (R6 (wr.setCell ⟨gl, i, none⟩ (.int .u16 (V : Nat))) gl j (fun x => if x < i + 1 then F x c else 0) ∧ Kp gl W4 (wr.setCell ⟨gl, i, none⟩ (.int .u16 (V : Nat)))) := by
                    rw [hV]
                    exact ⟨(hq.set i (F i c) hFx).congr (fun x hx => fill_next (F := fun y => F y c)), hkp.setCell _ _⟩
                  rw [← hV] at y1
                  clear hq hkp hLi c4 l4 e4 i4 b4 g4 w4 q4 x4 hX hcx hFx hV
                  go_wp2
                  go_roundw
                  case rel => exact ⟨i + 1, hij, by first | rfl | (rw [W1]; rfl), HV.out.1, HV.out.2⟩
                  case measure => first | exact meas_lt8 hij | (rw [W1]; exact meas_lt8 hij)
                · obtain rfl : j = i := Nat.le_antisymm (Nat.le_of_not_lt hij) hi
                  have tb2 : ¬ ((j : Nat) : Int) < (j : Int) := by omega
                  obtain ⟨p1, p2, p3, p4, p5⟩ := HP.out
                  obtain ⟨c4, l4, e4, i4, b4, g4, w4, q4, x4⟩ := H4.out
                  have q : Q6 wr (.slice (some ⟨gl, 0, none⟩) j j) j (fun y => F y c) := hq.q6 (Nat.le_refl _) (Nat.le_refl _) (Nat.le_trans HC.out.2.1 (by decide)) (fun y hy => by simp only [if_pos hy])
                  have hWe' : We14 wr gw := ⟨Nat.lt_of_lt_of_le e4.1 hkp.size, fun y hy => (hkp.cell e4.1 (Nat.ne_of_lt w4)).trans (e4.2 y hy)⟩
                  have hl' := l4.kp hkp (Nat.le_trans HB.out.2 (Nat.le_of_lt g4)) (Nat.ne_of_lt g4) (fun y hy => Nat.ne_of_lt (b4 y hy))
                  have c1 := refcoef gw cw' k gl 0 j j s (fun y => F y c) wr p2 p1 p4 q hWe'
                  have HE : Hid (Lr w wr gr j j L (cz (fun f => iw s f k) F c 0) false B C G ∧ We14 wr gw ∧ (∀ y, y < j → F y c < 65536) ∧ ∀ y, y < j → B y < wr.heap.size) := ⟨hl', hWe', q.2.1, fun y hy => (hl'.row y hy).1.lt⟩
                  clear p1 p2 p3 p4 p5 c4 l4 e4 i4 b4 g4 w4 q4 x4 q hWe' hl' hq hkp H4
                  go_wp2_with (go_at_call 35; (with_reducible refine c1.mono ?_); rintro e w4 ⟨gd, Cd, Gd, rfl, hCd, hgd, hRd, hGd, bd⟩)
                  clear c1
                  have HX : Hid (Lr w w4 gr j j L (cz (fun f => iw s f k) F c 0) false B C G ∧ We14 w4 gw ∧ R6 w4 gd Cd Gd ∧ j ≤ Cd ∧ (∀ y, y < j → B y < gd) ∧ ∀ y, y < j → Gd y = (fun f => iw s f k) (fun y => F y c) y) := by
                    obtain ⟨d1, d2, d3, d4⟩ := HE.out
                    obtain ⟨p1, p2, p3, p4, p5⟩ := HP.out
                    refine ⟨d1.below bd, d2.below bd, hRd, hCd, fun y hy => Nat.lt_of_lt_of_le (d4 y hy) hgd, fun y hy => ?_⟩
                    rw [hGd y hy]
                    rw [p1] at p3 p4 hy d3
                    exact cl_iw p2 p3 p4 d3 hy
                  clear hCd hgd hRd hGd bd HE
                  go_loopw [15] (fun iv wq => ∃ (i : Nat) (G : Nat → Nat → Nat), i ≤ j ∧ iv = .int .i64 i ∧ Lr w wq gr j j L (cz (fun f => iw s f k) F c i) false B C G ∧ We14 wq gw ∧ R6 wq gd Cd Gd) (fun iv _ => j - (intOf iv).toNat)
                  case atStart => exact ⟨0, G, Nat.zero_le _, rfl, HX.out.1, HX.out.2.1, HX.out.2.2.1⟩
                  case round =>
                    obtain ⟨i, G, hi, rfl, hl, hWe, hRd⟩ := hrel
                    by_cases hij : i < j
                    · have tb3 : ((i : Nat) : Int) < (j : Int) := Int.ofNat_lt.mpr hij
                      have hLi : L i = n := (HR.out.2.2.2.2 i hij).trans HP.out.2.2.2.2
                      have y0 : wr.cell? ⟨gr, i, none⟩ = some (.slice (some ⟨B i, 0, none⟩) n (C i)) := by
                        have h9 := hl.lst.cell (i := i) hij
                        rw [if_pos hij, hLi] at h9
                        exact h9
                      have hcL : c < L i := by rw [hLi]; exact HC.out.1
                      have y1 := hRd.2.2.cell (i := i) (Nat.lt_of_lt_of_le hij HX.out.2.2.2.1)
                      have r1 := hl.row i hij
                      have y2 := r1.1.2.2.cell (i := c) (Nat.lt_of_lt_of_le hcL r1.2.1)
                      have y3 := r1.1.2.2.frozen c
                      have W1 : wrap64 ((i : Int) + 1) = (i : Int) + 1 := wrap14 hij HR.out.2.1
                      have hgi := hRd.2.1 i (Nat.lt_of_lt_of_le hij HX.out.2.2.2.1)
                      obtain ⟨V, hV⟩ : ∃ V, V = Gd i := ⟨_, rfl⟩
                      obtain ⟨b, hb⟩ : ∃ b, b = B i := ⟨_, rfl⟩
                      obtain ⟨Z, hZ⟩ : ∃ Z, Z = G i c := ⟨_, rfl⟩
                      have HV : Hid (Lr w (wr.setCell ⟨b, c, none⟩ (.int .u16 (V : Nat))) gr j j L (cz (fun f => iw s f k) F c (i + 1)) false B C (fun j' x => if j' = i ∧ x = c then V else G j' x) ∧ We14 (wr.setCell ⟨b, c, none⟩ (.int .u16 (V : Nat))) gw ∧ R6 (wr.setCell ⟨b, c, none⟩ (.int .u16 (V : Nat))) gd Cd Gd) := by
                        have k9 : Kp b wr (wr.setCell ⟨b, c, none⟩ (.int .u16 (V : Nat))) := (Kp.refl _ wr).setCell _ _
                        have n1 : gw ≠ b := by rw [hb]; exact Ne.symm (Nat.ne_of_lt (HB.out.1 i hij))
                        have n2 : gd ≠ b := by rw [hb]; exact Ne.symm (Nat.ne_of_lt (HX.out.2.2.2.2.1 i hij))
                        refine ⟨?_, ⟨Nat.lt_of_lt_of_le hWe.1 k9.size, fun y hy => (k9.cell hWe.1 n1).trans (hWe.2 y hy)⟩, hRd.kp k9 n2⟩
                        have h9 := hl.put HB.out.2 hij hcL hgi
                        rw [hb, hV]
                        refine h9.congrF (fun j' hj' x hx => ?_)
                        rw [HX.out.2.2.2.2.2 i hij]
                        exact cz_put (fun f => iw s f k) F c i j' x
                      rw [← hb] at y0 y2 y3
                      rw [← hV] at y1
                      rw [← hZ] at y2
                      have cb2 : ((c : Nat) : Int) < (n : Int) := Int.ofNat_lt.mpr HC.out.1
                      clear hl hWe hRd r1 hLi hcL hgi hV hb hZ
                      go_wp2
                      refine region_tail13 10 (by kernel_rfl) (by kernel_rfl) ?_
                      simp only [List.take_succ_cons, List.take_zero, List.drop_succ_cons, List.drop_zero]
                      repeat still_step
                      refine wpStill_nil ?_
                      go_wp2
                      go_roundw
                      case rel => exact ⟨i + 1, _, hij, by first | rfl | (rw [W1]; rfl), HV.out.1.below (Below.refl _ _).drew, HV.out.2.1.below (Below.refl _ _).drew, HV.out.2.2.drew⟩
                      case measure => first | exact meas_lt8 hij | (rw [W1]; exact meas_lt8 hij)
                    · obtain rfl : j = i := Nat.le_antisymm (Nat.le_of_not_lt hij) hi
                      have tb3 : ¬ ((j : Nat) : Int) < (j : Int) := by omega
                      have W1 : wrap64 ((c : Int) + 1) = (c : Int) + 1 := rn_idx HC.out.1 HC.out.2.2
                      have hcn := HC.out.1
                      have HV : Hid (Lr w wr gr j j L (cz (fun f => iw s f k) F (c + 1) 0) false B C G ∧ We14 wr gw) := ⟨hl.congrF (fun y hy x hx => cz_full _ _ hy), hWe⟩
                      clear hl hWe hRd HX HC
                      go_wp2
                      go_roundw
                      case rel => exact ⟨c + 1, G, hcn, by first | rfl | (rw [W1]; rfl), HV.out.1, HV.out.2⟩
                      case measure => first | exact meas_lt8 hcn | (rw [W1]; exact meas_lt8 hcn)
            · obtain rfl : n = c := Nat.le_antisymm (Nat.le_of_not_lt hlt) hc
              have tb2 : ¬ ((n : Nat) : Int) < (n : Int) := by omega
              have HV : Hid (Lr w wr gr j j L (cw n (fun f => iw s f k) F) false B C G) := hl.congrF (fun y hy x hx => cz_end _ _ _ _ _)
              clear hl hWe hr
              go_wp2
              go_ret2
              exact ⟨gr, rfl, HB.out.2, B, C, G, HV.out⟩
end Go.Proofs.YtgdnjbaohfiijaaDoor
