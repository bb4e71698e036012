import Derived.Test.YtfhgamaakkoplaaMvbn
import Derived.Test.YtfhgamaakkoplaaMvbm
namespace Go.Proofs.Ytfhgamaakkoplaa
open Go.RowKit Gf2
set_option linter.unusedVariables false

-- culletref19.near
set_option maxHeartbeats 16000000 in
set_option maxRecDepth 100000 in
theorem near_r19 (v u : Value) (k n : Nat) (p y : Nat → Nat) (w : World) (h : Qi w v n (fun i => (p i : Int))) (hu : Rb w u n y) (h1 : 1 ≤ k) (hk : k ≤ n) (hn : n ≤ 256) (hp : ∀ i, i < n → p i < 256) (up : Up8 n p) :
    Calls Try.prog 22 #[.int .i64 (k : Int), v, u] w fun e w' => Nqp w w' e k n p y := by
  have cI := itC hn hp hu.2.1 (up_inj8 up)
  have c1 := wide19 v u n p y w h hu hn hp
  have HH : Hid (Qi w v n (fun i => (p i : Int)) ∧ Rb w u n y ∧ 1 ≤ k ∧ k ≤ n ∧ n ≤ 256 ∧ (∀ i, i < n → p i < 256) ∧ Up8 n p) := ⟨h, hu, h1, hk, hn, hp, up⟩
  obtain ⟨-, -, va, vc, rfl, -, -, h4⟩ := h
  obtain ⟨vb, vo, rfl, hvl, hvc⟩ := h4 (by omega)
  obtain ⟨-, hy, ua, uc, rfl, -, -, h4u⟩ := hu
  obtain ⟨ub, uo, rfl, hul, huc⟩ := h4u (by omega)
  have HV : Hid (∀ wr, Below w.heap.size w wr → ∀ i, i < n → wr.cell? ⟨vb, vo + i, none⟩ = some (.int .i64 ((p i : Nat) : Int)) ∧ wr.cell? ⟨ub, uo + i, none⟩ = some (.int .u8 ((y i : Nat) : Int))) := fun wr hb i hi => ⟨(hb.cell (p := ⟨vb, vo + i, none⟩) hvl).trans (hvc i hi), (hb.cell (p := ⟨ub, uo + i, none⟩) hul).trans (huc i hi)⟩
  obtain ⟨r, hr⟩ : ∃ r, Hid ((n - k) / 2 = r) := ⟨_, rfl⟩
  obtain ⟨d, hd⟩ : ∃ d, Hid (n - k = d) := ⟨_, rfl⟩
  have hr2 : d / 2 = r := by have := hr.out; rw [hd.out] at this; exact this
  have hr3 : r + r ≤ d := by omega
  have hdn : k + d = n := by have := hd.out; omega
  have W1 := wrapS19 (n := n) (k := k) (e := d) (by omega) (by omega)
  have W2 : ((d : Nat) : Int) / 2 = ((r : Nat) : Int) := by omega
  have WR : wrap64 ((r : Nat) : Int) = ((r : Nat) : Int) := by unfold wrap64; omega
  have HR : Hid (k + 2 * r ≤ n) := by show _ ≤ _; omega
  have HY : Hid (∀ i, i < n → y i < 256) := hy
  obtain ⟨W, hW⟩ : ∃ W, Hid (k + 2 * r + 1 = W) := ⟨_, rfl⟩
  have HW : Hid (W ≤ 257 ∧ k + r < W ∧ 1 ≤ W) := by
    have := hW.out
    refine ⟨by omega, by omega, by omega⟩
  have hmkr := make_rows n (by omega)
  clear h4 h4u hvl hvc hul huc h1 hk hn hp up hy hr2 hr3 hdn
  go_enter Try.func22, Try.ntmps22
  go_wp2_with (first
    | (go_at_call 20; (with_reducible refine c1.mono ?_); rintro e w1 ⟨gx, gy, rfl, hWi⟩; have c2 := cI w1 _ _ (hWi.slx HH.out.2.2.2.2.1 HH.out.2.2.2.2.2.1) (hWi.sly HH.out.2.2.2.2.1 HY.out); clear c1 cI)
    | (go_at_call 21; (with_reducible refine c2.mono ?_); rintro e w2 ⟨v', S, rfl, ⟨L, hF, hNe, hco⟩, eS, dS, hS, hb2⟩; clear c2; obtain ⟨f1, f2, gF, f3, rfl, f5⟩ := id hF))
  · have hl : L.length ≤ k := by have h9 : ((L.length : Nat) : Int) ≤ ((k : Nat) : Int) := (by first | assumption | (have h8 : L.length ≤ k := (by assumption); omega)); omega
    go_ret2
    exact nqp true (nq_it hF hco hl eS dS hS (hWi.bel.trans (hb2.mono hWi.bel.size)))
  · generalize decide (L.length ≤ k) = bd
    rename ¬ L.length ≤ k => hnl
    clear hnl
    have HB2 : Hid (Below w.heap.size w w2) := hWi.bel.trans (hb2.mono hWi.bel.size)
    have F0 : Hid (Fl w2 (w2.alloc (.cells (madeCells #[.slice none 0 0] n) 25)) w2.heap.size n 0 (fun _ => W) (fun _ => W) (fun _ => 0) (bwr k r p y)) := Fl.start w2 n _ _ _ _
    obtain ⟨gr, hgr⟩ : ∃ gr, Hid (w2.heap.size = gr) := ⟨_, rfl⟩
    obtain ⟨w3, hw3⟩ : ∃ w3, Hid (w2.alloc (.cells (madeCells #[.slice none 0 0] n) 25) = w3) := ⟨_, rfl⟩
    have F1 := F0.out
    rw [hw3.out, hgr.out] at F1
    rw [hw3.out, hgr.out]
    clear hF hNe hco eS dS hS hb2 f1 f2 f3 f5 hWi F0 hmkr
    go_loopw [15] (fun s wr => ∃ (i : Nat) (B : Nat → Nat), i ≤ n ∧ s = .int .i64 ((i : Nat) : Int) ∧ Fl w2 wr gr n i (fun _ => W) (fun _ => W) B (bwr k r p y)) (fun s _ => n - (intOf s).toNat)
    case atStart => exact ⟨0, fun _ => 0, Nat.zero_le _, rfl, F1⟩
    case round =>
      rename World => wr
      obtain ⟨i, B, hi, rfl, hF⟩ := hrel
      clear F1
      by_cases hlt : i < n
      · have ib : ((i : Nat) : Int) < (n : Int) := Int.ofNat_lt.2 hlt
        have HW1 : Hid (wrap64 (((i : Nat) : Int) + 1) = ((i : Nat) : Int) + 1) := wrap_lt8 (j := i) (b := n) hlt (by have := HH.out; omega)
        have hmkW := make_u8 W (by have := HW.out; omega) wr
        have b0 : Below wr.heap.size wr (wr.alloc (.cells (madeCells #[.int .u8 0] W) 5)) := (Below.refl _ _).alloc (Nat.le_refl _) _
        have q2 := (hF.below b0).bare hlt
        have q3 := (hF.below b0).froz i
        have HE := Bl19.start hF hlt (by have := HW.out; omega)
        obtain ⟨g, hg⟩ : ∃ g, Hid (wr.heap.size = g) := ⟨_, rfl⟩
        obtain ⟨w4, hw4⟩ : ∃ w4, Hid ((wr.alloc (.cells (madeCells #[.int .u8 0] W) 5)).setCell ⟨gr, i, none⟩ (.slice (some ⟨wr.heap.size, 0, none⟩) W W) = w4) := ⟨_, rfl⟩
        rw [hw4.out, hg.out] at HE
        have HE2 : Hid (Bl19 w2 w4 gr g n W k r p y i B (bwp k r p y i 0)) := HE
        obtain ⟨d2, hd2⟩ : ∃ d2, Hid (2 * r = d2) := ⟨_, rfl⟩
        obtain ⟨d3, hd3⟩ : ∃ d3, Hid (k + d2 = d3) := ⟨_, rfl⟩
        have M1 : wrap64 (2 * ((r : Nat) : Int)) = ((d2 : Nat) : Int) := by have := hd2.out; have := HR.out; have := HH.out; unfold wrap64; omega
        have M2 : wrap64 (((k : Nat) : Int) + ((d2 : Nat) : Int)) = ((d3 : Nat) : Int) := by have := hd2.out; have := hd3.out; have := HR.out; have := HH.out; unfold wrap64; omega
        have M3 : wrap64 (((d3 : Nat) : Int) + 1) = ((W : Nat) : Int) := by have := hd2.out; have := hd3.out; have := hW.out; have := HR.out; have := HH.out; unfold wrap64; omega
        have HIN : Hid (i < n) := hlt
        clear HE b0 hF hlt hi
        go_wp2
        rw [hw4.out]
        clear q2 q3 hmkW M1 M2 M3
        go_loopw [16, 17] (fun c s w5 => ∃ j f0 : Nat, j ≤ k + r ∧ s = .int .i64 ((j : Nat) : Int) ∧ c = .int .u8 ((f0 : Nat) : Int) ∧ Hid (f0 = fp 285 (p i) j) ∧ Bl19 w2 w5 gr g n W k r p y i B (bwp k r p y i j)) (fun _ s _ => k + r - (intOf s).toNat)
        case atStart => exact ⟨0, 1, Nat.zero_le _, rfl, rfl, (fld8.fp_zero _).symm, HE2.out⟩
        case round =>
          rename World => w5
          obtain ⟨j, f0, hj, rfl, rfl, hf0, hF⟩ := hrel
          clear HE2
          obtain ⟨kr, hkr⟩ : ∃ kr, Hid (k + r = kr) := ⟨_, rfl⟩
          have HM1 : Hid (wrap64 (((k : Nat) : Int) + ((r : Nat) : Int)) = ((kr : Nat) : Int)) := by show _ = _; have := hkr.out; have := HR.out; have := HH.out; unfold wrap64; omega
          have HM1I : Hid (IntKind.i64.wrap (((k : Nat) : Int) + ((r : Nat) : Int)) = ((kr : Nat) : Int)) := (IntKind.wrap_i64 _).trans (by have := hkr.out; have := HR.out; have := HH.out; omega)
          by_cases hjk : j < k + r
          · have ij : ((j : Nat) : Int) < ((kr : Nat) : Int) := by have := hkr.out; omega
            have HJ : Hid (j + 1 ≤ k + r ∧ j < k + r) := ⟨hjk, hjk⟩
            have HW3 : Hid (wrap64 (((j : Nat) : Int) + 1) = ((j : Nat) : Int) + 1) := wrap_lt8 (j := j) (b := k + r) hjk (by have := HW.out; omega)
            have iW : ((j : Nat) : Int) < ((W : Nat) : Int) := by have := HW.out; omega
            have U8 : IntKind.u8.wrap ((p i : Nat) : Int) = ((p i : Nat) : Int) := u8s19 (HH.out.2.2.2.2.2.1 i HIN.out)
            have lf0 : f0 < 256 := by rw [hf0.out]; exact fld8.fp_lt _ _
            obtain ⟨f1, hf1⟩ : ∃ f1, Hid (fm 285 f0 (p i) = f1) := ⟨_, rfl⟩
            have hf1b : Hid (f1 = fp 285 (p i) (j + 1)) := by show _ = _; rw [← hf1.out, hf0.out]; exact (fld8.fp_succ (HH.out.2.2.2.2.2.1 i HIN.out) j).symm
            have c6 : ∀ x, Calls Try.prog 39 #[.int .u8 (f0 : Int), .int .u8 (p i : Int)] x fun e w' => e = .returned (.int .u8 (f1 : Nat)) ∧ w' = x := fun x => by rw [← hf1.out]; exact refMul_nat f0 (p i) x lf0 (HH.out.2.2.2.2.2.1 i HIN.out)
            have z1 := hF.at_
            obtain ⟨X1, z2⟩ := hF.cell (c := j) (by have := HW.out; omega)
            have z3 := hF.froz j
            have hA := hF.set j f0 lf0
            have z4 := hA.at_
            by_cases hjr : j ≤ r
            · have ir : ((j : Nat) : Int) ≤ ((r : Nat) : Int) := by omega
              obtain ⟨kj, hkj⟩ : ∃ kj, Hid (kr + j = kj) := ⟨_, rfl⟩
              have HM4I : Hid (IntKind.i64.wrap (((kr : Nat) : Int) + ((j : Nat) : Int)) = ((kj : Nat) : Int)) := (IntKind.wrap_i64 _).trans (by have := hkr.out; have := hkj.out; have := HW.out; omega)
              have iW2 : ((kj : Nat) : Int) < ((W : Nat) : Int) := by have := hkj.out; have := hkr.out; have := hW.out; omega
              obtain ⟨X2, z5⟩ := hA.cell (c := kj) (by have := hkj.out; have := hkr.out; have := hW.out; omega)
              have z6 := hA.froz kj
              obtain ⟨m0, hm0⟩ : ∃ m0, Hid (fm 285 f0 (y i) = m0) := ⟨_, rfl⟩
              have lm0 : m0 < 256 := by rw [← hm0.out]; exact fld8.fm_lt _ _
              have c5 : ∀ x, Calls Try.prog 39 #[.int .u8 (f0 : Int), .int .u8 (y i : Int)] x fun e w' => e = .returned (.int .u8 (m0 : Nat)) ∧ w' = x := fun x => by rw [← hm0.out]; exact refMul_nat f0 (y i) x lf0 (HY.out i HIN.out)
              have x1 := (HV.out _ (HB2.out.trans (hA.bel.mono HB2.out.size)) i HIN.out).2
              have hB := hA.set kj m0 lm0
              have x2 := (HV.out _ (HB2.out.trans (hB.bel.mono HB2.out.size)) i HIN.out).1
              have HC : Hid (Bl19 w2 (((w5.setCell ⟨g, j, none⟩ (.int .u8 ((f0 : Nat) : Int))).drew).setCell ⟨g, kj, none⟩ (.int .u8 ((m0 : Nat) : Int))) gr g n W k r p y i B (bwp k r p y i (j + 1))) := by
                have h9 := hF.two hf0.out hm0.out.symm hkr.out hjk
                rw [hkj.out] at h9
                exact h9
              clear hF hA hB lf0 lm0 hjk hj hjr
              have W3 := HW3.out
              have M1 := HM1.out
              have M1I := HM1I.out
              have M4I := HM4I.out
              go_upto_region 18 with (fail)
              refine region_tail8 15 (by kernel_rfl) (by kernel_rfl) ?_
              simp only [List.take_succ_cons, List.take_zero, List.drop_succ_cons, List.drop_zero]
              repeat still_step
              still_call (c5 _)
              repeat still_step
              refine wpStill_nil ?_
              go_wp2_with (go_at_call 39; (with_reducible refine (c6 _).mono ?_); rintro e w9 ⟨rfl, hw9⟩; have hw9 := hw9.symm; subst hw9)
              go_roundw
              case rel => first | exact ⟨j + 1, f1, HJ.out.1, by first | rfl | (rw [W3]; rfl), rfl, hf1b, HC.out⟩ | ((try rw [W3]); (repeat apply Exists.intro); (refine ⟨⟨j + 1, f1, HJ.out.1, ?e11, ?e21, hf1b, HC.out⟩, ?e31⟩; (case e31 => exact rfl); (case e11 => first | rfl | (congr 1)); (case e21 => rfl)))
              case measure => first | exact meas_lt8 HJ.out.2 | (rw [W3]; exact meas_lt8 HJ.out.2)
            · have ir : ¬ ((j : Nat) : Int) ≤ ((r : Nat) : Int) := by omega
              have x2 := (HV.out _ (HB2.out.trans (hA.bel.mono HB2.out.size)) i HIN.out).1
              have HC : Hid (Bl19 w2 (w5.setCell ⟨g, j, none⟩ (.int .u8 ((f0 : Nat) : Int))) gr g n W k r p y i B (bwp k r p y i (j + 1))) := hF.one hf0.out hjk (by omega) hW.out
              clear hF hA lf0 hjk hj hjr
              have W3 := HW3.out
              have M1 := HM1.out
              go_wp2_with (go_at_call 39; (with_reducible refine (c6 _).mono ?_); rintro e w9 ⟨rfl, hw9⟩; have hw9 := hw9.symm; subst hw9)
              go_roundw
              case rel => first | exact ⟨j + 1, f1, HJ.out.1, by first | rfl | (rw [W3]; rfl), rfl, hf1b, HC.out⟩ | ((try rw [W3]); (repeat apply Exists.intro); (refine ⟨⟨j + 1, f1, HJ.out.1, ?e12, ?e22, hf1b, HC.out⟩, ?e32⟩; (case e32 => exact rfl); (case e12 => first | rfl | (congr 1)); (case e22 => rfl)))
              case measure => first | exact meas_lt8 HJ.out.2 | (rw [W3]; exact meas_lt8 HJ.out.2)
          · have ij : ¬ ((j : Nat) : Int) < ((kr : Nat) : Int) := by have := hkr.out; omega
            have HF : Hid (i < n ∧ Fl w2 w5 gr n (i + 1) (fun _ => W) (fun _ => W) (upn B i g) (bwr k r p y)) := ⟨HIN.out, hF.fin (by omega) HH.out.2.2.1 hW.out⟩
            clear hF hjk hj
            have W9 := HW1.out
            have M1 := HM1.out
            go_wp2
            go_roundw
            case rel => exact ⟨i + 1, _, HF.out.1, by first | rfl | (rw [W9]; rfl), HF.out.2⟩
            case measure => first | exact meas_lt8 HF.out.1 | (rw [W9]; exact meas_lt8 HF.out.1)
      · have hin2 : i = n := by omega
        have ib : ¬ ((i : Nat) : Int) < (n : Int) := by omega
        rw [hin2] at hF
        have c3 := null10r n W (bwr k r p y) (some ⟨gr, 0, none⟩) n wr (hF.cs (by have := HH.out; unfold big; omega)).lb (by have := HH.out; omega) HH.out.2.2.2.2.1 HW.out.2.2 (by have := HW.out; omega) (fun x c => bwr_lt _ _ _ _ _ _)
        have HB3 : Hid (Below w.heap.size w wr) := HB2.out.trans (hF.bel.mono HB2.out.size)
        clear hF hlt hi hin2
        obtain ⟨kr, hkr⟩ : ∃ kr, Hid (k + r = kr) := ⟨_, rfl⟩
        obtain ⟨r1, hr1⟩ : ∃ r1, Hid (r + 1 = r1) := ⟨_, rfl⟩
        have hmkA := make_u16 kr (by have := hkr.out; have := HW.out; omega)
        have hmkB := make_u16 r1 (by have := hkr.out; have := hr1.out; have := HW.out; have := HH.out; omega)
        have M2 : wrap64 (((r : Nat) : Int) + 1) = ((r1 : Nat) : Int) := by have := hr1.out; have := HW.out; unfold wrap64; omega
        have HM1 : Hid (wrap64 (((k : Nat) : Int) + ((r : Nat) : Int)) = ((kr : Nat) : Int)) := by show _ = _; have := hkr.out; have := HW.out; unfold wrap64; omega
        have M1 := HM1.out
        go_wp2_with (go_at_call 40; (with_reducible refine c3.mono ?_); rintro e w5 ⟨v5, rfl, kk, R5, p5, N5, hN⟩; clear c3; obtain ⟨B5, lo5, hlo5, hG5⟩ := hN.list; obtain ⟨la, lc, rfl, -⟩ := hG5.list.form)
        · rename (((W - kk : Nat) : Int) == 0) = true => hq9
          have hz : W ≤ kk := by
            have h9 : ((W - kk : Nat) : Int) = 0 := by simpa using hq9
            clear M1 M2 hq9
            omega
          go_ret2
          exact nqp false (nq_none (nq_empty hN hz hW.out hr.out HH.out.2.2.2.1 HH.out.2.2.2.2.2.1) (HB3.out.trans (hN.bel.mono HB3.out.size)))
        · rename (((W - kk : Nat) : Int) == 0) = false => hq9
          have hz : kk < W := by
            have h9 : ¬ ((W - kk : Nat) : Int) = 0 := by
              intro h8
              rw [h8] at hq9
              cases hq9
            clear M1 M2 hq9
            omega
          clear hq9
          generalize (((W - kk : Nat) : Int) == 0) = bd2
          have hv := nq_vec hN hz hW.out
          obtain ⟨gl, cl, e, -, hc5, -⟩ := hG5.head (by omega)
          cases e
          have hc0 := hc5 0 (by omega)
          have hrow := (hG5.rows 0 (by omega)).2.2
          obtain ⟨u, hu⟩ : ∃ u, Hid (N5 0 = u) := ⟨_, rfl⟩
          obtain ⟨b0, hb0⟩ : ∃ b0, Hid (B5 0 = b0) := ⟨_, rfl⟩
          rw [hu.out] at hv hrow
          rw [hb0.out] at hc0 hrow
          have HV0 : Hid (Nv0 n W k r p y u ∧ (∀ wx, Below w5.heap.size w5 wx → wx.cell? ⟨gl, 0, none⟩ = some (.slice (some ⟨b0, 0, none⟩) W W) ∧ ∀ c, c < W → wx.cell? ⟨b0, c, none⟩ = some (.int .u8 ((u c : Nat) : Int))) ∧ Below w.heap.size w w5) := ⟨hv, fun wx hx => ⟨(hx.cell (cell_lt5 hc0)).trans hc0, fun c hc => (rw_below hrow hx).2.2.cell hc⟩, HB3.out.trans (hN.bel.mono HB3.out.size)⟩
          have O0 := On19.start w5 k r u
          rw [hkr.out, hr1.out] at O0
          obtain ⟨go, hgo⟩ : ∃ go, Hid (w5.heap.size = go) := ⟨_, rfl⟩
          obtain ⟨gt, hgt⟩ : ∃ gt, Hid (go + 1 = gt) := ⟨_, rfl⟩
          obtain ⟨w7, hw7⟩ : ∃ w7, Hid ((w5.alloc (.cells (madeCells #[.int .u16 0] kr) 57)).alloc (.cells (madeCells #[.int .u16 0] r1) 57) = w7) := ⟨_, rfl⟩
          rw [hw7.out, hgo.out, hgt.out] at O0
          have HO : Hid (On19 w5 w7 go gt k r 0 0 u) := O0
          clear O0 hv hc5 hc0 hrow hN hG5 hlo5
          rw [hw7.out, hgo.out, hgt.out]
          clear hmkA hmkB M2 hw7 M1 W1 W2 WR
          obtain ⟨N1, hN1⟩ : ∃ N1, Hid (W - kk = N1) := ⟨_, rfl⟩
          rw [hN1.out]
          have iz : (0 : Int) < ((N1 : Nat) : Int) := by have := hN1.out; omega
          clear hz
          go_loopw [22] (fun s wx => ∃ j : Nat, j ≤ k + r ∧ s = .int .i64 ((j : Nat) : Int) ∧ On19 w5 wx go gt k r j 0 u) (fun s _ => k + r - (intOf s).toNat)
          case atStart => exact ⟨0, Nat.zero_le _, rfl, HO.out⟩
          case round =>
            rename World => wx
            obtain ⟨j, hj, rfl, hO⟩ := hrel
            clear HO
            by_cases hjk : j < k + r
            · have ij : ((j : Nat) : Int) < ((kr : Nat) : Int) := by have := hkr.out; omega
              have iW : ((j : Nat) : Int) < ((W : Nat) : Int) := by have := HW.out; omega
              obtain ⟨q1, q2⟩ := HV0.out.2.1 wx hO.bel
              have q3 := q2 j (by have := HW.out; omega)
              have z2 := hO.one.row.cell hjk
              have z3 := hO.one.row.frozen j
              have U6 : IntKind.u16.wrap ((u j : Nat) : Int) = ((u j : Nat) : Int) := u16s19 (by have := HV0.out.1.byt j; omega)
              have HC : Hid (j < k + r ∧ On19 w5 (wx.setCell ⟨go, j, none⟩ (.int .u16 ((u j : Nat) : Int))) go gt k r (j + 1) 0 u) := ⟨hjk, hO.step1 hjk⟩
              have HW3 : Hid (wrap64 (((j : Nat) : Int) + 1) = ((j : Nat) : Int) + 1) := wrap_lt8 (j := j) (b := k + r) hjk (by have := HW.out; omega)
              generalize u j = uj at q3 U6 HC
              clear q2 hO hjk hj
              have M1 := HM1.out
              have W3 := HW3.out
              go_wp2
              go_roundw
              case rel => exact ⟨j + 1, HC.out.1, by first | rfl | (rw [W3]; rfl), HC.out.2⟩
              case measure => first | exact meas_lt8 HC.out.1 | (rw [W3]; exact meas_lt8 HC.out.1)
            · have ij : ¬ ((j : Nat) : Int) < ((kr : Nat) : Int) := by have := hkr.out; omega
              have hjk2 : j = k + r := by omega
              rw [hjk2] at hO
              have HO1 : Hid (On19 w5 wx go gt k r (k + r) 0 u) := hO
              clear hO hjk hj hjk2
              have M1 := HM1.out
              go_wp2
              clear M1
              go_loopw [23] (fun s wx => ∃ j : Nat, j ≤ r + 1 ∧ s = .int .i64 ((j : Nat) : Int) ∧ On19 w5 wx go gt k r (k + r) j u) (fun s _ => r + 1 - (intOf s).toNat)
              case atStart => exact ⟨0, Nat.zero_le _, rfl, HO1.out⟩
              case round =>
                rename World => wx
                obtain ⟨j, hj, rfl, hO⟩ := hrel
                clear HO1 ij
                by_cases hjk : j < r + 1
                · have ij : ((j : Nat) : Int) ≤ ((r : Nat) : Int) := by omega
                  have ij2 : ((j : Nat) : Int) < ((r1 : Nat) : Int) := by have := hr1.out; omega
                  obtain ⟨kj, hkj⟩ : ∃ kj, Hid (k + r + j = kj) := ⟨_, rfl⟩
                  have iW : ((kj : Nat) : Int) < ((W : Nat) : Int) := by have := hW.out; have := hkj.out; omega
                  obtain ⟨q1, q2⟩ := HV0.out.2.1 wx hO.bel
                  have q3 := q2 kj (by have := hW.out; have := hkj.out; omega)
                  have z2 := hO.oth.row.cell hjk
                  have z3 := hO.oth.row.frozen j
                  have U6 : IntKind.u16.wrap ((u kj : Nat) : Int) = ((u kj : Nat) : Int) := u16s19 (by have := HV0.out.1.byt kj; omega)
                  have hS := hO.step2 hjk
                  rw [hkj.out] at hS
                  have HC : Hid (j < r + 1 ∧ On19 w5 (wx.setCell ⟨gt, j, none⟩ (.int .u16 ((u kj : Nat) : Int))) go gt k r (k + r) (j + 1) u) := ⟨hjk, hS⟩
                  have HW3 : Hid (wrap64 (((j : Nat) : Int) + 1) = ((j : Nat) : Int) + 1) := wrap_lt8 (j := j) (b := r + 1) hjk (by have := HW.out; have := HR.out; have := HH.out; omega)
                  have HM4 : Hid (wrap64 (((kr : Nat) : Int) + ((j : Nat) : Int)) = ((kj : Nat) : Int)) := by show _ = _; have := hkr.out; have := hkj.out; have := hW.out; have := HW.out; unfold wrap64; omega
                  generalize u kj = uj at q3 U6 HC
                  clear q2 hO hjk hj hS
                  have M1 := HM1.out
                  have M4 := HM4.out
                  have W3 := HW3.out
                  go_wp2
                  go_roundw
                  case rel => exact ⟨j + 1, HC.out.1, by first | rfl | (rw [W3]; rfl), HC.out.2⟩
                  case measure => first | exact meas_lt8 HC.out.1 | (rw [W3]; exact meas_lt8 HC.out.1)
                · have ij : ¬ ((j : Nat) : Int) ≤ ((r : Nat) : Int) := by omega
                  have hjk2 : j = r + 1 := by omega
                  rw [hjk2] at hO
                  have sl1 : Sl wx (.slice (some ⟨go, 0, none⟩) kr kr) (lf (k + r) (bwa k r u)) := by rw [← hkr.out]; exact hO.one.sl (by have := HW.out; omega) (fun c => bwa_el HV0.out.1.byt c)
                  have sl2 : Sl wx (.slice (some ⟨gt, 0, none⟩) r1 r1) (lf (r + 1) (bwb k r u)) := by rw [← hr1.out]; exact hO.oth.sl (by have := HW.out; omega) (fun c => bwb_el HV0.out.1.byt c)
                  have HB6 : Hid (Below w.heap.size w wx) := HV0.out.2.2.trans (hO.bel.mono HV0.out.2.2.size)
                  have hL1 : (lf (k + r) (bwa k r u)).length ≤ 1024 := by rw [lf_len]; have := HW.out; omega
                  have hL2 : (lf (r + 1) (bwb k r u)).length ≤ 1024 := by rw [lf_len]; have := HW.out; have := HR.out; have := HH.out; omega
                  by_cases h0 : nzl (lf (r + 1) (bwb k r u)) = 0
                  · have c4 := pdivmod_zero false _ _ _ _ wx sl1 sl2 hL1 hL2 h0
                    have HZ : Hid (∀ f, Gf2.El 8 f → Dg f k → ¬ Nr19 p y n ((n - k) / 2) f) := HV0.out.1.zero HH.out.2.2.1 HR.out HH.out.2.2.2.2.2.1 HH.out.2.2.2.2.2.2 h0 hr.out
                    clear hO sl1 sl2 hL1 hL2 h0 hj hjk hjk2
                    go_wp2_with (go_at_call 41; (with_reducible refine c4.mono ?_); rintro e w9 ⟨rfl, hw9⟩; have hw9 := hw9.symm; subst hw9; clear c4)
                    go_ret2
                    exact nqp false (nq_none HZ.out HB6.out)
                  · have c4 := pdivmod_any false _ _ _ _ wx sl1 sl2 (lf_mem (fun i _ => bwa_el HV0.out.1.byt i)) (lf_mem (fun i _ => bwb_el HV0.out.1.byt i)) hL1 hL2 h0
                    have HZ : Hid (∀ (Lq Lm : List Nat) (Q M : Nat → Nat), Pol 8 Q → Dg M (nzl (lf (r + 1) (bwb k r u)) - 1) → co (lf (k + r) (bwa k r u)) = pa (pm 285 Q (co (lf (r + 1) (bwb k r u)))) M → Neat Lq → Neat Lm → co Lq = Q → co Lm = M → Qu19 n k r p y Lq Lm) := fun Lq Lm Q M x1 x2 x3 x4 x5 x6 x7 => HV0.out.1.qu HH.out.2.2.1 HR.out HH.out.2.2.2.2.2.1 HH.out.2.2.2.2.2.2 h0 x1 x2 x3 x4 x5 x6 x7
                    clear hO sl1 sl2 hL1 hL2 h0 hj hjk hjk2
                    go_upto_region 34 with (go_at_call 41; (with_reducible refine c4.mono ?_); rintro e w8 ⟨vq, vm, Q, M, rfl, ⟨Lq, hFq, hNq, hcq⟩, ⟨Lm, hFm, hNm, hcm⟩, hb8, pQ, eM, dM, he⟩; clear c4; have HQ : Hid (Qu19 n k r p y Lq Lm) := HZ.out Lq Lm Q M pQ dM he hNq hNm hcq hcm; clear HZ pQ eM dM he hNq hNm hcq hcm; have HSq : Hid (Sl w8 vq Lq) := hFq.sl; obtain ⟨-, -, gq, -, rfl, -⟩ := hFq; obtain ⟨-, -, gm, -, rfl, -⟩ := hFm)
                    have HB8 : Hid (Below w.heap.size w w8) := HB6.out.trans (hb8.mono HB6.out.size)
                    clear hb8
                    by_cases hm : 0 < Lm.length
                    · have hmI : (0 : Int) < ((Lm.length : Nat) : Int) := by omega
                      have HF : Hid (∀ f, Gf2.El 8 f → Dg f k → ¬ Nr19 p y n ((n - k) / 2) f) := HQ.out.left hr.out hm
                      go_wp2
                      go_ret2
                      exact nqp false (nq_none HF.out HB8.out)
                    · have hmI : ¬ (0 : Int) < ((Lm.length : Nat) : Int) := by omega
                      have hmZ : Lm.length = 0 := by omega
                      by_cases hl : k < Lq.length
                      · have hlI : ((k : Nat) : Int) < ((Lq.length : Nat) : Int) := by omega
                        have HF : Hid (∀ f, Gf2.El 8 f → Dg f k → ¬ Nr19 p y n ((n - k) / 2) f) := HQ.out.long hr.out hl
                        go_wp2
                        go_ret2
                        exact nqp false (nq_none HF.out HB8.out)
                      · have hlI : ¬ ((k : Nat) : Int) < ((Lq.length : Nat) : Int) := by omega
                        have HL : Hid (Lq.length ≤ k) := by show _ ≤ _; omega
                        go_wp2
                        clear hm hmI hmZ hl hlI
                        go_loopw [26, 27] (fun s26 s27 wx => ∃ i c : Nat, i ≤ n ∧ s27 = .int .i64 ((i : Nat) : Int) ∧ s26 = .int .i64 ((c : Nat) : Int) ∧ Hid (c = cnb (Dq19 p y Lq) i) ∧ Below w8.heap.size w8 wx) (fun _ s _ => n - (intOf s).toNat)
                        case atStart => exact ⟨0, 0, Nat.zero_le _, rfl, rfl, rfl, Below.refl _ _⟩
                        case round =>
                          rename World => wx
                          obtain ⟨i, c, hi, rfl, rfl, hc, hb⟩ := hrel
                          by_cases hin : i < n
                          · have ii : ((i : Nat) : Int) < (n : Int) := Int.ofNat_lt.2 hin
                            obtain ⟨x1, x2⟩ := HV.out wx (HB8.out.trans (hb.mono HB8.out.size)) i hin
                            have c5 := value19 (.slice (some ⟨gq, 0, none⟩) Lq.length Lq.length) Lq (p i) wx.drew ((HSq.out.below hb).below below_drew0) (mem_of_el (wide := false) HQ.out.el) (HH.out.2.2.2.2.2.1 i hin)
                            obtain ⟨Z, hZ⟩ : ∃ Z, Hid (pe 285 (p i) Lq.length (co Lq) = Z) := ⟨_, rfl⟩
                            rw [hZ.out] at c5
                            have hcn := cnb_le (Dq19 p y Lq) i
                            have hc2 : c ≤ 256 := by rw [hc.out]; have := HH.out; omega
                            have HW3 : Hid (wrap64 (((i : Nat) : Int) + 1) = ((i : Nat) : Int) + 1) := wrap_lt8 (j := i) (b := n) hin (by have := HH.out; omega)
                            have HW4 : Hid (wrap64 (((c : Nat) : Int) + 1) = ((c : Nat) : Int) + 1) := wrap_lt8 (j := c) (b := 257) (by omega) (by omega)
                            have HB9 : Hid (i < n ∧ Below w8.heap.size w8 wx.drew) := ⟨hin, hb.trans below_drew0⟩
                            by_cases e : Z = y i
                            · have HC : Hid (c = cnb (Dq19 p y Lq) (i + 1)) := by
                                show _ = _
                                rw [cnb_no (by unfold Dq19; rw [hZ.out]; exact decide_eq_false (fun h => h e))]
                                exact hc.out
                              rw [← e] at x2
                              clear hcn hc2 hb hi hin hc
                              have W3 := HW3.out
                              go_upto_region 40 with (fail)
                              refine region_still10 (by kernel_rfl) (by kernel_rfl) ?_
                              repeat still_step
                              still_call c5
                              repeat still_step
                              refine wpStill_nil ?_
                              go_wp2
                              go_roundw
                              case rel => exact ⟨i + 1, c, HB9.out.1, by first | rfl | (rw [W3]; rfl), rfl, HC, HB9.out.2⟩
                              case measure => first | exact meas_lt8 HB9.out.1 | (rw [W3]; exact meas_lt8 HB9.out.1)
                            · have T1 : (((Z : Nat) : Int) == ((y i : Nat) : Int)) = false := by simp; omega
                              have T2 : ¬ ((Z : Nat) : Int) = ((y i : Nat) : Int) := by omega
                              have HC : Hid (c + 1 = cnb (Dq19 p y Lq) (i + 1)) := by
                                show _ = _
                                rw [cnb_yes (by unfold Dq19; rw [hZ.out]; exact decide_eq_true e), ← hc.out]
                              generalize y i = yi at x2 T1 T2 e
                              clear hcn hc2 hb hi hin hc
                              have W3 := HW3.out
                              have W4 := HW4.out
                              go_upto_region 40 with (fail)
                              refine region_still10 (by kernel_rfl) (by kernel_rfl) ?_
                              repeat still_step
                              still_call c5
                              repeat still_step
                              refine wpStill_nil ?_
                              go_wp2
                              go_roundw
                              case rel => exact ⟨i + 1, c + 1, HB9.out.1, by first | rfl | (rw [W3]; rfl), by first | rfl | (rw [W4]; rfl), HC, HB9.out.2⟩
                              case measure => first | exact meas_lt8 HB9.out.1 | (rw [W3]; exact meas_lt8 HB9.out.1)
                          · have ii : ¬ ((i : Nat) : Int) < (n : Int) := by omega
                            have hin2 : i = n := by omega
                            have hc9 : c = cnb (Dq19 p y Lq) n := by rw [← hin2]; exact hc.out
                            have HF : Hid (Nq19 w wx (.slice (some ⟨gq, 0, none⟩) Lq.length Lq.length) (decide (c ≤ r)) k n p y) := by
                              have h9 := HQ.out.fin (w := w) (w' := wx) (v := .slice (some ⟨gq, 0, none⟩) Lq.length Lq.length) hr.out HH.out.2.2.2.1 HL.out (HSq.out.below hb) (HB8.out.trans (hb.mono HB8.out.size))
                              rw [← hc9] at h9
                              exact h9
                            clear hc hc9 hb hi hin hin2
                            by_cases hcr : c ≤ r
                            · have icr : ((c : Nat) : Int) ≤ ((r : Nat) : Int) := by omega
                              have HF2 : Hid (Nq19 w wx (.slice (some ⟨gq, 0, none⟩) Lq.length Lq.length) true k n p y) := by
                                have h9 := HF.out
                                rw [decide_eq_true hcr] at h9
                                exact h9
                              clear HF
                              go_wp2
                              go_ret2
                              exact nqp true HF2.out
                            · have icr : ¬ ((c : Nat) : Int) ≤ ((r : Nat) : Int) := by omega
                              have HF2 : Hid (Nq19 w wx (.slice (some ⟨gq, 0, none⟩) Lq.length Lq.length) false k n p y) := by
                                have h9 := HF.out
                                rw [decide_eq_false hcr] at h9
                                exact h9
                              clear HF
                              go_wp2
                              go_ret2
                              exact nqp false HF2.out
end Go.Proofs.Ytfhgamaakkoplaa
namespace Go.Proofs.Ytfhgamaakkoplaa
open Go.RowKit Gf2
set_option linter.unusedVariables false

-- culletref19.Column
theorem cd_fit19 {k n : Nat} {p : Nat → Nat} (h1 : 1 ≤ k) (hk : k ≤ n) (hn : n ≤ 256) (hp : ∀ i, i < n → p i < 256) (up : Up8 n p) : Cd19 (k : Int) n n (fun i => (p i : Int)) 0 := by
  refine .inr ⟨⟨by omega, by omega, hn⟩, .inr ⟨fun i hi => ⟨?_, ?_, fun h0 => ?_⟩, .inr ⟨rfl, .inr ⟨by omega, rfl⟩⟩⟩⟩
  · show (0 : Int) ≤ (p i : Int)
    omega
  · have := hp i hi
    show (p i : Int) ≤ 255
    omega
  · have := up (i - 1) i (by omega) hi
    show (p (i - 1) : Int) < (p i : Int)
    omega
/-- what is fixed so far. -/
structure Cf19 (w2 wr : World) (gf : Nat) (xw : Value) (n i : Nat) (p y f : Nat → Nat) : Prop where
  row : Rw wr gf n (fun c => if c < i then pe 285 (p c) n f else 0)
  tell : Gj (gf + 1) wr xw (cnb (Df19 p y n f) i) (fsel (Df19 p y n f) p i)
  bel : Below w2.heap.size w2 wr
  gb : gf = w2.heap.size
section
variable {w2 wr : World} {gf n i : Nat} {xw : Value} {p y f : Nat → Nat}
/-- the byte is laid; nothing is told yet. -/
theorem Cf19.lay (h : Cf19 w2 wr gf xw n i p y f) {Z : Nat} (hZ : pe 285 (p i) n f = Z) : ∀ W, wr.setCell ⟨gf, i, none⟩ (.int .u8 (Z : Nat)) = W → Rw W gf n (fun c => if c < i + 1 then pe 285 (p c) n f else 0) ∧ Gj (gf + 1) W xw (cnb (Df19 p y n f) i) (fsel (Df19 p y n f) p i) ∧ Below w2.heap.size w2 W := fun W hW => by
  subst hW
  have lZ : Z < 256 := by rw [← hZ]; exact fld8.pe_lt _ _ _
  refine ⟨(h.row.set i Z lZ).congr (fun c _ => ?_), h.tell.keep (Kp.setCell (Kp.refl gf wr) i _).ke (fun x hx e => by omega), h.bel.setCell (show w2.heap.size ≤ gf by rw [h.gb]; exact Nat.le_refl _) _⟩
  by_cases e : c = i
  · rw [if_pos e, if_pos (by omega), e, hZ]
  · rw [if_neg e]
    by_cases e2 : c < i
    · rw [if_pos e2, if_pos (by omega)]
    · rw [if_neg e2, if_neg (by omega)]
theorem Cf19.no (h : Cf19 w2 wr gf xw n i p y f) {Z : Nat} (hZ : pe 285 (p i) n f = Z) (he : Z = y i) {w6 : World} (hw : wr.setCell ⟨gf, i, none⟩ (.int .u8 (Z : Nat)) = w6) : Cf19 w2 w6.drew gf xw n (i + 1) p y f := by
  obtain ⟨a, b, c⟩ := h.lay hZ w6 hw
  have hP : Df19 p y n f i = false := by unfold Df19; rw [hZ]; exact decide_eq_false (fun h => h he)
  refine ⟨a.drewN 1, ?_, c.trans below_drew0, h.gb⟩
  rw [cnb_no hP, fsel_no hP]
  exact b.below below_drew0
theorem Cf19.yes (h : Cf19 w2 wr gf xw n i p y f) {Z : Nat} (hZ : pe 285 (p i) n f = Z) (he : ¬ Z = y i) (hn : n ≤ 256) (hin : i < n) {w6 : World} (hw : wr.setCell ⟨gf, i, none⟩ (.int .u8 (Z : Nat)) = w6) : ∀ W, w6.drew = W → ∃ w' v', (Builtin.append_ #[24, 24] 24 #[xw, .slice (some ⟨W.heap.size, 0, none⟩) 1 1]).run Try.prog (W.alloc (.cells #[.int .i64 ((p i : Nat) : Int)] 3)) = .ok v' w' ∧ Hid (Cf19 w2 w' gf v' n (i + 1) p y f) := fun W hW => by
  obtain ⟨a, b, c⟩ := h.lay hZ w6 hw
  have bW : Below w6.heap.size w6 W := hW ▸ below_drew0
  have hP : Df19 p y n f i = true := by unfold Df19; rw [hZ]; exact decide_eq_true he
  have rW : Rw W gf n (fun c => if c < i + 1 then pe 285 (p c) n f else 0) := rw_below a bW
  have lt := rW.lt
  obtain ⟨w', v', hrun, hX, hX2⟩ := app_gj (W := W) (b.below bW) (by omega) ((p i : Nat) : Int) (by have := cnb_le (Df19 p y n f) i; omega)
  refine ⟨w', v', hrun, ⟨rW.of_block (hX2.block _ (by omega)), ?_, (c.trans (bW.mono c.size)).trans (hX2.mono (by rw [h.gb]; omega)), h.gb⟩⟩
  rw [cnb_yes hP, fsel_yes hP]
  exact hX
end
/-- Column's answer. -/
def Cmp19 (w w' : World) (e : Ending) (k n : Nat) (p y : Nat → Nat) : Prop := (∃ gf lo xw f, e = .returned (.tuple #[.slice (some ⟨gf, 0, none⟩) n n, xw, .int .i64 0]) ∧ Cm19 w w' gf lo xw k n p y f) ∨ (e = .returned (.tuple #[.slice none 0 0, .slice none 0 0, .int .i64 190]) ∧ (∀ f, Gf2.El 8 f → Dg f k → ¬ Nr19 p y n ((n - k) / 2) f) ∧ Below w.heap.size w w')
set_option maxHeartbeats 16000000 in
set_option maxRecDepth 100000 in
theorem column_r19 (v u : Value) (k n : Nat) (p y : Nat → Nat) (w : World) (h : Qi w v n (fun i => (p i : Int))) (hu : Rb w u n y) (h1 : 1 ≤ k) (hk : k ≤ n) (hn : n ≤ 256) (hp : ∀ i, i < n → p i < 256) (up : Up8 n p) :
    Calls Try.prog 13 #[.int .i64 (k : Int), v, u] w fun e w' => Cmp19 w w' e k n p y := by
  have c1 := checked_any19 v u (k : Int) n n 0 _ w h (by obtain ⟨-, -, a, c, e, -⟩ := hu; exact ⟨a, c, e⟩) (cd_fit19 h1 hk hn hp up)
  have HH : Hid (Qi w v n (fun i => (p i : Int)) ∧ Rb w u n y ∧ 1 ≤ k ∧ k ≤ n ∧ n ≤ 256 ∧ (∀ i, i < n → p i < 256) ∧ Up8 n p) := ⟨h, hu, h1, hk, hn, hp, up⟩
  have c2 := fun (w1 : World) (hb : Below w.heap.size w w1) => near_r19 v u k n p y w1 (h.below hb) (hu.below hb) h1 hk hn hp up
  obtain ⟨-, -, va, vc, rfl, -, -, h4⟩ := h
  obtain ⟨vb, vo, rfl, hvl, hvc⟩ := h4 (by omega)
  obtain ⟨-, hy, ua, uc, rfl, -, -, h4u⟩ := hu
  obtain ⟨ub, uo, rfl, hul, huc⟩ := h4u (by omega)
  have HV : Hid (∀ wr, Below w.heap.size w wr → ∀ i, i < n → wr.cell? ⟨vb, vo + i, none⟩ = some (.int .i64 ((p i : Nat) : Int)) ∧ wr.cell? ⟨ub, uo + i, none⟩ = some (.int .u8 ((y i : Nat) : Int))) := fun wr hb i hi => ⟨(hb.cell (p := ⟨vb, vo + i, none⟩) hvl).trans (hvc i hi), (hb.cell (p := ⟨ub, uo + i, none⟩) hul).trans (huc i hi)⟩
  have hmk := make_u8 n (by omega)
  clear h4 h4u hvl hvc hul huc h1 hk hn hp up hy
  go_enter Try.func13, Try.ntmps13
  go_wp2_with (first
    | (go_at_call 19; (with_reducible refine c1.mono ?_); rintro e w1 ⟨rfl, hb1⟩; have c3 := c2 w1 hb1; clear c1 c2)
    | (go_at_call 22; (with_reducible refine c3.mono ?_); rintro e w2 hN; obtain ⟨v', ok, rfl, hN⟩ := hN; clear c3))
  · have hok : ok = false := by (have hh : (!ok) = true := by assumption); cases ok; rfl; cases hh
    have HF : Hid ((∀ f, Gf2.El 8 f → Dg f k → ¬ Nr19 p y n ((n - k) / 2) f) ∧ Below w.heap.size w w2) := ⟨hN.no hok, hb1.trans (hN.bel.mono hb1.size)⟩
    clear hN hb1
    go_ret3
    exact Or.inr ⟨rfl, HF.out⟩
  · have hok : ok = true := by (have hh : (!ok) = false := by assumption); cases ok; cases hh; rfl
    obtain ⟨L, hs, hl, hL8, el, nr⟩ := hN.yes hok
    have HN : Hid (Sl w2 v' L ∧ L.length ≤ k ∧ (∀ x ∈ L, x < 256) ∧ Gf2.El 8 (co L) ∧ Nr19 p y n ((n - k) / 2) (co L) ∧ Below w.heap.size w w2) := ⟨hs, hl, hL8, el, nr, hb1.trans (hN.bel.mono hb1.size)⟩
    obtain ⟨gf, hgf⟩ : ∃ gf, Hid (w2.heap.size = gf) := ⟨_, rfl⟩
    have r0 := made_rw n (by have := HH.out; omega) w2
    obtain ⟨w5, hw5⟩ : ∃ w5, Hid (w2.alloc (.cells (madeCells #[.int .u8 0] n) 5) = w5) := ⟨_, rfl⟩
    have b5 : Below w2.heap.size w2 w5 := by rw [← hw5.out]; exact (Below.refl _ _).alloc (Nat.le_refl _) _
    rw [hw5.out, hgf.out] at r0
    rw [hw5.out, hgf.out]
    have HC0 : Hid (Cf19 w2 w5 gf (.slice none 0 0) n 0 p y (co L)) := ⟨r0.congr (fun c _ => by rw [if_neg (Nat.not_lt_zero _)]), Gj.start _ _ _, b5, hgf.out.symm⟩
    clear hN hb1 hs hl hL8 el nr hmk r0 b5 hw5 hok
    rename (!ok) = false => hq9
    clear hq9
    generalize (!ok) = bd
    go_loopw [13, 14] (fun l s wr => ∃ i : Nat, i ≤ n ∧ s = .int .i64 ((i : Nat) : Int) ∧ Cf19 w2 wr gf l n i p y (co L)) (fun _ s _ => n - (intOf s).toNat)
    case atStart => exact ⟨0, Nat.zero_le _, rfl, HC0.out⟩
    case round =>
      rename World => wr
      obtain ⟨i, hi, rfl, hC⟩ := hrel
      clear HC0
      obtain ⟨la, lc, rfl⟩ := hC.tell.form
      by_cases hin : i < n
      · have ib : ((i : Nat) : Int) < (n : Int) := Int.ofNat_lt.2 hin
        have bw := HN.out.2.2.2.2.2.trans (hC.bel.mono HN.out.2.2.2.2.2.size)
        obtain ⟨x1, -⟩ := HV.out wr bw i hin
        have c5 := value19 v' L (p i) wr (HN.out.1.below hC.bel) HN.out.2.2.1 (HH.out.2.2.2.2.2.1 i hin)
        obtain ⟨Z, hZ⟩ : ∃ Z, Hid (pe 285 (p i) L.length (co L) = Z) := ⟨_, rfl⟩
        rw [hZ.out] at c5
        have HZ : Hid (pe 285 (p i) n (co L) = Z) := (fld8.pe_cut (p i) (co_dg L) (by have := HN.out; have := HH.out; omega)).trans hZ.out
        have q2 := hC.row.2.2.cell hin
        have q3 := hC.row.2.2.frozen i
        have HC : Hid (Cf19 w2 wr gf (.slice la _ lc) n i p y (co L) ∧ i < n) := ⟨hC, hin⟩
        have HW3 : Hid (wrap64 (((i : Nat) : Int) + 1) = ((i : Nat) : Int) + 1) := wrap_lt8 (j := i) (b := n) hin (by have := HH.out; omega)
        clear hC hi hZ
        go_upto_region 13 with (go_at_call 23; (with_reducible refine c5.mono ?_); rintro e w9 ⟨rfl, hw9⟩; have hw9 := hw9.symm; subst hw9; clear c5)
        generalize hw6 : wr.setCell ⟨gf, i, none⟩ (.int .u8 ((Z : Nat) : Int)) = w6
        obtain ⟨l1, l2, l3⟩ := HC.out.1.lay HZ.out w6 hw6
        have bw6 : Below w.heap.size w w6 := HN.out.2.2.2.2.2.trans (l3.mono HN.out.2.2.2.2.2.size)
        obtain ⟨x1, x2⟩ := HV.out w6 bw6 i hin
        have x3 : w6.cell? ⟨gf, i, none⟩ = some (.int .u8 ((Z : Nat) : Int)) := (l1.2.2.cell hin).trans (by dsimp only; rw [if_pos (Nat.lt_succ_self i), HZ.out])
        clear q2 q3 l1 l2 l3 bw
        by_cases e : Z = y i
        · have HX : Hid (Cf19 w2 w6.drew gf _ n (i + 1) p y (co L)) := HC.out.1.no HZ.out e hw6
          rw [← e] at x2
          clear bw6 hw6 hin
          refine region_still10 (by kernel_rfl) (by kernel_rfl) ?_
          repeat still_step
          refine wpStill_nil ?_
          have W3 := HW3.out
          go_wp2
          go_roundw
          case rel => exact ⟨i + 1, HC.out.2, by first | rfl | (rw [W3]; rfl), HX.out⟩
          case measure => first | exact meas_lt8 HC.out.2 | (rw [W3]; exact meas_lt8 HC.out.2)
        · have HX : Hid (∀ W, w6.drew = W → ∃ w' v', _) := HC.out.1.yes HZ.out e HH.out.2.2.2.2.1 hin hw6
          have HX1 : Hid (∀ W, w6.drew = W → W.cell? ⟨vb, vo + i, none⟩ = some (.int .i64 ((p i : Nat) : Int))) := fun W hW => hW ▸ (HV.out w6.drew (bw6.trans below_drew0) i hin).1
          have T1 : (((Z : Nat) : Int) == ((y i : Nat) : Int)) = false := by simp; omega
          have T2 : ¬ ((Z : Nat) : Int) = ((y i : Nat) : Int) := by omega
          clear bw6 hw6 hin
          refine region_still10 (by kernel_rfl) (by kernel_rfl) ?_
          repeat still_step
          refine wpStill_nil ?_
          generalize hWd : w6.drew = wd
          obtain ⟨w', v9, hrun, HX2⟩ := HX.out wd hWd
          have x4 := HX1.out wd hWd
          have W3 := HW3.out
          clear HX HX1 x1 x2 x3 hWd
          go_wp2_with (at_builtin; refine Lib.wpList_append_run _ rfl _ _ _ _ rfl _ _ rfl rfl _ _ hrun ?_; clear hrun)
          go_roundw
          case rel => exact ⟨i + 1, HC.out.2, by first | rfl | (rw [W3]; rfl), HX2.out⟩
          case measure => first | exact meas_lt8 HC.out.2 | (rw [W3]; exact meas_lt8 HC.out.2)
      · have hin2 : i = n := by omega
        have ib : ¬ ((i : Nat) : Int) < (n : Int) := by omega
        rw [hin2] at hC
        have HF : Hid (Cm19 w wr gf (gf + 1) _ k n p y (co L)) := ⟨HN.out.2.2.2.1, (co_dg L).mono HN.out.2.1, HN.out.2.2.2.2.1, by have := HN.out.2.2.2.2.2.size; have := hgf.out; omega, Nat.lt_succ_self _, hC.row.congr (fun c hc => by rw [if_pos hc]), hC.tell, HN.out.2.2.2.2.2.trans (hC.bel.mono HN.out.2.2.2.2.2.size)⟩
        clear hC hi hin
        go_wp2
        go_ret3
        exact Or.inl ⟨gf, gf + 1, _, co L, rfl, HF.out⟩
end Go.Proofs.Ytfhgamaakkoplaa
namespace Go.Proofs.Ytfhgamaakkoplaa
open Go.RowKit Gf2
set_option linter.unusedVariables false

-- culletref19.Syndromes
/-- Syndromes' answer. -/
def Sy19 (w w' : World) (e : Ending) (k n : Nat) (p y : Nat → Nat) : Prop := ∃ gs R, e = .returned (.tuple #[.slice (some ⟨gs, 0, none⟩) (n - k) (n - k), .int .i64 0]) ∧ Gf2.El 8 R ∧ Dg R n ∧ (∀ i, i < n → pe 285 (p i) n R = y i) ∧ w.heap.size ≤ gs ∧ Rw w' gs (n - k) (fun i => R (k + i)) ∧ Below w.heap.size w w'
set_option maxHeartbeats 16000000 in
set_option maxRecDepth 100000 in
theorem syndromes_r19 (v u : Value) (k n : Nat) (p y : Nat → Nat) (w : World) (h : Qi w v n (fun i => (p i : Int))) (hu : Rb w u n y) (h1 : 1 ≤ k) (hk : k ≤ n) (hn : n ≤ 256) (hp : ∀ i, i < n → p i < 256) (up : Up8 n p) :
    Calls Try.prog 12 #[.int .i64 (k : Int), v, u] w fun e w' => Sy19 w w' e k n p y := by
  have c1 := checked_any19 v u (k : Int) n n 0 _ w h (by obtain ⟨-, -, a, c, e, -⟩ := hu; exact ⟨a, c, e⟩) (cd_fit19 h1 hk hn hp up)
  have cI := itC hn hp hu.2.1 (up_inj8 up)
  have HY : Hid (∀ i, i < n → y i < 256) := hu.2.1
  have c2 := fun (w1 : World) (hb : Below w.heap.size w w1) => wide19 v u n p y w1 (h.below hb) (hu.below hb) hn hp
  have HH : Hid (1 ≤ k ∧ k ≤ n ∧ n ≤ 256 ∧ (∀ i, i < n → p i < 256) ∧ Up8 n p) := ⟨h1, hk, hn, hp, up⟩
  obtain ⟨-, -, va, vc, rfl, -, -, -⟩ := h
  obtain ⟨-, -, ua, uc, rfl, -, -, -⟩ := hu
  obtain ⟨d, hd⟩ : ∃ d, Hid (n - k = d) := ⟨_, rfl⟩
  have W1 := wrapS19 (n := n) (k := k) (e := d) (by have := hd.out; omega) (by omega)
  have hmk := make_u8 d (by have := hd.out; omega)
  clear h1 hk hn hp up
  go_enter Try.func12, Try.ntmps12
  go_wp2_with (first
    | (go_at_call 19; (with_reducible refine c1.mono ?_); rintro e w1 ⟨rfl, hb1⟩; have c3 := c2 w1 hb1; clear c1 c2)
    | (go_at_call 20; (with_reducible refine c3.mono ?_); rintro e w2 ⟨gx, gy, rfl, hWi⟩; have c4 := cI w2 _ _ (hWi.slx HH.out.2.2.1 HH.out.2.2.2.1) (hWi.sly HH.out.2.2.1 HY.out); clear c3 cI)
    | (go_at_call 21; (with_reducible refine c4.mono ?_); rintro e w3 ⟨v', S, rfl, ⟨L, hF, hNe, hco⟩, eS, dS, hS, hb3⟩; clear c4; obtain ⟨f1, f2, gF, f3, rfl, f5⟩ := id hF))
  have bw3 : Below w.heap.size w w3 := (hb1.trans (hWi.bel.mono hb1.size)).trans (hb3.mono (hb1.trans (hWi.bel.mono hb1.size)).size)
  obtain ⟨gs, hgs⟩ : ∃ gs, Hid (w3.heap.size = gs) := ⟨_, rfl⟩
  have r0 := made_rw d (by have := hd.out; have := HH.out; omega) w3
  obtain ⟨w5, hw5⟩ : ∃ w5, Hid (w3.alloc (.cells (madeCells #[.int .u8 0] d) 5) = w5) := ⟨_, rfl⟩
  have b5 : Below w3.heap.size w3 w5 := by rw [← hw5.out]; exact (Below.refl _ _).alloc (Nat.le_refl _) _
  rw [hw5.out, hgs.out] at r0
  rw [hw5.out, hgs.out]
  have lL : L.length ≤ n := neat_le hNe (by rw [hco]; exact dS)
  have HN : Hid (Gf2.El 8 S ∧ Dg S n ∧ (∀ i, i < n → pe 285 (p i) n S = y i) ∧ Below w.heap.size w w3 ∧ L.length ≤ n ∧ co L = S ∧ w3.rowIs gF 57 L.length (fun i => .int .u16 (co L i : Nat))) := ⟨eS, dS, hS, bw3, lL, hco, f5⟩
  have HR0 : Hid (Below w3.heap.size w3 w5 ∧ Rw w5 gs d (fun c => if k + c < k then S (k + c) else 0)) := ⟨b5, r0.congr (fun c _ => by rw [if_neg (by omega)])⟩
  clear hF hNe hco eS dS hS hb3 f1 f2 f3 f5 hWi hb1 bw3 r0 b5 hw5 hmk lL W1
  go_loopw [14] (fun s wr => ∃ i : Nat, k ≤ i ∧ i ≤ n ∧ s = .int .i64 ((i : Nat) : Int) ∧ Below w3.heap.size w3 wr ∧ Rw wr gs d (fun c => if k + c < i then S (k + c) else 0)) (fun s _ => n - (intOf s).toNat)
  case atStart => exact ⟨k, Nat.le_refl _, HH.out.2.1, rfl, HR0.out⟩
  case round =>
    rename World => wr
    obtain ⟨i, hki, hin, rfl, hb, hr⟩ := hrel
    clear HR0
    by_cases hil : i < L.length
    · have ib : ((i : Nat) : Int) < ((L.length : Nat) : Int) := Int.ofNat_lt.2 hil
      have q1 := (HN.out.2.2.2.2.2.2.of_block (hb.block _ HN.out.2.2.2.2.2.2.lt)).cell hil
      rw [HN.out.2.2.2.2.2.1] at q1
      obtain ⟨ik, hik⟩ : ∃ ik, Hid (i - k = ik) := ⟨_, rfl⟩
      have e1 : k + ik = i := by have := hik.out; omega
      have hid : ik < d := by have := hd.out; have := HN.out.2.2.2.2.1; omega
      have q2 := hr.2.2.cell hid
      have q3 := hr.2.2.frozen ik
      have idI : ((ik : Nat) : Int) < ((d : Nat) : Int) := Int.ofNat_lt.2 hid
      have lS : S i < 256 := HN.out.1 i
      have U8 : IntKind.u8.wrap ((S i : Nat) : Int) = ((S i : Nat) : Int) := u8s19 lS
      have HC : Hid (i + 1 ≤ n ∧ k ≤ i + 1 ∧ Below w3.heap.size w3 (wr.setCell ⟨gs, ik, none⟩ (.int .u8 ((S i : Nat) : Int))) ∧ Rw (wr.setCell ⟨gs, ik, none⟩ (.int .u8 ((S i : Nat) : Int))) gs d (fun c => if k + c < i + 1 then S (k + c) else 0)) := ⟨by have := HN.out.2.2.2.2.1; omega, by omega, hb.setCell (show w3.heap.size ≤ gs by rw [hgs.out]; exact Nat.le_refl _) _, (hr.set ik (S i) lS).congr (fun c _ => by
        by_cases e : c = ik
        · rw [if_pos e, if_pos (by omega), e, e1]
        · rw [if_neg e]
          by_cases e2 : k + c < i
          · rw [if_pos e2, if_pos (by omega)]
          · rw [if_neg e2, if_neg (by omega)])⟩
      have HM : Hid (i < n) := by have := HN.out.2.2.2.2.1; show _ < _; omega
      have HW3 : Hid (wrap64 (((i : Nat) : Int) + 1) = ((i : Nat) : Int) + 1) := wrap_lt8 (j := i) (b := L.length) hil (by have := HN.out.2.2.2.2.1; have := HH.out; omega)
      have HW4 : Hid (wrap64 (((i : Nat) : Int) - ((k : Nat) : Int)) = ((ik : Nat) : Int)) := by show _ = _; have := hik.out; have := HN.out.2.2.2.2.1; have := HH.out; unfold wrap64; omega
      generalize S i = si at q1 U8 HC
      clear hb hr hki hin hil e1 hid lS
      have W3 := HW3.out
      have W4 := HW4.out
      go_wp2
      go_roundw
      case rel => exact ⟨i + 1, HC.out.2.1, HC.out.1, by first | rfl | (rw [W3]; rfl), HC.out.2.2⟩
      case measure => first | exact meas_lt8 HM.out | (rw [W3]; exact meas_lt8 HM.out)
    · have ib : ¬ ((i : Nat) : Int) < ((L.length : Nat) : Int) := by omega
      have HF : Hid (Rw wr gs d (fun c => S (k + c)) ∧ Below w.heap.size w wr) := ⟨hr.congr (fun c _ => by
        by_cases e : k + c < i
        · rw [if_pos e]
        · rw [if_neg e, ← HN.out.2.2.2.2.2.1]
          exact (co_dg L (k + c) (by omega)).symm), HN.out.2.2.2.1.trans (hb.mono HN.out.2.2.2.1.size)⟩
      clear hb hr hki hin hil
      go_wp2
      go_ret2
      refine (show ∃ gs R, _ from ⟨gs, S, ?_, HN.out.1, HN.out.2.1, HN.out.2.2.1, by have := HN.out.2.2.2.1.size; have := hgs.out; omega, by rw [hd.out]; exact HF.out.1, HF.out.2⟩)
      rw [hd.out]
      rfl
end Go.Proofs.Ytfhgamaakkoplaa
