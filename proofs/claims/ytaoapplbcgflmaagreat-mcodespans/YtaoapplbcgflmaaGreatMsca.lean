import Derived.Test.YtaoapplbcgflmaaGreatMsbw
import Derived.Test.YtaoapplbcgflmaaGreatMsbz
namespace Go.Proofs.YtaoapplbcgflmaaGreat
open Go.RowKit Gf2
set_option linter.unusedVariables false

-- layer 17: McodeSpans
set_option maxHeartbeats 1000000 in
set_option maxRecDepth 100000 in
theorem spans17_any (nF nB nK nM : Int) (da : Option Addr) (dn dc : Nat) (pa : Option Addr) (pn pc : Nat) (a0 : Int) (W : World) (hd : ∃ D, Rb W (.slice da dn dc) dn D) (hdn : dn ≤ 140737488351232) (hp : ∃ G, Qi W (.slice pa pn pc) pn G) :
    Calls Tryz.prog 6 #[.agg #[.int .i64 nF, .int .i64 nB, .int .i64 nK, .int .i64 nM], .slice da dn dc, .slice pa pn pc, .int .i64 a0] W fun e w' => e = .returned (.bool true) ∧ Below W.heap.size W w' := by
  obtain ⟨D, hD⟩ := hd
  obtain ⟨G, hG⟩ := hp
  have i1 := ino17_in (n := nK) (lo := 1) (hi := 20) (by decide) (by decide)
  have i2 := ino17_in (n := nM) (lo := 1) (hi := 12) (by decide) (by decide)
  obtain ⟨x, hx⟩ : ∃ x, x = W.alloc (.cells #[.int .i64 nF, .int .i64 nB, .int .i64 nK, .int .i64 nM] 23) := ⟨_, rfl⟩
  have hb0 : Below W.heap.size W x := by rw [hx]; exact (Below.refl _ _).alloc (Nat.le_refl _) _
  have hblk : x.heap[W.heap.size]? = some (.cells #[.int .i64 nF, .int .i64 nB, .int .i64 nK, .int .i64 nM] 23 (0, 0)) := by rw [hx]; exact heap_alloc_new _ _
  have HX : Hid (W.alloc (.cells #[.int .i64 nF, .int .i64 nB, .int .i64 nK, .int .i64 nM] 23) = x) := hx.symm
  have c1 := made17 nF nB nK nM x
  have z0 : x.cell? ⟨W.heap.size, 0, none⟩ = some (.int .i64 nF) := by rw [cell_of_row _ _ 0 _ _ _ hblk]; rfl
  have z1 : x.cell? ⟨W.heap.size, 1, none⟩ = some (.int .i64 nB) := by rw [cell_of_row _ _ 1 _ _ _ hblk]; rfl
  have z2 : x.cell? ⟨W.heap.size, 2, none⟩ = some (.int .i64 nK) := by rw [cell_of_row _ _ 2 _ _ _ hblk]; rfl
  have z3 : x.cell? ⟨W.heap.size, 3, none⟩ = some (.int .i64 nM) := by rw [cell_of_row _ _ 3 _ _ _ hblk]; rfl
  generalize ino17 nK 1 20 = k at *
  generalize ino17 nM 1 12 = m at *
  generalize ((ino17 nF 0 1 : Nat) : Int) = f at *
  generalize ino17 nB 0 2 = b at *
  obtain ⟨l, hl⟩ : ∃ l, l = cul17 dn k := ⟨_, rfl⟩
  have hl2 := cul17_in dn k
  rw [← hl] at hl2
  have hat := ino17_in (n := a0) (lo := 0) (hi := l) (Nat.zero_le _) (by omega)
  have c5 : ∀ y, Calls Tryz.prog 17 #[.int .i64 a0, .int .i64 0, .int .i64 (l : Int)] y fun e w' => e = .returned (.int .i64 (ino17 a0 0 l : Nat)) ∧ w' = y := fun y => into17 a0 0 l y (Nat.zero_le _) (by omega)
  generalize ino17 a0 0 l = at_ at *
  have hcp := ino17_in (n := (pn : Int)) (lo := 1) (hi := m) i2.1 (by omega)
  have c6 : ∀ y, Calls Tryz.prog 17 #[.int .i64 (pn : Int), .int .i64 1, .int .i64 (m : Int)] y fun e w' => e = .returned (.int .i64 (ino17 (pn : Int) 1 m : Nat)) ∧ w' = y := fun y => into17 (pn : Int) 1 m y i2.1 (by omega)
  generalize ino17 (pn : Int) 1 m = cp at *
  obtain ⟨kp, hkp⟩ : ∃ kp, kp = k - 1 := ⟨_, rfl⟩
  have hc := fun w1 c (hM : Md17 x w1 c f k m b) w2 (b12 : Below w1.heap.size w1 w2) => spans_a17 (at_ := at_) hb0 hD hdn i1.1 i1.2 i2.1 i2.2 hl hkp hM b12
  have HC : Hid _ := hc
  obtain ⟨S0, hS0⟩ : ∃ S0, S0 = cuv17 dn k D := ⟨_, rfl⟩
  rw [← hS0] at HC
  obtain ⟨Q, hQ⟩ : ∃ Q, Q = pk17 (k + m) (pg17 pn G) cp := ⟨_, rfl⟩
  have HS : Hid (∀ w2 w3 w4 w5 w6 w9 w10 w11 c, Sm17 W w2 w3 w4 w5 w6 w9 w10 w11 c f k m b l at_ S0 → _) := fun w2 w3 w4 w5 w6 w9 w10 w11 c hS => spans_b17 (cp := cp) hS hG i1.1 i1.2 i2.1 i2.2 hl2.1 hl2.2 hat.2 (by omega)
  rw [← hQ] at HS
  have hQn : (ems Q (k + m)).length = cp := by rw [hQ]; exact pk17_len (by omega) cp (by omega)
  have HI : Hid (1 ≤ k ∧ k ≤ 20 ∧ 1 ≤ m ∧ m ≤ 12 ∧ 1 ≤ l ∧ l ≤ 60 ∧ at_ ≤ l ∧ 1 ≤ (ems Q (k + m)).length ∧ (ems Q (k + m)).length ≤ m) := ⟨i1.1, i1.2, i2.1, i2.2, hl2.1, hl2.2, hat.2, by rw [hQn]; exact hcp.1, by rw [hQn]; exact hcp.2⟩
  have c2 := fun w => awake17 w
  have hmk := make_rows k (by omega)
  have hi0 : (0 : Int) < (k : Int) + (m : Int) := by omega
  have ik : (k : Int) < (k : Int) + (m : Int) := by omega
  have ikp : (kp : Int) < (k : Int) := by omega
  have W3 : wrap64 ((k : Int) - 1) = (kp : Int) := by rw [hkp]; exact wrap_pred17 i1.1 (by omega)
  have HW2 : Hid (wrap64 ((k : Int) + (m : Int)) = (k : Int) + (m : Int)) := by show _ = _; unfold wrap64; omega
  clear hc i1 i2 hl hl2 hb0 hblk hx hD hG hdn hcp hS0 hQ hat hkp hQn
  go_enter Tryz.func6, Tryz.ntmps6
  go_wp2_with (first
    | (go_at_call 9; rw [HX.out]; (with_reducible refine c1.mono ?_); rintro e w1 ⟨c, rfl, hM⟩; clear c1 z0 z1 z2 z3)
    | (go_at_call 10; (with_reducible refine (c2 _).mono ?_); rintro e w2 ⟨rfl, hb2⟩; clear c2; have c3 := HC.out w1 c hM w2 hb2; clear HC hM hb2)
    | (go_at_call 11; (with_reducible refine c3.mono ?_); rintro e w3 ⟨rfl, ⟨g0, q0⟩, hN⟩; clear c3; obtain ⟨w4, hw4⟩ : ∃ w4, w3.alloc (.cells #[.int .i64 0, .int .i64 (at_ : Int)] 48) = w4 := ⟨_, rfl⟩; obtain ⟨w5, hw5⟩ : ∃ w5, w4.alloc (.cells #[.int .i64 (at_ : Int), .int .i64 (l : Int)] 48) = w5 := ⟨_, rfl⟩; have c4 := hN w4 hw4 w5 hw5; have HX4 : Hid (w3.alloc (.cells #[.int .i64 0, .int .i64 (at_ : Int)] 48) = w4) := hw4; have HX5 : Hid (w4.alloc (.cells #[.int .i64 (at_ : Int), .int .i64 (l : Int)] 48) = w5) := hw5; clear hN hw4 hw5)
    | (go_at_call 17; (with_reducible refine (c5 _).mono ?_); rintro e w99 ⟨rfl, hw9⟩; have hw9 := hw9.symm; subst hw9; clear c5 q0)
    | (go_at_call 12; rw [HX4.out, HX5.out]; (with_reducible refine c4.mono ?_); rintro e w6 ⟨rfl, hK⟩; clear c4 HX4 HX5; obtain ⟨hz7, gk, ck, w8, g, cf, qk, hrun, qf0, qff, hN9⟩ := hK _ rfl; rw [hz7] at hrun; obtain ⟨w9, hw9⟩ : ∃ w9, w8.setCell ⟨w6.heap.size, kp, none⟩ (.slice (some ⟨g, 0, none⟩) l cf) = w9 := ⟨_, rfl⟩; have c7 := hN9 w9 hw9; have HX9 : Hid (w8.setCell ⟨w6.heap.size, kp, none⟩ (.slice (some ⟨g, 0, none⟩) l cf) = w9) := hw9; clear hK hz7 hN9 hw9)
    | (at_builtin; refine Lib.wpList_append_run _ rfl _ _ _ _ rfl _ _ rfl rfl _ _ hrun ?_; clear hrun qk)
    | (go_at_call 12; rw [HX9.out]; (with_reducible refine c7.mono ?_); rintro e w10 ⟨rfl, c8⟩; clear c7 HX9 qf0 qff)
    | (go_at_call 12; (with_reducible refine c8.mono ?_); rintro e w11 ⟨rfl, hS⟩; clear c8; have HZ4 : Hid (w4.heap.size = w3.heap.size + 1) := hS.sz.2.2.1; have c9 := HS.out _ _ _ _ _ _ _ _ _ hS; clear hS HS)
    | (go_at_call 13; (with_reducible refine c9.mono ?_); rintro e x1 ⟨rfl, hs1, c10⟩; clear c9; have y0 := hs1.c0; have y1 := hs1.c1; rw [HZ4.out] at y0 y1; clear hs1)
    | (go_at_call 21; (with_reducible refine c10.mono ?_); rintro e x2 ⟨rfl, hs1, c11⟩; clear c10 y0 y1; have y0 := hs1.c0; have y1 := hs1.c1; clear hs1)
    | (go_at_call 21; (with_reducible refine c11.mono ?_); rintro e x3 ⟨rfl, c12⟩; clear c11 y0 y1)
    | (go_at_call 14; (with_reducible refine c12.mono ?_); rintro e y3 ⟨rfl, c13⟩; clear c12)
    | (go_at_call 22; (with_reducible refine c13.mono ?_); rintro e x4 ⟨rfl, hs1, c14⟩; clear c13; have y0 := hs1.c0; have y1 := hs1.c1; clear hs1)
    | (go_at_call 23; (with_reducible refine c14.mono ?_); rintro e x5 ⟨rfl, hs1, c15⟩; clear c14 y0 y1; have y0 := hs1.c0; have y1 := hs1.c1; rw [HZ4.out] at y0 y1; clear hs1)
    | (go_at_call 23; (with_reducible refine c15.mono ?_); rintro e x6 ⟨rfl, c16⟩; clear c15 y0 y1)
    | (go_at_call 14; (with_reducible refine c16.mono ?_); rintro e y6 ⟨rfl, c17⟩; clear c16; have W2 := HW2.out)
    | (go_at_call 17; (with_reducible refine (c6 _).mono ?_); rintro e w99 ⟨rfl, hw9⟩; have hw9 := hw9.symm; subst hw9; clear c6)
    | (go_at_call 16; (with_reducible refine c17.mono ?_); rintro e x7 ⟨rfl, hN⟩; clear c17 W2; have HN : Hid _ := hN; clear hN))
  clear hmk hi0 ik ikp W3
  obtain ⟨Ca, Ba, Ta, ha7, hae7, har7⟩ := HN.out.aa
  have hA7 := And.intro ha7 hae7
  have HA7 : Hid _ := hA7
  clear ha7 hae7 hA7
  go_loopw [21, 22] (fun s21 s22 wr => ∃ j : Nat, j ≤ k + m ∧ s22 = .int .i64 j ∧ ∃ NB, Ms17 x7 wr w5.heap.size (k + m) l Q Ca Ba j s21 NB) (fun _ s22 _ => k + m - (intOf s22).toNat)
  case atStart => exact ⟨0, Nat.zero_le _, rfl, _, Ms17.start har7⟩
  case round =>
    clear har7
    obtain ⟨j, hj, rfl, NB, hF⟩ := hrel
    obtain ⟨sa, sC, rfl⟩ := hF.mi.form
    have W2 := HW2.out
    by_cases hlt : j < k + m
    · have ib : ((j : Nat) : Int) < (k : Int) + (m : Int) := by omega
      have HJ : Hid (j < k + m ∧ k + m ≤ 256) := ⟨hlt, by have := HI.out; omega⟩
      have h5 : w5.heap.size < y6.heap.size := by
        obtain ⟨g', cap', e, -, -, -, h2, -⟩ := HA7.out.1.at17 (by omega)
        cases e
        have := HN.out.sz
        omega
      have qo : wr.cell? ⟨y6.heap.size, j, none⟩ = some (.bool (Q j)) := (hF.ke.cell HN.out.pp.lt (by omega)).trans (HN.out.pp.cell hlt)
      have W1 := wrap_succ8 (j := j) (by have := HJ.out; unfold big; omega)
      cases hq : Q j
      · rw [hq] at qo
        have HE : Hid _ := hF.skip hq
        clear hF hq h5 hj hlt
        go_wp2
        go_roundw
        case rel => exact ⟨j + 1, HJ.out.1, by first | rfl | (rw [W1]; rfl), _, HE.out⟩
        case measure => first | exact meas_lt8 HJ.out.1 | (rw [W1]; exact meas_lt8 HJ.out.1)
      · rw [hq] at qo
        obtain ⟨wa, va, hrun, hGa, hka⟩ := app_gk hF.mi hF.ke.size (j : Int) (by have := ems_le Q j; have := HJ.out; omega)
        have hm8 := make_u8 l (by have := HI.out; omega)
        have hz7 := HN.out.sz
        have hza := hka.size
        have hzr := hF.ke.size
        have al := (hF.al.of_block (hka.2 _ hF.al.lt (fun x => by omega))).of_block (Below.heap_alloc wa (.cells (madeCells #[.int .u8 0] l) 5) _ (by have := hF.al.lt; omega))
        have q8 := al.cell hlt
        rw [if_neg (fun x => Nat.lt_irrefl _ x.1)] at q8
        have q8f := al.frozen j
        have HE : Hid _ := hF.next hlt hq (by omega) (by have := HI.out; omega) hGa hka rfl
        clear hF hq h5 hj hlt hGa hka hz7 hza hzr al
        go_wp2_with (at_builtin; refine Lib.wpList_append_run _ rfl _ _ _ _ rfl _ _ rfl rfl _ _ hrun ?_; clear hrun)
        go_roundw
        case rel => exact ⟨j + 1, HJ.out.1, by first | rfl | (rw [W1]; rfl), _, HE.out⟩
        case measure => first | exact meas_lt8 HJ.out.1 | (rw [W1]; exact meas_lt8 HJ.out.1)
    · have hjk : j = k + m := by omega
      subst hjk
      have htn : ¬ (((k + m : Nat) : Nat) : Int) < (k : Int) + (m : Int) := by omega
      have htn2 : ¬ (k : Int) + (m : Int) < (k : Int) + (m : Int) := by omega
      have d1 := spans_c17 HN.out HA7.out.1 HA7.out.2 hF HI.out.1 HI.out.2.1 HI.out.2.2.1 HI.out.2.2.2.1 HI.out.2.2.2.2.1 HI.out.2.2.2.2.2.1 HI.out.2.2.2.2.2.2.1 HI.out.2.2.2.2.2.2.2.1 HI.out.2.2.2.2.2.2.2.2
      clear hF hj hlt
      go_wp2_with (first
        | (go_at_call 24; (with_reducible refine d1.mono ?_); rintro e p1 ⟨ma, mn, mc, ua, un, uc, da', dn', dc', rfl, hP⟩; clear d1 W2; obtain ⟨hbx, hlo2, d2⟩ := hP _ rfl; clear hP; have y0 : (p1.alloc (.cells #[.slice ma mn mc, .slice ua un uc, .slice da' dn' dc', .slice none 0 0] 54)).cell? ⟨p1.heap.size, 0, none⟩ = some (.slice ma mn mc) := (by rw [cell_of_row _ _ 0 _ _ _ hbx]; rfl); have y1 : (p1.alloc (.cells #[.slice ma mn mc, .slice ua un uc, .slice da' dn' dc', .slice none 0 0] 54)).cell? ⟨p1.heap.size, 1, none⟩ = some (.slice ua un uc) := (by rw [cell_of_row _ _ 1 _ _ _ hbx]; rfl); have y2 : (p1.alloc (.cells #[.slice ma mn mc, .slice ua un uc, .slice da' dn' dc', .slice none 0 0] 54)).cell? ⟨p1.heap.size, 2, none⟩ = some (.slice da' dn' dc') := (by rw [cell_of_row _ _ 2 _ _ _ hbx]; rfl); have y3 : (p1.alloc (.cells #[.slice ma mn mc, .slice ua un uc, .slice da' dn' dc', .slice none 0 0] 54)).cell? ⟨p1.heap.size, 3, none⟩ = some (.slice none 0 0) := (by rw [cell_of_row _ _ 3 _ _ _ hbx]; rfl); have l0 := hlo2.c0; have l1 := hlo2.c1; clear hbx hlo2)
        | (go_at_call 25; (with_reducible refine d2.mono ?_); rintro e p3 ⟨rfl, hS⟩; clear d2 y0 y1 y2 y3 l0 l1; have HS : Hid _ := hS; clear hS))
      obtain ⟨n, hn⟩ : ∃ n, n = (ems Q (k + m)).length := ⟨_, rfl⟩
      have Hn : Hid (n = (ems Q (k + m)).length) := hn
      rw [← hn]
      clear hn
      obtain ⟨Cr, Br, har, hzr⟩ := HS.out.ar
      have hR := And.intro har hzr
      have HR : Hid _ := hR
      clear har hzr hR
      go_loopw [25, 26] (fun s25 s26 wr => ∃ i : Nat, i ≤ n ∧ s25 = .int .i64 i ∧ wr = p3) (fun s25 _ _ => n - (intOf s25).toNat)
      case atStart => exact ⟨0, Nat.zero_le _, rfl, rfl⟩
      case round =>
        obtain ⟨i, hi, rfl, hw⟩ := hrel
        have hw := hw.symm
        subst hw
        by_cases hlt : i < n
        · have ib : ((i : Nat) : Int) < (n : Int) := by omega
          have HJ : Hid (i < n ∧ n ≤ 12) := ⟨hlt, by have := HI.out; have := Hn.out; omega⟩
          have hin : i < (ems Q (k + m)).length := by rw [← Hn.out]; exact hlt
          obtain ⟨e1, e2⟩ := eN_mem hin
          obtain ⟨-, -, a', cp', e', -, -, h4⟩ := HS.out.mq
          cases e'
          obtain ⟨vb, vo, rfl, -, hvc⟩ := h4 (by omega)
          have q1 := hvc i hin
          rw [emz_eN] at q1
          have q2 := HR.out.1 _ e1
          have HZ : Hid (∀ t, at_ ≤ t → t < l → _) := HR.out.2 _ e1 e2
          obtain ⟨z, hz⟩ : ∃ z, z = eN Q (k + m) i := ⟨_, rfl⟩
          rw [← hz] at q1 q2 HZ e1
          have iz : ((z : Nat) : Int) < (k : Int) + (m : Int) := by omega
          have iz2 : z < k + m := e1
          clear hz e2 hvc h4 hin hi hlt e1
          go_wp2
          go_loopw [26] (fun s26 wr => ∃ t : Nat, at_ ≤ t ∧ t ≤ l ∧ s26 = .int .i64 t ∧ wr = p3) (fun s26 _ => l - (intOf s26).toNat)
          case atStart => exact ⟨at_, Nat.le_refl _, HI.out.2.2.2.2.2.2.1, rfl, rfl⟩
          case round =>
            obtain ⟨t, ht1, ht2, rfl, hw⟩ := hrel
            have hw := hw.symm
            subst hw
            by_cases htl : t < l
            · have ib2 : ((t : Nat) : Int) < (l : Int) := by omega
              have q3 := HZ.out t ht1 htl
              have HT : Hid (at_ ≤ t ∧ t < l) := ⟨ht1, htl⟩
              have W5 := wrap_succ8 (j := t) (by have := HI.out; unfold big; omega)
              clear ht1 ht2
              go_wp2
              go_roundw
              case rel => exact ⟨t + 1, Nat.le_succ_of_le HT.out.1, HT.out.2, by first | rfl | (rw [W5]; rfl), by first | trivial | rfl⟩
              case measure => first | exact meas_lt8 HT.out.2 | (rw [W5]; exact meas_lt8 HT.out.2)
            · have ib2 : ¬ ((t : Nat) : Int) < (l : Int) := by omega
              have W1 := wrap_succ8 (j := i) (by have := HJ.out; unfold big; omega)
              clear ht1 ht2 htl
              go_wp2
              go_roundw
              case rel => exact ⟨i + 1, HJ.out.1, by first | rfl | (rw [W1]; rfl), by first | trivial | rfl⟩
              case measure => first | exact meas_lt8 HJ.out.1 | (rw [W1]; exact meas_lt8 HJ.out.1)
        · have ib : ¬ ((i : Nat) : Int) < (n : Int) := by omega
          have d3 := HS.out.nx
          have hbx := HS.out.bx
          have y0 := cell_of_row _ _ 0 _ _ _ hbx
          have y1 := cell_of_row _ _ 1 _ _ _ hbx
          have y2 := cell_of_row _ _ 2 _ _ _ hbx
          have y3 := cell_of_row _ _ 3 _ _ _ hbx
          have l0 := HS.out.hi.c0
          have l1 := HS.out.hi.c1
          rw [HZ4.out] at l0 l1
          have W5 : wrap64 ((l : Int) + 1) = (l : Int) + 1 := wrap_succ8 (j := l) (by have := HI.out; unfold big; omega)
          have s1 := tailL17 w2.heap.size (k + m) (by have := HI.out; omega)
          have s2 := tailL17 w5.heap.size (k + m) (by have := HI.out; omega)
          have hi0 : (0 : Int) < (k : Int) + (m : Int) := by have := HI.out; omega
          have hl0 : (0 : Int) < (l : Int) := by have := HI.out; omega
          have hl1 : 0 < l := by have := HI.out; omega
          clear hi hlt hbx HR
          go_wp2_with (first
            | (go_at_call 25; (with_reducible refine d3.mono ?_); rintro e p4 ⟨rfl, d4⟩; clear d3 y0 y1 y2 y3 l0 l1)
            | (go_at_call 14; (with_reducible refine d4.mono ?_); rintro e y4 ⟨rfl, hbx, d5⟩; clear d4; have y0 := cell_of_row _ _ 0 _ _ _ hbx; have y1 := cell_of_row _ _ 1 _ _ _ hbx; have y2 := cell_of_row _ _ 2 _ _ _ hbx; have y3 := cell_of_row _ _ 3 _ _ _ hbx; clear hbx)
            | (go_at_call 25; (with_reducible refine d5.mono ?_); rintro e p5 ⟨rfl, hQ⟩; clear d5 y0 y1 y2 y3; obtain ⟨gs, cg, vs, u1, u2, u3, u4, hN6⟩ := hQ; have X1 : bits .xor .u8 (vs : Int) 1 = ((vs ^^^ 1 : Nat) : Int) := u8_xor_nat vs 1 u3 (by decide); obtain ⟨p6, hp6⟩ : ∃ p6, p5.setCell ⟨gs, 0, none⟩ (.int .u8 ((vs ^^^ 1 : Nat) : Int)) = p6 := ⟨_, rfl⟩; obtain ⟨hlo6, d6⟩ := hN6 p6 hp6; have HX6 : Hid (p5.setCell ⟨gs, 0, none⟩ (.int .u8 ((vs ^^^ 1 : Nat) : Int)) = p6) := hp6; have l0 := hlo6.c0; have l1 := hlo6.c1; rw [← HX6.out] at l0 l1; clear hN6 hp6 hlo6 u3)
            | (go_at_call 26; rw [HX6.out]; (with_reducible refine d6.mono ?_); rintro e p7 ⟨rfl, hhi7, d7⟩; clear d6 l0 l1 u1 u2 u4 X1 HX6; have l0 := hhi7.c0; have l1 := hhi7.c1; rw [HZ4.out] at l0 l1; clear hhi7)
            | (go_at_call 26; (with_reducible refine d7.mono ?_); rintro e p8 ⟨rfl, d8⟩; clear d7 l0 l1)
            | (go_at_call 20; (with_reducible refine d8.mono ?_); rintro e p9 ⟨rfl, hbe, d9⟩; clear d8; have HBe : Hid _ := hbe; clear hbe))
          by_cases h0 : at_ = 0
          · have e1 : decide (at_ = 0) = true := decide_eq_true h0
            have e2 : decide (0 < at_) = false := decide_eq_false (by omega)
            rw [e1, e2]
            have D1 : ((at_ : Int) == 0) = true := beq_iff_eq.2 (by omega)
            have D2 : ¬ (0 : Int) < (at_ : Int) := by omega
            clear e1 e2
            go_quiet ((go_at_call 14; with_reducible exact Calls.quiet_of (d9 _)))
            go_wp2
            go_ret
            exact ⟨rfl, by first | exact below_drewN HBe.out _ | exact (below_drewN HBe.out _).drew⟩
          · have e1 : decide (at_ = 0) = false := decide_eq_false h0
            have e2 : decide (0 < at_) = true := decide_eq_true (by omega)
            rw [e1, e2]
            have D1 : ((at_ : Int) == 0) = false := beq_eq_false_iff_ne.2 (by omega)
            have D2 : (0 : Int) < (at_ : Int) := by omega
            have D4 : 0 < at_ := by omega
            clear e1 e2 h0
            go_quiet ((go_at_call 14; with_reducible exact Calls.quiet_of (d9 _)))
            go_wp2
            go_ret
            exact ⟨rfl, by first | exact below_drewN HBe.out _ | exact (below_drewN HBe.out _).drew⟩
end Go.Proofs.YtaoapplbcgflmaaGreat
