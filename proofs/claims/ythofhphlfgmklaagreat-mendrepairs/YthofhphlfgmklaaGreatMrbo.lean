import Derived.Test.YthofhphlfgmklaaGreatMrbn
import Derived.Deep.Cut
namespace Go.Proofs.YthofhphlfgmklaaGreat
open Go.RowKit Gf2
set_option linter.unusedVariables false

set_option maxHeartbeats 8000000 in
set_option maxRecDepth 100000 in
theorem repairs19 (f k m : Int) (aS aL aW : Option Addr) (T cS nL cL nW cW : Nat) (sl : Nat → Nat) (Sd : Nat → Nat → Nat) (Lo Co Sh : Nat → Int) (Mk : Nat → Nat) (w : World) (hS : Lb w (.slice aS T cS) T sl Sd) (hL : Qi w (.slice aL nL cL) nL Lo) (hW : Qw19 w (.slice aW nW cW) nW Co Sh Mk) :
    Calls Tryz.prog 3 #[.agg #[.int .i64 f, .int .i64 k, .int .i64 m, .slice aS T cS, .slice aL nL cL, .slice aW nW cW]] w fun e w' => e = .returned (.bool true) ∧ Below w.heap.size w w' := by
  have bW : Below w.heap.size w (w.alloc (.cells #[.int .i64 f, .int .i64 k, .int .i64 m, .slice aS T cS, .slice aL nL cL, .slice aW nW cW] 26)) := (Below.refl _ _).alloc (Nat.le_refl _) _
  have hblk : (w.alloc (.cells #[.int .i64 f, .int .i64 k, .int .i64 m, .slice aS T cS, .slice aL nL cL, .slice aW nW cW] 26)).heap[w.heap.size]? = some (.cells #[.int .i64 f, .int .i64 k, .int .i64 m, .slice aS T cS, .slice aL nL cL, .slice aW nW cW] 26 (0, 0)) := heap_alloc_new _ _
  have HZ : Hid (∀ W, Below (w.alloc (.cells #[.int .i64 f, .int .i64 k, .int .i64 m, .slice aS T cS, .slice aL nL cL, .slice aW nW cW] 26)).heap.size (w.alloc (.cells #[.int .i64 f, .int .i64 k, .int .i64 m, .slice aS T cS, .slice aL nL cL, .slice aW nW cW] 26)) W → W.cell? ⟨w.heap.size, 0, none⟩ = some (.int .i64 f) ∧ W.cell? ⟨w.heap.size, 1, none⟩ = some (.int .i64 k) ∧ W.cell? ⟨w.heap.size, 2, none⟩ = some (.int .i64 m) ∧ W.cell? ⟨w.heap.size, 3, none⟩ = some (.slice aS T cS) ∧ W.cell? ⟨w.heap.size, 4, none⟩ = some (.slice aL nL cL) ∧ W.cell? ⟨w.heap.size, 5, none⟩ = some (.slice aW nW cW) ∧ Below w.heap.size w W) := fun W hW => by
    have h := (hW.block _ (Array.getElem?_eq_some_iff.1 hblk).1).trans hblk
    exact ⟨by rw [cell_of_row _ _ 0 _ _ _ h]; rfl, by rw [cell_of_row _ _ 1 _ _ _ h]; rfl, by rw [cell_of_row _ _ 2 _ _ _ h]; rfl, by rw [cell_of_row _ _ 3 _ _ _ h]; rfl, by rw [cell_of_row _ _ 4 _ _ _ h]; rfl, by rw [cell_of_row _ _ 5 _ _ _ h]; rfl, bW.trans (hW.mono bW.size)⟩
  have c1 := awake19 (w.alloc (.cells #[.int .i64 f, .int .i64 k, .int .i64 m, .slice aS T cS, .slice aL nL cL, .slice aW nW cW] 26))
  have HS : Hid (Lb w (.slice aS T cS) T sl Sd ∧ Qi w (.slice aL nL cL) nL Lo ∧ Qw19 w (.slice aW nW cW) nW Co Sh Mk) := ⟨hS, hL, hW⟩
  clear bW hblk hS hL hW
  go_enter Tryz.func3, Tryz.ntmps3
  go_upto_region 3 with (go_at_call 6; (with_reducible refine c1.mono ?_); rintro e w1 ⟨rfl, hb1⟩; clear c1; obtain ⟨z0, z1, z2, z3, z4, z5, hbw⟩ := HZ.out w1 hb1)
  have HB : Hid (Below w.heap.size w w1) := hbw
  clear hb1 hbw HZ
  by_cases hv : (f = 0 ∨ f = 1) ∧ 1 ≤ k ∧ 1 ≤ m ∧ k ≤ 256 ∧ m ≤ 256 ∧ k + m ≤ 256
  case neg =>
    have c2 := valid_no19 f k m w1 hv
    clear hv
    go_wp2_with (go_at_call 7; (with_reducible refine c2.mono ?_); rintro e w9 ⟨rfl, hw9⟩; have hw9 := hw9.symm; subst hw9; clear c2)
    go_ret
    exact ⟨rfl, HB.out⟩
  obtain ⟨f', k', m', rfl, rfl, rfl, v1, v2, v3, v4⟩ : ∃ f' k' m' : Nat, f = f' ∧ k = k' ∧ m = m' ∧ f' ≤ 1 ∧ 1 ≤ k' ∧ 1 ≤ m' ∧ k' + m' ≤ 256 := ⟨f.toNat, k.toNat, m.toNat, by omega, by omega, by omega, by omega, by omega, by omega, by omega⟩
  have c2 := valid19 f' k' m' w1 v1 v2 v3 v4
  have HV : Hid (f' ≤ 1 ∧ 1 ≤ k' ∧ 1 ≤ m' ∧ k' + m' ≤ 256) := ⟨v1, v2, v3, v4⟩
  clear hv v1 v2 v3 v4
  by_cases hT0 : T = 0
  · have t0 : (((T : Nat) : Int) == 0) = true := by simp [hT0]
    have t1 : ((T : Nat) : Int) = 0 := by omega
    clear hT0
    go_wp2_with (go_at_call 7; (with_reducible refine c2.mono ?_); rintro e w9 ⟨rfl, hw9⟩; have hw9 := hw9.symm; subst hw9; clear c2)
    go_ret
    exact ⟨rfl, HB.out⟩
  have t0 : (((T : Nat) : Int) == 0) = false := by simp; omega
  have t1 : ¬ ((T : Nat) : Int) = 0 := by omega
  by_cases hT1 : 64 < T
  · have t2 : (64 : Int) < ((T : Nat) : Int) := by omega
    clear hT1
    go_wp2_with (go_at_call 7; (with_reducible refine c2.mono ?_); rintro e w9 ⟨rfl, hw9⟩; have hw9 := hw9.symm; subst hw9; clear c2)
    go_ret
    exact ⟨rfl, HB.out⟩
  have t2 : ¬ (64 : Int) < ((T : Nat) : Int) := by omega
  obtain ⟨n, hn⟩ : ∃ n, n = k' + m' := ⟨_, rfl⟩
  obtain ⟨q, hq⟩ : ∃ q, q = n * n := ⟨_, rfl⟩
  obtain ⟨r, hr⟩ : ∃ r, r = q * T := ⟨_, rfl⟩
  have HN : Hid (n = k' + m' ∧ n ≤ 256 ∧ 1 ≤ T ∧ T ≤ 64) := by have := HV.out; exact ⟨hn, by omega, by omega, by omega⟩
  have HW1 : Hid (wrap64 ((k' : Int) + (m' : Int)) = (n : Int)) := by show _ = _; have := HV.out; unfold wrap64; omega
  have q9 : q ≤ 65536 := by rw [hq]; exact Nat.mul_le_mul HN.out.2.1 HN.out.2.1
  have r9 : r ≤ 4194304 := by rw [hr]; exact Nat.mul_le_mul q9 HN.out.2.2.2
  have HW2 : Hid (wrap64 ((n : Int) * (n : Int)) = (q : Int)) := by show _ = _; rw [← Int.natCast_mul, ← hq]; clear HW1; unfold wrap64; omega
  have HW3 : Hid (wrap64 ((q : Int) * (T : Int)) = (r : Int)) := by show _ = _; rw [← Int.natCast_mul, ← hr]; clear HW1 HW2; unfold wrap64; omega
  clear hn hq hr q9 r9 hT0 hT1
  by_cases hr9 : 262144 < r
  · have t3 : (262144 : Int) < (r : Int) := by omega
    clear hr9
    have W1 := HW1.out
    have W2 := HW2.out
    have W3 := HW3.out
    go_wp2_with (go_at_call 7; (with_reducible refine c2.mono ?_); rintro e w9 ⟨rfl, hw9⟩; have hw9 := hw9.symm; subst hw9; clear c2)
    go_ret
    exact ⟨rfl, HB.out⟩
  have t3 : ¬ (262144 : Int) < (r : Int) := by omega
  clear hr9
  have c3 := repairs_a19 f' k' m' n T w.heap.size aS aL aW cS nL cL nW cW sl Sd Lo Co Sh Mk w w1 HV.out.1 HV.out.2.1 HN.out.1 HN.out.2.1 HN.out.2.2.2 HS.out.1 HS.out.2.1 HS.out.2.2 HB.out ⟨z0, z1, z2, z3, z4, z5⟩
  obtain ⟨V, hV⟩ : ∃ V : Nat → Nat → Nat, V = fun x z => col19 f' k' (sd19 sl Sd z) x := ⟨_, rfl⟩
  rw [← hV] at c3
  have HVV : Hid ((∀ z, z < T → ∀ x, x < n → V x z < 256) ∧ ∀ z, z < T → Cw19 f' k' n (fun x => V x z)) := by
    have hsd : ∀ z, z < T → ∀ i, i < k' → sd19 sl Sd z i < 256 := fun z hz i _ => by
      obtain ⟨xa, xc, -, x2⟩ := lb_open19 HS.out.1
      unfold sd19
      split
      · exact (x2 z hz).2.1 i (by assumption)
      · decide
    rw [hV]
    exact ⟨fun z hz x hx => col19_lt (hsd z hz) x, fun z hz => col_cw19 HV.out.1 (by have := HN.out; omega) HN.out.2.1 (hsd z hz)⟩
  clear hV HS
  have W1 := HW1.out
  have W2 := HW2.out
  have W3 := HW3.out
  go_upto_region 8 with (first
    | (go_at_call 7; (with_reducible refine c2.mono ?_); rintro e w9 ⟨rfl, hw9⟩; have hw9 := hw9.symm; subst hw9; clear c2)
    | (go_at_call 8; (with_reducible refine c3.mono ?_); rintro e w2 ⟨gs, rfl, c4⟩; clear c3 z0 z1 z2 z3 z4 z5 W2 W3)
    | (go_at_call 9; (with_reducible refine c4.mono ?_); rintro e w3 ⟨Bw, B, C, G, rfl, hPm⟩; clear c4 W1))
  have HK : Hid (∀ W, Below w2.heap.size w2 W → Pk19 w W w.heap.size gs n T f' k' m' aS aL aW cS nL cL nW cW Lo Co Sh Mk Bw V) := hPm.keep
  have HR : Hid (Rp19 w2 w3 n T B (fun _ => T) C (fun x => some ⟨B x, 0, none⟩) C G ∧ cnb (emp (fun _ => T)) n = 0) := ⟨hPm.rp, cnb_zero (fun i _ => by
    show (T == 0) = false
    have := HN.out
    simp; omega)⟩
  have z4 := (hPm.keep w3 hPm.rp.bel).z4
  clear hPm HW1 HW2 HW3 t0 t1 t2 t3 HB
  go_wp2
  clear z4
  go_loopw [72, 6] (fun s x wr => ∃ (t ee : Nat) (ln vc : Nat → Nat) (va : Nat → Option Addr), t ≤ nL ∧ s = .int .i64 (t : Int) ∧ x = .int .i64 (ee : Int) ∧ ee ≤ m' ∧ cnb (emp ln) n = ee ∧ Rp19 w2 wr n T B ln C va vc G) (fun s _ _ => nL - (intOf s).toNat)
  case atStart => exact ⟨0, 0, _, _, _, Nat.zero_le _, rfl, rfl, Nat.zero_le _, HR.out.2, HR.out.1⟩
  case round =>
    obtain ⟨t, ee, ln, vc, va, ht, rfl, rfl, hee, hce, hR⟩ := hrel
    clear HR
    by_cases htl : t < nL
    · have itl : ((t : Nat) : Int) < (nL : Int) := Int.ofNat_lt.2 htl
      have hP := HK.out wr hR.bel
      obtain ⟨hnb, -, aL', cL', e, -, -, h4⟩ := hP.lost
      cases e
      obtain ⟨bL, oL, rfl, -, hc⟩ := h4 (by omega)
      have q1 := hc t htl
      have W1 := wrap_succ8 (j := t) (by omega)
      have HE : Hid (t < nL ∧ ee ≤ m' ∧ cnb (emp ln) n = ee ∧ Rp19 w2 wr n T B ln C va vc G) := ⟨htl, hee, hce, hR⟩
      clear hP hnb h4 hc hR hce ht htl
      obtain ⟨v, hv⟩ : ∃ v, Lo t = v := ⟨_, rfl⟩
      rw [hv] at q1
      clear hv
      by_cases c0 : v < 0
      · have d0 : decide (0 ≤ v) = false := decide_eq_false (by omega)
        have d1 : ¬ (0 : Int) ≤ v := by omega
        clear c0
        go_wp2
        go_roundw
        case rel => exact ⟨t + 1, ee, ln, vc, va, HE.out.1, by first | rfl | (rw [W1]; rfl), rfl, HE.out.2.1, HE.out.2.2.1, HE.out.2.2.2⟩
        case measure => first | exact meas_lt8 HE.out.1 | (rw [W1]; exact meas_lt8 HE.out.1)
      have d0 : decide (0 ≤ v) = true := decide_eq_true (by omega)
      have d1 : (0 : Int) ≤ v := by omega
      by_cases c1 : (n : Int) ≤ v
      · have d2 : decide (v < (n : Int)) = false := decide_eq_false (by omega)
        have d3 : ¬ v < (n : Int) := by omega
        clear c0 c1
        go_wp2
        go_roundw
        case rel => exact ⟨t + 1, ee, ln, vc, va, HE.out.1, by first | rfl | (rw [W1]; rfl), rfl, HE.out.2.1, HE.out.2.2.1, HE.out.2.2.2⟩
        case measure => first | exact meas_lt8 HE.out.1 | (rw [W1]; exact meas_lt8 HE.out.1)
      obtain ⟨a, rfl⟩ : ∃ a : Nat, v = a := ⟨v.toNat, by omega⟩
      have han : a < n := by omega
      have d3 : (a : Int) < (n : Int) := by omega
      have d2 : decide ((a : Int) < (n : Int)) = true := decide_eq_true d3
      clear c0 c1
      by_cases h0 : ln a = 0
      · have q2 := HE.out.2.2.2.cell han
        rw [h0] at q2
        clear h0
        go_wp2
        go_roundw
        case rel => exact ⟨t + 1, ee, ln, vc, va, HE.out.1, by first | rfl | (rw [W1]; rfl), rfl, HE.out.2.1, HE.out.2.2.1, HE.out.2.2.2⟩
        case measure => first | exact meas_lt8 HE.out.1 | (rw [W1]; exact meas_lt8 HE.out.1)
      have q2 := HE.out.2.2.2.full han h0
      have T0 : (0 : Int) < (T : Int) := by have := HN.out; omega
      have T0N : 0 < T := by have := HN.out; omega
      have z2 := (HK.out wr HE.out.2.2.2.bel).z2
      by_cases hem : ee < m'
      case neg =>
        have d4 : ¬ (ee : Int) < (m' : Int) := by omega
        have d5 : decide ((ee : Int) < (m' : Int)) = false := decide_eq_false d4
        clear h0
        go_wp2
        go_roundw
        case rel => exact ⟨t + 1, ee, ln, vc, va, HE.out.1, by first | rfl | (rw [W1]; rfl), rfl, HE.out.2.1, HE.out.2.2.1, HE.out.2.2.2⟩
        case measure => first | exact meas_lt8 HE.out.1 | (rw [W1]; exact meas_lt8 HE.out.1)
      have d4 : (ee : Int) < (m' : Int) := by omega
      have d5 : decide ((ee : Int) < (m' : Int)) = true := decide_eq_true d4
      have q3 := HE.out.2.2.2.list.row.frozen a
      have HF : Hid (ee + 1 ≤ m' ∧ cnb (emp (fun x => if x = a then 0 else ln x)) n = ee + 1 ∧ Rp19 w2 (wr.setCell ⟨w2.heap.size, a, none⟩ (.slice none 0 0)) n T B (fun x => if x = a then 0 else ln x) C (fun x => if x = a then none else va x) (fun x => if x = a then 0 else vc x) G) := ⟨hem, by rw [Rp19.emp_ han h0, HE.out.2.2.1], HE.out.2.2.2.lose han⟩
      have W2 := wrap_succ8 (j := ee) (by have := HV.out; unfold big; omega)
      clear h0 hem
      go_wp2
      go_roundw
      case rel => exact ⟨t + 1, ee + 1, _, _, _, HE.out.1, by first | rfl | (rw [W1]; rfl), by first | rfl | (rw [W2]; rfl), HF.out.1, HF.out.2.1, HF.out.2.2⟩
      case measure => first | exact meas_lt8 HE.out.1 | (rw [W1]; exact meas_lt8 HE.out.1)
    · have itl : ¬ ((t : Nat) : Int) < (nL : Int) := by omega
      have z5 := (HK.out wr hR.bel).z5
      have HE : Hid (ee ≤ m' ∧ cnb (emp ln) n = ee ∧ Rp19 w2 wr n T B ln C va vc G) := ⟨hee, hce, hR⟩
      clear hR hce hee htl ht
      go_wp2
      clear z5 itl
      have HI : Hid (ee ≤ m' ∧ cnb (emp ln) n = ee ∧ ∀ x, x < n → ln x = T ∨ ln x = 0) := ⟨HE.out.1, HE.out.2.1, HE.out.2.2.lens⟩
      go_loopw [106] (fun s wr => ∃ (t : Nat) (G : Nat → Nat → Nat), t ≤ nW ∧ s = .int .i64 (t : Int) ∧ Rp19 w2 wr n T B ln C va vc G) (fun s _ => nW - (intOf s).toNat)
      case atStart => exact ⟨0, _, Nat.zero_le _, rfl, HE.out.2.2⟩
      case round =>
        obtain ⟨t, G, ht, rfl, hR⟩ := hrel
        clear HE
        by_cases htl : t < nW
        · have itl : ((t : Nat) : Int) < (nW : Int) := Int.ofNat_lt.2 htl
          obtain ⟨hnb, aW', cW', e, -, -, h4⟩ := (HK.out wr hR.bel).wrongs
          cases e
          obtain ⟨bW, oW, rfl, -, hc⟩ := h4 (by omega)
          obtain ⟨mk8, q0, q1, q2⟩ := hc t htl
          have W1 := wrap_succ8 (j := t) (by omega)
          obtain ⟨cc, hcc⟩ : ∃ cc, Co t = cc := ⟨_, rfl⟩
          obtain ⟨ss, hss⟩ : ∃ ss, Sh t = ss := ⟨_, rfl⟩
          obtain ⟨mk, hmk⟩ : ∃ mk, Mk t = mk := ⟨_, rfl⟩
          rw [hcc] at q0
          rw [hss] at q1
          rw [hmk] at q2 mk8
          obtain ⟨X, hX⟩ : ∃ X, Hid (wr.alloc (.cells #[.int .i64 cc, .int .i64 ss, .int .u8 (mk : Nat)] 33) = X) := ⟨_, rfl⟩
          have bA : Below wr.heap.size wr X := by rw [← hX.out]; exact (Below.refl _ _).alloc (Nat.le_refl _) _
          have hbl : X.heap[wr.heap.size]? = some (.cells #[.int .i64 cc, .int .i64 ss, .int .u8 (mk : Nat)] 33 (0, 0)) := by rw [← hX.out]; exact heap_alloc_new _ _
          obtain ⟨gx, hgx⟩ : ∃ gx, Hid (wr.heap.size = gx) := ⟨_, rfl⟩
          rw [hgx.out] at hbl
          have b0 : X.cell? ⟨gx, 0, none⟩ = some (.int .i64 cc) := by rw [cell_of_row _ _ 0 _ _ _ hbl]; rfl
          have b1 : X.cell? ⟨gx, 1, none⟩ = some (.int .i64 ss) := by rw [cell_of_row _ _ 1 _ _ _ hbl]; rfl
          have b2 : X.cell? ⟨gx, 2, none⟩ = some (.int .u8 (mk : Nat)) := by rw [cell_of_row _ _ 2 _ _ _ hbl]; rfl
          have HE : Hid (t < nW ∧ mk < 256 ∧ Rp19 w2 X n T B ln C va vc G) := ⟨htl, mk8, hR.below bA⟩
          clear hnb h4 hc mk8 hcc hss hmk bA hbl hR htl ht
          go_upto_region 19 with (fail)
          rw [hX.out, hgx.out]
          clear q0 q1 q2 hX itl
          by_cases s0 : ss < 0
          · have d0 : decide (ss < 0) = true := decide_eq_true s0
            go_wp2
            go_roundw
            case rel => exact ⟨t + 1, G, HE.out.1, by first | rfl | (rw [W1]; rfl), HE.out.2.2⟩
            case measure => first | exact meas_lt8 HE.out.1 | (rw [W1]; exact meas_lt8 HE.out.1)
          have d0 : decide (ss < 0) = false := decide_eq_false s0
          by_cases s1 : (n : Int) ≤ ss
          · have d1 : decide ((n : Int) ≤ ss) = true := decide_eq_true s1
            go_wp2
            go_roundw
            case rel => exact ⟨t + 1, G, HE.out.1, by first | rfl | (rw [W1]; rfl), HE.out.2.2⟩
            case measure => first | exact meas_lt8 HE.out.1 | (rw [W1]; exact meas_lt8 HE.out.1)
          obtain ⟨a, rfl⟩ : ∃ a : Nat, ss = a := ⟨ss.toNat, by omega⟩
          have han : a < n := by omega
          have d1 : decide ((n : Int) ≤ (a : Int)) = false := decide_eq_false s1
          have d1N : ¬ n ≤ a := by omega
          have z3 := (HK.out X HE.out.2.2.bel).z3
          by_cases s2 : cc < 0
          · have d2 : decide (cc < 0) = true := decide_eq_true s2
            go_wp2
            go_roundw
            case rel => exact ⟨t + 1, G, HE.out.1, by first | rfl | (rw [W1]; rfl), HE.out.2.2⟩
            case measure => first | exact meas_lt8 HE.out.1 | (rw [W1]; exact meas_lt8 HE.out.1)
          have d2 : decide (cc < 0) = false := decide_eq_false s2
          by_cases s3 : (T : Int) ≤ cc
          · have d3 : decide ((T : Int) ≤ cc) = true := decide_eq_true s3
            go_wp2
            go_roundw
            case rel => exact ⟨t + 1, G, HE.out.1, by first | rfl | (rw [W1]; rfl), HE.out.2.2⟩
            case measure => first | exact meas_lt8 HE.out.1 | (rw [W1]; exact meas_lt8 HE.out.1)
          obtain ⟨z, rfl⟩ : ∃ z : Nat, cc = z := ⟨cc.toNat, by omega⟩
          have hzT : z < T := by omega
          have d3 : decide ((T : Int) ≤ (z : Int)) = false := decide_eq_false s3
          have d3N : ¬ T ≤ z := by omega
          have ian : (a : Int) < (n : Int) := by omega
          have izT : (z : Int) < (T : Int) := by omega
          by_cases h0 : ln a = 0
          · have q4 := HE.out.2.2.cell han
            rw [h0] at q4
            clear h0
            go_wp2
            go_roundw
            case rel => exact ⟨t + 1, G, HE.out.1, by first | rfl | (rw [W1]; rfl), HE.out.2.2⟩
            case measure => first | exact meas_lt8 HE.out.1 | (rw [W1]; exact meas_lt8 HE.out.1)
          have q4 := HE.out.2.2.full han h0
          have q5 := HE.out.2.2.at_ han h0 hzT
          have T0 : ¬ ((T : Nat) : Int) = 0 := by have := HN.out; omega
          have T0N : ¬ T = 0 := by have := HN.out; omega
          have T0b : (((T : Nat) : Int) == 0) = false := by simp; omega
          have hg8 := HE.out.2.2.byte han h0 hzT
          have XX := u8_xor_nat (G a z) mk hg8 HE.out.2.1
          have RD : Rp19 w2 X.drew n T B ln C va vc G := HE.out.2.2.drewN 1
          have q6 := RD.at_ han h0 hzT
          have q7 : X.drew.frozen? ⟨B a, z, none⟩ = false := (RD.list.rows a han h0).2.2.frozen z
          have HF : Hid (Rp19 w2 (X.drew.setCell ⟨B a, z, none⟩ (.int .u8 ((G a z ^^^ mk : Nat) : Int))) n T B ln C va vc (fun x y => if x = a ∧ y = z then G a z ^^^ mk else G x y)) := RD.turn han h0 (Nat.xor_lt_two_pow (n := 8) hg8 HE.out.2.1)
          clear h0 hg8 RD s0 s1 s2 s3 han hzT
          go_upto_region 20 with (fail)
          clear z3 d0 d1 d1N d2 d3 d3N T0 T0N T0b
          refine region_planT (fun w' => w'.cell? ⟨w2.heap.size, a, none⟩ = some (.slice (some ⟨B a, 0, none⟩) T (C a)) ∧ w'.cell? ⟨gx, 0, none⟩ = some (.int .i64 (z : Int)) ∧ w'.cell? ⟨gx, 1, none⟩ = some (.int .i64 (a : Int)) ∧ w'.cell? ⟨gx, 2, none⟩ = some (.int .u8 (mk : Nat)) ∧ w'.cell? ⟨B a, z, none⟩ = some (.int .u8 (G a z : Nat))) 20 [20] 276 ⟨q4, b0, b1, b2, q5⟩ (by kernel_rfl) (by kernel_rfl) (fun _ a d v _ h => by cases d <;> exact h) ?_
          refine planT_last ?A2 rfl (fun w' hS => ?s2) rfl ?n2
          case s2 =>
            obtain ⟨y1, y2, y3, y4, y5⟩ := hS
            simp only [List.take_succ_cons, List.take_zero]
            repeat still_step
            exact rfl
          case n2 =>
          simp only [List.drop_succ_cons, List.drop_zero]
          clear q4 q5 b0 b1 b2 ian XX
          go_wp2
          go_roundw
          case rel => exact ⟨t + 1, _, HE.out.1, by first | rfl | (rw [W1]; rfl), HF.out⟩
          case measure => first | exact meas_lt8 HE.out.1 | (rw [W1]; exact meas_lt8 HE.out.1)
        · have itl : ¬ ((t : Nat) : Int) < (nW : Int) := by omega
          have HE : Hid (Rp19 w2 wr n T B ln C va vc G) := hR
          obtain ⟨P, hP⟩ : ∃ P : Nat → Bool, ∀ x, P x = true ↔ ln x ≠ 0 ∧ ∃ z, z < T ∧ V x z ≠ G x z := ⟨fun x => @decide (ln x ≠ 0 ∧ ∃ z, z < T ∧ V x z ≠ G x z) (Classical.propDecidable _), fun x => @decide_eq_true_iff _ (Classical.propDecidable _)⟩
          have HP : Hid (∀ x, P x = true ↔ ln x ≠ 0 ∧ ∃ z, z < T ∧ V x z ≠ G x z) := hP
          clear hR htl ht hP
          go_wp2
          clear itl
          obtain ⟨w4, hw4⟩ : ∃ w4, Hid (wr = w4) := ⟨_, rfl⟩
          rw [hw4.out] at HE ⊢
          clear hw4 wr
          have HLO : Hid (w2.heap.size < w4.heap.size ∧ ∀ y, y < n → ln y ≠ 0 → B y < w4.heap.size) := ⟨HE.out.list.row.lt, fun y hy h0 => (HE.out.list.rows y hy h0).lt⟩
          have HM : Hid (∀ W, Below w4.heap.size w4 W → Rp19 w2 W n T B ln C va vc G ∧ Pk19 w W w.heap.size gs n T f' k' m' aS aL aW cS nL cL nW cW Lo Co Sh Mk Bw V) := fun W hW => ⟨HE.out.below hW, HK.out W (HE.out.below hW).bel⟩
          go_loopw [11, 12] (fun l s wr => ∃ i : Nat, i ≤ n ∧ s = .int .i64 (i : Int) ∧ Gj w4.heap.size wr l (cnb P i) (fsel P (fun j => j) i) ∧ Below w4.heap.size w4 wr) (fun _ s _ => n - (intOf s).toNat)
          case atStart => exact ⟨0, Nat.zero_le _, rfl, Gj.start _ _ _, Below.refl _ _⟩
          case round =>
            obtain ⟨i, hi, rfl, hG, hb⟩ := hrel
            clear HE
            by_cases hlt : i < n
            · have ib : ((i : Nat) : Int) < (n : Int) := Int.ofNat_lt.2 hlt
              have HW1 : Hid (wrap64 ((i : Int) + 1) = (i : Int) + 1) := wrap_lt8 (j := i) (b := n) hlt (by have := HN.out; omega)
              obtain ⟨hR, hK⟩ := HM.out wr hb
              by_cases h0 : ln i = 0
              · have q1 := hR.cell hlt
                rw [h0] at q1
                have hp : P i = false := by
                  cases e : P i with
                  | false => rfl
                  | true => exact absurd h0 ((HP.out i).1 e).1
                have HX : Hid (i < n ∧ ∀ q, Gj w4.heap.size (wr.drewN q) u11 (cnb P (i + 1)) (fsel P (fun j => j) (i + 1)) ∧ Below w4.heap.size w4 (wr.drewN q)) := ⟨hlt, fun q => ⟨by rw [cnb_no hp, fsel_no hp]; exact hG.below (below_drewN (Below.refl _ _) q), below_drewN hb q⟩⟩
                clear hR hK hG hb hi hlt h0 hp
                go_upto_region 26 with (fail)
                go_quiet (fail)
                have W1 := HW1.out
                go_wp2
                go_roundw
                case rel => exact ⟨i + 1, HX.out.1, by first | rfl | (rw [W1]; rfl), (HX.out.2 _).1, (HX.out.2 _).2⟩
                case measure => first | exact meas_lt8 HX.out.1 | (rw [W1]; exact meas_lt8 HX.out.1)
              · have q1 := hR.full hlt h0
                have q2 := hK.want.row.cell hlt
                have T0 : (0 : Int) < (T : Int) := by have := HN.out; omega
                have T0N : 0 < T := by have := HN.out; omega
                have T0d : decide ((0 : Int) < (T : Int)) = true := decide_eq_true T0
                have T0e : decide (0 < T) = true := decide_eq_true T0N
                have hrb := hR.rb hlt h0
                have hrw : Rb wr (.slice (some ⟨Bw i, 0, none⟩) T T) T (V i) := (hK.want.rows i hlt).rb0.cut8 (Nat.le_refl _)
                have c6 : ∀ q, Calls Tryz.prog 10 #[.slice (some ⟨B i, 0, none⟩) T (C i), .slice (some ⟨Bw i, 0, none⟩) T T] (wr.drewN q) fun e w' => e = .returned (.bool (!P i)) ∧ ∃ m, w' = (wr.drewN q).drewN m := fun q => sb_dec19 _ _ T _ _ _ (hrb.drewN q) (hrw.drewN q) (P i) (by
                  rw [HP.out i]
                  exact ⟨fun h => by obtain ⟨-, z, hz, h9⟩ := h; exact ⟨z, hz, fun e => h9 e.symm⟩, fun ⟨z, hz, h9⟩ => ⟨h0, z, hz, fun e => h9 e.symm⟩⟩)
                cases hp : P i with
                | false =>
                  rw [hp] at c6
                  have HX : Hid (i < n ∧ ∀ q, Gj w4.heap.size (wr.drewN q) u11 (cnb P (i + 1)) (fsel P (fun j => j) (i + 1)) ∧ Below w4.heap.size w4 (wr.drewN q)) := ⟨hlt, fun q => ⟨by rw [cnb_no hp, fsel_no hp]; exact hG.below (below_drewN (Below.refl _ _) q), below_drewN hb q⟩⟩
                  clear hR hK hG hb hi hlt h0 hp hrb hrw
                  go_upto_region 26 with (fail)
                  go_quiet ((go_at_call 10; with_reducible exact Calls.quiet_of (c6 _)))
                  clear c6
                  have W1 := HW1.out
                  go_wp2
                  go_roundw
                  case rel => exact ⟨i + 1, HX.out.1, by first | rfl | (rw [W1]; rfl), (HX.out.2 _).1, (HX.out.2 _).2⟩
                  case measure => first | exact meas_lt8 HX.out.1 | (rw [W1]; exact meas_lt8 HX.out.1)
                | true =>
                  rw [hp] at c6
                  have HX : Hid (i < n ∧ P i = true ∧ ∀ q, Gj w4.heap.size (wr.drewN q) u11 (cnb P i) (fsel P (fun j => j) i) ∧ Below w4.heap.size w4 (wr.drewN q)) := ⟨hlt, hp, fun q => ⟨hG.below (below_drewN (Below.refl _ _) q), below_drewN hb q⟩⟩
                  clear hR hK hG hb hi hlt h0 hp hrb hrw
                  go_upto_region 26 with (fail)
                  go_quiet ((go_at_call 10; with_reducible exact Calls.quiet_of (c6 _)))
                  clear c6 q1 q2 T0 T0N T0d T0e
                  obtain ⟨wc, hwc⟩ : ∃ wc, wc = wr.drewN nq := ⟨_, rfl⟩
                  rw [← hwc]
                  obtain ⟨hGc, hbc⟩ := HX.out.2.2 nq
                  rw [← hwc] at hGc hbc
                  obtain ⟨w', v', hrun, hG2, hb2⟩ := app_gj hGc hbc.size ((i : Nat) : Int) (by have := cnb_le19 P i; have := HX.out.1; have := HN.out; omega)
                  have HE : Hid (i < n ∧ Gj w4.heap.size w' v' (cnb P (i + 1)) (fsel P (fun j => j) (i + 1)) ∧ Below w4.heap.size w4 w') := ⟨HX.out.1, by rw [cnb_yes HX.out.2.1, fsel_yes HX.out.2.1]; exact hG2, hbc.trans (hb2.mono (Nat.le_refl _))⟩
                  clear hwc hGc hbc hG2 hb2 HX
                  have W1 := HW1.out
                  go_wp2_with (at_builtin; refine Lib.wpList_append_run _ rfl _ _ _ _ rfl _ _ rfl rfl _ _ hrun ?_)
                  go_roundw
                  case rel => exact ⟨i + 1, HE.out.1, by first | rfl | (rw [W1]; rfl), HE.out.2.1, HE.out.2.2⟩
                  case measure => first | exact meas_lt8 HE.out.1 | (rw [W1]; exact meas_lt8 HE.out.1)
            · have ib : ¬ ((i : Nat) : Int) < (n : Int) := by omega
              have hin : i = n := by omega
              rw [hin] at hG
              have HG : Hid (∀ W, Below wr.heap.size wr W → Gj w4.heap.size W u11 (cnb P n) (fsel P (fun j => j) n) ∧ Rp19 w2 W n T B ln C va vc G ∧ Pk19 w W w.heap.size gs n T f' k' m' aS aL aW cS nL cL nW cW Lo Co Sh Mk Bw V) := fun W hW => by
                have hbW := hb.trans (hW.mono hb.size)
                exact ⟨hG.below hW, HM.out W hbW⟩
              rw [hin]
              clear hG hb hi hlt hin
              have ib : ¬ ((n : Nat) : Int) < (n : Int) := by omega
              go_wp2
              clear HM ib
              obtain ⟨w5, hw5⟩ : ∃ w5, Hid (wr = w5) := ⟨_, rfl⟩
              rw [hw5.out] at HG ⊢
              clear hw5 wr
              go_loopw [13] (fun s W => ∃ t : Nat, t ≤ T ∧ s = .int .i64 (t : Int) ∧ Below w5.heap.size w5 W ∧ ∀ z, z < t → 2 * cnb (fun x => pre19 n ln x && decide (V x z ≠ G x z)) n ≤ m' - ee) (fun s _ => T - (intOf s).toNat)
              case atStart => exact ⟨0, Nat.zero_le _, rfl, Below.refl _ _, fun z hz => absurd hz (Nat.not_lt_zero _)⟩
              case round =>
                obtain ⟨t, ht, rfl, hb, hc⟩ := hrel
                obtain ⟨hG, hR, hK⟩ := HG.out wr hb
                have z3 := hK.z3
                by_cases htl : t < T
                · have itl : ((t : Nat) : Int) < (T : Int) := Int.ofNat_lt.2 htl
                  obtain ⟨D, hD⟩ : ∃ D : Nat → Bool, Hid (D = fun x => pre19 n ln x && decide (V x t ≠ G x t)) := ⟨_, rfl⟩
                  obtain ⟨w6, hw6⟩ : ∃ w6, Hid (wr = w6) := ⟨_, rfl⟩
                  have HT : Hid (t < T ∧ Below w5.heap.size w5 wr ∧ ∀ z, z < t → 2 * cnb (fun x => pre19 n ln x && decide (V x z ≠ G x z)) n ≤ m' - ee) := ⟨htl, hb, hc⟩
                  have HI6 : Hid (∀ W, Below wr.heap.size wr W → Rp19 w2 W n T B ln C va vc G ∧ Pk19 w W w.heap.size gs n T f' k' m' aS aL aW cS nL cL nW cW Lo Co Sh Mk Bw V) := fun W hW => ⟨hR.below hW, hK.below hW⟩
                  clear hG hR hK hb hc ht htl
                  go_wp2
                  clear z3 itl
                  rw [hw6.out] at HT HI6 ⊢
                  clear hw6 wr
                  go_loopw [14, 15] (fun c s wr => ∃ i : Nat, i ≤ n ∧ s = .int .i64 (i : Int) ∧ c = .int .i64 ((cnb D i : Nat) : Int) ∧ Below w6.heap.size w6 wr) (fun _ s _ => n - (intOf s).toNat)
                  case atStart => exact ⟨0, Nat.zero_le _, rfl, rfl, Below.refl _ _⟩
                  case round =>
                    obtain ⟨i, hi, rfl, rfl, hb⟩ := hrel
                    obtain ⟨hR, hK⟩ := HI6.out wr hb
                    by_cases hlt : i < n
                    · have ib : ((i : Nat) : Int) < (n : Int) := Int.ofNat_lt.2 hlt
                      have HW1 : Hid (wrap64 ((i : Int) + 1) = (i : Int) + 1) := wrap_lt8 (j := i) (b := n) hlt (by have := HN.out; omega)
                      have HX : Hid (i < n ∧ ∀ q, Below w6.heap.size w6 (wr.drewN q)) := ⟨hlt, fun q => below_drewN hb q⟩
                      by_cases h0 : ln i = 0
                      · have q1 := hR.cell hlt
                        rw [h0] at q1
                        have hDi : D i = false := by
                          rw [hD.out]
                          show (pre19 n ln i && _) = false
                          cases e : pre19 n ln i with
                          | false => rfl
                          | true => exact absurd h0 (pre19_iff.1 e).2
                        have HC : Hid (cnb D (i + 1) = cnb D i) := cnb_no hDi
                        clear hR hK hb hi hlt h0 hDi
                        go_upto_region 35 with (fail)
                        go_quiet (fail)
                        have W1 := HW1.out
                        go_wp2
                        go_roundw
                        case rel => exact ⟨i + 1, HX.out.1, by first | rfl | (rw [W1]; rfl), by rw [HC.out], HX.out.2 _⟩
                        case measure => first | exact meas_lt8 HX.out.1 | (rw [W1]; exact meas_lt8 HX.out.1)
                      · have q1 := hR.full hlt h0
                        have q2 := hR.at_ hlt h0 HT.out.1
                        have q3 := hK.want.row.cell hlt
                        have q4 : wr.cell? ⟨Bw i, t, none⟩ = some (.int .u8 (V i t : Nat)) := (hK.want.rows i hlt).2.2.cell HT.out.1
                        have T0 : (0 : Int) < (T : Int) := by have := HN.out; omega
                        have T0N : 0 < T := by have := HN.out; omega
                        have T0d : decide ((0 : Int) < (T : Int)) = true := decide_eq_true T0
                        have T0e : decide (0 < T) = true := decide_eq_true T0N
                        have hpi : pre19 n ln i = true := pre19_iff.2 ⟨hlt, h0⟩
                        have itT : ((t : Nat) : Int) < (T : Int) := Int.ofNat_lt.2 HT.out.1
                        by_cases hv : V i t = G i t
                        · have hDi : D i = false := by
                            rw [hD.out]
                            show (pre19 n ln i && decide (V i t ≠ G i t)) = false
                            rw [hv]
                            simp
                          have HC : Hid (cnb D (i + 1) = cnb D i) := cnb_no hDi
                          rw [hv] at q4
                          clear hR hK hb hi hlt h0 hDi hpi hv
                          go_upto_region 35 with (fail)
                          go_quiet (fail)
                          have W1 := HW1.out
                          go_wp2
                          go_roundw
                          case rel => exact ⟨i + 1, HX.out.1, by first | rfl | (rw [W1]; rfl), by rw [HC.out], HX.out.2 _⟩
                          case measure => first | exact meas_lt8 HX.out.1 | (rw [W1]; exact meas_lt8 HX.out.1)
                        · have hDi : D i = true := by
                            rw [hD.out]
                            show (pre19 n ln i && decide (V i t ≠ G i t)) = true
                            rw [hpi]
                            simp
                            exact hv
                          have HC : Hid (cnb D (i + 1) = cnb D i + 1) := cnb_yes hDi
                          have hci : cnb D i ≤ 256 := Nat.le_trans (cnb_le19 _ _) (by have := HN.out; omega)
                          have hne : (((G i t : Nat) : Int) != ((V i t : Nat) : Int)) = true := by simp; omega
                          generalize G i t = gi at *
                          generalize V i t = vi at *
                          generalize cnb D i = ci at *
                          have HW2 : Hid (wrap64 ((ci : Int) + 1) = (ci : Int) + 1) := wrap_succ8 (j := ci) (by unfold big; omega)
                          clear hR hK hb hi hlt h0 hDi hpi hv hci
                          go_upto_region 35 with (fail)
                          go_quiet (fail)
                          have W1 := HW1.out
                          have W2 := HW2.out
                          go_wp2
                          go_roundw
                          case rel => exact ⟨i + 1, HX.out.1, by first | rfl | (rw [W1]; rfl), by rw [HC.out]; first | rfl | (rw [W2]; rfl), HX.out.2 _⟩
                          case measure => first | exact meas_lt8 HX.out.1 | (rw [W1]; exact meas_lt8 HX.out.1)
                    · have ib : ¬ ((i : Nat) : Int) < (n : Int) := by omega
                      have hin : i = n := by omega
                      rw [hin]
                      have z2 := hK.z2
                      have hcn : cnb D n ≤ 256 := Nat.le_trans (cnb_le19 _ _) HN.out.2.1
                      have HB : Hid (Below w.heap.size w wr ∧ Below w5.heap.size w5 wr) := ⟨hK.bel, HT.out.2.1.trans (hb.mono HT.out.2.1.size)⟩
                      have HCN : Hid (2 * cnb (fun x => pre19 n ln x && decide (V x t ≠ G x t)) n = 2 * cnb D n) := by show _ = _; rw [hD.out]
                      generalize cnb D n = cD at *
                      obtain ⟨c2, hc2⟩ : ∃ c2, c2 = 2 * cD := ⟨_, rfl⟩
                      obtain ⟨d, hd⟩ : ∃ d, d = m' - ee := ⟨_, rfl⟩
                      have hem := HI.out.1
                      have hm9 : m' ≤ 256 := by have := HV.out; omega
                      have HW3 : Hid (wrap64 (2 * (cD : Int)) = (c2 : Int)) := by show _ = _; unfold wrap64; omega
                      have HW4 : Hid (wrap64 ((m' : Int) - (ee : Int)) = (d : Int)) := by show _ = _; clear HW3; unfold wrap64; omega
                      have HW5 : Hid (wrap64 ((t : Int) + 1) = (t : Int) + 1) := wrap_succ8 (j := t) (by have := HT.out.1; have := HN.out; unfold big; omega)
                      by_cases hgt : d < c2
                      · have ile : (d : Int) < (c2 : Int) := by omega
                        clear hR hK hb hi hlt hin hc2 hd hem hm9 hcn hgt
                        have ib : ¬ ((n : Nat) : Int) < (n : Int) := by omega
                        have W3 := HW3.out
                        have W4 := HW4.out
                        go_wp2
                        go_ret
                        exact ⟨rfl, HB.out.1⟩
                      · have ile : ¬ (d : Int) < (c2 : Int) := by omega
                        have HJ : Hid (2 * cnb (fun x => pre19 n ln x && decide (V x t ≠ G x t)) n ≤ m' - ee) := by
                          have := HCN.out
                          show _ ≤ _
                          omega
                        clear hR hK hb hi hlt hin hc2 hd hem hm9 hcn hgt
                        have ib : ¬ ((n : Nat) : Int) < (n : Int) := by omega
                        have W3 := HW3.out
                        have W4 := HW4.out
                        go_wp2
                        clear W3 W4
                        have W5 := HW5.out
                        go_wp2
                        go_roundw
                        case rel => exact ⟨t + 1, HT.out.1, by first | rfl | (rw [W5]; rfl), HB.out.2, fun z hz => by
                          by_cases e : z = t
                          · rw [e]; exact HJ.out
                          · exact HT.out.2.2 z (by omega)⟩
                        case measure => first | exact meas_lt8 HT.out.1 | (rw [W5]; exact meas_lt8 HT.out.1)
                · have itl : ¬ ((t : Nat) : Int) < (T : Int) := by omega
                  have htt : t = T := by omega
                  rw [htt] at hc
                  have z0 := hK.z0
                  have z1 := hK.z1
                  have z2 := hK.z2
                  have c7 := repairs_b19 hR HV.out HN.out HI.out.1 HI.out.2.1 HVV.out hc HP.out hG HLO.out HK.out
                  clear hR hK hG hb hc ht htl htt
                  go_upto_region 41 with (first
                    | (go_at_call 11; (with_reducible refine c7.mono ?_); rintro e W1 ⟨v1, rfl, ⟨z0, z1, z2⟩, c8⟩; clear c7)
                    | (go_at_call 12; (with_reducible refine c8.mono ?_); rintro e W2 ⟨v2, rfl, c9⟩; clear c8 z0 z1 z2))
                  go_wp2_with (first
                    | (go_at_call 13; (with_reducible refine c9.mono ?_); rintro e W3 ⟨rfl, c10⟩; clear c9)
                    | (go_at_call 13; (with_reducible refine c10.mono ?_); rintro e W4 ⟨rfl, c11⟩; clear c10)
                    | (go_at_call 14; (with_reducible refine c11.mono ?_); rintro e W5 ⟨rfl, hbW⟩; clear c11))
                  go_ret
                  exact ⟨rfl, hbW⟩
end Go.Proofs.YthofhphlfgmklaaGreat
