import Derived.Test.YthofhphlfgmklaaGreatMzbp
import Derived.Deep.Cut
namespace Go.Proofs.YthofhphlfgmklaaGreat
open Go.RowKit Gf2
set_option linter.unusedVariables false

theorem made_ri19 (w : World) (n : Nat) (hn : n ≤ 1000) : Ri (w.alloc (.cells (madeCells #[.int .i64 0] n) 3)) w.heap.size n (fun _ => 0) :=
  ⟨by unfold big; omega, trivial, World.rowIs_made w (.int .i64 0) n 3⟩
theorem make_ints19 (n : Nat) (hn : 8 * n ≤ 140737488355328) (w : World) : (Instr.makeSlice 23 (.int .i64 (n : Int)) (.int .i64 (n : Int))).run Tryz.prog w = .ok (.slice (some ⟨w.heap.size, 0, none⟩) n n) (w.alloc (.cells (madeCells #[.int .i64 0] n) 3)) :=
  run_make_row' (P := Tryz.prog) 23 3 (.int .i64 0) 8 Tryz.underlying23 info_int rfl .i64 .i64 n (by omega) (by omega) w
set_option maxHeartbeats 8000000 in
set_option maxRecDepth 100000 in
theorem memory19 (f k m : Int) (aS aL aW : Option Addr) (T cS nL cL nW cW : Nat) (sl : Nat → Nat) (Sd : Nat → Nat → Nat) (Lo Co Sh : Nat → Int) (Mk : Nat → Nat) (w : World) (hS : Lb w (.slice aS T cS) T sl Sd) (hL : Qi w (.slice aL nL cL) nL Lo) (hW : Qw19 w (.slice aW nW cW) nW Co Sh Mk) :
    Calls Tryz.prog 4 #[.agg #[.int .i64 f, .int .i64 k, .int .i64 m, .slice aS T cS, .slice aL nL cL, .slice aW nW cW]] w fun e w' => e = .returned (.bool true) ∧ Below w.heap.size w w' := by
  have bW : Below w.heap.size w (w.alloc (.cells #[.int .i64 f, .int .i64 k, .int .i64 m, .slice aS T cS, .slice aL nL cL, .slice aW nW cW] 26)) := (Below.refl _ _).alloc (Nat.le_refl _) _
  have hblk : (w.alloc (.cells #[.int .i64 f, .int .i64 k, .int .i64 m, .slice aS T cS, .slice aL nL cL, .slice aW nW cW] 26)).heap[w.heap.size]? = some (.cells #[.int .i64 f, .int .i64 k, .int .i64 m, .slice aS T cS, .slice aL nL cL, .slice aW nW cW] 26 (0, 0)) := heap_alloc_new _ _
  have HZ : Hid (∀ W, Below (w.alloc (.cells #[.int .i64 f, .int .i64 k, .int .i64 m, .slice aS T cS, .slice aL nL cL, .slice aW nW cW] 26)).heap.size (w.alloc (.cells #[.int .i64 f, .int .i64 k, .int .i64 m, .slice aS T cS, .slice aL nL cL, .slice aW nW cW] 26)) W → W.cell? ⟨w.heap.size, 0, none⟩ = some (.int .i64 f) ∧ W.cell? ⟨w.heap.size, 1, none⟩ = some (.int .i64 k) ∧ W.cell? ⟨w.heap.size, 2, none⟩ = some (.int .i64 m) ∧ W.cell? ⟨w.heap.size, 3, none⟩ = some (.slice aS T cS) ∧ W.cell? ⟨w.heap.size, 4, none⟩ = some (.slice aL nL cL) ∧ W.cell? ⟨w.heap.size, 5, none⟩ = some (.slice aW nW cW) ∧ Below w.heap.size w W) := fun W hW => by
    have h := (hW.block _ (Array.getElem?_eq_some_iff.1 hblk).1).trans hblk
    exact ⟨by rw [cell_of_row _ _ 0 _ _ _ h]; rfl, by rw [cell_of_row _ _ 1 _ _ _ h]; rfl, by rw [cell_of_row _ _ 2 _ _ _ h]; rfl, by rw [cell_of_row _ _ 3 _ _ _ h]; rfl, by rw [cell_of_row _ _ 4 _ _ _ h]; rfl, by rw [cell_of_row _ _ 5 _ _ _ h]; rfl, bW.trans (hW.mono bW.size)⟩
  have c1 := awake19 (w.alloc (.cells #[.int .i64 f, .int .i64 k, .int .i64 m, .slice aS T cS, .slice aL nL cL, .slice aW nW cW] 26))
  have HS : Hid (Lb w (.slice aS T cS) T sl Sd ∧ Qi w (.slice aL nL cL) nL Lo ∧ Qw19 w (.slice aW nW cW) nW Co Sh Mk) := ⟨hS, hL, hW⟩
  clear bW hblk hS hL hW
  go_enter Tryz.func4, Tryz.ntmps4
  go_upto_region 3 with (go_at_call 6; (with_reducible refine c1.mono ?_); rintro e w1 ⟨rfl, hb1⟩; clear c1; obtain ⟨z0, z1, z2, z3, z4, z5, hbw⟩ := HZ.out w1 hb1)
  have HB : Hid (Below w.heap.size w w1) := hbw
  clear hb1 hbw HZ
  by_cases hv : (f = 0 ∨ f = 1) ∧ 1 ≤ k ∧ 1 ≤ m ∧ k ≤ 256 ∧ m ≤ 256 ∧ k + m ≤ 256
  case neg =>
    have c2 := valid_no19 f k m w1 hv
    clear hv
    go_wp2_with (go_at_call 7; (with_reducible refine c2.mono ?_); rintro e w9 ⟨rfl, hw9⟩; have hw9 := hw9.symm; subst hw9; clear c2)
    go_ret
    exact ⟨rfl, HB.out⟩
  obtain ⟨f', k', m', rfl, rfl, rfl, v1, v2, v3, v4⟩ : ∃ f' k' m' : Nat, f = f' ∧ k = k' ∧ m = m' ∧ f' ≤ 1 ∧ 1 ≤ k' ∧ 1 ≤ m' ∧ k' + m' ≤ 256 := ⟨f.toNat, k.toNat, m.toNat, by omega, by omega, by omega, by omega, by omega, by omega, by omega⟩
  have c2 := valid19 f' k' m' w1 v1 v2 v3 v4
  have HV : Hid (f' ≤ 1 ∧ 1 ≤ k' ∧ 1 ≤ m' ∧ k' + m' ≤ 256) := ⟨v1, v2, v3, v4⟩
  clear hv v1 v2 v3 v4
  by_cases hT0 : T = 0
  · have t0 : (((T : Nat) : Int) == 0) = true := by simp [hT0]
    have t1 : ((T : Nat) : Int) = 0 := by omega
    clear hT0
    go_wp2_with (go_at_call 7; (with_reducible refine c2.mono ?_); rintro e w9 ⟨rfl, hw9⟩; have hw9 := hw9.symm; subst hw9; clear c2)
    go_ret
    exact ⟨rfl, HB.out⟩
  have t0 : (((T : Nat) : Int) == 0) = false := by simp; omega
  have t1 : ¬ ((T : Nat) : Int) = 0 := by omega
  by_cases hT1 : 16 < T
  · have t2 : (16 : Int) < ((T : Nat) : Int) := by omega
    clear hT1
    go_wp2_with (go_at_call 7; (with_reducible refine c2.mono ?_); rintro e w9 ⟨rfl, hw9⟩; have hw9 := hw9.symm; subst hw9; clear c2)
    go_ret
    exact ⟨rfl, HB.out⟩
  have t2 : ¬ (16 : Int) < ((T : Nat) : Int) := by omega
  obtain ⟨n, hn⟩ : ∃ n, n = k' + m' := ⟨_, rfl⟩
  have HW1 : Hid (wrap64 ((k' : Int) + (m' : Int)) = (n : Int)) := by show _ = _; have := HV.out; unfold wrap64; omega
  by_cases hn12 : 12 < n
  · have t3 : (12 : Int) < (n : Int) := by omega
    clear hn12 hn hT0 hT1
    have W1 := HW1.out
    go_wp2_with (go_at_call 7; (with_reducible refine c2.mono ?_); rintro e w9 ⟨rfl, hw9⟩; have hw9 := hw9.symm; subst hw9; clear c2)
    go_ret
    exact ⟨rfl, HB.out⟩
  have t3 : ¬ (12 : Int) < (n : Int) := by omega
  have HN : Hid (f' ≤ 1 ∧ 1 ≤ k' ∧ 1 ≤ m' ∧ n = k' + m' ∧ n ≤ 12 ∧ 1 ≤ T ∧ T ≤ 16) := by have := HV.out; exact ⟨by omega, by omega, by omega, hn, by omega, by omega, by omega⟩
  clear hn12 hn hT0 hT1
  have c3 := made_pk19 f' k' m' n T w.heap.size aS aL aW cS nL cL nW cW sl Sd Lo Co Sh Mk w w1 HV.out.1 HV.out.2.1 HN.out.2.2.2.1 (by have := HN.out; omega) (by have := HN.out; omega) HS.out.1 HS.out.2.1 HS.out.2.2 HB.out ⟨z0, z1, z2, z3, z4, z5⟩
  obtain ⟨V, hV⟩ : ∃ V : Nat → Nat → Nat, V = fun x z => col19 f' k' (sd19 sl Sd z) x := ⟨_, rfl⟩
  rw [← hV] at c3
  have HVV : Hid ((∀ z, z < T → ∀ x, x < n → V x z < 256) ∧ ∀ z, z < T → Cw19 f' k' n (fun x => V x z)) := by
    have hsd : ∀ z, z < T → ∀ i, i < k' → sd19 sl Sd z i < 256 := fun z hz i _ => by
      obtain ⟨xa, xc, -, x2⟩ := lb_open19 HS.out.1
      unfold sd19
      split
      · exact (x2 z hz).2.1 i (by assumption)
      · decide
    rw [hV]
    exact ⟨fun z hz x hx => col19_lt (hsd z hz) x, fun z hz => col_cw19 HV.out.1 (by have := HN.out; omega) (by have := HN.out; omega) (hsd z hz)⟩
  clear hV HS
  have W1 := HW1.out
  go_upto_region 6 with (first
    | (go_at_call 7; (with_reducible refine c2.mono ?_); rintro e w9 ⟨rfl, hw9⟩; have hw9 := hw9.symm; subst hw9; clear c2)
    | (go_at_call 8; (with_reducible refine c3.mono ?_); rintro e w2 ⟨gs, Bw, rfl, hPk⟩; clear c3 z0 z1 z2 z3 z4 z5))
  clear W1 t0 t1 t2 t3 HB
  have HP2 : Hid (Pk19 w w2 w.heap.size gs n T f' k' m' aS aL aW cS nL cL nW cW Lo Co Sh Mk Bw V) := hPk
  have z3 := hPk.z3
  have hmk := make_u8 T (by have := HN.out; omega)
  have r0 := made_rw T (by have := HN.out; omega) w2
  have b0 : Below w2.heap.size w2 (w2.alloc (.cells (madeCells #[.int .u8 0] T) 5)) := (Below.refl _ _).alloc (Nat.le_refl _) _
  obtain ⟨w2a, hw2a⟩ : ∃ w2a, Hid (w2.alloc (.cells (madeCells #[.int .u8 0] T) 5) = w2a) := ⟨_, rfl⟩
  obtain ⟨go, hgo⟩ : ∃ go, Hid (w2.heap.size = go) := ⟨_, rfl⟩
  rw [hw2a.out] at r0 b0
  rw [hgo.out] at r0
  have H0 : Hid (Rw w2a go T (fun _ => 0) ∧ Below w2.heap.size w2 w2a) := ⟨r0, b0⟩
  clear hPk r0 b0
  go_wp2
  rw [hw2a.out, hgo.out]
  clear z3 hmk hw2a
  go_loopw [5] (fun s wr => ∃ i : Nat, i ≤ T ∧ s = .int .i64 (i : Int) ∧ Rw wr go T (fun x => if x < i then 99 else 0) ∧ Below w2.heap.size w2 wr) (fun s _ => T - (intOf s).toNat)
  case atStart => exact ⟨0, Nat.zero_le _, rfl, H0.out.1.congr (fun x _ => (if_neg (Nat.not_lt_zero _)).symm), H0.out.2⟩
  case round =>
    obtain ⟨i, hi, rfl, hr, hb⟩ := hrel
    clear H0
    by_cases hlt : i < T
    · have ib : ((i : Nat) : Int) < (T : Int) := Int.ofNat_lt.2 hlt
      have q4 := hr.2.2.cell hlt
      have q5 := hr.2.2.frozen i
      have HE : Hid (i < T ∧ Rw (wr.setCell ⟨go, i, none⟩ (.int .u8 99)) go T (fun x => if x < i + 1 then 99 else 0) ∧ Below w2.heap.size w2 (wr.setCell ⟨go, i, none⟩ (.int .u8 99))) := ⟨hlt, (hr.set i 99 (by decide)).congr (fun x _ => upd_19 (V := fun _ => 99)), hb.setCell (by rw [hgo.out]; exact Nat.le_refl _) _⟩
      have W1 := wrap_lt8 (j := i) (b := T) hlt (by have := HN.out; omega)
      clear hr hb hi hlt
      go_wp2
      go_roundw
      case rel => exact ⟨i + 1, HE.out.1, by first | rfl | (rw [W1]; rfl), HE.out.2.1, HE.out.2.2⟩
      case measure => first | exact meas_lt8 HE.out.1 | (rw [W1]; exact meas_lt8 HE.out.1)
    · have ib : ¬ ((i : Nat) : Int) < (T : Int) := by omega
      obtain ⟨w3, hw3⟩ : ∃ w3, Hid (wr = w3) := ⟨_, rfl⟩
      rw [hw3.out] at hr hb ⊢
      have hr9 : Rw w3 go T (fun _ => 99) := hr.congr (fun x hx => if_pos (by omega))
      have HK : Hid (∀ W, Below w3.heap.size w3 W → Pk19 w W w.heap.size gs n T f' k' m' aS aL aW cS nL cL nW cW Lo Co Sh Mk Bw V ∧ Rw W go T (fun _ => 99)) := fun W hW => ⟨HP2.out.below (hb.trans (hW.mono hb.size)), rw_below hr9 hW⟩
      have HGO : Hid (w.heap.size ≤ go ∧ go < w3.heap.size) := ⟨by have := HP2.out.bel.size; have := hgo.out; omega, hr9.lt⟩
      have c4 := twins19 gs n T go Bw V w3 (HK.out w3 (Below.refl _ _)).1.want HGO.out.2 (by have := HN.out; omega) (by have := HN.out; omega)
      clear hr hb hi hlt hr9 hgo HP2 hw3 wr
      go_wp2_with (first
        | (go_at_call 9; (with_reducible refine c4.mono ?_); rintro e w4 ⟨rfl, c5⟩; clear c4)
        | (go_at_call 9; (with_reducible refine c5.mono ?_); rintro e w5 ⟨gb, Ba, Ca, Ga, Bb, Cb, Gb, rfl, hMm, hGe⟩; have HM0 : Hid _ := hMm; have HGE : Hid _ := hGe; clear c5 hMm hGe))
      clear ib
      go_loopw [8] (fun s wr => ∃ j : Nat, j ≤ m' ∧ s = .int .i64 (j : Int) ∧ Mm19 w3 wr go gb n T j Ba Ca Ga Bb Cb Gb) (fun s _ => m' - (intOf s).toNat)
      case atStart => exact ⟨0, Nat.zero_le _, rfl, HM0.out⟩
      case round =>
        obtain ⟨j, hj, rfl, hM⟩ := hrel
        clear HM0
        obtain ⟨hP, -⟩ := HK.out wr hM.bel
        have z2 := hP.z2
        by_cases hlt : j < m'
        · have ib : ((j : Nat) : Int) < (m' : Int) := Int.ofNat_lt.2 hlt
          have hjn : j < n := by have := HN.out; omega
          have ibn : ((j : Nat) : Int) < (n : Int) := Int.ofNat_lt.2 hjn
          obtain ⟨⟨v1, q1⟩, q2⟩ := hM.fa hjn
          obtain ⟨⟨v2, q3⟩, q4⟩ := hM.fb hjn
          have HE : Hid (j < m' ∧ Mm19 w3 ((wr.setCell ⟨w3.heap.size, j, none⟩ (.slice (some ⟨go, 0, none⟩) 0 T)).setCell ⟨gb, j, none⟩ (.slice none 0 0)) go gb n T (j + 1) Ba Ca Ga Bb Cb Gb) := ⟨hlt, hM.step hjn⟩
          have W1 := wrap_lt8 (j := j) (b := m') hlt (by have := HN.out; omega)
          have T0N : 0 < T := by have := HN.out; omega
          have T0 : (0 : Int) < (T : Int) := by omega
          clear hP hM hj hlt hjn
          go_wp2
          go_roundw
          case rel => exact ⟨j + 1, HE.out.1, by first | rfl | (rw [W1]; rfl), HE.out.2⟩
          case measure => first | exact meas_lt8 HE.out.1 | (rw [W1]; exact meas_lt8 HE.out.1)
        · have ib : ¬ ((j : Nat) : Int) < (m' : Int) := by omega
          have hjm : j = m' := by omega
          rw [hjm] at hM
          have z0 := hP.z0
          have z1 := hP.z1
          have c6 := mem_c19 (w := w) (bx := w.heap.size) (gs := gs) (f := f') (k := k') (Bw := Bw) (V := V) hM (by have := HN.out; exact ⟨this.1, this.2.1, this.2.2.1, this.2.2.2.1, by omega, this.2.2.2.2.2.1, by omega⟩) HVV.out HGE.out HGO.out.1 HK.out
          clear hP hM hj hlt hjm HGE HVV
          go_wp2_with (first
            | (go_at_call 12; (with_reducible refine c6.mono ?_); rintro e W6 ⟨v6, rfl, ⟨z0, z1, z2⟩, c7⟩; clear c6)
            | (go_at_call 12; (with_reducible refine c7.mono ?_); rintro e W7 ⟨v7, rfl, c8⟩; clear c7 z0 z1 z2)
            | (go_at_call 14; (with_reducible refine c8.mono ?_); rintro e W8 ⟨rfl, c9⟩; clear c8)
            | (go_at_call 14; (with_reducible refine c9.mono ?_); rintro e W9 ⟨rfl, Ra, Ca', Va, Rb, Cb', Vb, hMo⟩; have HMO : Hid _ := hMo; clear c9 hMo))
          go_loopw [13] (fun s wr => ∃ i : Nat, i ≤ T ∧ s = .int .i64 (i : Int) ∧ Below W9.heap.size W9 wr) (fun s _ => T - (intOf s).toNat)
          case atStart => exact ⟨0, Nat.zero_le _, rfl, Below.refl _ _⟩
          case round =>
            obtain ⟨i, hi, rfl, hb⟩ := hrel
            have hMo := HMO.out.below hb
            by_cases hlt : i < T
            · have ib : ((i : Nat) : Int) < (T : Int) := Int.ofNat_lt.2 hlt
              have q4 : wr.cell? ⟨go, i, none⟩ = some (.int .u8 99) := hMo.old.2.2.cell hlt
              have HE : Hid (i < T ∧ Below W9.heap.size W9 wr) := ⟨hlt, hb⟩
              have W1 := wrap_lt8 (j := i) (b := T) hlt (by have := HN.out; omega)
              clear hMo hb hi hlt
              go_wp2
              go_roundw
              case rel => exact ⟨i + 1, HE.out.1, by first | rfl | (rw [W1]; rfl), HE.out.2⟩
              case measure => first | exact meas_lt8 HE.out.1 | (rw [W1]; exact meas_lt8 HE.out.1)
            · have ib : ¬ ((i : Nat) : Int) < (T : Int) := by omega
              obtain ⟨WA, hWA⟩ : ∃ WA, Hid (wr = WA) := ⟨_, rfl⟩
              rw [hWA.out] at hMo ⊢
              have bI : Below WA.heap.size WA (WA.alloc (.cells (madeCells #[.int .i64 0] n) 3)) := (Below.refl _ _).alloc (Nat.le_refl _) _
              have hmi := make_ints19 n (by have := HN.out; omega)
              have hmu := make_u8 n (by have := HN.out; omega)
              have rI : Ri (WA.alloc (.cells (madeCells #[.int .i64 0] n) 3)) WA.heap.size n (fun _ => 0) := made_ri19 WA n (by have := HN.out; omega)
              obtain ⟨WB, hWB⟩ : ∃ WB, Hid (WA.alloc (.cells (madeCells #[.int .i64 0] n) 3) = WB) := ⟨_, rfl⟩
              obtain ⟨gp, hgp⟩ : ∃ gp, Hid (WA.heap.size = gp) := ⟨_, rfl⟩
              rw [hWB.out] at bI rI
              rw [hgp.out] at rI
              have hMB := hMo.below bI
              have y1 := hMo.z1
              have y2 := hMo.z2
              have x1 := hMB.z1
              have x2 := hMB.z2
              have rU := made_rw n (by have := HN.out; omega) WB
              have bU : Below WB.heap.size WB (WB.alloc (.cells (madeCells #[.int .u8 0] n) 5)) := (Below.refl _ _).alloc (Nat.le_refl _) _
              obtain ⟨WC, hWC⟩ : ∃ WC, Hid (WB.alloc (.cells (madeCells #[.int .u8 0] n) 5) = WC) := ⟨_, rfl⟩
              obtain ⟨gv, hgv⟩ : ∃ gv, Hid (WB.heap.size = gv) := ⟨_, rfl⟩
              rw [hWC.out] at bU rU
              rw [hgv.out] at rU
              have HC : Hid (Ri WC gp n (fun _ => 0) ∧ Rw WC gv n (fun _ => 0) ∧ Mo19 w WC w.heap.size go w3.heap.size gb n T f' k' m' Ra Ca' Va Rb Cb' Vb ∧ WA.heap.size = gp ∧ gp < gv ∧ Below WA.heap.size WA WC) := ⟨rI.below bU, rU, hMB.below bU, hgp.out, by have := rI.lt; have := hgv.out; omega, bI.trans (bU.mono bI.size)⟩
              have HA : Hid (Mo19 w WA w.heap.size go w3.heap.size gb n T f' k' m' Ra Ca' Va Rb Cb' Vb) := hMo
              clear HMO hMo hMB bI bU rI rU hb hi hlt hWA wr
              have W1 := HW1.out
              go_upto_region 30 with (fail)
              rw [hWB.out, hgp.out]
              clear y1 y2
              go_upto_region 31 with (fail)
              rw [hWC.out, hgv.out]
              clear x1 x2 hmi hmu W1 hWB hWC
              go_wp2
              go_loopw [16] (fun s wr => ∃ i : Nat, i ≤ n ∧ s = .int .i64 (i : Int) ∧ Ri wr gp n (fun x => if x < i then ((3 * x : Nat) : Int) else 0) ∧ Rw wr gv n (fun x => if x < i then 7 else 0) ∧ Below WA.heap.size WA wr) (fun s _ => n - (intOf s).toNat)
              case atStart => exact ⟨0, Nat.zero_le _, rfl, HC.out.1.congr (fun x _ => (if_neg (Nat.not_lt_zero _)).symm), HC.out.2.1.congr (fun x _ => (if_neg (Nat.not_lt_zero _)).symm), HC.out.2.2.2.2.2⟩
              case round =>
                obtain ⟨i, hi, rfl, hI, hr, hb⟩ := hrel
                have HG : Hid (WA.heap.size = gp ∧ gp < gv) := ⟨HC.out.2.2.2.1, HC.out.2.2.2.2.1⟩
                clear HC
                by_cases hlt : i < n
                · have ib : ((i : Nat) : Int) < (n : Int) := Int.ofNat_lt.2 hlt
                  have q1 := hI.2.2.cell hlt
                  have q2 := hI.2.2.frozen i
                  have hI1 : Ri (wr.setCell ⟨gp, i, none⟩ (.int .i64 (3 * (i : Int)))) gp n (fun x => if x < i + 1 then ((3 * x : Nat) : Int) else 0) := (hI.set i (3 * (i : Int))).congr (fun x _ => by
                    by_cases e : x = i
                    · rw [if_pos e, if_pos (by omega), e]; omega
                    · rw [if_neg e]
                      by_cases e2 : x < i
                      · rw [if_pos e2, if_pos (by omega)]
                      · rw [if_neg e2, if_neg (by omega)])
                  have kp1 : Kp gp wr (wr.setCell ⟨gp, i, none⟩ (.int .i64 (3 * (i : Int)))) := (Kp.refl _ _).setCell _ _
                  have hr1 := kp1.rw_ hr (by have := HG.out; omega)
                  have q3 := hr1.2.2.cell hlt
                  have q4 := hr1.2.2.frozen i
                  have kp2 : Kp gv (wr.setCell ⟨gp, i, none⟩ (.int .i64 (3 * (i : Int)))) ((wr.setCell ⟨gp, i, none⟩ (.int .i64 (3 * (i : Int)))).setCell ⟨gv, i, none⟩ (.int .u8 7)) := (Kp.refl _ _).setCell _ _
                  have HE : Hid (i < n ∧ Ri ((wr.setCell ⟨gp, i, none⟩ (.int .i64 (3 * (i : Int)))).setCell ⟨gv, i, none⟩ (.int .u8 7)) gp n (fun x => if x < i + 1 then ((3 * x : Nat) : Int) else 0) ∧ Rw ((wr.setCell ⟨gp, i, none⟩ (.int .i64 (3 * (i : Int)))).setCell ⟨gv, i, none⟩ (.int .u8 7)) gv n (fun x => if x < i + 1 then 7 else 0) ∧ Below WA.heap.size WA ((wr.setCell ⟨gp, i, none⟩ (.int .i64 (3 * (i : Int)))).setCell ⟨gv, i, none⟩ (.int .u8 7))) := ⟨hlt, hI1.kp kp2 (by have := HG.out; omega), (hr1.set i 7 (by decide)).congr (fun x _ => upd_19 (V := fun _ => 7)), (hb.setCell (by have := HG.out; show _ ≤ gp; omega) _).setCell (by have := HG.out; show _ ≤ gv; omega) _⟩
                  have HWi : Hid (wrap64 ((i : Int) + 1) = (i : Int) + 1) := wrap_lt8 (j := i) (b := n) hlt (by have := HN.out; omega)
                  clear hI hI1 kp1 kp2 hr hr1 hb hi hlt
                  go_wp2
                  go_roundw
                  case rel => exact ⟨i + 1, HE.out.1, by first | rfl | (rw [HWi.out]; rfl), HE.out.2.1, HE.out.2.2.1, HE.out.2.2.2⟩
                  case measure => first | exact meas_lt8 HE.out.1 | (rw [HWi.out]; exact meas_lt8 HE.out.1)
                · have ib : ¬ ((i : Nat) : Int) < (n : Int) := by omega
                  have hI2 : Ri wr gp n (fun x => ((3 * x : Nat) : Int)) := hI.congr (fun x hx => if_pos (by omega))
                  have hr2 : Rw wr gv n (fun _ => 7) := hr.congr (fun x hx => if_pos (by omega))
                  have hM := HA.out.below hb
                  have z1 := hM.z1
                  have c10 := mem_d19 (bx := w.heap.size) HN.out.2.1 HN.out.2.2.2.1 HN.out.2.2.2.2.1 hI2 hr2 (fun W hW => ⟨(hM.below hW).z1, (hM.below hW).z2⟩)
                  obtain ⟨W0, hW0⟩ : ∃ W0, Hid (wr = W0) := ⟨_, rfl⟩
                  rw [hW0.out] at hI2 hr2 hM hb c10 z1 ⊢
                  have HB0 : Hid (Ri W0 gp n (fun x => ((3 * x : Nat) : Int)) ∧ Rw W0 gv n (fun _ => 7) ∧ Below WA.heap.size WA W0) := ⟨hI2, hr2, hb⟩
                  clear hI hr hI2 hr2 hM hb hi hlt hW0 wr
                  go_upto_region 42 with (first
                    | (go_at_call 15; (with_reducible refine c10.mono ?_); rintro e X1 ⟨gx, a1, d1, rfl, z1, c11⟩; clear c10)
                    | (go_at_call 15; (with_reducible refine c11.mono ?_); rintro e X2 ⟨gy, a2, d2, rfl, z1, c12⟩; clear c11)
                    | (go_at_call 16; (with_reducible refine c12.mono ?_); rintro e X3 ⟨hs, rfl, z1, c13⟩; clear c12)
                    | (go_at_call 16; (with_reducible refine c13.mono ?_); rintro e X4 ⟨ht, rfl, c14⟩; clear c13)
                    | (go_at_call 10; (with_reducible refine c14.mono ?_); rintro e X5 ⟨rfl, c15⟩; clear c14)
                    | (go_at_call 10; (with_reducible refine c15.mono ?_); rintro e X6 ⟨rfl, z2, c16⟩; clear c15)
                    | (go_at_call 10; (with_reducible refine c16.mono ?_); rintro e X7 ⟨rfl, hMv⟩; have HMV : Hid _ := hMv; clear c16 hMv))
                  have H7 : Hid (Ri X7 gp n (fun x => ((3 * x : Nat) : Int)) ∧ Rw X7 gv n (fun _ => 7) ∧ gp < X7.heap.size ∧ gv < W0.heap.size) := ⟨HB0.out.1.below (HMV.out.bel.mono (Nat.le_refl _)), rw_below HB0.out.2.1 (HMV.out.bel.mono (Nat.le_refl _)), (HB0.out.1.below (HMV.out.bel.mono (Nat.le_refl _))).lt, HB0.out.2.1.lt⟩
                  clear z1 z2
                  go_wp2
                  go_loopw [27] (fun s wr => ∃ i : Nat, i ≤ n ∧ s = .int .i64 (i : Int) ∧ Ri wr gp n (fun x => if x < i then ((3 * x + 1 : Nat) : Int) else ((3 * x : Nat) : Int)) ∧ Rw wr gv n (fun x => if x < i then 8 else 7) ∧ Ke (fun x => x = gp ∨ x = gv) X7 wr) (fun s _ => n - (intOf s).toNat)
                  case atStart => exact ⟨0, Nat.zero_le _, rfl, H7.out.1.congr (fun x _ => (if_neg (Nat.not_lt_zero _)).symm), H7.out.2.1.congr (fun x _ => (if_neg (Nat.not_lt_zero _)).symm), Ke.refl _ _⟩
                  case round =>
                    obtain ⟨i, hi, rfl, hI, hr, hk⟩ := hrel
                    by_cases hlt : i < n
                    · have ib : ((i : Nat) : Int) < (n : Int) := Int.ofNat_lt.2 hlt
                      have q1 := hr.2.2.cell hlt
                      have q2 := hr.2.2.frozen i
                      have hr1 : Rw (wr.setCell ⟨gv, i, none⟩ (.int .u8 8)) gv n (fun x => if x < i + 1 then 8 else 7) := (hr.set i 8 (by decide)).congr (fun x _ => by
                        by_cases e : x = i
                        · rw [if_pos e, if_pos (by omega)]
                        · rw [if_neg e]
                          by_cases e2 : x < i
                          · rw [if_pos e2, if_pos (by omega)]
                          · rw [if_neg e2, if_neg (by omega)])
                      have kp1 : Kp gv wr (wr.setCell ⟨gv, i, none⟩ (.int .u8 8)) := (Kp.refl _ _).setCell _ _
                      have hI1 := hI.kp kp1 (by have := HG.out; omega)
                      have q3 := hI1.2.2.cell hlt
                      have q4 := hI1.2.2.frozen i
                      have kp2 : Kp gp (wr.setCell ⟨gv, i, none⟩ (.int .u8 8)) ((wr.setCell ⟨gv, i, none⟩ (.int .u8 8)).setCell ⟨gp, i, none⟩ (.int .i64 (3 * (i : Int) + 1))) := (Kp.refl _ _).setCell _ _
                      have HE : Hid (i < n ∧ Ri ((wr.setCell ⟨gv, i, none⟩ (.int .u8 8)).setCell ⟨gp, i, none⟩ (.int .i64 (3 * (i : Int) + 1))) gp n (fun x => if x < i + 1 then ((3 * x + 1 : Nat) : Int) else ((3 * x : Nat) : Int)) ∧ Rw ((wr.setCell ⟨gv, i, none⟩ (.int .u8 8)).setCell ⟨gp, i, none⟩ (.int .i64 (3 * (i : Int) + 1))) gv n (fun x => if x < i + 1 then 8 else 7) ∧ Ke (fun x => x = gp ∨ x = gv) X7 ((wr.setCell ⟨gv, i, none⟩ (.int .u8 8)).setCell ⟨gp, i, none⟩ (.int .i64 (3 * (i : Int) + 1)))) := ⟨hlt, (hI1.set i (3 * (i : Int) + 1)).congr (fun x _ => by
                        by_cases e : x = i
                        · rw [if_pos e, if_pos (by omega), e]; omega
                        · rw [if_neg e]
                          by_cases e2 : x < i
                          · rw [if_pos e2, if_pos (by omega)]
                          · rw [if_neg e2, if_neg (by omega)]), kp2.rw_ hr1 (by have := HG.out; omega), (hk.trans (kp1.ke.mono (fun x _ e => .inr e))).trans (kp2.ke.mono (fun x _ e => .inl e))⟩
                      have HWi : Hid (wrap64 ((i : Int) + 1) = (i : Int) + 1) := wrap_lt8 (j := i) (b := n) hlt (by have := HN.out; omega)
                      clear hI hI1 kp1 kp2 hr hr1 hk hi hlt
                      go_wp2
                      go_roundw
                      case rel => exact ⟨i + 1, HE.out.1, by first | rfl | (rw [HWi.out]; rfl), HE.out.2.1, HE.out.2.2.1, HE.out.2.2.2⟩
                      case measure => first | exact meas_lt8 HE.out.1 | (rw [HWi.out]; exact meas_lt8 HE.out.1)
                    · have ib : ¬ ((i : Nat) : Int) < (n : Int) := by omega
                      have hI2 : Ri wr gp n (fun x => ((3 * x + 1 : Nat) : Int)) := hI.congr (fun x hx => if_pos (by omega))
                      have hr2 : Rw wr gv n (fun _ => 8) := hr.congr (fun x hx => if_pos (by omega))
                      have b7 : Below WA.heap.size WA X7 := HB0.out.2.2.trans (HMV.out.bel.mono HB0.out.2.2.size)
                      have b8 : Below WA.heap.size WA wr := b7.trans (hk.below (fun x e => by have := HG.out; omega) b7.size)
                      have z1 := (HA.out.below b8).z1
                      have c17 := mem_e19 HN.out.2.1 HN.out.2.2.2.1 HN.out.2.2.2.2.1 hI2 hr2
                      obtain ⟨X8, hX8⟩ : ∃ X8, Hid (wr = X8) := ⟨_, rfl⟩
                      rw [hX8.out] at hr2 hk c17 z1 ⊢
                      have H8 : Hid (Rw X8 gv n (fun _ => 8) ∧ Ke (fun x => x = gp ∨ x = gv) X7 X8) := ⟨hr2, hk⟩
                      have n0 : (0 : Int) < (n : Int) := by have := HN.out; omega
                      have n0N : 0 < n := by have := HN.out; omega
                      clear hI hr hI2 hr2 hk b7 b8 hi hlt hX8 wr
                      go_upto_region 50 with (first
                        | (go_at_call 15; (with_reducible refine c17.mono ?_); rintro e X9 ⟨gz, a3, d3, rfl, c18⟩; clear c17 z1)
                        | (go_at_call 10; (with_reducible refine c18.mono ?_); rintro e Xz ⟨rfl, hz1, hz, hbz⟩; have HMW : Hid _ := mw19 HA.out HG.out.1 HG.out.2 H7.out.2.2.2 HB0.out.2.2 HMV.out H8.out.2 H8.out.1 hz1 hz hbz; have q1 : Xz.cell? ⟨gx, 0, none⟩ = some (.int .u8 7) := HMW.out.x.2.2.cell n0N; have q2 : Xz.cell? ⟨gy, 0, none⟩ = some (.int .u8 7) := HMW.out.y.2.2.cell n0N; clear c18 hz1 hz hbz))
                      clear q1 q2
                      obtain ⟨Y1, Y2, g1, C1, g2, C2, hrun1, hrun2, c19⟩ := fin19 HMW.out HN.out.2.2.2.2.1 (by have := HN.out; omega) HN.out.2.2.2.2.2.2
                      have HR2 : Hid _ := hrun2
                      clear hrun2
                      go_wp2_with (first
                        | (at_builtin; refine Lib.wpList_append_run _ rfl _ _ _ _ rfl _ _ rfl rfl _ _ hrun1 ?_; clear hrun1; have hrun2 := HR2.out)
                        | (at_builtin; refine Lib.wpList_append_run _ rfl _ _ _ _ rfl _ _ rfl rfl _ _ hrun2 ?_; clear hrun2)
                        | (go_at_call 17; (with_reducible refine c19.mono ?_); rintro e Y3 ⟨rfl, hbY⟩; clear c19))
                      go_ret
                      exact ⟨rfl, hbY⟩
end Go.Proofs.YthofhphlfgmklaaGreat
