import Derived.Test.YtlblkckglelbdaaGreatMwbs
import Derived.Test.YtlblkckglelbdaaGreatMwam
import Derived.Test.YtlblkckglelbdaaGreatMwbt
import Derived.Deep.Cut
namespace Go.Proofs.YtlblkckglelbdaaGreat
open Go.RowKit Gf2
set_option linter.unusedVariables false

set_option maxHeartbeats 8000000 in
set_option maxRecDepth 100000 in
theorem wholeMends_any (f m : Int) (aS aL aW : Option Addr) (k cS nL cL nW cW : Nat) (sl : Nat → Nat) (Sd : Nat → Nat → Nat) (Lo : Nat → Int) (Co Sh : Nat → Int) (Mk : Nat → Nat) (w : World) (hl9 : ∀ i, i < k → sl i ≤ 140737488351232) (hk9 : 24 * k ≤ 140737488351232) (hS : Lb w (.slice aS k cS) k sl Sd) (hL : Qi w (.slice aL nL cL) nL Lo) (hW : Qw19 w (.slice aW nW cW) nW Co Sh Mk) :
    Calls Tryz.prog 3 #[.agg #[.int .i64 f, .int .i64 m, .slice aS k cS, .slice aL nL cL, .slice aW nW cW]] w fun e w' => e = .returned (.bool true) ∧ Below w.heap.size w w' := by
  obtain ⟨W0, hW0⟩ : ∃ W, Hid (w.alloc (.cells #[.int .i64 f, .int .i64 m, .slice aS k cS, .slice aL nL cL, .slice aW nW cW] 26) = W) := ⟨_, rfl⟩
  have hb0 : Below w.heap.size w W0 := by rw [← hW0.out]; exact (Below.refl _ _).alloc (Nat.le_refl _) _
  have hblk : W0.heap[w.heap.size]? = some (.cells #[.int .i64 f, .int .i64 m, .slice aS k cS, .slice aL nL cL, .slice aW nW cW] 26 (0, 0)) := by rw [← hW0.out]; exact heap_alloc_new _ _
  have y0 : W0.cell? ⟨w.heap.size, 0, none⟩ = some (.int .i64 f) := by rw [cell_of_row _ _ 0 _ _ _ hblk]; rfl
  have y1 : W0.cell? ⟨w.heap.size, 1, none⟩ = some (.int .i64 m) := by rw [cell_of_row _ _ 1 _ _ _ hblk]; rfl
  have y2 : W0.cell? ⟨w.heap.size, 2, none⟩ = some (.slice aS k cS) := by rw [cell_of_row _ _ 2 _ _ _ hblk]; rfl
  have y3 : W0.cell? ⟨w.heap.size, 3, none⟩ = some (.slice aL nL cL) := by rw [cell_of_row _ _ 3 _ _ _ hblk]; rfl
  have y4 : W0.cell? ⟨w.heap.size, 4, none⟩ = some (.slice aW nW cW) := by rw [cell_of_row _ _ 4 _ _ _ hblk]; rfl
  have HB0 : Hid (Below w.heap.size w W0) := hb0
  have HS : Hid (Lb w (.slice aS k cS) k sl Sd ∧ Qi w (.slice aL nL cL) nL Lo ∧ Qw19 w (.slice aW nW cW) nW Co Sh Mk) := ⟨hS, hL, hW⟩
  have H9 : Hid ((∀ i, i < k → sl i ≤ 140737488351232) ∧ 24 * k ≤ 140737488351232) := ⟨hl9, hk9⟩
  clear hS hL hW hb0 hblk hl9 hk9
  go_enter Tryz.func3, Tryz.ntmps3
  go_upto_region 1 with (fail)
  rw [hW0.out]
  clear hW0
  go_quiet (fail)
  clear y0 y1 y2 y3 y4
  obtain ⟨W1, hW1⟩ : ∃ W, Hid (W0.drewN nq = W) := ⟨_, rfl⟩
  have HB1 : Hid (Below w.heap.size w W1) := by rw [← hW1.out]; exact below_drewN HB0.out nq
  go_upto_region 2 with (fail)
  rw [hW1.out]
  clear hW1 HB0
  have c1 : Calls Tryz.prog 5 #[.int .i64 0, .int .i64 1, .int .i64 2, .slice (some ⟨W1.heap.size + 3, 0, none⟩) 3 3] ((((W1.alloc (.cells #[.int .u8 5, .int .u8 1] 5)).alloc (.cells #[.int .u8 5, .int .u8 2] 5)).alloc (.cells #[.int .u8 6, .int .u8 2] 5)).alloc
    (.cells #[.slice (some ⟨W1.heap.size, 0, none⟩) 2 2, .slice (some ⟨W1.heap.size + 1, 0, none⟩) 2 2, .slice (some ⟨W1.heap.size + 2, 0, none⟩) 2 2] 27)) fun e W => ∃ v, e = .returned (.tuple #[v, .int .i64 0]) ∧ On19 W1 W v (W1.heap.size + 3) := one19 W1
  go_upto_region 6 with (first
    | (go_at_call 5; (with_reducible refine c1.mono ?_); rintro e W3 ⟨v, rfl, hOn⟩; obtain ⟨ta, tc, rfl, c2⟩ := on_a hOn; clear c1 hOn)
    | (go_at_call 6; (with_reducible refine c2.mono ?_); rintro e W4 ⟨rfl, c4⟩; have c3 : Calls Tryz.prog 7 #[.slice (some ⟨W1.heap.size + 3, 0, none⟩) 3 3, .slice (some ⟨W4.heap.size + 3, 0, none⟩) 3 3] ((((W4.alloc (.cells #[.int .u8 5, .int .u8 2] 5)).alloc (.cells #[.int .u8 5, .int .u8 2] 5)).alloc (.cells #[.int .u8 5, .int .u8 2] 5)).alloc
    (.cells #[.slice (some ⟨W4.heap.size, 0, none⟩) 2 2, .slice (some ⟨W4.heap.size + 1, 0, none⟩) 2 2, .slice (some ⟨W4.heap.size + 2, 0, none⟩) 2 2] 27)) fun e W5 => e = .returned (.bool true) ∧ Below W1.heap.size W1 W5 := c4; clear c2 c4)
    | (go_at_call 7; (with_reducible refine c3.mono ?_); rintro e W5 ⟨rfl, hb5⟩; have HB5 : Hid (Below w.heap.size w W5) := HB1.out.trans (hb5.mono HB1.out.size); clear c3 hb5 HB1))
  by_cases hf2 : f = 2
  · have e2 : (f == 2) = true := by simp [hf2]
    clear hf2
    go_wp2
    go_ret
    exact ⟨rfl, HB5.out⟩
  have e2 : (f == 2) = false := by simpa using hf2
  by_cases hv : (f = 0 ∨ f = 1) ∧ 1 ≤ (k : Int) ∧ 1 ≤ m ∧ (k : Int) ≤ 256 ∧ m ≤ 256 ∧ (k : Int) + m ≤ 256
  case neg =>
    have c5 := valid_no_t f (k : Int) m W5 hf2 hv
    clear hv hf2
    go_wp2_with (go_at_call 8; (with_reducible refine c5.mono ?_); rintro e w9 ⟨rfl, hw9⟩; have hw9 := hw9.symm; subst hw9; clear c5)
    go_ret
    exact ⟨rfl, HB5.out⟩
  obtain ⟨f', m', rfl, rfl, v1, v2, v3, v4⟩ : ∃ f' m' : Nat, f = f' ∧ m = m' ∧ f' ≤ 1 ∧ 1 ≤ k ∧ 1 ≤ m' ∧ k + m' ≤ 256 := ⟨f.toNat, m.toNat, by omega, by omega, by omega, by omega, by omega, by omega⟩
  have c5 := valid_yes_t f' k m' W5 v1 v2 v3 v4
  have HV : Hid (f' ≤ 1 ∧ 1 ≤ k ∧ 1 ≤ m' ∧ k + m' ≤ 256) := ⟨v1, v2, v3, v4⟩
  have hS5 : Lb W5 (.slice aS k cS) k sl Sd := HS.out.1.below HB5.out
  clear hv hf2 v1 v2 v3 v4
  by_cases hr : 1 ≤ sl 0 ∧ ∀ i, i < k → sl i = sl 0
  case neg =>
    have c6 := right_no_t f' k sl aS cS Sd W5 HV.out.1 HV.out.2.1 (by have := HV.out; omega) hS5 hr
    clear hr hS5
    go_wp2_with (first
      | (go_at_call 8; (with_reducible refine c5.mono ?_); rintro e w9 ⟨rfl, hw9⟩; have hw9 := hw9.symm; subst hw9; clear c5)
      | (go_at_call 9; (with_reducible refine c6.mono ?_); rintro e w9 ⟨rfl, hw9⟩; have hw9 := hw9.symm; subst hw9; clear c6))
    go_ret
    exact ⟨rfl, HB5.out⟩
  obtain ⟨T, hT⟩ : ∃ T, sl 0 = T := ⟨_, rfl⟩
  rw [hT] at hr
  have hST : Lb w (.slice aS k cS) k (fun _ => T) Sd := Ll.lens HS.out.1 hr.2
  have hS5 : Lb W5 (.slice aS k cS) k (fun _ => T) Sd := hST.below HB5.out
  have hT9 : T ≤ 140737488351232 := by rw [← hT]; exact H9.out.1 0 HV.out.2.1
  have c6 := right_yes_t f' k T aS cS Sd W5 HV.out.1 HV.out.2.1 (by have := HV.out; omega) hr.1 hS5
  obtain ⟨xa, xc, hx5⟩ := lb_all8 hST
  have HD : Hid (∀ W, Below w.heap.size w W → (∃ b o, aS = some ⟨b, o, none⟩ ∧ W.cell? ⟨b, o, none⟩ = some (.slice (xa 0) T (xc 0))) ∧ ∀ x, x < k → ∀ t, t < T → Sd x t < 256) := fun W hW => ⟨(hx5 W hW).1 0 HV.out.2.1, fun x hx t ht => ((hx5 W hW).2 x hx).2.1 t ht⟩
  have HT : Hid (1 ≤ T ∧ Lb w (.slice aS k cS) k (fun _ => T) Sd) := ⟨hr.1, hST⟩
  obtain ⟨n, hn⟩ : ∃ n, n = k + m' := ⟨_, rfl⟩
  obtain ⟨r1, hr1⟩ : ∃ r, r = T * n := ⟨_, rfl⟩
  obtain ⟨r2, hr2⟩ : ∃ r, r = r1 * n := ⟨_, rfl⟩
  have HN : Hid (n = k + m' ∧ n ≤ 256) := by have := HV.out; exact ⟨hn, by omega⟩
  have HW1 : Hid (wrap64 ((k : Int) + (m' : Int)) = (n : Int)) := by show _ = _; have := HV.out; unfold wrap64; omega
  have q1 : r1 ≤ 140737488351232 * 256 := by rw [hr1]; exact Nat.mul_le_mul hT9 HN.out.2
  have q2 : r2 ≤ 140737488351232 * 256 * 256 := by rw [hr2]; exact Nat.mul_le_mul q1 HN.out.2
  have HW2 : Hid (wrap64 ((T : Int) * (n : Int)) = (r1 : Int)) := by show _ = _; rw [← Int.natCast_mul, ← hr1]; clear HW1; unfold wrap64; omega
  have HW3 : Hid (wrap64 ((r1 : Int) * (n : Int)) = (r2 : Int)) := by show _ = _; rw [← Int.natCast_mul, ← hr2]; clear HW1 HW2; unfold wrap64; omega
  have HT2 : Hid (r2 ≤ 1048576 → T ≤ 1048576) := fun h => by
    have a1 : T * 1 ≤ T * n := Nat.mul_le_mul_left T (by have := HV.out; omega)
    have a2 : r1 * 1 ≤ r1 * n := Nat.mul_le_mul_left r1 (by have := HV.out; omega)
    omega
  obtain ⟨⟨db, dO, rfl, y0⟩, -⟩ := HD.out W5 HB5.out
  have k0 : (0 : Int) < (k : Int) := by have := HV.out; omega
  have k0N : 0 < k := by have := HV.out; omega
  clear hr hT hST hT9 hx5 hn hr1 hr2 q1 q2 H9
  by_cases hr9 : 1048576 < r2
  · have t3 : (1048576 : Int) < (r2 : Int) := by omega
    have t4 : decide ((1048576 : Int) < (r2 : Int)) = true := decide_eq_true t3
    clear hr9 hS5
    have X1 := HW1.out
    have X2 := HW2.out
    have X3 := HW3.out
    go_wp2_with (first
      | (go_at_call 8; (with_reducible refine c5.mono ?_); rintro e w9 ⟨rfl, hw9⟩; have hw9 := hw9.symm; subst hw9; clear c5)
      | (go_at_call 9; (with_reducible refine c6.mono ?_); rintro e w9 ⟨rfl, hw9⟩; have hw9 := hw9.symm; subst hw9; clear c6))
    go_ret
    exact ⟨rfl, HB5.out⟩
  have t3 : ¬ (1048576 : Int) < (r2 : Int) := by omega
  have t4 : decide ((1048576 : Int) < (r2 : Int)) = false := decide_eq_false t3
  have HTT : Hid (T ≤ 1048576) := HT2.out (by omega)
  have X1 := HW1.out
  have X2 := HW2.out
  have X3 := HW3.out
  have c7 := word_v f' k m' T (some ⟨db, dO, none⟩) cS Sd W5 HV.out.1 HV.out.2.1 HV.out.2.2.1 HV.out.2.2.2 HT.out.1 HTT.out hS5
  rw [← HN.out.1] at c7
  clear hr9 hS5 HT2
  go_upto_region 11 with (first
    | (go_at_call 8; (with_reducible refine c5.mono ?_); rintro e w9 ⟨rfl, hw9⟩; have hw9 := hw9.symm; subst hw9; clear c5)
    | (go_at_call 9; (with_reducible refine c6.mono ?_); rintro e w9 ⟨rfl, hw9⟩; have hw9 := hw9.symm; subst hw9; clear c6)
    | (go_at_call 10; (with_reducible refine c7.mono ?_); rintro e W6 ⟨wv, C6, B6, G6, rfl, g6, e6, b6⟩; obtain ⟨aw, cw, rfl⟩ := lb_form8 g6.lb; have c8 := ttwin _ n (fun _ => T) G6 W6 g6.lb (by have := HN.out; omega) (fun _ _ => by have := HTT.out; omega); have HB6 : Hid (Below w.heap.size w W6) := HB5.out.trans (b6.mono HB5.out.size); have HG6 : Hid (Gl8 W5.heap.size W6 (.slice aw n cw) n (fun _ => T) C6 B6 G6 ∧ ∀ x, x < n → ∀ t, t < T → G6 x t = wd f' k Sd x t) := ⟨g6, e6⟩; clear c7 g6 e6 b6 X1 X2 X3 t3 t4)
    | (go_at_call 11; (with_reducible refine c8.mono ?_); rintro e W7 ⟨vs, C7, B7, T7, rfl, g7, e7, b7⟩; obtain ⟨sb, cs, rfl, hMe, he0⟩ := me_start ⟨HV.out.1, HV.out.2.1, HV.out.2.2.1, HN.out.1, HN.out.2, HT.out.1, HTT.out⟩ HG6.out.1 HG6.out.2 (HD.out W6 HB6.out).2 g7 e7 b7; have HM : Hid (Me W6 sb cs W7 f' k m' n T aw cw B7 (fun _ => T) C7 (fun x => some ⟨B7 x, 0, none⟩) C7 T7 G6 ∧ cnb (emp (fun _ => T)) n = 0) := ⟨hMe, he0⟩; clear c8 g7 e7 b7 hMe he0 HG6))
  go_upto_region 13 with (fail)
  go_loopw [14, 104] (fun x s wr => ∃ (t ee : Nat) (ln vc : Nat → Nat) (va : Nat → Option Addr), t ≤ nL ∧ s = .int .i64 (t : Int) ∧ x = .int .i64 ((m' - ee : Nat) : Int) ∧ cnb (emp ln) n = ee ∧ Me W6 sb cs wr f' k m' n T aw cw B7 ln C7 va vc T7 G6) (fun _ s _ => nL - (intOf s).toNat)
  case atStart => exact ⟨0, 0, _, _, _, Nat.zero_le _, rfl, rfl, HM.out.2, HM.out.1⟩
  case round =>
    obtain ⟨t, ee, ln, vc, va, ht, rfl, rfl, hce, hM⟩ := hrel
    clear HM
    by_cases htl : t < nL
    · have itl : ((t : Nat) : Int) < (nL : Int) := Int.ofNat_lt.2 htl
      have bw : Below w.heap.size w wr := HB6.out.trans (hM.rp.bel.mono HB6.out.size)
      obtain ⟨hnb, -, aL', cL', e, -, -, h4⟩ := HS.out.2.1.below bw
      cases e
      obtain ⟨bL, oL, rfl, -, hc⟩ := h4 (by omega)
      have q1 := hc t htl
      have W1' := wrap_succ8 (j := t) (by omega)
      have HE : Hid (t < nL ∧ cnb (emp ln) n = ee ∧ Me W6 sb cs wr f' k m' n T aw cw B7 ln C7 va vc T7 G6) := ⟨htl, hce, hM⟩
      clear hnb h4 hc hM hce ht htl bw
      obtain ⟨v, hv⟩ : ∃ v, Lo t = v := ⟨_, rfl⟩
      rw [hv] at q1
      clear hv
      have X1 := HW1.out
      obtain ⟨hI, han⟩ := uw_idx v n (by have := HN.out; omega) (by have := HN.out; have := HV.out; omega)
      have N0 : ¬ IntKind.u64.wrap ((n : Nat) : Int) = 0 := by rw [uw_n n (by have := HN.out; omega)]; have := HN.out; have := HV.out; omega
      obtain ⟨a, ha⟩ : ∃ a, uv v % n = a := ⟨_, rfl⟩
      rw [ha] at hI han
      clear ha
      go_upto_region 16 with (fail)
      rw [hI]
      have anI : (a : Int) < (n : Int) := by omega
      obtain ⟨sp, hsp⟩ : ∃ sp, m' - ee = sp := ⟨_, rfl⟩
      rw [hsp]
      clear hI N0 q1 X1
      by_cases hz : sp = 0
      · have d0 : decide ((0 : Int) < ((sp : Nat) : Int)) = false := decide_eq_false (by omega)
        have d1 : ¬ (0 : Int) < ((sp : Nat) : Int) := by omega
        have HSP : Hid (((sp : Nat) : Int) = ((m' - ee : Nat) : Int)) := by show _ = _; rw [hsp]
        clear hz hsp
        go_wp2
        go_roundw
        case rel => exact ⟨t + 1, ee, ln, vc, va, HE.out.1, by first | rfl | (rw [W1']; rfl), by rw [HSP.out], HE.out.2.1, HE.out.2.2⟩
        case measure => first | exact meas_lt8 HE.out.1 | (rw [W1']; exact meas_lt8 HE.out.1)
      have d0 : decide ((0 : Int) < ((sp : Nat) : Int)) = true := decide_eq_true (by omega)
      have d1 : (0 : Int) < ((sp : Nat) : Int) := by omega
      have d1N : 0 < sp := by omega
      by_cases h0 : ln a = 0
      · have q2 := HE.out.2.2.rp.cell han
        rw [h0] at q2
        have HSP : Hid (((sp : Nat) : Int) = ((m' - ee : Nat) : Int)) := by show _ = _; rw [hsp]
        clear h0 hz hsp
        go_wp2
        go_roundw
        case rel => exact ⟨t + 1, ee, ln, vc, va, HE.out.1, by first | rfl | (rw [W1']; rfl), by rw [HSP.out], HE.out.2.1, HE.out.2.2⟩
        case measure => first | exact meas_lt8 HE.out.1 | (rw [W1']; exact meas_lt8 HE.out.1)
      have q2 := HE.out.2.2.rp.full han h0
      have T0 : (0 : Int) < (T : Int) := by have := HT.out.1; omega
      have T0N : 0 < T := by have := HT.out.1; omega
      have T0d : decide ((0 : Int) < (T : Int)) = true := decide_eq_true T0
      have q3 := HE.out.2.2.rp.list.row.frozen a
      have hlo := HE.out.2.2.lose han h0 (by rw [HE.out.2.1]; omega)
      have HF : Hid (Me W6 sb cs (wr.setCell ⟨sb, a, none⟩ (.slice none 0 0)) f' k m' n T aw cw B7 (fun x => if x = a then 0 else ln x) C7 (fun x => if x = a then none else va x) (fun x => if x = a then 0 else vc x) T7 G6 ∧ cnb (emp (fun x => if x = a then 0 else ln x)) n = ee + 1) := ⟨hlo.1, by rw [hlo.2, HE.out.2.1]⟩
      have W2' : wrap64 (((sp : Nat) : Int) - 1) = ((m' - (ee + 1) : Nat) : Int) := by have := HV.out; unfold wrap64; omega
      clear h0 hz hlo hsp
      go_wp2
      go_roundw
      case rel => exact ⟨t + 1, ee + 1, _, _, _, HE.out.1, by first | rfl | (rw [W1']; rfl), by first | rfl | (rw [W2']), HF.out.2, HF.out.1⟩
      case measure => first | exact meas_lt8 HE.out.1 | (rw [W1']; exact meas_lt8 HE.out.1)
    · have itl : ¬ ((t : Nat) : Int) < (nL : Int) := by omega
      have HE : Hid (cnb (emp ln) n = ee ∧ Me W6 sb cs wr f' k m' n T aw cw B7 ln C7 va vc T7 G6) := ⟨hce, hM⟩
      obtain ⟨sp, hsp⟩ : ∃ sp, Hid (m' - ee = sp) := ⟨_, rfl⟩
      rw [hsp.out]
      clear hM hce htl ht
      go_upto_region 21 with (fail)
      clear itl
      go_loopw [134] (fun s wr => ∃ (t : Nat) (G : Nat → Nat → Nat), t ≤ nW ∧ s = .int .i64 (t : Int) ∧ Me W6 sb cs wr f' k m' n T aw cw B7 ln C7 va vc G G6) (fun s _ => nW - (intOf s).toNat)
      case atStart => exact ⟨0, _, Nat.zero_le _, rfl, HE.out.2⟩
      case round =>
        obtain ⟨t, G, ht, rfl, hM⟩ := hrel
        by_cases htl : t < nW
        · have itl : ((t : Nat) : Int) < (nW : Int) := Int.ofNat_lt.2 htl
          have bw : Below w.heap.size w wr := HB6.out.trans (hM.rp.bel.mono HB6.out.size)
          obtain ⟨hnb, aW', cW', e, -, -, h4⟩ := HS.out.2.2.below bw
          cases e
          obtain ⟨bW, oW, rfl, -, hc⟩ := h4 (by omega)
          obtain ⟨mk8, q0, q1, q2⟩ := hc t htl
          have W1' := wrap_succ8 (j := t) (by omega)
          obtain ⟨v, hv⟩ : ∃ v, Co t = v := ⟨_, rfl⟩
          obtain ⟨ss, hss⟩ : ∃ ss, Sh t = ss := ⟨_, rfl⟩
          obtain ⟨mk, hmk⟩ : ∃ mk, Mk t = mk := ⟨_, rfl⟩
          rw [hv] at q0
          rw [hss] at q1
          rw [hmk] at q2 mk8
          obtain ⟨X, hX⟩ : ∃ X, Hid (wr.alloc (.cells #[.int .i64 v, .int .i64 ss, .int .u8 (mk : Nat)] 40) = X) := ⟨_, rfl⟩
          have bA : Below wr.heap.size wr X := by rw [← hX.out]; exact (Below.refl _ _).alloc (Nat.le_refl _) _
          have hbl : X.heap[wr.heap.size]? = some (.cells #[.int .i64 v, .int .i64 ss, .int .u8 (mk : Nat)] 40 (0, 0)) := by rw [← hX.out]; exact heap_alloc_new _ _
          obtain ⟨gx, hgx⟩ : ∃ gx, Hid (wr.heap.size = gx) := ⟨_, rfl⟩
          rw [hgx.out] at hbl
          have b0 : X.cell? ⟨gx, 0, none⟩ = some (.int .i64 v) := by rw [cell_of_row _ _ 0 _ _ _ hbl]; rfl
          have b1 : X.cell? ⟨gx, 1, none⟩ = some (.int .i64 ss) := by rw [cell_of_row _ _ 1 _ _ _ hbl]; rfl
          have b2 : X.cell? ⟨gx, 2, none⟩ = some (.int .u8 (mk : Nat)) := by rw [cell_of_row _ _ 2 _ _ _ hbl]; rfl
          have HY : Hid (t < nW ∧ mk < 256 ∧ Me W6 sb cs X f' k m' n T aw cw B7 ln C7 va vc G G6) := ⟨htl, mk8, hM.below bA⟩
          clear hnb h4 hc mk8 hv hss hmk bA hbl hM htl ht bw
          go_upto_region 23 with (fail)
          rw [hX.out, hgx.out]
          clear q0 q1 q2 hX itl
          have X1 := HW1.out
          obtain ⟨hI, han⟩ := uw_idx v n (by have := HN.out; omega) (by have := HN.out; have := HV.out; omega)
          have N0 : ¬ IntKind.u64.wrap ((n : Nat) : Int) = 0 := by rw [uw_n n (by have := HN.out; omega)]; have := HN.out; have := HV.out; omega
          obtain ⟨a, ha⟩ : ∃ a, uv v % n = a := ⟨_, rfl⟩
          rw [ha] at hI han
          clear ha
          go_upto_region 24 with (fail)
          rw [hI]
          have anI : (a : Int) < (n : Int) := by omega
          clear hI N0 X1 b0
          by_cases h0 : ln a = 0
          · have q4 := HY.out.2.2.rp.cell han
            rw [h0] at q4
            clear h0
            go_wp2
            go_roundw
            case rel => exact ⟨t + 1, G, HY.out.1, by first | rfl | (rw [W1']; rfl), HY.out.2.2⟩
            case measure => first | exact meas_lt8 HY.out.1 | (rw [W1']; exact meas_lt8 HY.out.1)
          have q4 := HY.out.2.2.rp.full han h0
          obtain ⟨hI2, hzT⟩ := uw_idx ss T HTT.out HT.out.1
          have N2 : ¬ IntKind.u64.wrap ((T : Nat) : Int) = 0 := by rw [uw_n T HTT.out]; have := HT.out.1; omega
          obtain ⟨z, hz⟩ : ∃ z, uv ss % T = z := ⟨_, rfl⟩
          rw [hz] at hI2 hzT
          have hI3 : IntKind.i64.wrap ((IntKind.u64.wrap ss).tmod (IntKind.u64.wrap ((T : Nat) : Int))) = ((z : Nat) : Int) := by
            rw [← hI2]
            exact (IntKind.wrap_i64 _).trans (by unfold wrap64; rfl)
          clear hz
          have q5 := HY.out.2.2.rp.at_ han h0 hzT
          have izT : (z : Int) < (T : Int) := by omega
          have T0 : (0 : Int) < (T : Int) := by have := HT.out.1; omega
          have T0N : 0 < T := by have := HT.out.1; omega
          have hg8 := HY.out.2.2.rp.byte han h0 hzT
          have XX := u8_xor_nat (G a z) mk hg8 HY.out.2.1
          have RD : Rq19 W6 sb X.drew n T B7 ln C7 va vc G := HY.out.2.2.rp.drewN 1
          have q6 := RD.at_ han h0 hzT
          have q7 : X.drew.frozen? ⟨B7 a, z, none⟩ = false := (RD.list.rows a han h0).2.2.frozen z
          have HF : Hid (Me W6 sb cs (X.drew.setCell ⟨B7 a, z, none⟩ (.int .u8 ((G a z ^^^ mk : Nat) : Int))) f' k m' n T aw cw B7 ln C7 va vc (fun x y => if x = a ∧ y = z then G a z ^^^ mk else G x y) G6) := (HY.out.2.2.below (below_drewN (Below.refl _ _) 1)).turn han h0 (Nat.xor_lt_two_pow (n := 8) hg8 HY.out.2.1)
          clear h0 hg8 RD
          go_upto_region 25 with (fail)
          clear T0 T0N
          refine region_planL (fun w' => w'.cell? ⟨sb, a, none⟩ = some (.slice (some ⟨B7 a, 0, none⟩) T (C7 a)) ∧ w'.cell? ⟨gx, 1, none⟩ = some (.int .i64 ss) ∧ w'.cell? ⟨gx, 2, none⟩ = some (.int .u8 (mk : Nat)) ∧ w'.cell? ⟨B7 a, z, none⟩ = some (.int .u8 (G a z : Nat))) 21 [21] 267 ⟨q4, b1, b2, q5⟩ (by kernel_rfl) (by kernel_rfl) (fun _ a d v _ h => by cases d <;> exact h) ?_
          refine planT_last ?A2 rfl (fun w' hS => ?s2) rfl ?n2
          case s2 =>
            obtain ⟨y1, y3, y4, y5⟩ := hS
            simp only [List.take_succ_cons, List.take_zero]
            repeat ((with_reducible refine wpStill_step (fun K hK => ?_)); go_simp; (with_reducible refine hK _ ?_); clear hK K)
            (with_reducible refine wpStill_nil ?_)
            exact rfl
          case n2 =>
          simp only [List.drop_succ_cons, List.drop_zero]
          go_wp2
          go_roundw
          case rel => exact ⟨t + 1, _, HY.out.1, by first | rfl | (rw [W1']; rfl), HF.out⟩
          case measure => first | exact meas_lt8 HY.out.1 | (rw [W1']; exact meas_lt8 HY.out.1)
        · have itl : ¬ ((t : Nat) : Int) < (nW : Int) := by omega
          have HX : Hid (cnb (emp ln) n = ee ∧ Me W6 sb cs wr f' k m' n T aw cw B7 ln C7 va vc G G6) := ⟨HE.out.1, hM⟩
          clear HE hM htl ht
          obtain ⟨w8, hw8⟩ : ∃ w8, Hid (wr = w8) := ⟨_, rfl⟩
          rw [hw8.out] at HX
          have hq : sp / 2 = (m' - cnb (emp ln) n) / 2 := by rw [HX.out.1, hsp.out]
          have hnv := HX.out.2.val
          have Q1 : wrap64 (((sp : Nat) : Int) / 2) = ((sp / 2 : Nat) : Int) := by have := hsp.out; unfold wrap64; omega
          have Q2 : wrap64 (((sp : Nat) : Int).tdiv 2) = ((sp / 2 : Nat) : Int) := by rw [Int.tdiv_eq_ediv_of_nonneg (by omega)]; exact Q1
          by_cases hnear : ∀ z, z < T → cnb (fun y => Dv n ln G6 G y z) n ≤ sp / 2
          · have c1 := near_c HX.out.2 hq hnear
            have HBB : Hid (∀ W, Below W6.heap.size W6 W → Below w.heap.size w W) := fun W hW => HB6.out.trans (hW.mono HB6.out.size)
            generalize cnb (Pd T ln G6 G) n = tn at c1
            generalize sp / 2 = q at *
            clear hnear hq hnv HX
            rw [hw8.out]
            clear hw8
            go_wp2_with (first
              | (go_at_call 12; (with_reducible refine c1.mono ?_); rintro e Wa ⟨wa, wc, rfl, c2⟩; clear c1)
              | (go_at_call 11; (with_reducible refine c2.mono ?_); rintro e Wb ⟨bv, rfl, c3⟩; clear c2)
              | (go_at_call 5; (with_reducible refine c3.mono ?_); rintro e Wc ⟨ta', tc', rfl, c4⟩; clear c3)
              | (go_at_call 7; (with_reducible refine c4.mono ?_); rintro e Wd ⟨rfl, c5⟩; clear c4)
              | (go_at_call 6; (with_reducible refine c5.mono ?_); rintro e We ⟨rfl, hb⟩; have HZ : Hid (Below w.heap.size w We) := HBB.out We hb; clear c5 hb))
            go_ret
            exact ⟨rfl, HZ.out⟩
          · have c1 := far_c HX.out.2 hq hnear
            have HBB : Hid (∀ W, Below W6.heap.size W6 W → Below w.heap.size w W) := fun W hW => HB6.out.trans (hW.mono HB6.out.size)
            have hlt6 : db < W6.heap.size := by
              obtain ⟨⟨b, o, e, h⟩, -⟩ := HD.out W6 HB6.out
              cases e
              exact cell_lt5 h
            have HCS : Hid (n ≤ cs) := HX.out.2.caps.1
            generalize sp / 2 = q at *
            clear hnear hq hnv HX y0 hS5 k0 k0N
            rw [hw8.out]
            clear hw8
            go_upto_region 32 with (first
              | (go_at_call 12; (with_reducible refine c1.mono ?_); rintro e Wa ⟨wv, rfl, c2⟩; clear c1)
              | (go_at_call 11; (with_reducible refine c2.mono ?_); rintro e Wb ⟨ba, bc, rfl, c3⟩; clear c2)
              | (go_at_call 5; (with_reducible refine c3.mono ?_); rintro e Wc ⟨ta', tn, tc', z, rfl, hF⟩; clear c3))
            rcases hF with ⟨rfl, c4⟩ | ⟨rfl, hb3, ⟨r0, c0, y1⟩, c4, c5⟩
            · go_wp2_with (go_at_call 7; (with_reducible refine c4.mono ?_); rintro e Wd ⟨rfl, hb⟩; have HZ : Hid (Below w.heap.size w Wd) := HBB.out Wd hb; clear c4 hb)
              go_ret
              exact ⟨rfl, HZ.out⟩
            · have eD : Wc.drewN 1 = Wc.drew := rfl
              rw [eD] at c4 c5
              have X1 := HW1.out
              have X1b : IntKind.i64.wrap ((k : Int) + (m' : Int)) = (n : Int) := ((IntKind.wrap_i64 _).trans (by unfold wrap64; rfl)).trans X1
              have hcs : k ≤ cs := by have h1 := HCS.out; have h2 := HN.out.1; omega
              have hsl := run_headL8 sb 0 n cs k hcs
              obtain ⟨⟨b9, o9, e9, y2⟩, -⟩ := HD.out Wc (HBB.out Wc hb3)
              cases e9
              have kI : (0 : Int) < (k : Int) := by have := HV.out; omega
              have kN : 0 < k := by have := HV.out; omega
              have nI : (0 : Int) < (n : Int) := by have := HV.out; have := HN.out; omega
              have nN : 0 < n := by have := HV.out; have := HN.out; omega
              have nne : (((n : Nat) : Int) != ((n : Nat) : Int)) = false := by simp
              have tne : (((T : Nat) : Int) != ((T : Nat) : Int)) = false := by simp
              have HY2 : Hid (∀ X, Below Wc.heap.size Wc X → X.cell? ⟨sb, 0, none⟩ = some (.slice (some ⟨r0, 0, none⟩) T c0) ∧ X.cell? ⟨db, dO, none⟩ = some (.slice (xa 0) T (xc 0))) := fun X hX => ⟨(hX.cell (cell_lt5 y1)).trans y1, (hX.cell (cell_lt5 y2)).trans y2⟩
              go_upto_region 34 with (fail)
              refine region_planIM (fun W => W.cell? ⟨sb, 0, none⟩ = some (.slice (some ⟨r0, 0, none⟩) T c0) ∧ W.cell? ⟨db, dO, none⟩ = some (.slice (xa 0) T (xc 0))) [0, 1, 2, 3, 4, 5, 6, 7, 8, 9, 10, 11, 12, 13, 14, 15, 16, 17, 18, 19, 20, 21, 22, 23, 24, 25, 26, 27, 28, 29, 30, 31, 32, 33, 34, 35, 36, 37] [12, 21, 0, 2] 267 (HY2.out Wc.drew (below_drewN (Below.refl _ _) 1)) (by kernel_rfl) (by kernel_rfl) (fun _ a d v _ h => by cases d <;> exact h) ?_
              simp only [atI, List.getElem?_cons_zero, List.getElem?_cons_succ]
              clear y1 y2
              refine planH_step ?AF0 rfl (fun w' hS => ?sF0) rfl (fun K hK => ?nF0)
              case sF0 =>
                obtain ⟨z1, z2⟩ := hS
                simp only [List.take_succ_cons, List.take_zero]
                repeat ((with_reducible refine wpStill_step (fun K hK => ?_)); go_simp; (with_reducible refine hK _ ?_); clear hK K)
                (with_reducible refine wpStill_nil ?_)
                exact rfl
              case nF0 =>
              go_simp
              go_wp2_with (go_at_call 9; (with_reducible refine c4.mono ?_); rintro e w9 ⟨rfl, hw9⟩; have hw9 := hw9.symm; subst hw9; clear c4)
              refine hK _ _ (HY2.out Wc.drew (below_drewN (Below.refl _ _) 1)) ?_
              clear hK K
              refine planH_step ?AF1 rfl (fun w' hS => ?sF1) rfl (fun K hK => ?nF1)
              case sF1 =>
                obtain ⟨z1, z2⟩ := hS
                simp only [List.take_succ_cons, List.take_zero]
                repeat ((with_reducible refine wpStill_step (fun K hK => ?_)); go_simp; (with_reducible refine hK _ ?_); clear hK K)
                (with_reducible refine wpStill_nil ?_)
                exact rfl
              case nF1 =>
              go_simp
              go_wp2_with (go_at_call 10; (with_reducible refine c5.mono ?_); rintro e X2 ⟨wa, wc, rfl, hb2, c6⟩; have HX2 := HY2.out X2 hb2; clear c5 hb2)
              refine hK _ _ (HX2) ?_
              clear hK K
              refine planH_step ?AF2 rfl (fun w' hS => ?sF2) rfl (fun K hK => ?nF2)
              case sF2 =>
                obtain ⟨z1, z2⟩ := hS
                simp only [List.take_zero]
                exact rfl
              case nF2 =>
              go_simp
              go_wp2_with (go_at_call 7; (with_reducible refine c6.mono ?_); rintro e X3 ⟨rfl, hb3', c7⟩; have HX3 := HY2.out X3 hb3'; clear c6 hb3')
              refine hK _ _ (HX3) ?_
              clear hK K
              refine planH_last ?AF3 rfl (fun w' hS => ?sF3) rfl ?nF3
              case sF3 =>
                obtain ⟨z1, z2⟩ := hS
                simp only [List.take_succ_cons, List.take_zero]
                repeat ((with_reducible refine wpStill_step (fun K hK => ?_)); go_simp; (with_reducible refine hK _ ?_); clear hK K)
                (with_reducible refine wpStill_nil ?_)
                exact rfl
              case nF3 =>
              go_wp2_with (first
                | (go_at_call 12; (with_reducible refine c7.mono ?_); rintro e X4 ⟨a3, c3', rfl, c8⟩; clear c7)
                | (go_at_call 6; (with_reducible refine c8.mono ?_); rintro e X5 ⟨rfl, hb⟩; have HZ : Hid (Below w.heap.size w X5) := HBB.out X5 hb; clear c8 hb))
              go_ret
              exact ⟨rfl, HZ.out⟩
end Go.Proofs.YtlblkckglelbdaaGreat
