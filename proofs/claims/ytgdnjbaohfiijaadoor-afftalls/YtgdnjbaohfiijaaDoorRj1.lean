import Derived.Test.YtgdnjbaohfiijaaDoorAj5
namespace Go.Proofs.YtgdnjbaohfiijaaDoor
open Go.RowKit Gf2
set_option linter.unusedVariables false

-- layer 14: the document's way: values
/-- the elements in their order, in block g. -/
def We14 (w : World) (g : Nat) : Prop := g < w.heap.size ∧ ∀ i, i < 65536 → w.cell? ⟨g, i, none⟩ = some (.int .u16 (we i : Nat))
theorem We14.below {w w' : World} {g : Nat} (h : We14 w g) (hb : Below w.heap.size w w') : We14 w' g := ⟨Nat.lt_of_lt_of_le h.1 hb.size, fun i hi => (hb.cell (p := ⟨g, i, none⟩) h.1).trans (h.2 i hi)⟩
theorem refMul14 (a b : Nat) (w : World) (ha : a < 65536) (hb : b < 65536) : Calls Tryd.prog 47 #[.int .u16 (a : Int), .int .u16 (b : Int)] w fun e w' => e = .returned (.int .u16 (fm 65581 a b : Nat)) ∧ w' = w := refMulH_nat a b w ha hb
/-- an answered list. -/
def An14 (w w' : World) (e : Ending) (n : Nat) (G : Nat → Nat) : Prop := ∃ g C F, e = .returned (.slice (some ⟨g, 0, none⟩) n C) ∧ n ≤ C ∧ w.heap.size ≤ g ∧ R6 w' g C F ∧ (∀ i, i < n → F i = G i) ∧ Below w.heap.size w w'
theorem half_nums {t n h a : Nat} (hn : n = 2 ^ (t + 1)) (hh : h = 2 ^ t) (ht : t < 16) (ha : a + n ≤ 65536) : n = h + h ∧ (n : Int).tdiv 2 = (h : Int) ∧ 0 < h ∧ (a : Int).tdiv (h : Int) = ((a / h : Nat) : Int) ∧ a / h < 65536 ∧ ((n : Int) == 1) = false ∧ (n : Int) ≠ 1 ∧ ((h : Int) == 0) = false ∧ (h : Int) ≠ 0 ∧ h ≤ 32768 := by
  have hp := Nat.two_pow_pos t
  have e : n = h + h := by rw [hn, hh, Nat.pow_succ]; omega
  have hd : a / h ≤ a := Nat.div_le_self _ _
  refine ⟨e, ?_, by omega, ?_, by omega, by simp; omega, by omega, by simp; omega, by omega, by omega⟩
  · rw [Int.tdiv_eq_ediv_of_nonneg (by omega)]; omega
  · rw [Int.tdiv_eq_ediv_of_nonneg (by omega)]; rfl
theorem half_wraps {h j a n : Nat} (hj : j < h) (hh : h ≤ 32768) (hn : n = h + h) (ha : a + n ≤ 65536) {M : Nat} (hM : M = h + j) : wrap64 ((h : Int) + (j : Int)) = (M : Int) ∧ wrap64 ((j : Int) + 1) = (j : Int) + 1 ∧ ((j : Nat) : Int) < (h : Int) ∧ ((M : Nat) : Int) < (n : Int) ∧ ((j : Nat) : Int) < (n : Int) := by
  refine ⟨?_, ?_, by omega, by omega, by omega⟩
  · unfold wrap64; omega
  · unfold wrap64; omega
theorem half_add {h a n : Nat} (hn : n = h + h) (ha : a + n ≤ 65536) : wrap64 ((a : Int) + (h : Int)) = ((a + h : Nat) : Int) := by unfold wrap64; omega
theorem wrap_h {h : Nat} (hh : h ≤ 65536) : wrap64 (h : Int) = (h : Int) := by unfold wrap64; omega
set_option maxHeartbeats 8000000 in
set_option maxRecDepth 100000 in
theorem refvals (gw cw' : Nat) : ∀ (k b o cap n a : Nat) (F : Nat → Nat) (w : World), k ≤ 16 → n = 2 ^ k → a + n ≤ 65536 → Q6 w (.slice (some ⟨b, o, none⟩) n cap) n F → We14 w gw →
    Calls Tryd.prog 33 #[.slice (some ⟨b, o, none⟩) n cap, .int .i64 (a : Int), .slice (some ⟨gw, 0, none⟩) 65536 cw'] w fun e w' => An14 w w' e n (vl k F a) := by
  intro k
  induction k with
  | zero =>
    intro b o cap n a F w _ hn _ hQ _
    obtain rfl : n = 1 := hn
    obtain ⟨-, hF, _, _, e, -, -, h4⟩ := hQ
    cases e
    obtain ⟨_, _, e, hl, hc⟩ := h4 (by decide)
    cases e
    have y0 := hc 0 (by decide)
    rw [Nat.add_zero] at y0
    have l0 := hF 0 (by decide)
    obtain ⟨D, hD⟩ : ∃ D, D = F 0 := ⟨_, rfl⟩
    rw [← hD] at y0 l0
    have HD : Hid (D = F 0 ∧ D < 65536) := ⟨hD, l0⟩
    clear hF h4 hc hD l0 hl
    go_enter Tryd.func33, Tryd.ntmps33
    go_wp2
    go_ret
    refine ⟨_, 1, fun _ => D, rfl, Nat.le_refl _, Nat.le_refl _, ⟨by decide, fun i hi => HD.out.2, _, heap_alloc_new _ _, rfl, fun i hi => ?_⟩, fun i hi => ?_, below_alloc _ _⟩
    · obtain rfl : i = 0 := by omega
      rfl
    · obtain rfl : i = 0 := by omega
      exact HD.out.1
  | succ t ih =>
    intro b o cap n a F w hk hn ha hQ hW
    obtain ⟨h, hh⟩ : ∃ h, h = 2 ^ t := ⟨_, rfl⟩
    obtain ⟨e0, e1, e2, e3, e4, e5, e6, e7, e8, e9⟩ := half_nums hn hh (by omega) ha
    obtain ⟨d, hd⟩ : ∃ d, d = a / h := ⟨_, rfl⟩
    rw [← hd] at e3 e4
    obtain ⟨-, hF, _, _, e, -, -, h4⟩ := hQ
    cases e
    obtain ⟨_, _, e, hl, hc⟩ := h4 (by omega)
    cases e
    have y0 := hW.2 d e4
    have db : ((d : Nat) : Int) < 65536 := by omega
    obtain ⟨S, hS⟩ : ∃ S, S = we d := ⟨_, rfl⟩
    have hSl : S < 65536 := by rw [hS]; exact we_lt _
    rw [← hS] at y0
    have hm1 := make_w6 h (by omega) w
    have hm2 := make_w6 h (by omega) (w.alloc (.cells (madeCells #[.int .u16 0] h) 34))
    rw [show (w.alloc (.cells (madeCells #[.int .u16 0] h) 34)).heap.size = w.heap.size + 1 by simp] at hm2
    obtain ⟨W2, hW2⟩ : ∃ W2, W2 = (w.alloc (.cells (madeCells #[.int .u16 0] h) 34)).alloc (.cells (madeCells #[.int .u16 0] h) 34) := ⟨_, rfl⟩
    have r1 := made_r6 h (by omega) w
    have b1 := made_b6 h w
    have r2 := made_r6 h (by omega) (w.alloc (.cells (madeCells #[.int .u16 0] h) 34))
    have b2 := made_b6 h (w.alloc (.cells (madeCells #[.int .u16 0] h) 34))
    rw [show (w.alloc (.cells (madeCells #[.int .u16 0] h) 34)).heap.size = w.heap.size + 1 by simp] at r2
    have H2 : Hid (R6 W2 w.heap.size h (fun _ => 0) ∧ R6 W2 (w.heap.size + 1) h (fun _ => 0) ∧ Below w.heap.size w W2) := by
      rw [hW2]
      exact ⟨r1.below b2, r2, bthen13 b1 b2⟩
    have HN : Hid (n = h + h ∧ 0 < h ∧ h ≤ 32768 ∧ a + n ≤ 65536 ∧ h = 2 ^ t ∧ (∀ i, i < n → F i < 65536) ∧ (∀ i, i < n → w.cell? ⟨b, o + i, none⟩ = some (.int .u16 (F i : Nat))) ∧ b < w.heap.size ∧ We14 w gw ∧ S = we (a / h) ∧ S < 65536 ∧ t ≤ 16) := ⟨e0, e2, e9, ha, hh, hF, hc, hl, hW, by rw [hS, hd], hSl, by omega⟩
    have Wh := wrap_h (h := h) (by omega)
    have Wd := wrap_h (h := d) (by omega)
    clear hn hk ha hW e0 e2 e4 hd hF h4 hc hl hS hSl r1 b1 r2 b2 e9 hh
    replace hW2 : Hid (W2 = (w.alloc (.cells (madeCells #[.int .u16 0] h) 34)).alloc (.cells (madeCells #[.int .u16 0] h) 34)) := hW2
    go_enter Tryd.func33, Tryd.ntmps33
    go_wp2
    rw [← hW2.out]
    clear hm1 hm2 hW2 Wd e1 e3 e5 e6 e7 e8 y0 db
    obtain ⟨gl, hgl⟩ : ∃ gl, gl = w.heap.size := ⟨_, rfl⟩
    obtain ⟨gh, hgh⟩ : ∃ gh, gh = w.heap.size + 1 := ⟨_, rfl⟩
    rw [← hgh, ← hgl]
    rw [← hgh] at H2
    have HG : Hid (gl = w.heap.size ∧ gh = w.heap.size + 1 ∧ R6 W2 gl h (fun _ => 0)) := ⟨hgl, hgh, by rw [hgl]; exact H2.out.1⟩
    clear hgl hgh
    go_loopw [12] (fun jv wr => ∃ j : Nat, j ≤ h ∧ jv = .int .i64 j ∧ R6 wr gl h (pl (fun _ => 0) 0 j (fun x => bf 0 t S F x)) ∧ R6 wr gh h (pl (fun _ => 0) 0 j (fun x => bf 0 t S F (h + x))) ∧ Below w.heap.size w wr) (fun jv _ => h - (intOf jv).toNat)
    case atStart => exact ⟨0, Nat.zero_le _, rfl, by rw [pl_none]; exact HG.out.2.2, by rw [pl_none]; exact H2.out.2.1, H2.out.2.2⟩
    case round =>
      obtain ⟨j, hj, rfl, h1, h2, hb⟩ := hrel
      by_cases hlt : j < h
      · obtain ⟨n0, n1, n2, n3, n4, n5, n6, n7, n8, n9, n10, n11⟩ := HN.out
        obtain ⟨g1, g2, -⟩ := HG.out
        obtain ⟨M, hM⟩ : ∃ M, M = h + j := ⟨_, rfl⟩
        have HW : Hid (wrap64 ((h : Int) + (j : Int)) = (M : Int) ∧ wrap64 ((j : Int) + 1) = (j : Int) + 1 ∧ ((j : Nat) : Int) < (h : Int) ∧ ((M : Nat) : Int) < (n : Int) ∧ ((j : Nat) : Int) < (n : Int)) := half_wraps hlt n2 n0 n3 hM
        have lD := n5 j (by omega)
        have lE := n5 M (by omega)
        have c1 := refMul14 S (F M) wr n10 lE
        have lP := fm16_lt S (F M)
        have z1 := (hb.cell (p := ⟨b, o + j, none⟩) n7).trans (n6 j (by omega))
        have z2 := (hb.cell (p := ⟨b, o + M, none⟩) n7).trans (n6 M (by omega))
        have y1 := h1.2.2.cell (i := j) hlt
        have y2 := h1.2.2.frozen j
        have X1 := u16_xor_nat (F j) (fm 65581 S (F M)) lD lP
        have lx := Nat.xor_lt_two_pow (n := 16) lD lP
        have X2 := u16_xor_nat (F j ^^^ fm 65581 S (F M)) (F M) lx lE
        have ly := Nat.xor_lt_two_pow (n := 16) lx lE
        have k1 : Kp gl wr (wr.setCell ⟨gl, j, none⟩ (.int .u16 ((F j ^^^ fm 65581 S (F M) : Nat) : Int))) := (Kp.refl gl wr).setCell _ _
        have z3 := (k1.cell (h := b) (q := o + j) (Nat.lt_of_lt_of_le n7 hb.size) (by omega)).trans z1
        have z4 := (k1.cell (h := b) (q := o + M) (Nat.lt_of_lt_of_le n7 hb.size) (by omega)).trans z2
        have y3 := (h2.kp k1 (by omega)).2.2.cell (i := j) hlt
        have y4 := (h2.kp k1 (by omega)).2.2.frozen j
        have k2 : Kp gh (wr.setCell ⟨gl, j, none⟩ (.int .u16 ((F j ^^^ fm 65581 S (F M) : Nat) : Int))) ((wr.setCell ⟨gl, j, none⟩ (.int .u16 ((F j ^^^ fm 65581 S (F M) : Nat) : Int))).setCell ⟨gh, j, none⟩ (.int .u16 ((F j ^^^ fm 65581 S (F M) ^^^ F M : Nat) : Int))) := (Kp.refl gh _).setCell _ _
        have eL : bf 0 t S F j = F j ^^^ fm 65581 S (F M) := by unfold bf; rw [if_pos (by omega), ← n4, show j + h = M by omega]
        have eH : bf 0 t S F (h + j) = F j ^^^ fm 65581 S (F M) ^^^ F M := by unfold bf; rw [if_neg (by omega), ← n4, Nat.add_sub_cancel_left, ← hM, Nat.xor_comm (F M)]
        have HV : Hid (R6 ((wr.setCell ⟨gl, j, none⟩ (.int .u16 ((F j ^^^ fm 65581 S (F M) : Nat) : Int))).setCell ⟨gh, j, none⟩ (.int .u16 ((F j ^^^ fm 65581 S (F M) ^^^ F M : Nat) : Int))) gl h (pl (fun _ => 0) 0 (j + 1) (fun x => bf 0 t S F x)) ∧ R6 ((wr.setCell ⟨gl, j, none⟩ (.int .u16 ((F j ^^^ fm 65581 S (F M) : Nat) : Int))).setCell ⟨gh, j, none⟩ (.int .u16 ((F j ^^^ fm 65581 S (F M) ^^^ F M : Nat) : Int))) gh h (pl (fun _ => 0) 0 (j + 1) (fun x => bf 0 t S F (h + x))) ∧ Below w.heap.size w ((wr.setCell ⟨gl, j, none⟩ (.int .u16 ((F j ^^^ fm 65581 S (F M) : Nat) : Int))).setCell ⟨gh, j, none⟩ (.int .u16 ((F j ^^^ fm 65581 S (F M) ^^^ F M : Nat) : Int)))) := by
          refine ⟨((h1.set j _ lx).congr (fun x hx => ?_)).kp k2 (by omega), ((h2.kp k1 (by omega)).set j _ ly).congr (fun x hx => ?_), (hb.setCell (show w.heap.size ≤ gl by omega) _).setCell (show w.heap.size ≤ gh by omega) _⟩
          · have := congrFun (pl_next (F := fun _ => 0) (S := fun x => bf 0 t S F x) (o := 0) (t := j)) x
            rw [Nat.zero_add, eL] at this
            exact this
          · have := congrFun (pl_next (F := fun _ => 0) (S := fun x => bf 0 t S F (h + x)) (o := 0) (t := j)) x
            rw [Nat.zero_add, eH] at this
            exact this
        obtain ⟨D, hD⟩ : ∃ D, D = F j := ⟨_, rfl⟩
        obtain ⟨E, hE⟩ : ∃ E, E = F M := ⟨_, rfl⟩
        rw [← hE] at c1 z2 z4 X1 X2 HV y3 y4 z3
        obtain ⟨P, hP⟩ : ∃ P, P = fm 65581 S E := ⟨_, rfl⟩
        rw [← hP] at c1 X1 X2 HV y3 y4 z3 z4
        rw [← hD] at z1 z3 X1 X2 HV y3 y4 z4
        have W1 := HW.out.1
        have W2' := HW.out.2.1
        have t1 := HW.out.2.2.1
        have t2 := HW.out.2.2.2.1
        have t3 := HW.out.2.2.2.2
        have W3 := wrap_k W1
        clear h1 h2 hb n0 n1 n2 n3 n4 n5 n6 n7 n8 n9 n10 n11 g1 g2 lD lE lP lx ly k1 k2 eL eH hD hE hP hM
        go_wp2_with (go_at_call 47; ((with_reducible refine (c1).mono ?_); rintro e w' ⟨rfl, rfl⟩))
        refine region_tail13 16 (by kernel_rfl) (by kernel_rfl) ?_
        simp only [List.take_succ_cons, List.take_zero, List.drop_succ_cons, List.drop_zero]
        repeat still_step
        refine wpStill_nil ?_
        go_wp2
        go_roundw
        case rel => exact ⟨j + 1, hlt, by first | rfl | (rw [W2']; rfl), HV.out.1.drew, HV.out.2.1.drew, HV.out.2.2.drew⟩
        case measure => first | exact meas_lt8 hlt | (rw [W2']; exact meas_lt8 hlt)
      · obtain rfl : j = h := Nat.le_antisymm hj (Nat.le_of_not_lt hlt)
        obtain ⟨n0, n1, n2, n3, n4, n5, n6, n7, n8, n9, n10, n11⟩ := HN.out
        obtain ⟨g1, g2, -⟩ := HG.out
        have tb : ¬ ((j : Nat) : Int) < (j : Int) := by omega
        have q1 : Q6 wr (.slice (some ⟨gl, 0, none⟩) j j) j (bf 0 t S F) := h1.all.congr (fun x hx => by rw [pl0, if_pos hx])
        have q2 : Q6 wr (.slice (some ⟨gh, 0, none⟩) j j) j (fun x => bf 0 t S F (j + x)) := h2.all.congr (fun x hx => by rw [pl0, if_pos hx])
        have k1 : Calls Tryd.prog 33 #[.slice (some ⟨gl, 0, none⟩) j j, .int .i64 (a : Int), .slice (some ⟨gw, 0, none⟩) 65536 cw'] wr fun e w1 => ∃ ga Ca : Nat, e = .returned (.slice (some ⟨ga, 0, none⟩) j Ca) ∧
            Calls Tryd.prog 33 #[.slice (some ⟨gh, 0, none⟩) j j, .int .i64 ((a + j : Nat) : Int), .slice (some ⟨gw, 0, none⟩) 65536 cw'] w1 fun e w2 => ∃ gb Cb : Nat, e = .returned (.slice (some ⟨gb, 0, none⟩) j Cb) ∧
            ∃ (w3 : World) (gc Cc : Nat), (Builtin.append_ #[26, 26] 26 #[.slice (some ⟨ga, 0, none⟩) j Ca, .slice (some ⟨gb, 0, none⟩) j Cb]).run Tryd.prog w2 = .ok (.slice (some ⟨gc, 0, none⟩) n Cc) w3 ∧ Hid (An14 w w3 (.returned (.slice (some ⟨gc, 0, none⟩) n Cc)) n (vl (t + 1) F a)) := by
          refine (ih gl 0 j j a _ wr n11 n4 (by omega) q1 (n8.below hb)).mono fun e w1 ⟨ga, Ca, Fa, he, hCa, hga, hRa, hFa, ba⟩ => ⟨ga, Ca, he, ?_⟩
          refine (ih gh 0 j j (a + j) _ w1 n11 n4 (by omega) (q2.below ba) ((n8.below hb).below ba)).mono fun e w2 ⟨gb, Cb, Fb, he, hCb, hgb, hRb, hFb, bb⟩ => ⟨gb, Cb, he, ?_⟩
          obtain ⟨w3, gc, Cc, Fc, run, hCc, hRc, f1, f2, hcase⟩ := app16 w2 (hRa.below bb) hCa (x := some ⟨gb, 0, none⟩) (n := j) (cx := Cb) (S := Fb) (fun i hi => hRb.2.1 i (by omega)) (fun _ => ⟨gb, 0, rfl, fun i hi => by rw [Nat.zero_add]; exact hRb.2.2.cell (i := i) (by omega)⟩) (by omega)
          rw [← n0] at run hCc
          have bw := hb.trans (ba.mono hb.size)
          have bw2 := bw.trans (bb.mono bw.size)
          refine ⟨w3, gc, Cc, run, gc, Cc, Fc, rfl, hCc, ?_, hRc, fun i hi => ?_, ?_⟩
          · rcases hcase with ⟨rfl, -⟩ | ⟨rfl, -, -⟩
            · exact Nat.le_trans hb.size hga
            · exact bw2.size
          · show Fc i = if i < 2 ^ t then vl t (bf 0 t (we (a / 2 ^ t)) F) a i else vl t (fun y => bf 0 t (we (a / 2 ^ t)) F (2 ^ t + y)) (a + 2 ^ t) (i - 2 ^ t)
            rw [← n4, ← n9]
            by_cases e : i < j
            · rw [if_pos e, f1 i e, hFa i e]
            · rw [if_neg e, ← hFb (i - j) (by omega), ← f2 (i - j) (by omega), show j + (i - j) = i by omega]
          · rcases hcase with ⟨rfl, ho⟩ | ⟨rfl, -, hbb⟩
            · exact bw2.trans (ho.below (Nat.le_trans hb.size hga))
            · exact bw2.trans (hbb.mono bw2.size)
        have W1 := half_add n0 n3
        obtain ⟨A2, hA2⟩ : ∃ A2, A2 = a + j := ⟨_, rfl⟩
        rw [← hA2] at W1
        simp only [← hA2] at k1
        clear hA2
        clear h1 h2 hb q1 q2 n0 n1 n2 n3 n4 n5 n6 n7 n8 n9 n10 n11 g1 g2 ih
        go_wp2_with (first
          | (go_at_call 33; first | ((with_reducible refine k1.mono ?_); rintro e w1 ⟨ga, Ca, rfl, k2⟩; clear k1) | ((with_reducible refine k2.mono ?_); rintro e w2 ⟨gb, Cb, rfl, w3, gc, Cc, run, HA⟩; clear k2))
          | (at_builtin; refine Lib.wpList_append_run _ rfl _ _ _ _ rfl _ _ rfl rfl _ _ run ?_))
        go_ret
        exact HA.out
end Go.Proofs.YtgdnjbaohfiijaaDoor
namespace Go.Proofs.YtgdnjbaohfiijaaDoor
open Go.RowKit Gf2
set_option linter.unusedVariables false

-- layer 14: the document's way back: coefficients (laid by wip/genrfb.py)
/-- d behind j rounds. -/
def dd (h j : Nat) (A B : Nat → Nat) (x : Nat) : Nat := if x < j then A x else if h ≤ x ∧ x < h + j then B (x - h) else 0
theorem dd_next {h j : Nat} (hj : j < h) (A B : Nat → Nat) (x : Nat) : (if x = j then A j else (if x = h + j then B j else dd h j A B x)) = dd h (j + 1) A B x := by
  unfold dd
  by_cases e1 : x = j
  · rw [if_pos e1, if_pos (by omega), e1]
  · rw [if_neg e1]
    by_cases e2 : x = h + j
    · rw [if_pos e2, if_neg (by omega), if_pos (by omega), e2, Nat.add_sub_cancel_left]
    · rw [if_neg e2]
      by_cases e3 : x < j
      · rw [if_pos e3, if_pos (by omega)]
      · rw [if_neg e3, if_neg (show ¬ x < j + 1 by omega)]
        by_cases e4 : h ≤ x ∧ x < h + j
        · rw [if_pos e4, if_pos (show h ≤ x ∧ x < h + (j + 1) by omega)]
        · rw [if_neg e4, if_neg (show ¬ (h ≤ x ∧ x < h + (j + 1)) by omega)]
theorem dd_zero (h : Nat) (A B : Nat → Nat) : dd h 0 A B = fun _ => 0 := by
  funext x
  unfold dd
  rw [if_neg (Nat.not_lt_zero _), if_neg (by omega)]
set_option maxHeartbeats 8000000 in
set_option maxRecDepth 100000 in
theorem refcoef (gw cw' : Nat) : ∀ (k b o cap n a : Nat) (F : Nat → Nat) (w : World), k ≤ 16 → n = 2 ^ k → a + n ≤ 65536 → Q6 w (.slice (some ⟨b, o, none⟩) n cap) n F → We14 w gw →
    Calls Tryd.prog 35 #[.slice (some ⟨b, o, none⟩) n cap, .int .i64 (a : Int), .slice (some ⟨gw, 0, none⟩) 65536 cw'] w fun e w' => An14 w w' e n (cl k F a) := by
  intro k
  induction k with
  | zero =>
    intro b o cap n a F w _ hn _ hQ _
    obtain rfl : n = 1 := hn
    obtain ⟨-, hF, _, _, e, -, -, h4⟩ := hQ
    cases e
    obtain ⟨_, _, e, hl, hc⟩ := h4 (by decide)
    cases e
    have y0 := hc 0 (by decide)
    rw [Nat.add_zero] at y0
    have l0 := hF 0 (by decide)
    obtain ⟨D, hD⟩ : ∃ D, D = F 0 := ⟨_, rfl⟩
    rw [← hD] at y0 l0
    have HD : Hid (D = F 0 ∧ D < 65536) := ⟨hD, l0⟩
    clear hF h4 hc hD l0 hl
    go_enter Tryd.func35, Tryd.ntmps35
    go_wp2
    go_ret
    refine ⟨_, 1, fun _ => D, rfl, Nat.le_refl _, Nat.le_refl _, ⟨by decide, fun i hi => HD.out.2, _, heap_alloc_new _ _, rfl, fun i hi => ?_⟩, fun i hi => ?_, below_alloc _ _⟩
    · obtain rfl : i = 0 := by omega
      rfl
    · obtain rfl : i = 0 := by omega
      exact HD.out.1
  | succ t ih =>
    intro b o cap n a F w hk hn ha hQ hW
    obtain ⟨h, hh⟩ : ∃ h, h = 2 ^ t := ⟨_, rfl⟩
    obtain ⟨e0, e1, e2, e3, e4, e5, e6, e7, e8, e9⟩ := half_nums hn hh (by omega) ha
    obtain ⟨d, hd⟩ : ∃ d, d = a / h := ⟨_, rfl⟩
    rw [← hd] at e3 e4
    have hQ' := hQ
    obtain ⟨hbig, hF, _, _, e, hcap, hcb, h4⟩ := hQ
    cases e
    obtain ⟨_, _, e, hl, hc⟩ := h4 (by omega)
    cases e
    have y0 := hW.2 d e4
    have db : ((d : Nat) : Int) < 65536 := by omega
    obtain ⟨S, hS⟩ : ∃ S, S = we d := ⟨_, rfl⟩
    have hSl : S < 65536 := by rw [hS]; exact we_lt _
    rw [← hS] at y0
    have hsl1 := head6 b o n cap h (by omega)
    have hsl2 := from6 b o n cap h (by omega) hcap
    rw [show n - h = h by omega] at hsl2
    have q1 : Q6 w (.slice (some ⟨b, o, none⟩) h cap) h F := ⟨by omega, fun i hi => hF i (by omega), _, _, rfl, by omega, hcb, fun _ => ⟨b, o, rfl, hl, fun i hi => hc i (by omega)⟩⟩
    have q2 : Q6 w (.slice (some ⟨b, o + h, none⟩) h (cap - h)) h (fun x => F (h + x)) := ⟨by omega, fun i hi => hF _ (by omega), _, _, rfl, by omega, by omega, fun _ => ⟨b, o + h, rfl, hl, fun i hi => by rw [Nat.add_assoc]; exact hc (h + i) (by omega)⟩⟩
    have k1 : Calls Tryd.prog 35 #[.slice (some ⟨b, o, none⟩) h cap, .int .i64 (a : Int), .slice (some ⟨gw, 0, none⟩) 65536 cw'] w fun e w1 => ∃ ga Ca : Nat, e = .returned (.slice (some ⟨ga, 0, none⟩) h Ca) ∧
        Calls Tryd.prog 35 #[.slice (some ⟨b, o + h, none⟩) h (cap - h), .int .i64 ((a + h : Nat) : Int), .slice (some ⟨gw, 0, none⟩) 65536 cw'] w1 fun e w2 => ∃ gb Cb : Nat, e = .returned (.slice (some ⟨gb, 0, none⟩) h Cb) ∧
        Hid (Q6 w2 (.slice (some ⟨ga, 0, none⟩) h Ca) h (cl t F a) ∧ Q6 w2 (.slice (some ⟨gb, 0, none⟩) h Cb) h (cl t (fun x => F (h + x)) (a + h)) ∧ Below w.heap.size w w2) := by
      refine (ih b o cap h a F w (by omega) hh (by omega) q1 hW).mono fun e w1 ⟨ga, Ca, Fa, he, hCa, hga, hRa, hFa, ba⟩ => ⟨ga, Ca, he, ?_⟩
      refine (ih b (o + h) (cap - h) h (a + h) _ w1 (by omega) hh (by omega) (q2.below ba) (hW.below ba)).mono fun e w2 ⟨gb, Cb, Fb, he, hCb, hgb, hRb, hFb, bb⟩ => ⟨gb, Cb, he, ?_⟩
      exact ⟨(hRa.q6 hCa hCa hRa.1 hFa).below bb, hRb.q6 hCb hCb hRb.1 hFb, bthen13 ba bb⟩
    have HN : Hid (n = h + h ∧ 0 < h ∧ h ≤ 32768 ∧ a + n ≤ 65536 ∧ h = 2 ^ t ∧ S = we (a / h) ∧ S < 65536) := ⟨e0, e2, e9, ha, hh, by rw [hS, hd], hSl⟩
    have Wh := wrap_h (h := h) (by omega)
    have Wd := wrap_h (h := d) (by omega)
    have W1 := half_add e0 ha
    obtain ⟨A2, hA2⟩ : ∃ A2, A2 = a + h := ⟨_, rfl⟩
    rw [← hA2] at W1
    have HA2 : Hid (A2 = a + h) := hA2
    simp only [← hA2] at k1
    clear hn hk ha hW e0 e2 e4 hd hF h4 hc hl hS hSl e9 hh q1 q2 hQ' hbig hcap hcb hA2 ih
    go_enter Tryd.func35, Tryd.ntmps35
    go_upto_region 8 with (go_at_call 35; first | ((with_reducible refine k1.mono ?_); rintro e w1 ⟨ga, Ca, rfl, k2⟩; clear k1) | ((with_reducible refine k2.mono ?_); rintro e w2 ⟨gb, Cb, rfl, HQ⟩; clear k2))
    clear Wd W1 e1 e3 e5 e6 e7 e8 y0 db hsl1 hsl2
    have hm1 := make_w6 n (by have := HN.out.2.2.1; have := HN.out.1; omega) w2
    obtain ⟨W2, hW2⟩ : ∃ W2, W2 = w2.alloc (.cells (madeCells #[.int .u16 0] n) 34) := ⟨_, rfl⟩
    obtain ⟨gd, hgd⟩ : ∃ gd, gd = w2.heap.size := ⟨_, rfl⟩
    obtain ⟨L, hL⟩ : ∃ L, L = cl t F a := ⟨_, rfl⟩
    obtain ⟨R, hR⟩ : ∃ R, R = cl t (fun x => F (h + x)) A2 := ⟨_, rfl⟩
    have H2 : Hid (R6 W2 gd n (fun _ => 0) ∧ Below w.heap.size w W2 ∧ w.heap.size ≤ gd ∧ Q6 W2 (.slice (some ⟨ga, 0, none⟩) h Ca) h L ∧ Q6 W2 (.slice (some ⟨gb, 0, none⟩) h Cb) h R ∧ ga < gd ∧ gb < gd) := by
      obtain ⟨q1, q2, hb⟩ := HQ.out
      rw [← hL] at q1
      rw [← hR] at q2
      have b0 := made_b6 n w2
      have la : ga < w2.heap.size := by
        obtain ⟨-, -, _, _, e, -, -, h4⟩ := q1
        cases e
        obtain ⟨_, _, e, hl, -⟩ := h4 HN.out.2.1
        cases e
        exact hl
      have lb : gb < w2.heap.size := by
        obtain ⟨-, -, _, _, e, -, -, h4⟩ := q2
        cases e
        obtain ⟨_, _, e, hl, -⟩ := h4 HN.out.2.1
        cases e
        exact hl
      rw [hW2, hgd]
      exact ⟨made_r6 n (by have := HN.out.2.2.1; have := HN.out.1; omega) w2, bthen13 hb b0, hb.size, q1.below b0, q2.below b0, la, lb⟩
    have HLR : Hid (L = cl t F a ∧ R = cl t (fun x => F (h + x)) A2) := ⟨hL, hR⟩
    replace hW2 : Hid (W2 = w2.alloc (.cells (madeCells #[.int .u16 0] n) 34)) := hW2
    replace hgd : Hid (gd = w2.heap.size) := hgd
    clear HQ hL hR
    go_wp2
    rw [← hW2.out, ← hgd.out]
    clear hm1 hW2 hgd
    go_loopw [13] (fun jv wr => ∃ j : Nat, j ≤ h ∧ jv = .int .i64 j ∧ R6 wr gd n (dd h j (fun x => L x ^^^ fm 65581 S (L x ^^^ R x)) (fun x => L x ^^^ R x)) ∧ Kp gd W2 wr) (fun jv _ => h - (intOf jv).toNat)
    case atStart => exact ⟨0, Nat.zero_le _, rfl, by rw [dd_zero]; exact H2.out.1, Kp.refl _ _⟩
    case round =>
      obtain ⟨j, hj, rfl, hr, hkp⟩ := hrel
      by_cases hlt : j < h
      · obtain ⟨n0, n1, n2, n3, n4, n9, n10⟩ := HN.out
        obtain ⟨m1, m2, m3, m4, m5, m6, m7⟩ := H2.out
        obtain ⟨M, hM⟩ : ∃ M, M = h + j := ⟨_, rfl⟩
        have HW : Hid (wrap64 ((h : Int) + (j : Int)) = (M : Int) ∧ wrap64 ((j : Int) + 1) = (j : Int) + 1 ∧ ((j : Nat) : Int) < (h : Int) ∧ ((M : Nat) : Int) < (n : Int) ∧ ((j : Nat) : Int) < (n : Int)) := half_wraps hlt n2 n0 n3 hM
        have lL := m4.2.1 j hlt
        have lR := m5.2.1 j hlt
        have zL : wr.cell? ⟨ga, j, none⟩ = some (.int .u16 (L j : Nat)) := by
          obtain ⟨-, -, _, _, e, -, -, h4⟩ := m4
          cases e
          obtain ⟨_, _, e, hl, hc⟩ := h4 n1
          cases e
          have := hc j hlt
          rw [Nat.zero_add] at this
          exact (hkp.cell hl (by omega)).trans this
        have zR : wr.cell? ⟨gb, j, none⟩ = some (.int .u16 (R j : Nat)) := by
          obtain ⟨-, -, _, _, e, -, -, h4⟩ := m5
          cases e
          obtain ⟨_, _, e, hl, hc⟩ := h4 n1
          cases e
          have := hc j hlt
          rw [Nat.zero_add] at this
          exact (hkp.cell hl (by omega)).trans this
        have X1 := u16_xor_nat (L j) (R j) lL lR
        have lB := Nat.xor_lt_two_pow (n := 16) lL lR
        have c1 := fun W => refMul14 S (L j ^^^ R j) W n10 lB
        have lP := fm16_lt S (L j ^^^ R j)
        have X2 := u16_xor_nat (L j) (fm 65581 S (L j ^^^ R j)) lL lP
        have lA := Nat.xor_lt_two_pow (n := 16) lL lP
        obtain ⟨v1, y1⟩ : ∃ v : Nat, wr.cell? ⟨gd, M, none⟩ = some (.int .u16 (v : Nat)) := ⟨_, hr.2.2.cell (i := M) (by omega)⟩
        have y2 := hr.2.2.frozen M
        have r1 := hr.set M _ lB
        have k1 : Kp gd wr (wr.setCell ⟨gd, M, none⟩ (.int .u16 ((L j ^^^ R j : Nat) : Int))) := (Kp.refl gd wr).setCell _ _
        obtain ⟨v2, y3⟩ : ∃ v : Nat, (wr.setCell ⟨gd, M, none⟩ (.int .u16 ((L j ^^^ R j : Nat) : Int))).cell? ⟨gd, j, none⟩ = some (.int .u16 (v : Nat)) := ⟨_, r1.2.2.cell (i := j) (by omega)⟩
        have y4 := r1.2.2.frozen j
        have y5 : (wr.setCell ⟨gd, M, none⟩ (.int .u16 ((L j ^^^ R j : Nat) : Int))).cell? ⟨gd, M, none⟩ = some (.int .u16 ((L j ^^^ R j : Nat) : Int)) := by
          have := r1.2.2.cell (i := M) (by omega)
          simp only [if_pos] at this
          exact this
        have zL2 : (wr.setCell ⟨gd, M, none⟩ (.int .u16 ((L j ^^^ R j : Nat) : Int))).cell? ⟨ga, j, none⟩ = some (.int .u16 (L j : Nat)) := (k1.cell (by have := hkp.size; have := m1.lt; omega) (by omega)).trans zL
        have HV : Hid (R6 ((wr.setCell ⟨gd, M, none⟩ (.int .u16 ((L j ^^^ R j : Nat) : Int))).setCell ⟨gd, j, none⟩ (.int .u16 ((L j ^^^ fm 65581 S (L j ^^^ R j) : Nat) : Int))) gd n (dd h (j + 1) (fun x => L x ^^^ fm 65581 S (L x ^^^ R x)) (fun x => L x ^^^ R x)) ∧ Kp gd W2 ((wr.setCell ⟨gd, M, none⟩ (.int .u16 ((L j ^^^ R j : Nat) : Int))).setCell ⟨gd, j, none⟩ (.int .u16 ((L j ^^^ fm 65581 S (L j ^^^ R j) : Nat) : Int)))) :=
          ⟨(r1.set j _ lA).congr (fun x hx => by rw [hM]; exact dd_next hlt (fun x => L x ^^^ fm 65581 S (L x ^^^ R x)) (fun x => L x ^^^ R x) x), (hkp.setCell _ _).setCell _ _⟩
        obtain ⟨D, hD⟩ : ∃ D, D = L j := ⟨_, rfl⟩
        obtain ⟨E, hE⟩ : ∃ E, E = R j := ⟨_, rfl⟩
        obtain ⟨Q, hQ⟩ : ∃ Q, Q = L j ^^^ R j := ⟨_, rfl⟩
        obtain ⟨P, hP⟩ : ∃ P, P = fm 65581 S (L j ^^^ R j) := ⟨_, rfl⟩
        rw [← hP] at X2 HV
        rw [← hQ] at hP
        rw [← hQ] at X1 HV y3 y4 y5 zL2
        simp only [← hQ, ← hP] at c1
        rw [← hD] at zL zL2 X1 X2 HV
        rw [← hE] at zR X1
        have W1 := HW.out.1
        have W2' := HW.out.2.1
        have t1 := HW.out.2.2.1
        have t2 := HW.out.2.2.2.1
        have t3 := HW.out.2.2.2.2
        have W3 := wrap_k W1
        clear hr hkp n0 n1 n2 n3 n4 n9 n10 m1 m2 m3 m4 m5 m6 m7 lL lR lB lP lA r1 k1 hD hE hQ hP hM
        go_wp2
        refine region_tail13 14 (by kernel_rfl) (by kernel_rfl) ?_
        simp only [List.take_succ_cons, List.take_zero, List.drop_succ_cons, List.drop_zero]
        repeat still_step
        refine wpStill_nil ?_
        go_wp2
        refine region_tail13 16 (by kernel_rfl) (by kernel_rfl) ?_
        simp only [List.take_succ_cons, List.take_zero, List.drop_succ_cons, List.drop_zero]
        repeat still_step
        still_call (c1 _)
        repeat still_step
        refine wpStill_nil ?_
        go_wp2
        go_roundw
        case rel => exact ⟨j + 1, hlt, by first | rfl | (rw [W2']; rfl), HV.out.1.drew.drew, HV.out.2.drew.drew⟩
        case measure => first | exact meas_lt8 hlt | (rw [W2']; exact meas_lt8 hlt)
      · obtain rfl : j = h := Nat.le_antisymm hj (Nat.le_of_not_lt hlt)
        have tb : ¬ ((j : Nat) : Int) < (j : Int) := by omega
        have HV : Hid (R6 wr gd n (dd j j (fun x => L x ^^^ fm 65581 S (L x ^^^ R x)) (fun x => L x ^^^ R x)) ∧ Kp gd W2 wr) := ⟨hr, hkp⟩
        clear hr hkp
        go_wp2
        go_ret
        obtain ⟨n0, n1, n2, n3, n4, n9, n10⟩ := HN.out
        obtain ⟨m1, m2, m3, -⟩ := H2.out
        obtain ⟨hL, hR⟩ := HLR.out
        refine ⟨gd, n, _, rfl, Nat.le_refl _, m3, HV.out.1, fun i hi => ?_, m2.trans (HV.out.2.below m3 m2.size)⟩
        show dd j j _ _ i = if i < 2 ^ t then cl t F a i ^^^ fm 65581 (we (a / 2 ^ t)) (cl t F a i ^^^ cl t (fun y => F (2 ^ t + y)) (a + 2 ^ t) i) else cl t F a (i - 2 ^ t) ^^^ cl t (fun y => F (2 ^ t + y)) (a + 2 ^ t) (i - 2 ^ t)
        rw [← n4, ← n9, ← HA2.out, ← hL, ← hR]
        unfold dd
        by_cases e : i < j
        · rw [if_pos e, if_pos e]
        · rw [if_neg e, if_neg e, if_pos (by omega)]
end Go.Proofs.YtgdnjbaohfiijaaDoor
