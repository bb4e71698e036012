import Derived.Test.YtlblkckglelbdaaGreatMwbc
import Derived.Deep.Cut
namespace Go.Proofs.YtlblkckglelbdaaGreat
open Go.RowKit Gf2
set_option linter.unusedVariables false

-- layer 19: newSurvey, the walk
/-- what newSurvey leaves. -/
def Nw19 (w w' : World) (e : Ending) (f k n np nm L : Nat) (vM : Value) (p q : Nat → Nat) : Prop :=
  ∃ S g r t gp gv gsc gbk lo pb cp, e = .returned (.pointer (some ⟨S, 0, none⟩)) ∧ Sz19 w w' S g r t gp gv gsc gbk w.heap.size f k n np nm L lo pb cp vM p q ∧ Tn19 w' w.heap.size n L lo (fun _ => false) (fun _ => 0) (fun _ _ => 0)
set_option maxHeartbeats 8000000 in
set_option maxRecDepth 100000 in
theorem newSurvey19 (f k m n nm L : Nat) (am : Option Addr) (cm : Nat) (q : Nat → Nat) (prb : Nat → Bool) (w : World) (hM : Qi w (.slice am nm cm) nm (fun i => ((q i : Nat) : Int))) (hnm : nm ≤ 256) (uq : ∀ i j, i < j → j < nm → q i < q j) (hpr : ∀ x, x < n → (prb x = true ↔ ¬ ∃ a, a < nm ∧ q a = x)) (hn : n = k + m) (hn2 : n ≤ 256) (h1 : 1 ≤ k) (hk : k ≤ cnb prb n) (hsc : ∀ x, x < n → sc19 f k x ≠ 0) :
    Calls Tryz.prog 30 #[.int .i64 (f : Int), .int .i64 (k : Int), .int .i64 (m : Int), .int .i64 (L : Int), .slice am nm cm] w fun e w' => Nw19 w w' e f k n (cnb prb n) nm L (.slice am nm cm) (pk19 prb n) q := by
  have hmk := make_rows n (by omega) w
  have Wn : wrap64 (((k : Nat) : Int) + ((m : Nat) : Int)) = ((n : Nat) : Int) := by unfold wrap64; omega
  obtain ⟨w2, hw2⟩ : ∃ w2, Hid ((w.alloc (.cells (madeCells #[.slice none 0 0] n) 27)).alloc (.cells #[.pointer none, .slice none 0 0, .slice am nm cm, .slice none 0 0, .slice none 0 0, .int .i64 (L : Int), .slice (some ⟨w.heap.size, 0, none⟩) n n] 73) = w2) := ⟨_, rfl⟩
  have N0 : Nv19 w w2 (w.heap.size + 1) w.heap.size n L 0 (.slice none 0 0) (.slice am nm cm) prb := by
    have s1 : (w.alloc (.cells (madeCells #[.slice none 0 0] n) 27)).heap.size = w.heap.size + 1 := by simp
    have b1 : Below w.heap.size w (w.alloc (.cells (madeCells #[.slice none 0 0] n) 27)) := (Below.refl _ _).alloc (Nat.le_refl _) _
    have hrow : (w.alloc (.cells (madeCells #[.slice none 0 0] n) 27)).rowIs w.heap.size 27 n (fun _ => .slice none 0 0) := ⟨_, heap_alloc_new _ _, by simp [madeCells], fun i hi => by simp [madeCells, hi, Nat.mod_one]⟩
    obtain ⟨X, hX⟩ : ∃ X, X = w.alloc (.cells (madeCells #[.slice none 0 0] n) 27) := ⟨_, rfl⟩
    have hh := hw2.out
    rw [← hX] at s1 b1 hrow hh
    rw [← hh]
    have b2 : Below X.heap.size X (X.alloc (.cells #[.pointer none, .slice none 0 0, .slice am nm cm, .slice none 0 0, .slice none 0 0, .int .i64 (L : Int), .slice (some ⟨w.heap.size, 0, none⟩) n n] 73)) := (Below.refl _ _).alloc (Nat.le_refl _) _
    exact ⟨by rw [← s1]; exact heap_alloc_new _ _, Gj.start _ _ _, hrow.of_block (b2.block _ hrow.lt), b1.trans (b2.mono b1.size), rfl, rfl⟩
  obtain ⟨gt, hgt⟩ : ∃ gt, Hid (w.heap.size = gt) := ⟨_, rfl⟩
  obtain ⟨S, hS⟩ : ∃ S, Hid (gt + 1 = S) := ⟨_, rfl⟩
  rw [hgt.out, hS.out] at N0
  have HH : Hid (Qi w (.slice am nm cm) nm (fun i => ((q i : Nat) : Int)) ∧ nm ≤ 256 ∧ (∀ i j, i < j → j < nm → q i < q j) ∧ (∀ x, x < n → (prb x = true ↔ ¬ ∃ a, a < nm ∧ q a = x)) ∧ n = k + m ∧ n ≤ 256 ∧ 1 ≤ k ∧ k ≤ cnb prb n) := ⟨hM, hnm, uq, hpr, hn, hn2, h1, hk⟩
  have HSC : Hid (∀ x, x < n → sc19 f k x ≠ 0) := hsc
  clear hM hnm uq hpr hn hn2 h1 hk hsc
  go_enter Tryz.func30, Tryz.ntmps30
  go_wp2
  rw [hw2.out, hgt.out, hS.out]
  rw [Wn]
  clear hw2 hmk
  go_loopw [26] (fun s wr => ∃ i : Nat, i ≤ n ∧ s = .int .i64 (i : Int) ∧ ∃ l, Nv19 w wr S gt n L i l (.slice am nm cm) prb) (fun s _ => n - (intOf s).toNat)
  case atStart => exact ⟨0, Nat.zero_le _, rfl, _, N0⟩
  case round =>
    obtain ⟨i, hi, rfl, l, hN⟩ := hrel
    clear N0
    by_cases hlt : i < n
    · have ib : ((i : Nat) : Int) < (n : Int) := Int.ofNat_lt.2 hlt
      have W1 := wrap_lt8 (j := i) (b := n) hlt (by have := HH.out; omega)
      have c1 := bsearch19 (.slice am nm cm) nm i q wr (HH.out.1.below hN.bel) HH.out.2.1 HH.out.2.2.1
      have hp := HH.out.2.2.2.1 i hlt
      cases hP : prb i with
      | false =>
        have hex : ∃ a, a < nm ∧ q a = i := Classical.byContradiction fun h9 => by
          have := hp.2 h9
          rw [hP] at this
          cases this
        have c2 : Calls Tryz.prog 52 #[.slice am nm cm, .int .i64 ((i : Nat) : Int)] wr fun e w' => ∃ j : Nat, e = .returned (.tuple #[.int .i64 (j : Nat), .bool true]) ∧ w' = wr := c1.mono fun e w' h => by
          obtain ⟨j, bo, e1, e2, e3⟩ := h.tell HH.out.2.2.1
          have := e2.2 hex
          subst this
          exact ⟨j, e1, e3⟩
        have HE : Hid (i < n ∧ Nv19 w wr S gt n L (i + 1) l (.slice am nm cm) prb) := ⟨hlt, hN.pass hP⟩
        clear hN c1 hp hP hlt hi hex
        go_wp2_with (go_at_call 52; (with_reducible refine c2.mono ?_); rintro e w9 ⟨j, rfl, hw9⟩; have hw9 := hw9.symm; subst hw9; clear c2)
        go_roundw
        case rel => first | exact ⟨i + 1, HE.out.1, by first | rfl | (rw [W1]; rfl), l, HE.out.2⟩ | ((try rw [W1]); (repeat apply Exists.intro); exact ⟨⟨i + 1, HE.out.1, rfl, l, HE.out.2⟩, rfl⟩)
        case measure => first | exact meas_lt8 HE.out.1 | (rw [W1]; exact meas_lt8 HE.out.1)
      | true =>
        have c2 : Calls Tryz.prog 52 #[.slice am nm cm, .int .i64 ((i : Nat) : Int)] wr fun e w' => ∃ j : Nat, e = .returned (.tuple #[.int .i64 (j : Nat), .bool false]) ∧ w' = wr := c1.mono fun e w' h => by
          obtain ⟨j, bo, e1, e2, e3⟩ := h.tell HH.out.2.2.1
          cases bo with
          | false => exact ⟨j, e1, e3⟩
          | true => exact absurd (e2.1 rfl) (hp.1 hP)
        have z1 : wr.cell? ⟨S, 1, none⟩ = some l := by rw [cell_of_row _ _ 1 _ _ _ hN.blk]; rfl
        obtain ⟨w', v', hrun, k1, ⟨A, T, k2⟩, hN2⟩ := hN.hit hP (by have := HH.out; omega)
        have k3 := frozen_of_row w' S 1 _ _ k2
        obtain ⟨va, vc, rfl⟩ := hN2.lst.form
        obtain ⟨la, lc, rfl⟩ := hN.lst.form
        have HE : Hid (i < n ∧ Nv19 w (w'.setCell ⟨S, 1, none⟩ (.slice va (cnb prb (i + 1)) vc)) S gt n L (i + 1) (.slice va (cnb prb (i + 1)) vc) (.slice am nm cm) prb) := ⟨hlt, hN2⟩
        clear hN hN2 c1 hp hP hlt hi k2
        go_wp2_with (first
          | (go_at_call 52; (with_reducible refine c2.mono ?_); rintro e w9 ⟨j, rfl, hw9⟩; have hw9 := hw9.symm; subst hw9; clear c2)
          | (at_builtin; refine Lib.wpList_append_run _ rfl _ _ _ _ rfl _ _ rfl rfl _ _ hrun ?_; clear hrun))
        go_roundw
        case rel => first | exact ⟨i + 1, HE.out.1, by first | rfl | (rw [W1]; rfl), _, HE.out.2⟩ | ((try rw [W1]); (repeat apply Exists.intro); exact ⟨⟨i + 1, HE.out.1, rfl, _, HE.out.2⟩, rfl⟩)
        case measure => first | exact meas_lt8 HE.out.1 | (rw [W1]; exact meas_lt8 HE.out.1)
    · have hin : i = n := by omega
      have ib : ¬ ((i : Nat) : Int) < (n : Int) := by omega
      rw [hin] at hN
      obtain ⟨np, hnp⟩ : ∃ np, cnb prb n = np := ⟨_, rfl⟩
      have hk := HH.out.2.2.2.2.2.2.2
      have hl := hN.lst
      rcases hl with ⟨h0, -⟩ | ⟨pb, cp, Fp, rfl, hcp, hlo, hR, hFp⟩
      · exact absurd h0 (by have := HH.out.2.2.2.2.2.2.1; omega)
      have hQ : Qi wr (.slice (some ⟨pb, 0, none⟩) (cnb prb n) cp) (cnb prb n) (fun i => ((pk19 prb n i : Nat) : Int)) := hN.lst.qi.congr (fun j hj => (pk19_get hj).2.2.2)
      have z1 : wr.cell? ⟨S, 1, none⟩ = some (.slice (some ⟨pb, 0, none⟩) (cnb prb n) cp) := by rw [cell_of_row _ _ 1 _ _ _ hN.blk]; rfl
      have c1 := newDecoder19 (.slice (some ⟨pb, 0, none⟩) (cnb prb n) cp) k (cnb prb n) (pk19 prb n) wr hQ HH.out.2.2.2.2.2.2.1 hk (by have := cnb_le prb n; have := HH.out; omega) (fun j hj => by have := (pk19_get (P := prb) (n := n) hj).1; have := HH.out; omega)
      have HN : Hid (Nv19 w wr S gt n L n (.slice (some ⟨pb, 0, none⟩) (cnb prb n) cp) (.slice am nm cm) prb ∧ Qi wr (.slice (some ⟨pb, 0, none⟩) (cnb prb n) cp) (cnb prb n) (fun i => ((pk19 prb n i : Nat) : Int)) ∧ S + 1 ≤ pb ∧ pb < wr.heap.size) := ⟨hN, hQ, hlo, hR.lt⟩
      have HS1 : Hid (∀ W, Below wr.heap.size wr W → W.cell? ⟨S, 0, none⟩ = some (.pointer none) ∧ W.heap[S]? = some (.cells #[.pointer none, .slice (some ⟨pb, 0, none⟩) (cnb prb n) cp, .slice am nm cm, .slice none 0 0, .slice none 0 0, .int .i64 (L : Int), .slice (some ⟨gt, 0, none⟩) n n] 73 (0, 0))) := fun W hW => by
        have := (hW.block S hN.sz).trans hN.blk
        exact ⟨by rw [cell_of_row _ _ 0 _ _ _ this]; rfl, this⟩
      clear hN hQ hlo hR hFp hin hi hlt hk hnp
      go_upto_region 10 with (go_at_call 35; (with_reducible refine c1.mono ?_); rintro e W2 ⟨g, r, t, gp, gv, rfl, hD, hle, hb2⟩; clear c1; obtain ⟨y0, y1⟩ := HS1.out W2 hb2; have y2 := frozen_of_row W2 S 0 _ _ y1)
      have hnp1 : 1 ≤ cnb prb n := by have := HH.out; omega
      obtain ⟨e1, e2, e3, e4⟩ := hD.ne hnp1 y0 (fun _ _ _ e => by cases e) (fun _ e => by cases e)
      obtain ⟨X2, hX2⟩ : ∃ X2, X2 = W2.setCell ⟨S, 0, none⟩ (.pointer (some ⟨g, 0, none⟩)) := ⟨_, rfl⟩
      rw [← hX2]
      have kp2 : Kp S W2 X2 := by rw [hX2]; exact (Kp.refl _ _).setCell _ _
      have gS : g ≠ S := by have := HN.out.1.sz; omega
      have hD2 := hD.kp kp2 gS e1 e2 e3 e4
      have y3 : X2.heap[S]? = some (.cells #[.pointer (some ⟨g, 0, none⟩), .slice (some ⟨pb, 0, none⟩) (cnb prb n) cp, .slice am nm cm, .slice none 0 0, .slice none 0 0, .int .i64 (L : Int), .slice (some ⟨gt, 0, none⟩) n n] 73 (0, 0)) := by rw [hX2, set_at8 _ y1]; rfl
      have kwX : Ke (fun x => x = S) wr X2 := (ke_below hb2 _).trans kp2.ke
      have z0 : X2.cell? ⟨S, 0, none⟩ = some (.pointer (some ⟨g, 0, none⟩)) := by rw [cell_of_row _ _ 0 _ _ _ y3]; rfl
      have z00 := hD2.c0
      have c2 := scales19 r t f k m n X2 hD2.rg HH.out.2.2.2.2.2.2.1 HH.out.2.2.2.2.1 HH.out.2.2.2.2.2.1
      have HD : Hid (De19 X2 g k (cnb prb n) (pk19 prb n) r t gp gv ∧ X2.heap[S]? = some (.cells #[.pointer (some ⟨g, 0, none⟩), .slice (some ⟨pb, 0, none⟩) (cnb prb n) cp, .slice am nm cm, .slice none 0 0, .slice none 0 0, .int .i64 (L : Int), .slice (some ⟨gt, 0, none⟩) n n] 73 (0, 0)) ∧ Ke (fun x => x = S) wr X2 ∧ (g ≠ S ∧ r ≠ S ∧ t ≠ S ∧ gp ≠ S ∧ gv ≠ S) ∧ wr.heap.size ≤ g) := ⟨hD2, y3, kwX, ⟨gS, e1, e2, e3, e4⟩, hle⟩
      clear hD hle hb2 y0 y1 y2 e1 e2 e3 e4 hX2 kp2 gS hD2 y3 kwX z1 HS1
      go_upto_region 11 with (go_at_call 53; (with_reducible refine c2.mono ?_); rintro e W3 ⟨gsc, rfl, r3, l3, b3⟩; clear c2; have y1 := (b3.block S (Array.getElem?_eq_some_iff.1 HD.out.2.1).1).trans HD.out.2.1; have y0 : W3.cell? ⟨S, 3, none⟩ = some (.slice none 0 0) := (by rw [cell_of_row _ _ 3 _ _ _ y1]; rfl); have y2 := frozen_of_row W3 S 3 _ _ y1)
      obtain ⟨X3, hX3⟩ : ∃ X3, X3 = W3.setCell ⟨S, 3, none⟩ (.slice (some ⟨gsc, 0, none⟩) n n) := ⟨_, rfl⟩
      rw [← hX3]
      have kp3 : Kp S W3 X3 := by rw [hX3]; exact (Kp.refl _ _).setCell _ _
      obtain ⟨n1, n2, n3, n4, n5⟩ := HD.out.2.2.2.1
      have hD3 := (HD.out.1.below b3).kp kp3 n1 n2 n3 n4 n5
      have y3 : X3.heap[S]? = some (.cells #[.pointer (some ⟨g, 0, none⟩), .slice (some ⟨pb, 0, none⟩) (cnb prb n) cp, .slice am nm cm, .slice (some ⟨gsc, 0, none⟩) n n, .slice none 0 0, .int .i64 (L : Int), .slice (some ⟨gt, 0, none⟩) n n] 73 (0, 0)) := by rw [hX3, set_at8 _ y1]; rfl
      have sX2 : wr.heap.size ≤ X2.heap.size := HD.out.2.2.1.size
      have gscS : gsc ≠ S := by have := HN.out.1.sz; omega
      have r3' : Rw X3 gsc n (sc19 f k) := kp3.rw_ r3 gscS
      have k3 : Ke (fun x => x = S) wr X3 := (HD.out.2.2.1.trans (ke_below b3 _)).trans kp3.ke
      have z0 : X3.cell? ⟨S, 0, none⟩ = some (.pointer (some ⟨g, 0, none⟩)) := by rw [cell_of_row _ _ 0 _ _ _ y3]; rfl
      have z3 : X3.cell? ⟨S, 3, none⟩ = some (.slice (some ⟨gsc, 0, none⟩) n n) := by rw [cell_of_row _ _ 3 _ _ _ y3]; rfl
      have z00 := hD3.c0
      have c3 := inverses19 r t n (.slice (some ⟨gsc, 0, none⟩) n n) (sc19 f k) X3.drew (hD3.rg.drewN 1) (r3'.rb0.drewN 1) (by have := HH.out; omega) HSC.out
      have HE : Hid (De19 X3 g k (cnb prb n) (pk19 prb n) r t gp gv ∧ X3.heap[S]? = some (.cells #[.pointer (some ⟨g, 0, none⟩), .slice (some ⟨pb, 0, none⟩) (cnb prb n) cp, .slice am nm cm, .slice (some ⟨gsc, 0, none⟩) n n, .slice none 0 0, .int .i64 (L : Int), .slice (some ⟨gt, 0, none⟩) n n] 73 (0, 0)) ∧ Ke (fun x => x = S) wr X3 ∧ (g ≠ S ∧ r ≠ S ∧ t ≠ S ∧ gp ≠ S ∧ gv ≠ S) ∧ wr.heap.size ≤ g ∧ Rw X3 gsc n (sc19 f k) ∧ wr.heap.size ≤ gsc) := ⟨hD3, y3, k3, ⟨n1, n2, n3, n4, n5⟩, HD.out.2.2.2.2, r3', by omega⟩
      clear HD y0 y1 y2 r3 l3 b3 hX3 kp3 n1 n2 n3 n4 n5 hD3 y3 sX2 gscS r3' k3
      refine region_planJ (fun w' => w'.cell? ⟨S, 0, none⟩ = some (.pointer (some ⟨g, 0, none⟩)) ∧ w'.cell? ⟨g, 0, none⟩ = some (.pointer (some ⟨r, 0, none⟩)) ∧ w'.cell? ⟨S, 3, none⟩ = some (.slice (some ⟨gsc, 0, none⟩) n n)) 15 [12, 2] 87 ⟨z0, z00, z3⟩ (by kernel_rfl) (by kernel_rfl) (fun _ a d v _ h => by cases d <;> exact h) ?_
      refine planT_step ?A1 rfl (fun w' hS => ?s1) rfl (fun Kc hK => ?n1)
      case s1 =>
        obtain ⟨u0, u1, u2⟩ := hS
        simp only [List.take_succ_cons, List.take_zero]
        repeat still_step
        exact rfl
      case n1 =>
      go_simp
      go_wp2_with (go_at_call 54; (with_reducible refine c3.mono ?_); rintro e W4 ⟨gbk, rfl, r4, l4, b4⟩; clear c3)
      have b34 : Below X3.heap.size X3 W4 := (below_drewN (Below.refl _ _) 1).trans b4
      have hD4 := HE.out.1.below b34
      have y1 := (b34.block S (Array.getElem?_eq_some_iff.1 HE.out.2.1).1).trans HE.out.2.1
      have x0 : W4.cell? ⟨S, 0, none⟩ = some (.pointer (some ⟨g, 0, none⟩)) := by rw [cell_of_row _ _ 0 _ _ _ y1]; rfl
      have x3 : W4.cell? ⟨S, 3, none⟩ = some (.slice (some ⟨gsc, 0, none⟩) n n) := by rw [cell_of_row _ _ 3 _ _ _ y1]; rfl
      have x4 : W4.cell? ⟨S, 4, none⟩ = some (.slice none 0 0) := by rw [cell_of_row _ _ 4 _ _ _ y1]; rfl
      have x5 := frozen_of_row W4 S 4 _ _ y1
      refine hK _ _ ⟨x0, hD4.c0, x3⟩ ?_
      clear hK z0 z00 z3
      have HG : Hid (Nw19 w (W4.setCell ⟨S, 4, none⟩ (.slice (some ⟨gbk, 0, none⟩) n n)) (.returned (.pointer (some ⟨S, 0, none⟩))) f k n (cnb prb n) nm L (.slice am nm cm) (pk19 prb n) q) := by
        obtain ⟨X4, hX4⟩ : ∃ X4, X4 = W4.setCell ⟨S, 4, none⟩ (.slice (some ⟨gbk, 0, none⟩) n n) := ⟨_, rfl⟩
        show Nw19 _ (W4.setCell ⟨S, 4, none⟩ (.slice (some ⟨gbk, 0, none⟩) n n)) _ _ _ _ _ _ _ _ _ _
        rw [← hX4]
        have kp4 : Kp S W4 X4 := by rw [hX4]; exact (Kp.refl _ _).setCell _ _
        obtain ⟨n1, n2, n3, n4, n5⟩ := HE.out.2.2.2.1
        have hD5 := hD4.kp kp4 n1 n2 n3 n4 n5
        have y3 : X4.heap[S]? = some (.cells #[.pointer (some ⟨g, 0, none⟩), .slice (some ⟨pb, 0, none⟩) (cnb prb n) cp, .slice am nm cm, .slice (some ⟨gsc, 0, none⟩) n n, .slice (some ⟨gbk, 0, none⟩) n n, .int .i64 (L : Int), .slice (some ⟨gt, 0, none⟩) n n] 73 (0, 0)) := by rw [hX4, set_at8 _ y1]; rfl
        have hsz := HN.out.1.sz
        have hgS := HN.out.1.S_
        have hgt2 := HN.out.1.gt_
        have kX : Ke (fun x => x = S) wr X4 := (HE.out.2.2.1.trans (ke_below b34 _)).trans kp4.ke
        have sz3 : wr.heap.size ≤ X3.heap.size := HE.out.2.2.1.size
        have sz4 := b34.size
        have sz5 := kp4.size
        have l4' : X3.heap.size ≤ gbk := l4
        have rsc : Rw X4 gsc n (sc19 f k) := kp4.rw_ (HE.out.2.2.2.2.2.1.of_block (b34.block _ HE.out.2.2.2.2.2.1.lt)) (by have := HE.out.2.2.2.2.2.2; omega)
        have rbk : Rw X4 gbk n (fun i => fi 285 (sc19 f k i)) := kp4.rw_ r4 (by omega)
        have hrow : X4.rowIs gt 27 n (fun _ => .slice none 0 0) := HN.out.1.row.of_block (kX.2 gt (by omega) (by omega))
        have bX : Below w.heap.size w X4 := HN.out.1.bel.trans (kX.below (fun x e => by omega) HN.out.1.bel.size)
        have hn1 : 1 ≤ n := by have := HH.out; omega
        have q00 := hrow.cell (i := 0) (by omega)
        obtain ⟨m2, m3, m4, m5⟩ := hD5.ne (by have := HH.out; omega) q00 (fun _ _ _ e => by cases e) (fun _ e => by cases e)
        have hgl : g < X4.heap.size := (Array.getElem?_eq_some_iff.1 hD5.blk).1
        have hSl : S < X4.heap.size := (Array.getElem?_eq_some_iff.1 y3).1
        have hnp1 : 0 < cnb prb n := by have := HH.out; omega
        have hgp : gp < X4.heap.size := by
          obtain ⟨-, -, a, c, e, -, -, h4⟩ := hD5.pts
          cases e
          obtain ⟨b', o, e, hl, -⟩ := h4 hnp1
          cases e
          exact hl
        have hgv : gv < X4.heap.size := by
          obtain ⟨-, -, a, c, e, -, -, h4⟩ := hD5.van.rb
          cases e
          obtain ⟨b', o, e, hl, -⟩ := h4 (by omega)
          cases e
          exact hl
        have hle1 := HE.out.2.2.2.2.1
        have hle2 := HE.out.2.2.2.2.2.2
        have hpb := HN.out.2.2
        unfold Nw19
        rw [← hgt2]
        refine ⟨S, g, r, t, gp, gv, gsc, gbk, X4.heap.size, pb, cp, rfl, ⟨bX, ⟨y3, hD5, qi_keep19 HN.out.2.1 (fun hl => kX.2 pb hl (by omega)) kX.size, HH.out.1.below bX, rsc, rbk⟩, ⟨⟨hSl, by omega⟩, ⟨hgl, by omega⟩, ⟨hD5.rg.lt, m2⟩, ⟨hD5.rg.tab.lt, m3⟩, ⟨hgp, m4⟩, ⟨hgv, m5⟩, ⟨rsc.lt, by omega⟩, ⟨rbk.lt, by omega⟩, ⟨by have := kX.size; omega, by omega⟩⟩, ?_, Nat.le_refl _, ⟨by omega, by omega⟩⟩, ⟨hrow.congr (fun j _ => by simp), fun j _ e => (by cases e), fun a b _ _ e => (by cases e), by omega, Nat.le_refl _⟩⟩
        refine ⟨am, cm, rfl, ?_⟩
        by_cases h0 : nm = 0
        · exact .inl h0
        · obtain ⟨-, -, a, c, e, -, -, h4⟩ := HH.out.1
          cases e
          obtain ⟨b', o, e, hl, -⟩ := h4 (by omega)
          exact .inr ⟨b', o, e, by omega, by omega⟩
      clear hD4 y1 r4 l4 b4 b34 x0 x3
      refine planT_last ?A2 rfl (fun w' hS => ?s2) rfl ?n2
      case s2 =>
        simp only [List.take_succ_cons, List.take_zero]
        repeat still_step
        exact rfl
      case n2 =>
      simp only [List.drop_succ_cons, List.drop_zero]
      go_wp2
      go_ret
      exact HG.out
end Go.Proofs.YtlblkckglelbdaaGreat
namespace Go.Proofs.YtlblkckglelbdaaGreat
open Go.RowKit Gf2
set_option linter.unusedVariables false

-- layer 19: turned
/-- the shards that are present and have a turn. -/
def tp19 (tb : Nat → Bool) (ln : Nat → Nat) (x : Nat) : Bool := tb x && decide (0 < ln x)
set_option maxHeartbeats 4000000 in
set_option maxRecDepth 100000 in
theorem turned19 (gt n L sb so cs : Nat) (tb : Nat → Bool) (B ln vc : Nat → Nat) (va : Nat → Option Addr) (w : World) (hT : w.rowIs gt 27 n (fun j => if tb j then .slice (some ⟨B j, 0, none⟩) L L else .slice none 0 0)) (hb : sb < w.heap.size) (hs : ∀ x, x < n → w.cell? ⟨sb, so + x, none⟩ = some (.slice (va x) (ln x) (vc x))) (hn : n ≤ 256) :
    Calls Tryz.prog 22 #[.slice (some ⟨gt, 0, none⟩) n n, .slice (some ⟨sb, so, none⟩) n cs] w fun e w' => ∃ v, e = .returned v ∧ Gj w.heap.size w' v (cnb (tp19 tb ln) n) (fsel (tp19 tb ln) (fun j => j) n) ∧ Below w.heap.size w w' := by
  have HH : Hid (w.rowIs gt 27 n (fun j => if tb j then .slice (some ⟨B j, 0, none⟩) L L else .slice none 0 0) ∧ sb < w.heap.size ∧ (∀ x, x < n → w.cell? ⟨sb, so + x, none⟩ = some (.slice (va x) (ln x) (vc x))) ∧ n ≤ 256) := ⟨hT, hb, hs, hn⟩
  have e1 : ∀ (W : World), (binOp .neq 27 (.slice none 0 0) (.slice none 0 0)).run Tryz.prog W = .ok (.bool false) W := fun W => run_neq_slice_nil_any W _ _ _ _ _ _ _ Tryz.underlying27
  clear hT hb hs hn
  go_enter Tryz.func22, Tryz.ntmps22
  go_wp2
  go_loopw [5, 10] (fun l s wr => ∃ i : Nat, i ≤ n ∧ s = .int .i64 (i : Int) ∧ Gj w.heap.size wr l (cnb (tp19 tb ln) i) (fsel (tp19 tb ln) (fun j => j) i) ∧ Below w.heap.size w wr) (fun _ s _ => n - (intOf s).toNat)
  case atStart => exact ⟨0, Nat.zero_le _, rfl, Gj.start _ _ _, Below.refl _ _⟩
  case round =>
    obtain ⟨i, hi, rfl, hG, hb⟩ := hrel
    by_cases hlt : i < n
    · have q1 := (HH.out.1.of_block (hb.block _ HH.out.1.lt)).cell hlt
      have q2 : wr.cell? ⟨sb, so + i, none⟩ = some (.slice (va i) (ln i) (vc i)) := (hb.cell (p := ⟨sb, so + i, none⟩) HH.out.2.1).trans (HH.out.2.2.1 i hlt)
      have ib : ((i : Nat) : Int) < (n : Int) := Int.ofNat_lt.2 hlt
      have W1 := wrap_lt8 (j := i) (b := n) hlt (by have := HH.out; omega)
      cases hP : tp19 tb ln i with
      | false =>
        have HE : Hid (i < n ∧ Gj w.heap.size wr u5 (cnb (tp19 tb ln) (i + 1)) (fsel (tp19 tb ln) (fun j => j) (i + 1)) ∧ Below w.heap.size w wr) := ⟨hlt, by rw [cnb_no hP, fsel_no hP]; exact hG, hb⟩
        cases hb1 : tb i with
        | false =>
          simp only [hb1, Bool.false_eq_true, if_false] at q1
          clear hG hb hlt hi hP hb1
          go_wp2
          go_roundw
          case rel => exact ⟨i + 1, HE.out.1, by first | rfl | (rw [W1]; rfl), HE.out.2.1, HE.out.2.2⟩
          case measure => first | exact meas_lt8 HE.out.1 | (rw [W1]; exact meas_lt8 HE.out.1)
        | true =>
          simp only [hb1, if_true] at q1
          have h0 : ln i = 0 := by
            unfold tp19 at hP
            rw [hb1] at hP
            simpa using hP
          rw [h0] at q2
          have e2 : ∀ (W : World), (binOp .neq 27 (.slice (some ⟨B i, 0, none⟩) L L) (.slice none 0 0)).run Tryz.prog W = .ok (.bool true) W := fun W => run_neq_slice_nil_any W _ _ _ _ _ _ _ Tryz.underlying27
          clear hG hb hlt hi hP hb1 h0
          go_wp2
          go_roundw
          case rel => exact ⟨i + 1, HE.out.1, by first | rfl | (rw [W1]; rfl), HE.out.2.1, HE.out.2.2⟩
          case measure => first | exact meas_lt8 HE.out.1 | (rw [W1]; exact meas_lt8 HE.out.1)
      | true =>
        have hb1 : tb i = true := by
          unfold tp19 at hP
          simp at hP
          exact hP.1
        have h0 : 0 < ln i := by
          unfold tp19 at hP
          simp at hP
          exact hP.2
        simp only [hb1, if_true] at q1
        have e2 : ∀ (W : World), (binOp .neq 27 (.slice (some ⟨B i, 0, none⟩) L L) (.slice none 0 0)).run Tryz.prog W = .ok (.bool true) W := fun W => run_neq_slice_nil_any W _ _ _ _ _ _ _ Tryz.underlying27
        have h0I : (0 : Int) < ((ln i : Nat) : Int) := by omega
        obtain ⟨w', v', hrun, hG2, hb2⟩ := app_gj hG hb.size ((i : Nat) : Int) (by have := cnb_le (tp19 tb ln) i; have := HH.out; omega)
        have HE : Hid (i < n ∧ Gj w.heap.size w' v' (cnb (tp19 tb ln) (i + 1)) (fsel (tp19 tb ln) (fun j => j) (i + 1)) ∧ Below w.heap.size w w') := ⟨hlt, by rw [cnb_yes hP, fsel_yes hP]; exact hG2, hb.trans hb2⟩
        clear hG hb hlt hi hP hb1 hG2 hb2
        go_wp2_with (at_builtin; refine Lib.wpList_append_run _ rfl _ _ _ _ rfl _ _ rfl rfl _ _ hrun ?_; clear hrun)
        go_roundw
        case rel => exact ⟨i + 1, HE.out.1, by first | rfl | (rw [W1]; rfl), HE.out.2.1, HE.out.2.2⟩
        case measure => first | exact meas_lt8 HE.out.1 | (rw [W1]; exact meas_lt8 HE.out.1)
    · have ib : ¬ ((i : Nat) : Int) < (n : Int) := by omega
      have hin : i = n := by omega
      rw [hin] at hG
      have HF : Hid (Gj w.heap.size wr u5 (cnb (tp19 tb ln) n) (fsel (tp19 tb ln) (fun j => j) n) ∧ Below w.heap.size w wr) := ⟨hG, hb⟩
      clear hG hb hlt hi hin
      go_wp2
      go_ret
      exact ⟨_, rfl, HF.out⟩
end Go.Proofs.YtlblkckglelbdaaGreat
namespace Go.Proofs.YtlblkckglelbdaaGreat
open Go.RowKit Gf2
set_option linter.unusedVariables false

-- layer 19: turnsOf, over any contract of shape.Partial
/-- what turnsOf answers where Partial lets the shards be: w1 is the world behind Partial. -/
def To19 (w1 w' : World) (e : Ending) (f k n np L : Nat) (p : Nat → Nat) (prb : Nat → Bool) (Sh : Nat → Nat → Nat) : Prop :=
  (∃ gt lo, e = .returned (.tuple #[.slice (some ⟨gt, 0, none⟩) n n, .int .i64 0]) ∧ ∃ F : Nat → Nat → Nat, (∀ y, y < L → Gf2.El 8 (F y) ∧ Dg (F y) k ∧ Nr19 p (yv19 f k y p Sh) np ((np - k) / 2) (F y)) ∧ w1.heap.size ≤ gt ∧ Below w1.heap.size w1 w' ∧ Ys19 w' gt n L lo L (fun x => prb x = true) (fun z => dw19 f k np z prb Sh (F z)) (fun _ => false) (fun _ => False)) ∨
  (e = .returned (.tuple #[.slice none 0 0, .int .i64 190]) ∧ (∃ y, y < L ∧ ∀ F, Gf2.El 8 F → Dg F k → ¬ Nr19 p (yv19 f k y p Sh) np ((np - k) / 2) F) ∧ Below w1.heap.size w1 w')
set_option maxHeartbeats 8000000 in
set_option maxRecDepth 100000 in
theorem turnsOf19 (f k m n nm L sb so cs : Nat) (q : Nat → Nat) (prb : Nat → Bool) (Sh : Nat → Nat → Nat) (w : World) (hf : f ≤ 1) (hn : n = k + m) (hk : k ≤ cnb prb n) (hpr : ∀ x, x < n → (prb x = true ↔ ¬ ∃ a, a < nm ∧ q a = x))
    (c1 : Calls Tryz.prog 29 #[.int .i64 (f : Int), .int .i64 (k : Int), .int .i64 (m : Int), .slice (some ⟨sb, so, none⟩) n cs] w fun e w1 => ∃ am cm, e = .returned (.tuple #[.int .i64 (L : Int), .slice am nm cm, .int .i64 0]) ∧ Qi w1 (.slice am nm cm) nm (fun i => ((q i : Nat) : Int)) ∧ Ci19 w1 sb so n (cnb prb n) nm k f L (pk19 prb n) q prb Sh ∧ Below w.heap.size w w1) :
    Calls Tryz.prog 21 #[.int .i64 (f : Int), .int .i64 (k : Int), .int .i64 (m : Int), .slice (some ⟨sb, so, none⟩) n cs] w fun e w' => ∃ w1, Below w.heap.size w w1 ∧ To19 w1 w' e f k n (cnb prb n) L (pk19 prb n) prb Sh := by
  have f01 : f = 0 ∨ f = 1 := by omega
  have HH : Hid (n = k + m ∧ k ≤ cnb prb n ∧ ∀ x, x < n → (prb x = true ↔ ¬ ∃ a, a < nm ∧ q a = x)) := ⟨hn, hk, hpr⟩
  clear hf hn hk hpr
  by_cases f0 : f = 0
  · have b0 : (((f : Nat) : Int) != 0) = false := by simp [f0]
    clear f01 f0
    go_enter Tryz.func21, Tryz.ntmps21
    go_wp2_with (first
      | (go_at_call 29; (with_reducible refine c1.mono ?_); rintro e w1 ⟨am, cm, rfl, hQ, hI, hb⟩; clear c1; have c2 := newSurvey19 f k m n nm L am cm q prb w1 hQ (Nat.le_trans hI.nmn hI.n2) hI.uq HH.out.2.2 HH.out.1 hI.n2 hI.k1 HH.out.2.1 hI.sc)
      | (go_at_call 30; (with_reducible refine c2.mono ?_); rintro e W2 ⟨S, g, r, t, gp, gv, gsc, gbk, lo, pb, cp, rfl, hZ, hT⟩; clear c2))
    obtain ⟨gt, hgt⟩ : ∃ gt, Hid (w1.heap.size = gt) := ⟨_, rfl⟩
    rw [hgt.out] at hZ hT
    have hY0 : Ys19 W2 gt n L lo 0 (fun x => prb x = true) (fun z => dw19 f k (cnb prb n) z prb Sh (fun _ => 0)) (fun _ => false) (fun _ => False) := ⟨_, _, _, hT, fun _ _ e => (by cases e), fun x hx => by
      simp only [Bool.false_eq_true, if_false]
      exact Xs19.start _ _ _ _⟩
    have HI : Hid (Ci19 w1 sb so n (cnb prb n) nm k f L (pk19 prb n) q prb Sh ∧ Below w.heap.size w w1) := ⟨hI, hb⟩
    have HY : Hid (Sz19 w1 W2 S g r t gp gv gsc gbk gt f k n (cnb prb n) nm L lo pb cp (.slice am nm cm) (pk19 prb n) q ∧ Ys19 W2 gt n L lo 0 (fun x => prb x = true) (fun z => dw19 f k (cnb prb n) z prb Sh (fun _ => 0)) (fun _ => false) (fun _ => False)) := ⟨hZ, hY0⟩
    clear hZ hT hY0 hI hb hQ
    go_loopw [40] (fun s wr => ∃ y : Nat, y ≤ L ∧ s = .int .i64 (y : Int) ∧ Sz19 w1 wr S g r t gp gv gsc gbk gt f k n (cnb prb n) nm L lo pb cp (.slice am nm cm) (pk19 prb n) q ∧ ∃ F : Nat → Nat → Nat, (∀ z, z < y → Gf2.El 8 (F z) ∧ Dg (F z) k ∧ Nr19 (pk19 prb n) (yv19 f k z (pk19 prb n) Sh) (cnb prb n) ((cnb prb n - k) / 2) (F z)) ∧ Ys19 wr gt n L lo y (fun x => prb x = true) (fun z => dw19 f k (cnb prb n) z prb Sh (F z)) (fun _ => false) (fun _ => False)) (fun s _ => L - (intOf s).toNat)
    case atStart => exact ⟨0, Nat.zero_le _, rfl, HY.out.1, fun _ _ => 0, fun z hz => absurd hz (Nat.not_lt_zero _), HY.out.2⟩
    case round =>
      obtain ⟨y, hy, rfl, hZ, F, hF, hY⟩ := hrel
      clear HY
      by_cases hlt : y < L
      · have ib : ((y : Nat) : Int) < (L : Int) := Int.ofNat_lt.2 hlt
        have W1 := wrap_succ8 (j := y) (by have := HI.out.1.hL; unfold big; omega)
        have c3 := scol19 w1 S g r t gp gv gsc gbk gt f k n (cnb prb n) nm L lo pb cp sb so cs y (.slice am nm cm) (pk19 prb n) q prb Sh (fun z => dw19 f k (cnb prb n) z prb Sh (F z)) wr hZ HI.out.1 hY hlt
        have HO : Hid (y < L ∧ ∀ z, z < y → Gf2.El 8 (F z) ∧ Dg (F z) k ∧ Nr19 (pk19 prb n) (yv19 f k z (pk19 prb n) Sh) (cnb prb n) ((cnb prb n - k) / 2) (F z)) := ⟨hlt, hF⟩
        have c4 : Calls Tryz.prog 31 #[.pointer (some ⟨S, 0, none⟩), .slice (some ⟨sb, so, none⟩) n cs, .int .i64 ((y : Nat) : Int)] wr fun e w' => ∃ bo : Bool, e = .returned (.bool bo) ∧ (bo = true → Sz19 w1 w' S g r t gp gv gsc gbk gt f k n (cnb prb n) nm L lo pb cp (.slice am nm cm) (pk19 prb n) q ∧ ∃ F : Nat → Nat → Nat, (∀ z, z < y + 1 → Gf2.El 8 (F z) ∧ Dg (F z) k ∧ Nr19 (pk19 prb n) (yv19 f k z (pk19 prb n) Sh) (cnb prb n) ((cnb prb n - k) / 2) (F z)) ∧ Ys19 w' gt n L lo (y + 1) (fun x => prb x = true) (fun z => dw19 f k (cnb prb n) z prb Sh (F z)) (fun _ => false) (fun _ => False)) ∧ (bo = false → (∀ F, Gf2.El 8 F → Dg F k → ¬ Nr19 (pk19 prb n) (yv19 f k y (pk19 prb n) Sh) (cnb prb n) ((cnb prb n - k) / 2) F) ∧ Below w1.heap.size w1 w') := c3.mono fun e w' h => by
          rcases h with ⟨e1, G, g1, g2, g3, g4, g5⟩ | ⟨e1, g1, g2⟩
          · refine ⟨true, e1, fun _ => ⟨g4, fun z => if z = y then G else F z, fun z hz => ?_, ?_⟩, fun h => (by cases h)⟩
            · by_cases e : z = y
              · simp only [if_pos e]; rw [e]; exact ⟨g1, g2, g3⟩
              · simp only [if_neg e]; exact HO.out.2 z (by omega)
            · have eD : (fun z => dw19 f k (cnb prb n) z prb Sh (if z = y then G else F z)) = fun z => if z = y then dw19 f k (cnb prb n) y prb Sh G else dw19 f k (cnb prb n) z prb Sh (F z) := by
                funext z
                by_cases e : z = y
                · rw [if_pos e, if_pos e, e]
                · rw [if_neg e, if_neg e]
              rw [eD]
              exact g5
          · exact ⟨false, e1, fun h => (by cases h), fun _ => ⟨g1, g2⟩⟩
        clear c3 hZ hF hY hlt hy
        go_wp2_with (go_at_call 31; (with_reducible refine c4.mono ?_); rintro e w9 ⟨bo, rfl, k1, k2⟩; clear c4)
        · have hbo : bo = false := by (have hh : (!bo) = true := by assumption); cases bo; rfl; cases hh
          have HK : Hid _ := k2 hbo
          clear k1 k2
          go_ret2
          exact ⟨w1, HI.out.2, .inr ⟨rfl, ⟨y, HO.out.1, HK.out.1⟩, HK.out.2⟩⟩
        · have hbo : bo = true := by (have hh : (!bo) = false := by assumption); cases bo; cases hh; rfl
          have HK : Hid _ := k1 hbo
          clear k1 k2
          go_roundw
          case rel => exact ⟨y + 1, HO.out.1, by first | rfl | (rw [W1]; rfl), HK.out.1, HK.out.2⟩
          case measure => first | exact meas_lt8 HO.out.1 | (rw [W1]; exact meas_lt8 HO.out.1)
      · have ib : ¬ ((y : Nat) : Int) < (L : Int) := by omega
        have hyl : y = L := by omega
        rw [hyl] at hF hY
        have z6 := hZ.sv.c6
        have HK : Hid (∃ F : Nat → Nat → Nat, (∀ y, y < L → Gf2.El 8 (F y) ∧ Dg (F y) k ∧ Nr19 (pk19 prb n) (yv19 f k y (pk19 prb n) Sh) (cnb prb n) ((cnb prb n - k) / 2) (F y)) ∧ w1.heap.size ≤ gt ∧ Below w1.heap.size w1 wr ∧ Ys19 wr gt n L lo L (fun x => prb x = true) (fun z => dw19 f k (cnb prb n) z prb Sh (F z)) (fun _ => false) (fun _ => False)) := ⟨F, hF, by have := hgt.out; omega, hZ.bel, hY⟩
        clear hZ hF hY hlt hy hyl
        go_wp2
        go_ret2
        exact ⟨w1, HI.out.2, .inl ⟨gt, lo, rfl, HK.out⟩⟩
  · have b0 : (((f : Nat) : Int) != 0) = true := by simpa using f0
    have b1 : (((f : Nat) : Int) != 1) = false := by
      have : f = 1 := by omega
      simp [this]
    clear f01 f0
    go_enter Tryz.func21, Tryz.ntmps21
    go_wp2_with (first
      | (go_at_call 29; (with_reducible refine c1.mono ?_); rintro e w1 ⟨am, cm, rfl, hQ, hI, hb⟩; clear c1; have c2 := newSurvey19 f k m n nm L am cm q prb w1 hQ (Nat.le_trans hI.nmn hI.n2) hI.uq HH.out.2.2 HH.out.1 hI.n2 hI.k1 HH.out.2.1 hI.sc)
      | (go_at_call 30; (with_reducible refine c2.mono ?_); rintro e W2 ⟨S, g, r, t, gp, gv, gsc, gbk, lo, pb, cp, rfl, hZ, hT⟩; clear c2))
    obtain ⟨gt, hgt⟩ : ∃ gt, Hid (w1.heap.size = gt) := ⟨_, rfl⟩
    rw [hgt.out] at hZ hT
    have hY0 : Ys19 W2 gt n L lo 0 (fun x => prb x = true) (fun z => dw19 f k (cnb prb n) z prb Sh (fun _ => 0)) (fun _ => false) (fun _ => False) := ⟨_, _, _, hT, fun _ _ e => (by cases e), fun x hx => by
      simp only [Bool.false_eq_true, if_false]
      exact Xs19.start _ _ _ _⟩
    have HI : Hid (Ci19 w1 sb so n (cnb prb n) nm k f L (pk19 prb n) q prb Sh ∧ Below w.heap.size w w1) := ⟨hI, hb⟩
    have HY : Hid (Sz19 w1 W2 S g r t gp gv gsc gbk gt f k n (cnb prb n) nm L lo pb cp (.slice am nm cm) (pk19 prb n) q ∧ Ys19 W2 gt n L lo 0 (fun x => prb x = true) (fun z => dw19 f k (cnb prb n) z prb Sh (fun _ => 0)) (fun _ => false) (fun _ => False)) := ⟨hZ, hY0⟩
    clear hZ hT hY0 hI hb hQ
    go_loopw [40] (fun s wr => ∃ y : Nat, y ≤ L ∧ s = .int .i64 (y : Int) ∧ Sz19 w1 wr S g r t gp gv gsc gbk gt f k n (cnb prb n) nm L lo pb cp (.slice am nm cm) (pk19 prb n) q ∧ ∃ F : Nat → Nat → Nat, (∀ z, z < y → Gf2.El 8 (F z) ∧ Dg (F z) k ∧ Nr19 (pk19 prb n) (yv19 f k z (pk19 prb n) Sh) (cnb prb n) ((cnb prb n - k) / 2) (F z)) ∧ Ys19 wr gt n L lo y (fun x => prb x = true) (fun z => dw19 f k (cnb prb n) z prb Sh (F z)) (fun _ => false) (fun _ => False)) (fun s _ => L - (intOf s).toNat)
    case atStart => exact ⟨0, Nat.zero_le _, rfl, HY.out.1, fun _ _ => 0, fun z hz => absurd hz (Nat.not_lt_zero _), HY.out.2⟩
    case round =>
      obtain ⟨y, hy, rfl, hZ, F, hF, hY⟩ := hrel
      clear HY
      by_cases hlt : y < L
      · have ib : ((y : Nat) : Int) < (L : Int) := Int.ofNat_lt.2 hlt
        have W1 := wrap_succ8 (j := y) (by have := HI.out.1.hL; unfold big; omega)
        have c3 := scol19 w1 S g r t gp gv gsc gbk gt f k n (cnb prb n) nm L lo pb cp sb so cs y (.slice am nm cm) (pk19 prb n) q prb Sh (fun z => dw19 f k (cnb prb n) z prb Sh (F z)) wr hZ HI.out.1 hY hlt
        have HO : Hid (y < L ∧ ∀ z, z < y → Gf2.El 8 (F z) ∧ Dg (F z) k ∧ Nr19 (pk19 prb n) (yv19 f k z (pk19 prb n) Sh) (cnb prb n) ((cnb prb n - k) / 2) (F z)) := ⟨hlt, hF⟩
        have c4 : Calls Tryz.prog 31 #[.pointer (some ⟨S, 0, none⟩), .slice (some ⟨sb, so, none⟩) n cs, .int .i64 ((y : Nat) : Int)] wr fun e w' => ∃ bo : Bool, e = .returned (.bool bo) ∧ (bo = true → Sz19 w1 w' S g r t gp gv gsc gbk gt f k n (cnb prb n) nm L lo pb cp (.slice am nm cm) (pk19 prb n) q ∧ ∃ F : Nat → Nat → Nat, (∀ z, z < y + 1 → Gf2.El 8 (F z) ∧ Dg (F z) k ∧ Nr19 (pk19 prb n) (yv19 f k z (pk19 prb n) Sh) (cnb prb n) ((cnb prb n - k) / 2) (F z)) ∧ Ys19 w' gt n L lo (y + 1) (fun x => prb x = true) (fun z => dw19 f k (cnb prb n) z prb Sh (F z)) (fun _ => false) (fun _ => False)) ∧ (bo = false → (∀ F, Gf2.El 8 F → Dg F k → ¬ Nr19 (pk19 prb n) (yv19 f k y (pk19 prb n) Sh) (cnb prb n) ((cnb prb n - k) / 2) F) ∧ Below w1.heap.size w1 w') := c3.mono fun e w' h => by
          rcases h with ⟨e1, G, g1, g2, g3, g4, g5⟩ | ⟨e1, g1, g2⟩
          · refine ⟨true, e1, fun _ => ⟨g4, fun z => if z = y then G else F z, fun z hz => ?_, ?_⟩, fun h => (by cases h)⟩
            · by_cases e : z = y
              · simp only [if_pos e]; rw [e]; exact ⟨g1, g2, g3⟩
              · simp only [if_neg e]; exact HO.out.2 z (by omega)
            · have eD : (fun z => dw19 f k (cnb prb n) z prb Sh (if z = y then G else F z)) = fun z => if z = y then dw19 f k (cnb prb n) y prb Sh G else dw19 f k (cnb prb n) z prb Sh (F z) := by
                funext z
                by_cases e : z = y
                · rw [if_pos e, if_pos e, e]
                · rw [if_neg e, if_neg e]
              rw [eD]
              exact g5
          · exact ⟨false, e1, fun h => (by cases h), fun _ => ⟨g1, g2⟩⟩
        clear c3 hZ hF hY hlt hy
        go_wp2_with (go_at_call 31; (with_reducible refine c4.mono ?_); rintro e w9 ⟨bo, rfl, k1, k2⟩; clear c4)
        · have hbo : bo = false := by (have hh : (!bo) = true := by assumption); cases bo; rfl; cases hh
          have HK : Hid _ := k2 hbo
          clear k1 k2
          go_ret2
          exact ⟨w1, HI.out.2, .inr ⟨rfl, ⟨y, HO.out.1, HK.out.1⟩, HK.out.2⟩⟩
        · have hbo : bo = true := by (have hh : (!bo) = false := by assumption); cases bo; cases hh; rfl
          have HK : Hid _ := k1 hbo
          clear k1 k2
          go_roundw
          case rel => exact ⟨y + 1, HO.out.1, by first | rfl | (rw [W1]; rfl), HK.out.1, HK.out.2⟩
          case measure => first | exact meas_lt8 HO.out.1 | (rw [W1]; exact meas_lt8 HO.out.1)
      · have ib : ¬ ((y : Nat) : Int) < (L : Int) := by omega
        have hyl : y = L := by omega
        rw [hyl] at hF hY
        have z6 := hZ.sv.c6
        have HK : Hid (∃ F : Nat → Nat → Nat, (∀ y, y < L → Gf2.El 8 (F y) ∧ Dg (F y) k ∧ Nr19 (pk19 prb n) (yv19 f k y (pk19 prb n) Sh) (cnb prb n) ((cnb prb n - k) / 2) (F y)) ∧ w1.heap.size ≤ gt ∧ Below w1.heap.size w1 wr ∧ Ys19 wr gt n L lo L (fun x => prb x = true) (fun z => dw19 f k (cnb prb n) z prb Sh (F z)) (fun _ => false) (fun _ => False)) := ⟨F, hF, by have := hgt.out; omega, hZ.bel, hY⟩
        clear hZ hF hY hlt hy hyl
        go_wp2
        go_ret2
        exact ⟨w1, HI.out.2, .inl ⟨gt, lo, rfl, HK.out⟩⟩
end Go.Proofs.YtlblkckglelbdaaGreat
namespace Go.Proofs.YtlblkckglelbdaaGreat
open Go.RowKit Gf2
set_option linter.unusedVariables false

-- layer 19: Find, over any contract of turnsOf
/-- the columns' polynomials and the shards that have a turn. -/
def Tq19 (f k n np L : Nat) (p : Nat → Nat) (prb : Nat → Bool) (Sh F : Nat → Nat → Nat) (tb : Nat → Bool) : Prop :=
  (∀ y, y < L → Gf2.El 8 (F y) ∧ Dg (F y) k ∧ Nr19 p (yv19 f k y p Sh) np ((np - k) / 2) (F y)) ∧ ∀ x, x < n → (tb x = true ↔ ((¬ prb x = true ∧ 0 < L) ∨ ∃ z, z < L ∧ dw19 f k np z prb Sh (F z) x ≠ 0))
end Go.Proofs.YtlblkckglelbdaaGreat
namespace Go.Proofs.YtlblkckglelbdaaGreat
open Go.RowKit Gf2
set_option linter.unusedVariables false

-- layer 19: no scale is 0
theorem cnt_id19 (y : Nat) : ∀ n, cnt (fun j => j) y n = if y < n then 1 else 0
  | 0 => rfl
  | n + 1 => by
    have ih := cnt_id19 y n
    simp only [cnt, ih]
    by_cases e : n = y
    · subst e
      simp
    · by_cases e2 : y < n
      · have e3 : y < n + 1 := by omega
        simp [e, e2, e3]
      · have e3 : ¬ y < n + 1 := by omega
        simp [e, e2, e3]
theorem pv_out19 {x : Nat} (hx : x < 256) : ∀ k, k ≤ x → pe 285 x (k + 1) (pv 285 (fun j => j) k) ≠ 0
  | 0, _ => by
    have : pe 285 x 1 (pv 285 (fun j => j) 0) = 1 := by
      show pe 285 x 1 po = 1
      show sx 1 _ = 1
      simp [sx, po, fld8.fp_zero, fld8.one_fm (show 1 < 2 ^ 8 by decide)]
    rw [this]
    decide
  | k + 1, h => by
    have ih := pv_out19 hx k (by omega)
    rw [fld8.pe_pv_succ (pts := fun j => j) (n := k) (x := x) (by show k < 256; omega) hx]
    exact fld8.fm_ne (fld8.pe_lt _ _ _) (Nat.xor_lt_two_pow (n := 8) (by show k < 256; omega) hx) ih (fun e => by
      have : k = x := xor_zero19 e
      omega)
theorem sc19_ne {f k x : Nat} (hx : x < 256) (hk : k ≤ 256) : sc19 f k x ≠ 0 := by
  unfold sc19
  split
  · decide
  · split
    · rename_i h
      intro e
      have hc := cnt_id19 x k
      rw [if_pos h] at hc
      have := (fld8.pv_double (pts := fun j => j) (y := x) hx k (fun i hi => by show i < 256; omega) (by omega)).1 e
      omega
    · exact pv_out19 hx k (by omega)
end Go.Proofs.YtlblkckglelbdaaGreat
namespace Go.Proofs.YtlblkckglelbdaaGreat
open Go.RowKit Gf2
set_option linter.unusedVariables false

-- layer 19: addTo of no turn
set_option maxHeartbeats 4000000 in
set_option maxRecDepth 100000 in
theorem addTo_nil19 (v : Value) (w : World) : Calls Tryz.prog 23 #[v, .slice none 0 0] w fun e w' => e = .returned (.tuple #[]) ∧ w' = w := by
  go_enter Tryz.func23, Tryz.ntmps23
  go_wp2
  go_loopw [8] (fun s wr => s = .int .i64 0 ∧ wr = w) (fun _ _ => 0)
  case atStart => exact ⟨rfl, rfl⟩
  case round =>
    obtain ⟨rfl, hw⟩ := hrel
    have hw := hw.symm
    subst hw
    go_wp2
    ((try simp only [Exit.inBlock, Exit.then]); first | (refine bodyPost_ret (results_none rfl _ _ _) rfl ?_) | (refine bodyPost_end (results_none rfl _ _ _) rfl ?_))
    exact ⟨rfl, rfl⟩
end Go.Proofs.YtlblkckglelbdaaGreat
namespace Go.Proofs.YtlblkckglelbdaaGreat
open Go.RowKit Gf2
set_option linter.unusedVariables false

-- layer 19: Shards' loop, where the empty entries may be any slices
/-- block b begins with a row of n cells of type t: it is a row, of n cells or more, and its first n are f's. -/
def RowH (w : World) (b : Nat) (t : TypeId) (n : Nat) (f : Nat → Value) : Prop := ∃ m g, n ≤ m ∧ w.rowIs b t m g ∧ ∀ i, i < n → g i = f i
section
variable {w : World} {b : Nat} {t : TypeId} {n : Nat} {f g : Nat → Value}
theorem RowH.cell (h : RowH w b t n f) {i : Nat} (hi : i < n) : w.cell? ⟨b, i, none⟩ = some (f i) := by
  obtain ⟨m, g, hm, hr, e⟩ := h
  rw [hr.cell (by omega), e i hi]
theorem RowH.frozen (h : RowH w b t n f) (i : Nat) : w.frozen? ⟨b, i, none⟩ = false := by
  obtain ⟨m, g, hm, hr, e⟩ := h
  exact hr.frozen i
theorem RowH.lt (h : RowH w b t n f) : b < w.heap.size := by
  obtain ⟨m, g, hm, hr, e⟩ := h
  exact hr.lt
theorem RowH.congr (h : RowH w b t n f) (e : ∀ i, i < n → f i = g i) : RowH w b t n g := by
  obtain ⟨m, g', hm, hr, e'⟩ := h
  exact ⟨m, g', hm, hr, fun i hi => (e' i hi).trans (e i hi)⟩
theorem RowH.of_block {w' : World} (h : RowH w b t n f) (e : w'.heap[b]? = w.heap[b]?) : RowH w' b t n f := by
  obtain ⟨m, g, hm, hr, e'⟩ := h
  exact ⟨m, g, hm, hr.of_block e, e'⟩
theorem RowH.set (h : RowH w b t n f) (i : Nat) (v : Value) : RowH (w.setCell ⟨b, i, none⟩ v) b t n (fun j => if j = i then v else f j) := by
  obtain ⟨m, g, hm, hr, e⟩ := h
  refine ⟨m, _, hm, hr.set i v, fun j hj => ?_⟩
  (try dsimp only)
  rw [e j hj]
theorem RowH.cut {k : Nat} (h : RowH w b t n f) (hk : k ≤ n) : RowH w b t k f := by
  obtain ⟨m, g, hm, hr, e⟩ := h
  exact ⟨m, g, by omega, hr, fun i hi => e i (by omega)⟩
theorem RowH.of_cells {c : Array Value} (hb : w.heap[b]? = some (.cells c t (0, 0))) (hn : n ≤ c.size) (hc : ∀ i, i < n → c[i]? = some (f i)) : RowH w b t n f := by
  refine ⟨c.size, fun i => (c[i]?).getD undef, hn, ⟨c, hb, rfl, fun i hi => ?_⟩, fun i hi => by (try dsimp only); rw [hc i hi]; rfl⟩
  show c[i]? = some ((c[i]?).getD undef)
  rw [Array.getElem?_eq_getElem hi]
  rfl
end
/-- the shards' list behind i rounds: gt the turns' list, sb the shards'. -/
structure Sxh19 (W : World) (gt sb n L i : Nat) (tb : Nat → Bool) (B R ln C : Nat → Nat) (va : Nat → Option Addr) (vc : Nat → Nat) (T G : Nat → Nat → Nat) : Prop where
  trow : W.rowIs gt 27 n (fun j => if tb j then .slice (some ⟨B j, 0, none⟩) L L else .slice none 0 0)
  trows : ∀ j, j < n → tb j = true → Rw W (B j) L (T j)
  row : RowH W sb 27 n (fun x => if x < i ∧ ln x = 0 then (if tb x then .slice (some ⟨B x, 0, none⟩) L L else .slice none 0 0) else .slice (va x) (ln x) (vc x))
  sl : ∀ x, x < n → ln x ≠ 0 → va x = some ⟨R x, 0, none⟩ ∧ vc x = C x
  rows : ∀ x, x < n → ln x ≠ 0 → Rw W (R x) (C x) (fun z => if (x < i ∧ tb x = true ∧ ln x ≠ 0) ∧ z < L then G x z ^^^ T x z else G x z)
  le : ∀ x, x < n → (ln x ≠ 0 → ln x ≤ C x) ∧ (ln x = L ∨ ln x = 0)
  inj : ∀ x y, x < n → y < n → ln x ≠ 0 → ln y ≠ 0 → x ≠ y → R x ≠ R y
  ne : ∀ x, x < n → ln x ≠ 0 → R x ≠ sb ∧ R x ≠ gt ∧ ∀ j, j < n → tb j = true → B j ≠ R x
  nb : ∀ j, j < n → tb j = true → B j ≠ sb
  ng : gt ≠ sb
/-- an empty entry takes its turn. -/
theorem Sxh19.miss {W : World} {gt sb n L i : Nat} {tb : Nat → Bool} {B R ln C : Nat → Nat} {va : Nat → Option Addr} {vc : Nat → Nat} {T G : Nat → Nat → Nat} (h : Sxh19 W gt sb n L i tb B R ln C va vc T G) (hi : i < n) (h0 : ln i = 0) : Sxh19 (W.setCell ⟨sb, i, none⟩ (if tb i then .slice (some ⟨B i, 0, none⟩) L L else .slice none 0 0)) gt sb n L (i + 1) tb B R ln C va vc T G := by
  have kp : Kp sb W (W.setCell ⟨sb, i, none⟩ (if tb i then .slice (some ⟨B i, 0, none⟩) L L else .slice none 0 0)) := (Kp.refl _ _).setCell _ _
  refine ⟨h.trow.of_block (kp.2 _ h.trow.lt h.ng), fun j hj e => kp.rw_ (h.trows j hj e) (h.nb j hj e), (h.row.set i _).congr (fun x hx => ?_), h.sl, fun x hx hx0 => (kp.rw_ (h.rows x hx hx0) (h.ne x hx hx0).1).congr (fun z hz => ?_), h.le, h.inj, h.ne, h.nb, h.ng⟩
  · by_cases e : x = i
    · subst e
      rw [if_pos rfl, if_pos (show x < x + 1 ∧ ln x = 0 from ⟨by omega, h0⟩)]
    · rw [if_neg e]
      by_cases e2 : x < i ∧ ln x = 0
      · rw [if_pos e2, if_pos (show x < i + 1 ∧ ln x = 0 from ⟨by omega, e2.2⟩)]
      · rw [if_neg e2, if_neg (show ¬ (x < i + 1 ∧ ln x = 0) from fun h9 => e2 ⟨by omega, h9.2⟩)]
  · by_cases e : x = i
    · subst e
      rw [if_neg (fun h9 => h9.1.2.2 h0), if_neg (fun h9 => h9.1.2.2 h0)]
    · by_cases e2 : (x < i ∧ tb x = true ∧ ln x ≠ 0) ∧ z < L
      · rw [if_pos e2, if_pos ⟨⟨by omega, e2.1.2⟩, e2.2⟩]
      · rw [if_neg e2, if_neg (fun h9 => e2 ⟨⟨by omega, h9.1.2⟩, h9.2⟩)]
/-- a present shard without a turn. -/
theorem Sxh19.pass {W : World} {gt sb n L i : Nat} {tb : Nat → Bool} {B R ln C : Nat → Nat} {va : Nat → Option Addr} {vc : Nat → Nat} {T G : Nat → Nat → Nat} (h : Sxh19 W gt sb n L i tb B R ln C va vc T G) (hi : i < n) (h0 : ln i ≠ 0) (hb : tb i = false) : Sxh19 W gt sb n L (i + 1) tb B R ln C va vc T G := by
  refine ⟨h.trow, h.trows, h.row.congr (fun x hx => ?_), h.sl, fun x hx hx0 => (h.rows x hx hx0).congr (fun z hz => ?_), h.le, h.inj, h.ne, h.nb, h.ng⟩
  · by_cases e : x = i
    · subst e
      rw [if_neg (show ¬ (x < x ∧ ln x = 0) from fun h9 => h0 h9.2), if_neg (show ¬ (x < x + 1 ∧ ln x = 0) from fun h9 => h0 h9.2)]
    · by_cases e2 : x < i ∧ ln x = 0
      · rw [if_pos e2, if_pos (show x < i + 1 ∧ ln x = 0 from ⟨by omega, e2.2⟩)]
      · rw [if_neg e2, if_neg (show ¬ (x < i + 1 ∧ ln x = 0) from fun h9 => e2 ⟨by omega, h9.2⟩)]
  · by_cases e : x = i
    · subst e
      rw [if_neg (fun h9 => by have := h9.1.2.1; rw [hb] at this; cases this), if_neg (fun h9 => by have := h9.1.2.1; rw [hb] at this; cases this)]
    · by_cases e2 : (x < i ∧ tb x = true ∧ ln x ≠ 0) ∧ z < L
      · rw [if_pos e2, if_pos ⟨⟨by omega, e2.1.2⟩, e2.2⟩]
      · rw [if_neg e2, if_neg (fun h9 => e2 ⟨⟨by omega, h9.1.2⟩, h9.2⟩)]
/-- a present shard with a turn: addTo. -/
theorem Sxh19.hit {W : World} {gt sb n L i : Nat} {tb : Nat → Bool} {B R ln C : Nat → Nat} {va : Nat → Option Addr} {vc : Nat → Nat} {T G : Nat → Nat → Nat} (h : Sxh19 W gt sb n L i tb B R ln C va vc T G) (hi : i < n) (h0 : ln i ≠ 0) (hb : tb i = true) :
    Calls Tryz.prog 23 #[.slice (some ⟨R i, 0, none⟩) L (C i), .slice (some ⟨B i, 0, none⟩) L L] W fun e w' => e = .returned (.tuple #[]) ∧ Sxh19 w' gt sb n L (i + 1) tb B R ln C va vc T G ∧ Kp (R i) W w' := by
  have hle := h.le i hi
  have r0 : Rw W (R i) (C i) (G i) := (h.rows i hi h0).congr (fun z hz => if_neg (fun h9 => by have := h9.1.1; omega))
  refine (addTo19 (R i) (C i) L (C i) (B i) (G i) (T i) W r0 (hle.1 h0 |> fun h9 => by have := hle.2.resolve_right h0; omega) (h.trows i hi hb) ((h.ne i hi h0).2.2 i hi hb)).mono ?_
  rintro e w' ⟨rfl, r1, kp⟩
  refine ⟨rfl, ⟨h.trow.of_block (kp.2 _ h.trow.lt (fun e => (h.ne i hi h0).2.1 e.symm)), fun j hj e => kp.rw_ (h.trows j hj e) ((h.ne i hi h0).2.2 j hj e), (h.row.of_block (kp.2 _ h.row.lt (fun e => (h.ne i hi h0).1 e.symm))).congr (fun x hx => ?_), h.sl, fun x hx hx0 => ?_, h.le, h.inj, h.ne, h.nb, h.ng⟩, kp⟩
  · by_cases e : x = i
    · subst e
      rw [if_neg (show ¬ (x < x ∧ ln x = 0) from fun h9 => h0 h9.2), if_neg (show ¬ (x < x + 1 ∧ ln x = 0) from fun h9 => h0 h9.2)]
    · by_cases e2 : x < i ∧ ln x = 0
      · rw [if_pos e2, if_pos (show x < i + 1 ∧ ln x = 0 from ⟨by omega, e2.2⟩)]
      · rw [if_neg e2, if_neg (show ¬ (x < i + 1 ∧ ln x = 0) from fun h9 => e2 ⟨by omega, h9.2⟩)]
  · by_cases e : x = i
    · subst e
      refine r1.congr (fun z hz => ?_)
      by_cases e2 : z < L
      · rw [if_pos e2, if_pos ⟨⟨by omega, hb, h0⟩, e2⟩]
      · rw [if_neg e2, if_neg (fun h9 => e2 h9.2)]
    · refine (kp.rw_ (h.rows x hx hx0) (h.inj x i hx hi hx0 h0 e)).congr (fun z hz => ?_)
      by_cases e2 : (x < i ∧ tb x = true ∧ ln x ≠ 0) ∧ z < L
      · rw [if_pos e2, if_pos ⟨⟨by omega, e2.1.2⟩, e2.2⟩]
      · rw [if_neg e2, if_neg (fun h9 => e2 ⟨⟨by omega, h9.1.2⟩, h9.2⟩)]
end Go.Proofs.YtlblkckglelbdaaGreat
