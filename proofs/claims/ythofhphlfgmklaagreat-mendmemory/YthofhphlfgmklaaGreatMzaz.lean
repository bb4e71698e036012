import Derived.Test.YthofhphlfgmklaaGreatMzay
import Derived.Deep.Cut
import Derived.Test.YthofhphlfgmklaaGreatMzar
namespace Go.Proofs.YthofhphlfgmklaaGreat
open Go.RowKit Gf2
set_option linter.unusedVariables false

-- layer 19: scalesOf
/-- a shard's scale. -/
def sc19 (f k i : Nat) : Nat := if f = 0 then 1 else if i < k then pe 285 i k (pd (pv 285 (fun j => j) k)) else pe 285 i (k + 1) (pv 285 (fun j => j) k)
theorem sc19_lt (f k i : Nat) : sc19 f k i < 256 := by
  unfold sc19
  split
  · decide
  · split
    · exact fld8.pe_lt _ _ _
    · exact fld8.pe_lt _ _ _
theorem sc_a {W : World} {r t gn n k : Nat} (hr : Rg8 W r t) (hN : Rw W gn n (fun i => i)) (h1 : 1 ≤ k) (hk : k ≤ n) (hn : n ≤ 256) :
    Calls Tryz.prog 45 #[.pointer (some ⟨r, 0, none⟩), .slice (some ⟨gn, 0, none⟩) k n] W fun e W2 => ∃ gv, e = .returned (.tuple #[.slice (some ⟨gv, 0, none⟩) (k + 1) (k + 1), .int .i64 0]) ∧
    Calls Tryz.prog 89 #[.pointer (some ⟨r, 0, none⟩), .slice (some ⟨gv, 0, none⟩) (k + 1) (k + 1)] W2 fun e W3 => ∃ x ms, e = .returned x ∧ Below W.heap.size W W3 ∧ Pl8 W3 (.slice (some ⟨gv, 0, none⟩) (k + 1) (k + 1)) (k + 1) (pv 285 (fun i => i) k) ∧ Pl8 W3 x ms (pd (pv 285 (fun i => i) k)) ∧ ms ≤ k := by
  have hb : Rb W (.slice (some ⟨gn, 0, none⟩) k n) k (fun i => i) := hN.rb0.cut8 hk
  refine (vanish8 r t k _ (fun i => i) W hr hb (by omega)).mono ?_
  rintro e W2 ⟨gv, rfl, rv, lgv, b2⟩
  have pV : Pl8 W2 (.slice (some ⟨gv, 0, none⟩) (k + 1) (k + 1)) (k + 1) (pv 285 (fun i => i) k) := ⟨rv.rb0, fld8.pv_dg _ k, fld8.el_pv _ k, .inr (by rw [Nat.add_sub_cancel, fld8.pv_top]; decide)⟩
  refine ⟨gv, rfl, (deriv8 r t k _ _ W2 (hr.below b2) pV h1 (by omega)).mono ?_⟩
  rintro e W3 ⟨x, ms, rfl, hms, hx, b3⟩
  exact ⟨x, ms, rfl, b2.trans (b3.mono b2.size), pV.below b3, hx, hms⟩
theorem upd_19 {V : Nat → Nat} {i j : Nat} : (if j = i then V i else if j < i then V j else 0) = if j < i + 1 then V j else 0 := by
  by_cases e : j = i
  · rw [if_pos e, if_pos (by omega), e]
  · rw [if_neg e]
    by_cases e2 : j < i
    · rw [if_pos e2, if_pos (by omega)]
    · rw [if_neg e2, if_neg (by omega)]
set_option maxHeartbeats 8000000 in
set_option maxRecDepth 100000 in
theorem scales19 (r t f k m n : Nat) (w : World) (hr : Rg8 w r t) (h1 : 1 ≤ k) (hnk : n = k + m) (hn : n ≤ 256) :
    Calls Tryz.prog 60 #[.pointer (some ⟨r, 0, none⟩), .int .i64 (f : Int), .int .i64 (k : Int), .int .i64 (m : Int)] w fun e w' => ∃ g, e = .returned (.slice (some ⟨g, 0, none⟩) n n) ∧ Rw w' g n (sc19 f k) ∧ w.heap.size ≤ g ∧ Below w.heap.size w w' := by
  have hmk := make_u8 n (by omega)
  have r0 := made_rw n (by omega) w
  have b0 : Below w.heap.size w (w.alloc (.cells (madeCells #[.int .u8 0] n) 5)) := (Below.refl _ _).alloc (Nat.le_refl _) _
  obtain ⟨w3, hw3⟩ : ∃ w3, Hid (w.alloc (.cells (madeCells #[.int .u8 0] n) 5) = w3) := ⟨_, rfl⟩
  rw [hw3.out] at r0 b0
  have Wn : wrap64 (((k : Nat) : Int) + ((m : Nat) : Int)) = ((n : Nat) : Int) := by unfold wrap64; omega
  have HH : Hid (Rg8 w r t ∧ 1 ≤ k ∧ k ≤ n ∧ n ≤ 256 ∧ Below w.heap.size w w3) := ⟨hr, h1, by omega, hn, b0⟩
  obtain ⟨gn, hgn⟩ : ∃ gn, Hid (w.heap.size = gn) := ⟨_, rfl⟩
  rw [hgn.out] at r0
  clear hr h1 hn b0 hnk
  go_enter Tryz.func60, Tryz.ntmps60
  go_wp2
  rw [hw3.out, hgn.out]
  clear hw3
  go_loopw [23] (fun s wr => ∃ i : Nat, i ≤ n ∧ s = .int .i64 (i : Int) ∧ Kp gn w3 wr ∧ Rw wr gn n (fun j => if j < i then j else 0)) (fun s _ => n - (intOf s).toNat)
  case atStart => exact ⟨0, Nat.zero_le _, rfl, Kp.refl _ _, r0.congr (fun j _ => (if_neg (Nat.not_lt_zero _)).symm)⟩
  case round =>
    obtain ⟨i, hi, rfl, hkp, hrw⟩ := hrel
    clear r0
    by_cases hlt : i < n
    · have q2 := hrw.2.2.cell hlt
      have q3 := hrw.2.2.frozen i
      have U8 : IntKind.u8.wrap ((i : Nat) : Int) = ((i : Nat) : Int) := u8s19 (by have := HH.out; omega)
      have HC : Hid (i < n ∧ Kp gn w3 (wr.setCell ⟨gn, i, none⟩ (.int .u8 (i : Nat))) ∧ Rw (wr.setCell ⟨gn, i, none⟩ (.int .u8 (i : Nat))) gn n (fun j => if j < i + 1 then j else 0)) := ⟨hlt, hkp.setCell _ _, (hrw.set i i (by have := HH.out; omega)).congr (fun j _ => upd_19 (V := fun j => j))⟩
      have ib : ((i : Nat) : Int) < (n : Int) := Int.ofNat_lt.2 hlt
      have W1 := wrap_lt8 (j := i) (b := n) hlt (by have := HH.out; omega)
      clear hrw hkp hlt hi
      go_wp2
      go_roundw
      case rel => first | exact ⟨i + 1, HC.out.1, by first | rfl | (rw [W1]; rfl), HC.out.2.1, HC.out.2.2⟩ | ((try rw [W1]); (repeat apply Exists.intro); exact ⟨⟨i + 1, HC.out.1, rfl, HC.out.2.1, HC.out.2.2⟩, rfl⟩)
      case measure => first | exact meas_lt8 HC.out.1 | (rw [W1]; exact meas_lt8 HC.out.1)
    · have hin : i = n := by omega
      have ib : ¬ ((i : Nat) : Int) < (n : Int) := by omega
      have hN : Rw wr gn n (fun j => j) := hrw.congr (fun j hj => if_pos (by omega))
      have bw : Below w.heap.size w wr := HH.out.2.2.2.2.trans (hkp.below (by have := hgn.out; omega) HH.out.2.2.2.2.size)
      have c1 := sc_a (HH.out.1.below bw) hN HH.out.2.1 HH.out.2.2.1 HH.out.2.2.2.1
      have hs := run_head8 gn n n k HH.out.2.2.1
      have HW : Hid (Below w.heap.size w wr ∧ Rw wr gn n (fun j => j)) := ⟨bw, hN⟩
      clear hrw hkp hlt hi hN bw hin
      go_upto_region 10 with (first
        | (go_at_call 45; (with_reducible refine c1.mono ?_); rintro e W2 ⟨gv, rfl, c2⟩; clear c1)
        | (go_at_call 89; (with_reducible refine c2.mono ?_); rintro e W3 ⟨x, ms, rfl, b3, pV, pS, hms⟩; clear c2))
      have r4 := made_rw n (by have := HH.out; omega) W3
      have b4 : Below W3.heap.size W3 (W3.alloc (.cells (madeCells #[.int .u8 0] n) 5)) := (Below.refl _ _).alloc (Nat.le_refl _) _
      obtain ⟨W4, hW4⟩ : ∃ W4, Hid (W3.alloc (.cells (madeCells #[.int .u8 0] n) 5) = W4) := ⟨_, rfl⟩
      rw [hW4.out] at r4 b4
      rw [hW4.out]
      obtain ⟨gs, hgs⟩ : ∃ gs, Hid (W3.heap.size = gs) := ⟨_, rfl⟩
      rw [hgs.out] at r4
      rw [hgs.out]
      have bw3 : Below w.heap.size w W3 := HW.out.1.trans (b3.mono HW.out.1.size)
      have hN3 : Rw W3 gn n (fun j => j) := HW.out.2.of_block (b3.block _ HW.out.2.lt)
      have HP : Hid (Below w.heap.size w W3 ∧ Rw W3 gn n (fun j => j) ∧ Pl8 W3 (.slice (some ⟨gv, 0, none⟩) (k + 1) (k + 1)) (k + 1) (pv 285 (fun i => i) k) ∧ Pl8 W3 x ms (pd (pv 285 (fun i => i) k)) ∧ ms ≤ k ∧ Below W3.heap.size W3 W4 ∧ W3.heap.size = gs) := ⟨bw3, hN3, pV, pS, hms, b4, hgs.out⟩
      clear b3 pV pS hms bw3 hN3 hW4 hgs b4 HW hs hmk Wn
      go_wp2
      go_loopw [49] (fun s wr => ∃ i : Nat, i ≤ n ∧ s = .int .i64 (i : Int) ∧ Below W3.heap.size W3 wr ∧ Rw wr gs n (fun j => if j < i then sc19 f k j else 0)) (fun s _ => n - (intOf s).toNat)
      case atStart => exact ⟨0, Nat.zero_le _, rfl, HP.out.2.2.2.2.2.1, r4.congr (fun j _ => (if_neg (Nat.not_lt_zero _)).symm)⟩
      case round =>
        obtain ⟨i, hi, rfl, hb, hrw⟩ := hrel
        clear r4
        by_cases hlt : i < n
        · have hNi := HP.out.2.1.of_block (hb.block _ HP.out.2.1.lt)
          have q1 := hNi.2.2.cell hlt
          have q2 := hrw.2.2.cell hlt
          have q3 := hrw.2.2.frozen i
          have HC : Hid (∀ q, i < n ∧ Below W3.heap.size W3 ((wr.drewN q).setCell ⟨gs, i, none⟩ (.int .u8 (sc19 f k i : Nat))) ∧ Rw ((wr.drewN q).setCell ⟨gs, i, none⟩ (.int .u8 (sc19 f k i : Nat))) gs n (fun j => if j < i + 1 then sc19 f k j else 0)) := fun q => ⟨hlt, (below_drewN hb q).setCell (by show W3.heap.size ≤ gs; have := HP.out; omega) _, ((hrw.drewN q).set i _ (sc19_lt f k i)).congr (fun j _ => upd_19 (V := fun j => sc19 f k j))⟩
          have ib : ((i : Nat) : Int) < (n : Int) := Int.ofNat_lt.2 hlt
          have W1 := wrap_lt8 (j := i) (b := n) hlt (by have := HH.out; omega)
          by_cases hf : f = 0
          · subst hf
            have e1 : sc19 0 k i = 1 := if_pos rfl
            rw [e1] at HC
            have HE : Hid _ := HC.out 0
            clear hrw hb hNi hlt hi HC
            go_wp2
            go_roundw
            case rel => first | exact ⟨i + 1, HE.out.1, by first | rfl | (rw [W1]; rfl), HE.out.2.1, HE.out.2.2⟩ | ((try rw [W1]); (repeat apply Exists.intro); exact ⟨⟨i + 1, HE.out.1, rfl, HE.out.2.1, HE.out.2.2⟩, rfl⟩)
            case measure => first | exact meas_lt8 HE.out.1 | (rw [W1]; exact meas_lt8 HE.out.1)
          · have f0 : ¬ ((f : Nat) : Int) = 0 := by omega
            by_cases hik : i < k
            · have hikI : ((i : Nat) : Int) < (k : Int) := by omega
              have e1 : pe 285 i ms (pd (pv 285 (fun i => i) k)) = sc19 f k i := by
                unfold sc19
                rw [if_neg hf, if_pos hik]
                exact fld8.pe_any i HP.out.2.2.2.1.dg ((HP.out.2.2.2.1.dg).mono HP.out.2.2.2.2.1)
              have c5 := eval8 r t i ms x _ wr ((HH.out.1.below HP.out.1).below hb) (HP.out.2.2.2.1.below hb).rb (by have := HP.out; have := HH.out; omega) (by have := HH.out; omega)
              rw [e1] at c5
              generalize sc19 f k i = y at c5 HC
              clear hrw hb hNi hlt hi e1
              go_wp2_with (go_at_call 49; (with_reducible refine c5.mono ?_); rintro e w9 ⟨rfl, q, rfl⟩; clear c5; have HD := HC.out q)
              have HE : Hid _ := HD
              clear HD
              go_roundw
              case rel => first | exact ⟨i + 1, HE.out.1, by first | rfl | (rw [W1]; rfl), HE.out.2.1, HE.out.2.2⟩ | ((try rw [W1]); (repeat apply Exists.intro); exact ⟨⟨i + 1, HE.out.1, rfl, HE.out.2.1, HE.out.2.2⟩, rfl⟩)
              case measure => first | exact meas_lt8 HE.out.1 | (rw [W1]; exact meas_lt8 HE.out.1)
            · have hikI : ¬ ((i : Nat) : Int) < (k : Int) := by omega
              have e1 : pe 285 i (k + 1) (pv 285 (fun i => i) k) = sc19 f k i := by
                unfold sc19
                rw [if_neg hf, if_neg hik]
              have c5 := eval8 r t i (k + 1) (.slice (some ⟨gv, 0, none⟩) (k + 1) (k + 1)) _ wr ((HH.out.1.below HP.out.1).below hb) (HP.out.2.2.1.below hb).rb (by have := HH.out; omega) (by have := HH.out; omega)
              rw [e1] at c5
              generalize sc19 f k i = y at c5 HC
              clear hrw hb hNi hlt hi e1
              go_wp2_with (go_at_call 49; (with_reducible refine c5.mono ?_); rintro e w9 ⟨rfl, q, rfl⟩; clear c5; have HD := HC.out q)
              have HE : Hid _ := HD
              clear HD
              go_roundw
              case rel => first | exact ⟨i + 1, HE.out.1, by first | rfl | (rw [W1]; rfl), HE.out.2.1, HE.out.2.2⟩ | ((try rw [W1]); (repeat apply Exists.intro); exact ⟨⟨i + 1, HE.out.1, rfl, HE.out.2.1, HE.out.2.2⟩, rfl⟩)
              case measure => first | exact meas_lt8 HE.out.1 | (rw [W1]; exact meas_lt8 HE.out.1)
        · have ib : ¬ ((i : Nat) : Int) < (n : Int) := by omega
          have HF : Hid (Rw wr gs n (sc19 f k) ∧ w.heap.size ≤ gs ∧ Below w.heap.size w wr) := ⟨hrw.congr (fun j hj => if_pos (by omega)), by have := HP.out.1.size; have := HP.out; omega, HP.out.1.trans (hb.mono HP.out.1.size)⟩
          clear hrw hb hlt hi
          go_wp2
          go_ret
          exact ⟨gs, rfl, HF.out⟩
end Go.Proofs.YthofhphlfgmklaaGreat
namespace Go.Proofs.YthofhphlfgmklaaGreat
open Go.RowKit Gf2
set_option linter.unusedVariables false

-- layer 19: a survey in memory, times
/-- the parts of a survey that stay: blocks S (the survey), g (the decoder), r, t (the ring), gsc, gbk (scales and their inverses), gt (the list of turns). -/
structure Sv19 (W : World) (S g r t gp gv gsc gbk gt f k n np nm L : Nat) (vP vM : Value) (p q : Nat → Nat) : Prop where
  blk : W.heap[S]? = some (.cells #[.pointer (some ⟨g, 0, none⟩), vP, vM, .slice (some ⟨gsc, 0, none⟩) n n, .slice (some ⟨gbk, 0, none⟩) n n, .int .i64 (L : Int), .slice (some ⟨gt, 0, none⟩) n n] 79 (0, 0))
  de : De19 W g k np p r t gp gv
  pres : Qi W vP np (fun i => ((p i : Nat) : Int))
  miss : Qi W vM nm (fun i => ((q i : Nat) : Int))
  sc : Rw W gsc n (sc19 f k)
  bk : Rw W gbk n (fun i => fi 285 (sc19 f k i))
theorem Sv19.below {W W' : World} {S g r t gp gv gsc gbk gt f k n np nm L : Nat} {vP vM : Value} {p q : Nat → Nat} (h : Sv19 W S g r t gp gv gsc gbk gt f k n np nm L vP vM p q) (hb : Below W.heap.size W W') : Sv19 W' S g r t gp gv gsc gbk gt f k n np nm L vP vM p q :=
  ⟨(hb.block S (Array.getElem?_eq_some_iff.1 h.blk).1).trans h.blk, h.de.below hb, h.pres.below hb, h.miss.below hb, h.sc.of_block (hb.block _ h.sc.lt), h.bk.of_block (hb.block _ h.bk.lt)⟩
theorem Sv19.c0 {W : World} {S g r t gp gv gsc gbk gt f k n np nm L : Nat} {vP vM : Value} {p q : Nat → Nat} (h : Sv19 W S g r t gp gv gsc gbk gt f k n np nm L vP vM p q) : W.cell? ⟨S, 0, none⟩ = some (.pointer (some ⟨g, 0, none⟩)) := by rw [cell_of_row _ _ 0 _ _ _ h.blk]; rfl
theorem Sv19.c1 {W : World} {S g r t gp gv gsc gbk gt f k n np nm L : Nat} {vP vM : Value} {p q : Nat → Nat} (h : Sv19 W S g r t gp gv gsc gbk gt f k n np nm L vP vM p q) : W.cell? ⟨S, 1, none⟩ = some vP := by rw [cell_of_row _ _ 1 _ _ _ h.blk]; rfl
theorem Sv19.c2 {W : World} {S g r t gp gv gsc gbk gt f k n np nm L : Nat} {vP vM : Value} {p q : Nat → Nat} (h : Sv19 W S g r t gp gv gsc gbk gt f k n np nm L vP vM p q) : W.cell? ⟨S, 2, none⟩ = some vM := by rw [cell_of_row _ _ 2 _ _ _ h.blk]; rfl
theorem Sv19.c3 {W : World} {S g r t gp gv gsc gbk gt f k n np nm L : Nat} {vP vM : Value} {p q : Nat → Nat} (h : Sv19 W S g r t gp gv gsc gbk gt f k n np nm L vP vM p q) : W.cell? ⟨S, 3, none⟩ = some (.slice (some ⟨gsc, 0, none⟩) n n) := by rw [cell_of_row _ _ 3 _ _ _ h.blk]; rfl
theorem Sv19.c4 {W : World} {S g r t gp gv gsc gbk gt f k n np nm L : Nat} {vP vM : Value} {p q : Nat → Nat} (h : Sv19 W S g r t gp gv gsc gbk gt f k n np nm L vP vM p q) : W.cell? ⟨S, 4, none⟩ = some (.slice (some ⟨gbk, 0, none⟩) n n) := by rw [cell_of_row _ _ 4 _ _ _ h.blk]; rfl
theorem Sv19.c5 {W : World} {S g r t gp gv gsc gbk gt f k n np nm L : Nat} {vP vM : Value} {p q : Nat → Nat} (h : Sv19 W S g r t gp gv gsc gbk gt f k n np nm L vP vM p q) : W.cell? ⟨S, 5, none⟩ = some (.int .i64 (L : Int)) := by rw [cell_of_row _ _ 5 _ _ _ h.blk]; rfl
theorem Sv19.c6 {W : World} {S g r t gp gv gsc gbk gt f k n np nm L : Nat} {vP vM : Value} {p q : Nat → Nat} (h : Sv19 W S g r t gp gv gsc gbk gt f k n np nm L vP vM p q) : W.cell? ⟨S, 6, none⟩ = some (.slice (some ⟨gt, 0, none⟩) n n) := by rw [cell_of_row _ _ 6 _ _ _ h.blk]; rfl
theorem ax_val19 {a b : Nat} (ha : a < 256) (hb : b < 256) : pe 285 b 2 (fun i => [0, a].getD i 0) = fm 285 a b := by
  show sx 2 _ = _
  have h1 : fp 285 b 1 = b := fld8.fp_one hb
  simp [sx, fld8.zero_fm, h1]
set_option maxHeartbeats 4000000 in
set_option maxRecDepth 100000 in
theorem times19 (S g r t a b : Nat) (w : World) (h0 : w.cell? ⟨S, 0, none⟩ = some (.pointer (some ⟨g, 0, none⟩))) (h1 : w.cell? ⟨g, 0, none⟩ = some (.pointer (some ⟨r, 0, none⟩))) (hr : Rg8 w r t) (ha : a < 256) (hb : b < 256) :
    Calls Tryz.prog 62 #[.pointer (some ⟨S, 0, none⟩), .int .u8 (a : Int), .int .u8 (b : Int)] w fun e w' => e = .returned (.int .u8 (fm 285 a b : Nat)) ∧ Below w.heap.size w w' := by
  have l1 := lit_rw [0, a] w (by intro x hx; simp at hx; omega) (by simp)
  have b1 : Below w.heap.size w (w.alloc (.cells #[.int .u8 0, .int .u8 (a : Int)] 5)) := (Below.refl _ _).alloc (Nat.le_refl _) _
  have c1 : Calls Tryz.prog 49 #[.pointer (some ⟨r, 0, none⟩), .slice (some ⟨w.heap.size, 0, none⟩) 2 2, .int .u8 (b : Int)] (w.alloc (.cells #[.int .u8 0, .int .u8 (a : Int)] 5)) fun e w' => e = .returned (.int .u8 (fm 285 a b : Nat)) ∧ ∃ q, w' = (w.alloc (.cells #[.int .u8 0, .int .u8 (a : Int)] 5)).drewN q := by
    have := eval8 r t b 2 (.slice (some ⟨w.heap.size, 0, none⟩) 2 2) (fun i => [0, a].getD i 0) (w.alloc (.cells #[.int .u8 0, .int .u8 (a : Int)] 5)) (hr.below b1) l1.rb0 (by decide) hb
    rw [ax_val19 ha hb] at this
    exact this
  have HB : Hid (∀ q, Below w.heap.size w ((w.alloc (.cells #[.int .u8 0, .int .u8 (a : Int)] 5)).drewN q)) := fun q => below_drewN b1 q
  clear l1 b1 hr ha hb
  go_enter Tryz.func62, Tryz.ntmps62
  go_wp2_with (go_at_call 49; (with_reducible refine c1.mono ?_); rintro e w9 ⟨rfl, q, rfl⟩; clear c1)
  go_ret
  exact ⟨rfl, HB.out _⟩
end Go.Proofs.YthofhphlfgmklaaGreat
namespace Go.Proofs.YthofhphlfgmklaaGreat
open Go.RowKit Gf2
set_option linter.unusedVariables false

-- layer 19: turn
/-- the turns that were noted so far: the list in block gt; a row for each shard that has one, at or above lo. -/
structure Tn19 (W : World) (gt n L lo : Nat) (tb : Nat → Bool) (B : Nat → Nat) (T : Nat → Nat → Nat) : Prop where
  row : W.rowIs gt 31 n (fun j => if tb j then .slice (some ⟨B j, 0, none⟩) L L else .slice none 0 0)
  rows : ∀ j, j < n → tb j = true → lo ≤ B j ∧ Rw W (B j) L (T j)
  inj : ∀ i j, i < n → j < n → tb i = true → tb j = true → i ≠ j → B i ≠ B j
  lt : gt < lo
  sz : lo ≤ W.heap.size
theorem Tn19.below {W W' : World} {gt n L lo : Nat} {tb : Nat → Bool} {B : Nat → Nat} {T : Nat → Nat → Nat} (h : Tn19 W gt n L lo tb B T) (hb : Below W.heap.size W W') : Tn19 W' gt n L lo tb B T :=
  ⟨h.row.of_block (hb.block _ h.row.lt), fun j hj e => ⟨(h.rows j hj e).1, (h.rows j hj e).2.of_block (hb.block _ (h.rows j hj e).2.lt)⟩, h.inj, h.lt, Nat.le_trans h.sz hb.size⟩
/-- a row of noughts for shard i. -/
theorem Tn19.make {W : World} {gt n L lo i : Nat} {tb : Nat → Bool} {B : Nat → Nat} {T : Nat → Nat → Nat} (h : Tn19 W gt n L lo tb B T) (hi : i < n) (h0 : tb i = false) (hL : L ≤ 140737488351232) :
    Tn19 ((W.alloc (.cells (madeCells #[.int .u8 0] L) 5)).setCell ⟨gt, i, none⟩ (.slice (some ⟨W.heap.size, 0, none⟩) L L)) gt n L lo (fun j => if j = i then true else tb j) (fun j => if j = i then W.heap.size else B j) (fun j => if j = i then (fun _ => 0) else T j) := by
  have r0 := made_rw L (by omega) W
  have b0 : Below W.heap.size W (W.alloc (.cells (madeCells #[.int .u8 0] L) 5)) := (Below.refl _ _).alloc (Nat.le_refl _) _
  obtain ⟨X, hX⟩ : ∃ X, X = W.alloc (.cells (madeCells #[.int .u8 0] L) 5) := ⟨_, rfl⟩
  rw [← hX] at r0 b0 ⊢
  have h1 := h.below b0
  have kp : Kp gt X (X.setCell ⟨gt, i, none⟩ (.slice (some ⟨W.heap.size, 0, none⟩) L L)) := (Kp.refl _ _).setCell _ _
  have hlt : gt < W.heap.size := h.row.lt
  refine ⟨(h1.row.set i _).congr (fun j hj => ?_), fun j hj e => ?_, fun a b ha hb ea eb hab => ?_, h.lt, Nat.le_trans h1.sz kp.size⟩
  · by_cases e : j = i
    · rw [if_pos e]
      simp [e]
    · rw [if_neg e]
      simp [e]
  · by_cases e2 : j = i
    · simp only [if_pos e2]
      exact ⟨h.sz, kp.rw_ r0 (by omega)⟩
    · simp only [if_neg e2] at e ⊢
      have := h1.rows j hj e
      exact ⟨this.1, kp.rw_ this.2 (by have := h.lt; omega)⟩
  · by_cases e1 : a = i
    · have e2 : b ≠ i := fun e => hab (by rw [e1, e])
      simp only [if_pos e1, if_neg e2] at eb ⊢
      have := (h.rows b hb eb).2.lt
      omega
    · by_cases e2 : b = i
      · simp only [if_neg e1, if_pos e2] at ea ⊢
        have := (h.rows a ha ea).2.lt
        omega
      · simp only [if_neg e1, if_neg e2] at ea eb ⊢
        exact h.inj a b ha hb ea eb hab
/-- one byte of a row is written. -/
theorem Tn19.put {W : World} {gt n L lo i y x : Nat} {tb : Nat → Bool} {B : Nat → Nat} {T : Nat → Nat → Nat} (h : Tn19 W gt n L lo tb B T) (hi : i < n) (h1 : tb i = true) (hx : x < 256) :
    Tn19 (W.setCell ⟨B i, y, none⟩ (.int .u8 (x : Nat))) gt n L lo tb B (fun j => if j = i then (fun z => if z = y then x else T i z) else T j) := by
  have kp : Kp (B i) W (W.setCell ⟨B i, y, none⟩ (.int .u8 (x : Nat))) := (Kp.refl _ _).setCell _ _
  have hB := h.rows i hi h1
  refine ⟨h.row.of_block (kp.2 _ h.row.lt (by have := h.lt; omega)), fun j hj e => ?_, h.inj, h.lt, Nat.le_trans h.sz kp.size⟩
  by_cases e2 : j = i
  · subst e2
    simp only [if_true]
    exact ⟨hB.1, hB.2.set y x hx⟩
  · simp only [if_neg e2]
    have := h.rows j hj e
    exact ⟨this.1, kp.rw_ this.2 (h.inj j i hj hi e h1 e2)⟩
end Go.Proofs.YthofhphlfgmklaaGreat
