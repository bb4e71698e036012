import Derived.Test.YtfhgamaakkoplaaMvbc
import Derived.Deep.LoopGhost
import Derived.Test.YtfhgamaakkoplaaMval
namespace Go.Proofs.Ytfhgamaakkoplaa
open Go.RowKit Gf2
set_option linter.unusedVariables false

-- layer 4: Partial's round
/-- two links laid. -/
def st6 (W : World) (ba bb : Nat) (x0 x1 x2 y0 y1 y2 : Value) : World := (((((W.setCell ⟨ba, 0, none⟩ x0).setCell ⟨ba, 1, none⟩ x1).setCell ⟨ba, 2, none⟩ x2).setCell ⟨bb, 0, none⟩ y0).setCell ⟨bb, 1, none⟩ y1).setCell ⟨bb, 2, none⟩ y2
theorem pt_b {w W : World} {r t ba bb n d nb : Nat} {V R : Nat → Nat} {vma vua vva vmb vub vvb : Value} (h : Pt8 w W r t ba bb n d V R vma vua vva vmb vub vvb nb) (hn : n ≤ 256) (hd : d + 1 ≤ nb) :
    Calls Try.prog 51 #[.pointer (some ⟨r, 0, none⟩), .agg #[vma, vua, vva], .agg #[vmb, vub, vvb]] W.drew fun e W1 => ∃ xm xu xv, e = .returned (.agg #[xm, xu, xv]) ∧
      W1.heap[ba]? = some (.cells #[vma, vua, vva] 96 (0, 0)) ∧ W1.heap[bb]? = some (.cells #[vmb, vub, vvb] 96 (0, 0)) ∧
      ∃ nb', nb' < nb ∧ Pt8 w (st6 W1 ba bb vmb vub vvb xm xu xv) r t ba bb n d V R vmb vub vvb xm xu xv nb' := by
  obtain ⟨na, lua, lva, lub, lvb, a, ua, va, b, ub, vb, A, pa1, pa2, pa3, pb1, pb2, pb3, eu, hA, d1, d2⟩ := h.ex
  have b1 : na ≤ A + 1 := pa1.len eu.ta.1
  have b2 : nb ≤ A := pb1.len eu.db
  have b3 : lua ≤ n - A + 1 := pa2.len d1
  have b4 : lub ≤ n - A + 1 := pb2.len d2
  have b5 : lva ≤ n - A + 1 := pa3.len eu.dva
  have b6 : lvb ≤ n - A + 1 := pb3.len eu.dvb
  have bA := eu.an
  refine (behind8 r t na nb lua lub lva lvb vma vua vva vmb vub vvb a ua va b ub vb W.drew (h.rg.drewN 1) (pa1.drewN 1) (pa2.drewN 1) (pa3.drewN 1) (pb1.drewN 1) (pb2.drewN 1) (pb3.drewN 1) (by omega) (by omega) (by omega) (by omega) (by omega) (by omega) (by omega)).mono ?_
  rintro e W1 ⟨xm, xu, xv, rfl, hB⟩
  obtain ⟨lm, lu, lv, Q, M, q1, q2, q3, q4, q5, q6, q7⟩ := hB.ex
  have bel1 : Below W.heap.size W W1 := (below_drewN (Below.refl _ _) 1).trans hB.bel
  have ra1 := (bel1.block ba (Array.getElem?_eq_some_iff.1 h.ra).1).trans h.ra
  have rb1 := (bel1.block bb (Array.getElem?_eq_some_iff.1 h.rb).1).trans h.rb
  refine ⟨xm, xu, xv, rfl, ra1, rb1, lm, by have := q1.len q6; omega, ?_⟩
  obtain ⟨s0, c0, rfl, -⟩ := rb_slice8 pa1.rb
  obtain ⟨s1, c1, rfl, -⟩ := rb_slice8 pa2.rb
  obtain ⟨s2, c2, rfl, -⟩ := rb_slice8 pa3.rb
  obtain ⟨s3, c3, rfl, -⟩ := rb_slice8 pb1.rb
  obtain ⟨s4, c4, rfl, -⟩ := rb_slice8 pb2.rb
  obtain ⟨s5, c5, rfl, -⟩ := rb_slice8 pb3.rb
  obtain ⟨s6, c6, rfl, -⟩ := rb_slice8 q1.rb
  obtain ⟨s7, c7, rfl, -⟩ := rb_slice8 q2.rb
  obtain ⟨s8, c8, rfl, -⟩ := rb_slice8 q3.rb
  obtain ⟨X, hX⟩ : ∃ X, X = ((W1.setCell ⟨ba, 0, none⟩ (.slice s3 nb c3)).setCell ⟨ba, 1, none⟩ (.slice s4 lub c4)).setCell ⟨ba, 2, none⟩ (.slice s5 lvb c5) := ⟨_, rfl⟩
  have kX : Kp ba W1 X := by rw [hX]; exact (((Kp.refl _ _).setCell _ _).setCell _ _).setCell _ _
  have raX : X.heap[ba]? = some (.cells #[.slice s3 nb c3, .slice s4 lub c4, .slice s5 lvb c5] 96 (0, 0)) := by rw [hX]; exact set3_8 _ _ _ ra1
  have rbX : X.heap[bb]? = some (.cells #[.slice s3 nb c3, .slice s4 lub c4, .slice s5 lvb c5] 96 (0, 0)) := (kX.2 bb (Array.getElem?_eq_some_iff.1 rb1).1 (fun e => h.ne e.symm)).trans rb1
  obtain ⟨Y, hY⟩ : ∃ Y, Y = ((X.setCell ⟨bb, 0, none⟩ (.slice s6 lm c6)).setCell ⟨bb, 1, none⟩ (.slice s7 lu c7)).setCell ⟨bb, 2, none⟩ (.slice s8 lv c8) := ⟨_, rfl⟩
  have kY : Kp bb X Y := by rw [hY]; exact (((Kp.refl _ _).setCell _ _).setCell _ _).setCell _ _
  have rbY : Y.heap[bb]? = some (.cells #[.slice s6 lm c6, .slice s7 lu c7, .slice s8 lv c8] 96 (0, 0)) := by rw [hY]; exact set3_8 _ _ _ rbX
  have raY := (kY.2 ba (Array.getElem?_eq_some_iff.1 raX).1 h.ne).trans raX
  have e6 : st6 W1 ba bb (.slice s3 nb c3) (.slice s4 lub c4) (.slice s5 lvb c5) (.slice s6 lm c6) (.slice s7 lu c7) (.slice s8 lv c8) = Y := by unfold st6; rw [hY, hX]
  rw [e6]
  have bw1 : Below w.heap.size w W1 := h.bel.trans (bel1.mono h.bel.size)
  have bwX : Below w.heap.size w X := bw1.trans (kX.below h.la bw1.size)
  have bwY : Below w.heap.size w Y := bwX.trans (kY.below h.lb bwX.size)
  have up : ∀ {v : Value} {l : Nat} {f : Nat → Nat}, Pl8 W1 v l f → Pl8 Y v l f := fun p => (p.link8 kX ra1).link8 kY rbX
  have tb : Tp b (nb - 1) := ⟨by rw [show nb - 1 + 1 = nb by omega]; exact pb1.dg, pb1.top.resolve_left (by omega)⟩
  have dq : Dg Q (A - (nb - 1) + 1) := q7.mono (by omega)
  refine ⟨raY, rbY, h.ne, h.la, h.lb, h.rw_.below bwY, h.rw_, bwY, nb, lub, lvb, lu, lv, b, ub, vb, M, pa ua (pm 285 Q ub), pa va (pm 285 Q vb), nb - 1, up (pb1.below bel1), up (pb2.below bel1), up (pb3.below bel1), up q1, up q2, up q3, fld8.euc_step eu tb q4 dq ⟨q1.el, _, q1.dg⟩ q6 q5, by omega, d2.mono (by omega), ?_⟩
  exact (d1.mono (by omega)).pa ((fld8.dg_pm dq d2).mono (by omega))
theorem pt_sl {w W : World} {r t ba bb n d nb : Nat} {V R : Nat → Nat} {vma vua vva vmb vub vvb : Value} (h : Pt8 w W r t ba bb n d V R vma vua vva vmb vub vvb nb) : (∃ a l c, vma = .slice a l c) ∧ (∃ a l c, vua = .slice a l c) ∧ (∃ a l c, vva = .slice a l c) ∧ (∃ a l c, vmb = .slice a l c) ∧ (∃ a l c, vub = .slice a l c) ∧ ∃ a l c, vvb = .slice a l c := by
  obtain ⟨na, lua, lva, lub, lvb, a, ua, va, b, ub, vb, A, pa1, pa2, pa3, pb1, pb2, pb3, eu, hA, d1, d2⟩ := h.ex
  have f : ∀ {v : Value} {l : Nat} {f : Nat → Nat}, Pl8 W v l f → ∃ a l c, v = .slice a l c := fun p => by
    obtain ⟨a, c, e, -⟩ := rb_slice8 p.rb
    exact ⟨a, _, c, e⟩
  exact ⟨f pa1, f pa2, f pa3, f pb1, f pb2, f pb3⟩
/-- what Partial answers. -/
structure Pr8 (w w' : World) (xm xv : Value) (n d : Nat) (V R : Nat → Nat) : Prop where
  ex : ∃ lm lv a ua va b ub vb A, Euc 285 8 n V R a ua va b ub vb A ∧ d ≤ A ∧ Dg b d ∧ Pl8 w' xm lm b ∧ Pl8 w' xv lv vb
  bel : Below w.heap.size w w'
set_option maxHeartbeats 8000000 in
set_option maxRecDepth 100000 in
theorem partial_8 (r t n lu d : Nat) (v u : Value) (V R : Nat → Nat) (w : World) (hr : Rg8 w r t) (hV : Pl8 w v (n + 1) V) (tV : Tp V n) (hR : Pl8 w u lu R) (dR : Dg R n) (hn : n ≤ 256) (hd : d ≤ n) :
    Calls Try.prog 29 #[.pointer (some ⟨r, 0, none⟩), v, u, .int .i64 (d : Int)] w fun e w' => ∃ xm xu xv, e = .returned (.tuple #[xm, xu, xv, .int .i64 0]) ∧ Pr8 w w' xm xv n d V R := by
  have c1 := unfit8 r t (n + 1) lu v u w hr (by obtain ⟨a, c, e, -⟩ := rb_slice8 hV.rb; exact ⟨a, c, e⟩) (by obtain ⟨a, c, e, -⟩ := rb_slice8 hR.rb; exact ⟨a, c, e⟩) (by omega) (by have := hR.len dR; omega)
  have c2 := pt_a (d := d) hr hV tV hR dR hn hd
  have i0 : ¬ ((d : Nat) : Int) < 0 := by omega
  have i1 : ¬ ((n : Nat) : Int) < ((d : Nat) : Int) := by omega
  have i1n : ¬ n < d := by omega
  have HN : Hid (n ≤ 256 ∧ d ≤ n ∧ lu ≤ n) := ⟨hn, hd, hR.len dR⟩
  clear hr hV tV hR dR hn hd
  go_enter Try.func29, Try.ntmps29
  go_wp2_with (first
    | (go_at_call 45; (with_reducible refine c1.mono ?_); rintro e w9 ⟨rfl, hw9⟩; have hw9 := hw9.symm; subst hw9; clear c1)
    | (go_at_call 50; first
      | ((with_reducible refine c2.mono ?_); rintro e W1 ⟨rfl, c3⟩; clear c2)
      | ((with_reducible refine c4.mono ?_); rintro e W3 ⟨rfl, c5⟩; clear c4))
    | (go_at_call 49; first
      | ((with_reducible refine c3.mono ?_); rintro e W2 ⟨g1, rfl, c4⟩; clear c3)
      | ((with_reducible refine c5.mono ?_); rintro e W4 ⟨g2, rfl, y0, c6⟩; clear c5))
    | (go_at_call 48; (with_reducible refine c6.mono ?_); rintro e W5 ⟨rfl, hP⟩; clear c6))
  obtain ⟨ba, hba⟩ : ∃ ba, Hid (W2.heap.size + 1 = ba) := ⟨_, rfl⟩
  obtain ⟨bb, hbb⟩ : ∃ bb, Hid (W4.heap.size + 1 = bb) := ⟨_, rfl⟩
  rw [hba.out, hbb.out] at hP
  rw [hba.out, hbb.out]
  have HP0 : Hid _ := hP
  clear hP y0 i0 hba hbb
  go_loopg [] n (fun g wr => ∃ vma vua vva vmb vub vvb nb, nb ≤ g ∧ Pt8 w wr r t ba bb n d V R vma vua vva vmb vub vvb nb)
  case atStart => exact ⟨_, _, _, _, _, _, _, HN.out.2.2, HP0.out⟩
  case round =>
    obtain ⟨vma, vua, vva, vmb, vub, vvb, nb, hnb, hP⟩ := hrel
    clear HP0
    have z0 : wr.cell? ⟨bb, 0, none⟩ = some vmb := by rw [cell_of_row _ _ 0 _ _ _ hP.rb]; rfl
    have z1 : wr.cell? ⟨bb, 1, none⟩ = some vub := by rw [cell_of_row _ _ 1 _ _ _ hP.rb]; rfl
    have z2 : wr.cell? ⟨bb, 2, none⟩ = some vvb := by rw [cell_of_row _ _ 2 _ _ _ hP.rb]; rfl
    have c7 : Calls Try.prog 48 #[vmb] wr fun e w' => e = .returned (.int .i64 ((nb : Int) - 1)) ∧ ∃ q, w' = wr.drewN q := by
      obtain ⟨na, lua, lva, lub, lvb, a, ua, va, b, ub, vb, A, pa1, pa2, pa3, pb1, pb2, pb3, eu, hA, d1, d2⟩ := hP.ex
      exact (degree8 vmb nb b wr pb1.rb (by have := pb1.len eu.db; have := eu.an; have := HN.out; omega)).mono fun e w' ⟨dd, he, hz, hq⟩ => ⟨by rw [he, hz.all pb1.top], hq⟩
    by_cases hgo : d + 1 ≤ nb
    · have hsl : (∃ a l c, vma = .slice a l c) ∧ (∃ a l c, vua = .slice a l c) ∧ (∃ a l c, vva = .slice a l c) ∧ (∃ a l c, vmb = .slice a l c) ∧ (∃ a l c, vub = .slice a l c) ∧ ∃ a l c, vvb = .slice a l c := pt_sl hP
      obtain ⟨⟨s0, l0, k0, rfl⟩, ⟨s1, l1, k1, rfl⟩, ⟨s2, l2, k2, rfl⟩, ⟨s3, l3, k3, rfl⟩, ⟨s4, l4, k4, rfl⟩, ⟨s5, l5, k5, rfl⟩⟩ := hsl
      have ig : ((d : Nat) : Int) ≤ ((nb : Nat) : Int) - 1 := by omega
      have HPq : Hid (∀ q, Pt8 w (wr.drewN q) r t ba bb n d V R (.slice s0 l0 k0) (.slice s1 l1 k1) (.slice s2 l2 k2) (.slice s3 l3 k3) (.slice s4 l4 k4) (.slice s5 l5 k5) nb) := fun q => ⟨hP.ra, hP.rb, hP.ne, hP.la, hP.lb, hP.rg.drewN q, hP.rw_, below_drewN hP.bel q, by
        obtain ⟨na, lua, lva, lub, lvb, a, ua, va, b, ub, vb, A, pa1, pa2, pa3, pb1, pb2, pb3, eu, hA, d1, d2⟩ := hP.ex
        exact ⟨na, lua, lva, lub, lvb, a, ua, va, b, ub, vb, A, pa1.drewN q, pa2.drewN q, pa3.drewN q, pb1.drewN q, pb2.drewN q, pb3.drewN q, eu, hA, d1, d2⟩⟩
      have c8 := fun q => pt_b (HPq.out q) HN.out.1 hgo
      have x0 : wr.cell? ⟨ba, 0, none⟩ = some (.slice s0 l0 k0) := by rw [cell_of_row _ _ 0 _ _ _ hP.ra]; rfl
      have x1 : wr.cell? ⟨ba, 1, none⟩ = some (.slice s1 l1 k1) := by rw [cell_of_row _ _ 1 _ _ _ hP.ra]; rfl
      have x2 : wr.cell? ⟨ba, 2, none⟩ = some (.slice s2 l2 k2) := by rw [cell_of_row _ _ 2 _ _ _ hP.ra]; rfl
      have ne1 : ba ≠ bb := hP.ne
      have ne2 : bb ≠ ba := fun e => hP.ne e.symm
      have HG : Hid (nb ≤ gk ∧ d + 1 ≤ nb) := ⟨hnb, hgo⟩
      clear hP HPq hnb hgo
      go_wp2_with (go_at_call 48; (with_reducible refine c7.mono ?_); rintro e w9 ⟨rfl, q7, rfl⟩; clear c7)
      refine region_planJ (fun w' => w'.cell? ⟨ba, 0, none⟩ = some (.slice s0 l0 k0) ∧ w'.cell? ⟨ba, 1, none⟩ = some (.slice s1 l1 k1) ∧ w'.cell? ⟨ba, 2, none⟩ = some (.slice s2 l2 k2) ∧ w'.cell? ⟨bb, 0, none⟩ = some (.slice s3 l3 k3) ∧ w'.cell? ⟨bb, 1, none⟩ = some (.slice s4 l4 k4) ∧ w'.cell? ⟨bb, 2, none⟩ = some (.slice s5 l5 k5)) 5 [4, 0] 60 ⟨x0, x1, x2, z0, z1, z2⟩ (by kernel_rfl) (by kernel_rfl) (fun _ a d v _ h => by cases d <;> exact h) ?_
      refine planT_step ?A1 rfl (fun w' hS => ?s1) rfl (fun K hK => ?n1)
      case s1 =>
        obtain ⟨u0, u1, u2, u3, u4, u5⟩ := hS
        simp only [List.take_succ_cons, List.take_zero]
        repeat still_step
        exact rfl
      case n1 =>
      go_simp
      go_wp2_with (go_at_call 51; refine Calls.mono (c8 q7) ?_; rintro e W9 ⟨xm, xu, xv, rfl, rA, rB, nb', hlt', hP'⟩; clear c8)
      obtain ⟨-, -, -, ⟨s6, l6, k6, rfl⟩, ⟨s7, l7, k7, rfl⟩, ⟨s8, l8, k8, rfl⟩⟩ := pt_sl hP'
      have y0 : W9.cell? ⟨ba, 0, none⟩ = some (.slice s0 l0 k0) := by rw [cell_of_row _ _ 0 _ _ _ rA]; rfl
      have y1 : W9.cell? ⟨ba, 1, none⟩ = some (.slice s1 l1 k1) := by rw [cell_of_row _ _ 1 _ _ _ rA]; rfl
      have y2 : W9.cell? ⟨ba, 2, none⟩ = some (.slice s2 l2 k2) := by rw [cell_of_row _ _ 2 _ _ _ rA]; rfl
      have y3 : W9.cell? ⟨bb, 0, none⟩ = some (.slice s3 l3 k3) := by rw [cell_of_row _ _ 0 _ _ _ rB]; rfl
      have y4 : W9.cell? ⟨bb, 1, none⟩ = some (.slice s4 l4 k4) := by rw [cell_of_row _ _ 1 _ _ _ rB]; rfl
      have y5 : W9.cell? ⟨bb, 2, none⟩ = some (.slice s5 l5 k5) := by rw [cell_of_row _ _ 2 _ _ _ rB]; rfl
      have f0 := frozen_of_row W9 ba 0 _ _ rA
      have f1 := frozen_of_row W9 ba 1 _ _ rA
      have f2 := frozen_of_row W9 ba 2 _ _ rA
      have f3 := frozen_of_row W9 bb 0 _ _ rB
      have f4 := frozen_of_row W9 bb 1 _ _ rB
      have f5 := frozen_of_row W9 bb 2 _ _ rB
      unfold st6 at hP'
      have HP' : Hid _ := hP'
      have HL : Hid (nb' < gk) := by show nb' < gk; have := HG.out; omega
      refine hK _ _ ⟨y0, y1, y2, y3, y4, y5⟩ ?_
      clear hK K hP' rA rB hlt' x0 x1 x2 z0 z1 z2
      refine planT_last ?A2 rfl (fun w' hS => ?s2) rfl ?n2
      case s2 =>
        simp only [List.take_zero]
        exact rfl
      case n2 =>
      simp only [List.drop_succ_cons, List.drop_zero]
      go_wp2
      go_roundg nb'
      case measure => exact HL.out
      case rel => first | exact ⟨_, _, _, _, _, _, nb', Nat.le_refl _, HP'.out⟩ | ((repeat apply Exists.intro); exact ⟨⟨_, _, _, _, _, _, nb', Nat.le_refl _, HP'.out⟩, rfl⟩)
    · have ig : ¬ ((d : Nat) : Int) ≤ ((nb : Nat) : Int) - 1 := by omega
      have HF : Hid (∀ q, Pr8 w (wr.drewN q) vmb vvb n d V R) := fun q => by
        obtain ⟨na, lua, lva, lub, lvb, a, ua, va, b, ub, vb, A, pa1, pa2, pa3, pb1, pb2, pb3, eu, hA, d1, d2⟩ := hP.ex
        exact ⟨⟨nb, lvb, a, ua, va, b, ub, vb, A, eu, hA, pb1.dg.mono (by omega), pb1.drewN q, pb3.drewN q⟩, below_drewN hP.bel q⟩
      clear hP hnb hgo
      go_wp2_with (go_at_call 48; (with_reducible refine c7.mono ?_); rintro e w9 ⟨rfl, q7, rfl⟩; clear c7)
      go_quiet (fail)
      go_wp2
      refine bodyPost_ret (results_tmp4p rfl _ _ _) rfl ?_
      exact ⟨_, _, _, rfl, by rw [World.drewN_drewN]; exact HF.out _⟩
end Go.Proofs.Ytfhgamaakkoplaa
namespace Go.Proofs.Ytfhgamaakkoplaa
open Go.RowKit Gf2
set_option linter.unusedVariables false

-- layer 19: what a column must be
theorem wrapS19 {n k e : Nat} (h : n = k + e) (hn : n ≤ 100000) : wrap64 (((n : Nat) : Int) - ((k : Nat) : Int)) = ((e : Nat) : Int) := by unfold wrap64; omega
theorem u8s19 {r : Nat} (h : r < 256) : IntKind.u8.wrap ((r : Nat) : Int) = ((r : Nat) : Int) := by unfold IntKind.wrap; simp [IntKind.bits, IntKind.signed]; omega
set_option maxHeartbeats 2000000 in
set_option maxRecDepth 100000 in
theorem radius19 (k n : Nat) (w : World) (h1 : 1 ≤ k) (h2 : k ≤ n) (h3 : n ≤ 256) :
    Calls Try.prog 9 #[.int .i64 (k : Int), .int .i64 (n : Int)] w fun e w' => e = .returned (.tuple #[.int .i64 (((n - k) / 2 : Nat) : Int), .int .i64 0]) ∧ w' = w := by
  have i1 : ¬ ((k : Nat) : Int) < 1 := by omega
  have i2 : ¬ (256 : Int) < ((k : Nat) : Int) := by omega
  have i3 : ¬ (256 : Int) < ((n : Nat) : Int) := by omega
  have i4 : ¬ ((n : Nat) : Int) < ((k : Nat) : Int) := by omega
  have i4n : ¬ n < k := by omega
  obtain ⟨h, hh⟩ : ∃ h, h = (n - k) / 2 := ⟨_, rfl⟩
  rw [← hh]
  have HE : Hid (((h : Nat) : Int) = (((n : Nat) : Int) - ((k : Nat) : Int)) / 2) := by show _ = _; omega
  have W0 : wrap64 (((n : Nat) : Int) - ((k : Nat) : Int)) = ((n : Nat) : Int) - ((k : Nat) : Int) := by unfold wrap64; omega
  clear h1 h2 h3 hh
  go_enter Try.func9, Try.ntmps9
  go_wp2
  go_ret2
  exact ⟨by rw [HE.out]; rfl, rfl⟩
set_option maxHeartbeats 2000000 in
set_option maxRecDepth 100000 in
theorem isPoints19 (v : Value) (n : Nat) (p : Nat → Nat) (w : World) (h : Qi w v n (fun i => (p i : Int))) (hn : n ≤ 256) (hp : ∀ i, i < n → p i < 256) (up : Up8 n p) :
    Calls Try.prog 24 #[v] w fun e w' => e = .returned (.bool true) ∧ w' = w := by
  obtain ⟨-, -, a, cap, rfl, -, -, h4⟩ := h
  go_enter Try.func24, Try.ntmps24
  go_wp2
  go_loopw [3, 8] (fun l s wr => ∃ (i : Nat) (z : Int), i ≤ n ∧ s = .int .i64 (i : Int) ∧ l = .int .i64 z ∧ (i < n → z < (p i : Int)) ∧ wr = w) (fun _ s _ => n - (intOf s).toNat)
  case atStart => exact ⟨0, -1, Nat.zero_le _, rfl, rfl, fun _ => by omega, rfl⟩
  case round =>
    obtain ⟨i, z, hi, rfl, rfl, hz, hw⟩ := hrel
    have hw := hw.symm
    subst hw
    by_cases hlt : i < n
    · obtain ⟨b, o, rfl, -, hc⟩ := h4 (by omega)
      have q1 := hc i hlt
      have ib : ((i : Nat) : Int) < (n : Int) := Int.ofNat_lt.2 hlt
      have z1 : ¬ ((p i : Nat) : Int) ≤ z := by have := hz hlt; omega
      have z2 : ¬ (256 : Int) ≤ ((p i : Nat) : Int) := by have := hp i hlt; omega
      have z2n : ¬ 256 ≤ p i := by have := hp i hlt; omega
      have W1 := wrap_lt8 (j := i) (b := n) hlt (by omega)
      have HX : Hid (i < n ∧ (i + 1 < n → ((p i : Nat) : Int) < ((p (i + 1) : Nat) : Int))) := ⟨hlt, fun h => by have := up i (i + 1) (by omega) h; omega⟩
      generalize p i = y at q1 z1 z2 z2n HX
      clear hc h4 hn hp up hlt hi hz
      go_wp2
      go_roundw
      case rel => exact ⟨i + 1, _, HX.out.1, by first | rfl | (rw [W1]; rfl), rfl, HX.out.2, by trivial⟩
      case measure => first | exact meas_lt8 HX.out.1 | (rw [W1]; exact meas_lt8 HX.out.1)
    · obtain rfl : i = n := by omega
      have ib : ¬ ((i : Nat) : Int) < (i : Int) := by omega
      clear h4 hp up hz
      go_wp2
      go_ret
      exact ⟨rfl, rfl⟩
set_option maxHeartbeats 2000000 in
set_option maxRecDepth 100000 in
theorem unfit19 (v u : Value) (k n : Nat) (p : Nat → Nat) (w : World) (h : Qi w v n (fun i => (p i : Int))) (hu : ∃ a c, u = .slice a n c) (h1 : 1 ≤ k) (h2 : k ≤ n) (hn : n ≤ 256) (hp : ∀ i, i < n → p i < 256) (up : Up8 n p) :
    Calls Try.prog 14 #[.int .i64 (k : Int), v, u] w fun e w' => e = .returned (.int .i64 0) ∧ w' = w := by
  have c1 := radius19 k n w h1 h2 hn
  have c2 := isPoints19 v n p w h hn hp up
  obtain ⟨a', c', rfl⟩ := hu
  obtain ⟨-, -, a, cap, rfl, -, -, h4⟩ := h
  clear h4 hp up h1 h2 hn
  go_enter Try.func14, Try.ntmps14
  go_wp2_with (first
    | (go_at_call 9; (with_reducible refine c1.mono ?_); rintro e w9 ⟨rfl, hw9⟩; have hw9 := hw9.symm; subst hw9; clear c1)
    | (go_at_call 24; (with_reducible refine c2.mono ?_); rintro e w9 ⟨rfl, hw9⟩; have hw9 := hw9.symm; subst hw9; clear c2))
  go_ret
  exact ⟨rfl, rfl⟩
set_option maxHeartbeats 2000000 in
set_option maxRecDepth 100000 in
theorem elements19 (v : Value) (n : Nat) (p : Nat → Nat) (w : World) (h : Qi w v n (fun i => (p i : Int))) (hn : n ≤ 256) (hp : ∀ i, i < n → p i < 256) :
    Calls Try.prog 26 #[v] w fun e w' => e = .returned (.slice (some ⟨w.heap.size, 0, none⟩) n n) ∧ Rw w' w.heap.size n p ∧ Below w.heap.size w w' := by
  have hmk := make_u8 n (by omega)
  have r0 := made_rw n (by omega) w
  have b0 : Below w.heap.size w (w.alloc (.cells (madeCells #[.int .u8 0] n) 5)) := (Below.refl _ _).alloc (Nat.le_refl _) _
  have hq := h.below b0
  obtain ⟨-, -, a, cap, rfl, -, -, -⟩ := h
  obtain ⟨w3, hw3⟩ : ∃ w3, Hid (w.alloc (.cells (madeCells #[.int .u8 0] n) 5) = w3) := ⟨_, rfl⟩
  rw [hw3.out] at r0 b0 hq
  have h4 : 0 < n → ∃ b o, a = some ⟨b, o, none⟩ ∧ b < w3.heap.size ∧ ∀ i, i < n → w3.cell? ⟨b, o + i, none⟩ = some (.int .i64 (p i : Int)) := by
    obtain ⟨-, -, a', c', e, -, -, h4⟩ := hq
    cases e
    exact h4
  obtain ⟨g, hg⟩ : ∃ g, Hid (w.heap.size = g) := ⟨_, rfl⟩
  rw [hg.out] at r0
  have hne : ∀ b o, a = some ⟨b, o, none⟩ → 0 < n → b ≠ g := fun b o e h0 eb => by
    obtain ⟨b', o', e', -, hc⟩ := h4 h0
    rw [e] at e'
    cases e'
    subst eb
    have z := hc 0 h0
    by_cases ho : o < n
    · have y := r0.2.2.cell ho
      rw [show o + 0 = o from rfl] at z
      rw [y] at z
      cases z
    · obtain ⟨A, hA, hs, -⟩ := r0.2.2
      rw [cell_of_row _ _ (o + 0) _ _ _ hA, Array.getElem?_eq_none (by omega)] at z
      cases z
  have HB : Hid (Below w.heap.size w w3 ∧ w.heap.size = g ∧ n ≤ 256) := ⟨b0, hg.out, hn⟩
  clear b0 hq hn
  go_enter Try.func26, Try.ntmps26
  go_wp2
  rw [hw3.out, hg.out]
  clear hw3 hmk
  go_loopw [11] (fun s wr => ∃ i : Nat, i ≤ n ∧ s = .int .i64 (i : Int) ∧ Kp g w3 wr ∧ Rw wr g n (fun j => if j < i then p j else 0)) (fun s _ => n - (intOf s).toNat)
  case atStart => exact ⟨0, Nat.zero_le _, rfl, Kp.refl _ _, r0.congr (fun j _ => (if_neg (Nat.not_lt_zero _)).symm)⟩
  case round =>
    obtain ⟨i, hi, rfl, hkp, hrw⟩ := hrel
    clear r0
    by_cases hlt : i < n
    · obtain ⟨b, o, rfl, hbl, hc⟩ := h4 (by omega)
      have hbg := hne b o rfl (by omega)
      have q1 : wr.cell? ⟨b, o + i, none⟩ = some (.int .i64 (p i : Int)) := (hkp.cell (q := o + i) hbl hbg).trans (hc i hlt)
      have q2 := hrw.2.2.cell hlt
      have q3 := hrw.2.2.frozen i
      have U8 : IntKind.u8.wrap ((p i : Nat) : Int) = ((p i : Nat) : Int) := u8s19 (hp i hlt)
      have HC : Hid (i < n ∧ Kp g w3 (wr.setCell ⟨g, i, none⟩ (.int .u8 (p i : Nat))) ∧ Rw (wr.setCell ⟨g, i, none⟩ (.int .u8 (p i : Nat))) g n (fun j => if j < i + 1 then p j else 0)) := ⟨hlt, hkp.setCell _ _, (hrw.set i (p i) (hp i hlt)).congr (fun j _ => by
        by_cases e : j = i
        · rw [if_pos e, if_pos (by omega), e]
        · rw [if_neg e]
          by_cases e2 : j < i
          · rw [if_pos e2, if_pos (by omega)]
          · rw [if_neg e2, if_neg (by omega)])⟩
      have ib : ((i : Nat) : Int) < (n : Int) := Int.ofNat_lt.2 hlt
      have W1 := wrap_lt8 (j := i) (b := n) hlt (by have := HB.out; omega)
      generalize p i = y at q1 U8 HC
      clear hrw hkp hc hbl hbg hlt hi h4 hne
      go_wp2
      go_roundw
      case rel => first | exact ⟨i + 1, HC.out.1, by first | rfl | (rw [W1]; rfl), HC.out.2.1, HC.out.2.2⟩ | ((try rw [W1]); (repeat apply Exists.intro); exact ⟨⟨i + 1, HC.out.1, rfl, HC.out.2.1, HC.out.2.2⟩, rfl⟩)
      case measure => first | exact meas_lt8 HC.out.1 | (rw [W1]; exact meas_lt8 HC.out.1)
    · obtain rfl : i = n := by omega
      have ib : ¬ ((i : Nat) : Int) < (i : Int) := by omega
      have HF : Hid (Rw wr g i p ∧ Below w.heap.size w wr) := ⟨hrw.congr (fun j hj => if_pos hj), HB.out.1.trans (hkp.below (by have := HB.out; omega) HB.out.1.size)⟩
      clear hrw hkp hlt hi h4 hne
      go_wp2
      go_ret
      rw [HB.out.2.1]
      exact ⟨rfl, HF.out.1, by have := HF.out.2; rw [HB.out.2.1] at this; exact this⟩
end Go.Proofs.Ytfhgamaakkoplaa
namespace Go.Proofs.Ytfhgamaakkoplaa
open Go.RowKit Gf2
set_option linter.unusedVariables false

-- layer 19: the decoder
/-- a decoder in block g: its ring, points p (n of them), k, radius and the product of all X + p i. -/
structure De19 (W : World) (g k n : Nat) (p : Nat → Nat) (r t gp gv : Nat) : Prop where
  blk : W.heap[g]? = some (.cells #[.pointer (some ⟨r, 0, none⟩), .slice (some ⟨gp, 0, none⟩) n n, .int .i64 (k : Int), .int .i64 (((n - k) / 2 : Nat) : Int), .slice (some ⟨gv, 0, none⟩) (n + 1) (n + 1)] 66 (0, 0))
  rg : Rg8 W r t
  pts : Rb W (.slice (some ⟨gp, 0, none⟩) n n) n p
  van : Pl8 W (.slice (some ⟨gv, 0, none⟩) (n + 1) (n + 1)) (n + 1) (pv 285 p n)
theorem De19.below {W W' : World} {g k n r t gp gv : Nat} {p : Nat → Nat} (h : De19 W g k n p r t gp gv) (hb : Below W.heap.size W W') : De19 W' g k n p r t gp gv :=
  ⟨(hb.block g (Array.getElem?_eq_some_iff.1 h.blk).1).trans h.blk, h.rg.below hb, h.pts.below hb, h.van.below hb⟩
theorem nd_a {w : World} {v : Value} {k n : Nat} {p : Nat → Nat} (h : Qi w v n (fun i => (p i : Int))) (hn : n ≤ 256) (hp : ∀ i, i < n → p i < 256) :
    Calls Try.prog 25 #[] w fun e W1 => ∃ r, e = .returned (.pointer (some ⟨r, 0, none⟩)) ∧
    Calls Try.prog 26 #[v] W1 fun e W2 => ∃ gp, e = .returned (.slice (some ⟨gp, 0, none⟩) n n) ∧
    ∃ W3, W3 = W2.alloc (.cells #[.pointer (some ⟨r, 0, none⟩), .slice (some ⟨gp, 0, none⟩) n n, .int .i64 (k : Int), .int .i64 (((n - k) / 2 : Nat) : Int), .slice none 0 0] 66) ∧
    Calls Try.prog 27 #[.pointer (some ⟨r, 0, none⟩), .slice (some ⟨gp, 0, none⟩) n n] W3.drew fun e W4 => ∃ gv, e = .returned (.tuple #[.slice (some ⟨gv, 0, none⟩) (n + 1) (n + 1), .int .i64 0]) ∧
      W4.heap[W2.heap.size]? = some (.cells #[.pointer (some ⟨r, 0, none⟩), .slice (some ⟨gp, 0, none⟩) n n, .int .i64 (k : Int), .int .i64 (((n - k) / 2 : Nat) : Int), .slice none 0 0] 66 (0, 0)) ∧
      (∃ t, De19 (W4.setCell ⟨W2.heap.size, 4, none⟩ (.slice (some ⟨gv, 0, none⟩) (n + 1) (n + 1))) W2.heap.size k n p r t gp gv) ∧ w.heap.size ≤ W2.heap.size ∧ Below w.heap.size w (W4.setCell ⟨W2.heap.size, 4, none⟩ (.slice (some ⟨gv, 0, none⟩) (n + 1) (n + 1))) := by
  refine (over8 w).mono ?_
  rintro e W1 ⟨r, t, rfl, hr, -, b1⟩
  refine ⟨r, rfl, (elements19 v n p W1 (h.below b1) hn hp).mono ?_⟩
  rintro e W2 ⟨rfl, r2, b2⟩
  refine ⟨_, rfl, _, rfl, ?_⟩
  obtain ⟨W3, h3⟩ : ∃ W3, W3 = W2.alloc (.cells #[.pointer (some ⟨r, 0, none⟩), .slice (some ⟨W1.heap.size, 0, none⟩) n n, .int .i64 (k : Int), .int .i64 (((n - k) / 2 : Nat) : Int), .slice none 0 0] 66) := ⟨_, rfl⟩
  rw [← h3]
  have b3 : Below W2.heap.size W2 W3 := by rw [h3]; exact (Below.refl _ _).alloc (Nat.le_refl _) _
  have k3 : W3.heap[W2.heap.size]? = some (.cells #[.pointer (some ⟨r, 0, none⟩), .slice (some ⟨W1.heap.size, 0, none⟩) n n, .int .i64 (k : Int), .int .i64 (((n - k) / 2 : Nat) : Int), .slice none 0 0] 66 (0, 0)) := by rw [h3]; exact heap_alloc_new _ _
  have l3 : W2.heap.size < W3.heap.size := (Array.getElem?_eq_some_iff.1 k3).1
  have hr2 := hr.below b2
  have hr3 := hr2.below b3
  have p3 : Rb W3 (.slice (some ⟨W1.heap.size, 0, none⟩) n n) n p := r2.rb0.below b3
  refine (vanish8 r t n _ p W3.drew (hr3.drewN 1) (p3.drewN 1) (by omega)).mono ?_
  rintro e W4 ⟨gv, rfl, rv, lgv, b4⟩
  have b34 : Below W3.heap.size W3 W4 := (below_drewN (Below.refl _ _) 1).trans b4
  have k4 := (b34.block _ l3).trans k3
  obtain ⟨W5, h5⟩ : ∃ W5, W5 = W4.setCell ⟨W2.heap.size, 4, none⟩ (.slice (some ⟨gv, 0, none⟩) (n + 1) (n + 1)) := ⟨_, rfl⟩
  have kp : Kp W2.heap.size W4 W5 := by rw [h5]; exact (Kp.refl _ _).setCell _ _
  have k5 : W5.heap[W2.heap.size]? = some (.cells #[.pointer (some ⟨r, 0, none⟩), .slice (some ⟨W1.heap.size, 0, none⟩) n n, .int .i64 (k : Int), .int .i64 (((n - k) / 2 : Nat) : Int), .slice (some ⟨gv, 0, none⟩) (n + 1) (n + 1)] 66 (0, 0)) := by rw [h5, set_at8 _ k4]; rfl
  have bw1 := b1
  have bw2 : Below w.heap.size w W2 := b1.trans (b2.mono b1.size)
  have bw3 : Below w.heap.size w W3 := bw2.trans (b3.mono bw2.size)
  have bw4 : Below w.heap.size w W4 := bw3.trans (b34.mono bw3.size)
  have l12 : W1.heap.size < W2.heap.size := r2.lt
  have rr4 := hr3.below b34
  have gvl : W3.heap.size ≤ gv := lgv
  refine ⟨gv, rfl, k4, ?_, bw2.size, ?_⟩
  · rw [← h5]
    have rv5 : Rw W5 gv (n + 1) (pv 285 p n) := kp.rw_ rv (by omega)
    refine ⟨t, k5, rr4.kp kp (by have := hr2.lt; omega) (by have := hr2.tab.lt; omega), ?_, ⟨rv5.rb0, fld8.pv_dg p n, fld8.el_pv p n, .inr (by rw [Nat.add_sub_cancel, fld8.pv_top]; decide)⟩⟩
    exact (kp.rw_ ((r2.of_block (b3.block _ l12)).of_block (b34.block _ (by omega))) (by omega)).rb0
  · rw [← h5]
    exact bw4.trans (kp.below bw2.size bw4.size)
set_option maxHeartbeats 4000000 in
set_option maxRecDepth 100000 in
theorem newDecoder19 (v : Value) (k n : Nat) (p : Nat → Nat) (w : World) (h : Qi w v n (fun i => (p i : Int))) (h1 : 1 ≤ k) (h2 : k ≤ n) (hn : n ≤ 256) (hp : ∀ i, i < n → p i < 256) :
    Calls Try.prog 15 #[.int .i64 (k : Int), v] w fun e w' => ∃ g r t gp gv, e = .returned (.pointer (some ⟨g, 0, none⟩)) ∧ De19 w' g k n p r t gp gv ∧ w.heap.size ≤ g ∧ Below w.heap.size w w' := by
  have c1 := nd_a (k := k) h hn hp
  obtain ⟨rad, hrad⟩ : ∃ rad, rad = (n - k) / 2 := ⟨_, rfl⟩
  have c2 : ∀ x, Calls Try.prog 9 #[.int .i64 (k : Int), .int .i64 (n : Int)] x fun e w' => e = .returned (.tuple #[.int .i64 ((rad : Nat) : Int), .int .i64 0]) ∧ w' = x := fun x => by rw [hrad]; exact radius19 k n x h1 h2 hn
  simp only [← hrad] at c1
  clear hrad
  obtain ⟨-, -, a, cap, rfl, -, -, h4⟩ := h
  clear h4 hp h1 h2 hn
  go_enter Try.func15, Try.ntmps15
  go_wp2_with (first
    | (go_at_call 25; (with_reducible refine c1.mono ?_); rintro e W1 ⟨r, rfl, c3⟩; clear c1)
    | (go_at_call 26; (with_reducible refine c3.mono ?_); rintro e W2 ⟨gp, rfl, W3, hW3, c4⟩; clear c3)
    | (go_at_call 9; (with_reducible refine (c2 _).mono ?_); rintro e w9 ⟨rfl, hw9⟩; have hw9 := hw9.symm; subst hw9; clear c2))
  have y0 : W3.cell? ⟨W2.heap.size, 0, none⟩ = some (.pointer (some ⟨r, 0, none⟩)) := by rw [hW3, cell_of_row _ _ 0 _ _ _ (heap_alloc_new _ _)]; rfl
  have y1 : W3.cell? ⟨W2.heap.size, 1, none⟩ = some (.slice (some ⟨gp, 0, none⟩) n n) := by rw [hW3, cell_of_row _ _ 1 _ _ _ (heap_alloc_new _ _)]; rfl
  obtain ⟨g, hg⟩ : ∃ g, Hid (W2.heap.size = g) := ⟨_, rfl⟩
  rw [← hW3, hg.out]
  rw [hg.out] at y0 y1
  have HW : Hid (W3 = W3) := rfl
  clear hW3
  refine region_planI (fun w' => w'.cell? ⟨g, 0, none⟩ = some (.pointer (some ⟨r, 0, none⟩)) ∧ w'.cell? ⟨g, 1, none⟩ = some (.slice (some ⟨gp, 0, none⟩) n n)) [0, 1, 2, 3, 4, 5, 6, 7, 8, 9, 10, 11, 12, 13, 14, 15] [9, 5, 0] 38 ⟨y0, y1⟩ (by kernel_rfl) (by kernel_rfl) (fun _ a d v _ h => by cases d <;> exact h) ?_
  simp only [atI, List.getElem?_cons_zero, List.getElem?_cons_succ]
  refine planH_step ?A1 rfl (fun w' hS => ?s1) rfl (fun K hK => ?n1)
  case s1 =>
    obtain ⟨u0, u1⟩ := hS
    simp only [List.take_succ_cons, List.take_zero]
    repeat still_step
    exact rfl
  case n1 =>
  go_simp
  go_wp2_with (go_at_call 27; (with_reducible refine c4.mono ?_); rintro e W4 ⟨gv, rfl, k4, ⟨t, hD⟩, hle, hb⟩; clear c4)
  rw [hg.out] at k4 hD hle hb
  have z0 : W4.cell? ⟨g, 0, none⟩ = some (.pointer (some ⟨r, 0, none⟩)) := by rw [cell_of_row _ _ 0 _ _ _ k4]; rfl
  have z1 : W4.cell? ⟨g, 1, none⟩ = some (.slice (some ⟨gp, 0, none⟩) n n) := by rw [cell_of_row _ _ 1 _ _ _ k4]; rfl
  have z4 : W4.cell? ⟨g, 4, none⟩ = some (.slice none 0 0) := by rw [cell_of_row _ _ 4 _ _ _ k4]; rfl
  have f4 := frozen_of_row W4 g 4 _ _ k4
  have HF : Hid (De19 (W4.setCell ⟨g, 4, none⟩ (.slice (some ⟨gv, 0, none⟩) (n + 1) (n + 1))) g k n p r t gp gv ∧ w.heap.size ≤ g ∧ Below w.heap.size w (W4.setCell ⟨g, 4, none⟩ (.slice (some ⟨gv, 0, none⟩) (n + 1) (n + 1)))) := ⟨hD, hle, hb⟩
  refine hK _ _ ⟨z0, z1⟩ ?_
  clear hK K hD hle hb k4 y0 y1 z0 z1
  refine planH_step ?A2 rfl (fun w' hS => ?s2) rfl (fun K hK => ?n2)
  case s2 =>
    simp only [List.take_succ_cons, List.take_zero]
    repeat still_step
    exact rfl
  case n2 =>
  go_simp
  go_wp2
  refine hK _ _ ⟨?_, ?_⟩ ?_
  · rw [cell_of_row _ _ 0 _ _ _ HF.out.1.blk]; rfl
  · rw [cell_of_row _ _ 1 _ _ _ HF.out.1.blk]; rfl
  clear hK K
  refine planH_last ?A3 rfl (fun w' hS => ?s3) rfl ?n3
  case s3 =>
    simp only [List.take_zero]
    exact rfl
  case n3 =>
  go_wp2
  go_ret
  exact ⟨g, r, t, gp, gv, rfl, HF.out⟩
end Go.Proofs.Ytfhgamaakkoplaa
namespace Go.Proofs.Ytfhgamaakkoplaa
open Go.RowKit Gf2
set_option linter.unusedVariables false

-- layer 19: through, valuesOf
theorem De19.c0 {W : World} {g k n r t gp gv : Nat} {p : Nat → Nat} (h : De19 W g k n p r t gp gv) : W.cell? ⟨g, 0, none⟩ = some (.pointer (some ⟨r, 0, none⟩)) := by rw [cell_of_row _ _ 0 _ _ _ h.blk]; rfl
theorem De19.c1 {W : World} {g k n r t gp gv : Nat} {p : Nat → Nat} (h : De19 W g k n p r t gp gv) : W.cell? ⟨g, 1, none⟩ = some (.slice (some ⟨gp, 0, none⟩) n n) := by rw [cell_of_row _ _ 1 _ _ _ h.blk]; rfl
theorem De19.c2 {W : World} {g k n r t gp gv : Nat} {p : Nat → Nat} (h : De19 W g k n p r t gp gv) : W.cell? ⟨g, 2, none⟩ = some (.int .i64 (k : Int)) := by rw [cell_of_row _ _ 2 _ _ _ h.blk]; rfl
theorem De19.c3 {W : World} {g k n r t gp gv : Nat} {p : Nat → Nat} (h : De19 W g k n p r t gp gv) : W.cell? ⟨g, 3, none⟩ = some (.int .i64 (((n - k) / 2 : Nat) : Int)) := by rw [cell_of_row _ _ 3 _ _ _ h.blk]; rfl
theorem De19.c4 {W : World} {g k n r t gp gv : Nat} {p : Nat → Nat} (h : De19 W g k n p r t gp gv) : W.cell? ⟨g, 4, none⟩ = some (.slice (some ⟨gv, 0, none⟩) (n + 1) (n + 1)) := by rw [cell_of_row _ _ 4 _ _ _ h.blk]; rfl
set_option maxHeartbeats 4000000 in
set_option maxRecDepth 100000 in
theorem through19f (u : Value) (g k n r t gp gv : Nat) (p y : Nat → Nat) (w : World) (h : De19 w g k n p r t gp gv) (up : Up8 n p) (hu : Rb w u n y) (hn : n ≤ 256) :
    Calls Try.prog 18 #[.pointer (some ⟨g, 0, none⟩), u] w fun e w' => ∃ x m f, e = .returned x ∧ m ≤ n ∧ Pl8 w' x m f ∧ (∀ i, i < n → pe 285 (p i) n f = y i) ∧ Below w.heap.size w w' ∧ Fh8 w x := by
  have z0 := h.c0
  have z1 := h.c1
  have c1 := interp8f r t n (.slice (some ⟨gp, 0, none⟩) n n) u p y w.drew (h.rg.drewN 1) (h.pts.drewN 1) up (hu.drewN 1) (by omega)
  have hg : g < w.heap.size := (Array.getElem?_eq_some_iff.1 h.blk).1
  have HZ : Hid (∀ w', Below w.drew.heap.size w.drew w' → w'.cell? ⟨g, 0, none⟩ = some (.pointer (some ⟨r, 0, none⟩)) ∧ w'.cell? ⟨g, 1, none⟩ = some (.slice (some ⟨gp, 0, none⟩) n n)) := fun w' hb => ⟨(hb.cell (p := ⟨g, 0, none⟩) hg).trans z0, (hb.cell (p := ⟨g, 1, none⟩) hg).trans z1⟩
  clear h up hu hn hg
  go_enter Try.func18, Try.ntmps18
  go_wp2
  go_region_held (fun W => W.cell? ⟨g, 0, none⟩ = some (.pointer (some ⟨r, 0, none⟩)) ∧ W.cell? ⟨g, 1, none⟩ = some (.slice (some ⟨gp, 0, none⟩) n n)) (first | exact ⟨z0, z1⟩ | exact HZ.out _ hb) ((go_at_call 32; (with_reducible refine c1.mono ?_); rintro e w9 ⟨x, m, f, rfl, hm, hP, hv, hb, hfr⟩; clear c1))
  have HF : Hid (m ≤ n ∧ Pl8 w9 x m f ∧ (∀ i, i < n → pe 285 (p i) n f = y i) ∧ Below w.heap.size w w9 ∧ Fh8 w x) := ⟨hm, hP, hv, (below_drewN (Below.refl _ _) 1).trans hb, hfr⟩
  clear hm hP hv hb hfr
  go_wp2
  go_ret
  exact ⟨x, m, f, rfl, HF.out⟩
theorem through19 (u : Value) (g k n r t gp gv : Nat) (p y : Nat → Nat) (w : World) (h : De19 w g k n p r t gp gv) (up : Up8 n p) (hu : Rb w u n y) (hn : n ≤ 256) :
    Calls Try.prog 18 #[.pointer (some ⟨g, 0, none⟩), u] w fun e w' => ∃ x m f, e = .returned x ∧ m ≤ n ∧ Pl8 w' x m f ∧ (∀ i, i < n → pe 285 (p i) n f = y i) ∧ Below w.heap.size w w' :=
  (through19f u g k n r t gp gv p y w h up hu hn).mono fun e w' ⟨x, m, f, h1, h2, h3, h4, h5, _⟩ => ⟨x, m, f, h1, h2, h3, h4, h5⟩
set_option maxHeartbeats 4000000 in
set_option maxRecDepth 100000 in
theorem valuesOf19 (v : Value) (g k n r t gp gv m : Nat) (p f : Nat → Nat) (w : World) (h : De19 w g k n p r t gp gv) (hp : ∀ i, i < n → p i < 256) (hf : Pl8 w v m f) (hn : n ≤ 256) (hm : m ≤ 1000) :
    Calls Try.prog 17 #[.pointer (some ⟨g, 0, none⟩), v] w fun e w' => e = .returned (.slice (some ⟨w.heap.size, 0, none⟩) n n) ∧ Rw w' w.heap.size n (fun i => pe 285 (p i) m f) ∧ Below w.heap.size w w' := by
  have z1 := h.c1
  have hmk := make_u8 n (by omega)
  have r0 := made_rw n (by omega) w
  have b0 : Below w.heap.size w (w.alloc (.cells (madeCells #[.int .u8 0] n) 5)) := (Below.refl _ _).alloc (Nat.le_refl _) _
  obtain ⟨w3, hw3⟩ : ∃ w3, Hid (w.alloc (.cells (madeCells #[.int .u8 0] n) 5) = w3) := ⟨_, rfl⟩
  have hg : g < w.heap.size := (Array.getElem?_eq_some_iff.1 h.blk).1
  have z1' : (w.alloc (.cells (madeCells #[.int .u8 0] n) 5)).cell? ⟨g, 1, none⟩ = some (.slice (some ⟨gp, 0, none⟩) n n) := (b0.cell (p := ⟨g, 1, none⟩) hg).trans z1
  rw [hw3.out] at r0 b0
  have h3 := h.below b0
  have f3 := hf.below b0
  obtain ⟨gg, hgg⟩ : ∃ gg, Hid (w.heap.size = gg) := ⟨_, rfl⟩
  rw [hgg.out] at r0
  have hne : gp ≠ gg ∨ n = 0 := by
    by_cases h0 : n = 0
    · exact .inr h0
    · refine .inl ?_
      obtain ⟨-, -, a, c, e, -, -, h4⟩ := h.pts
      cases e
      obtain ⟨b, o, e, hl, -⟩ := h4 (by omega)
      cases e
      have := hgg.out
      omega
  have HB : Hid (Below w.heap.size w w3 ∧ w.heap.size = gg ∧ n ≤ 256 ∧ m ≤ 1000 ∧ g < w.heap.size ∧ Rg8 w r t ∧ De19 w g k n p r t gp gv ∧ Pl8 w v m f) := ⟨b0, hgg.out, hn, hm, hg, h.rg, h, hf⟩
  clear b0 hn hm hg h hf h3 f3
  go_enter Try.func17, Try.ntmps17
  go_wp2
  rw [hw3.out, hgg.out]
  clear hw3 hmk z1 z1'
  go_loopw [19] (fun s wr => ∃ i : Nat, i ≤ n ∧ s = .int .i64 (i : Int) ∧ Below w.heap.size w wr ∧ Rw wr gg n (fun j => if j < i then pe 285 (p j) m f else 0)) (fun s _ => n - (intOf s).toNat)
  case atStart => exact ⟨0, Nat.zero_le _, rfl, HB.out.1, r0.congr (fun j _ => (if_neg (Nat.not_lt_zero _)).symm)⟩
  case round =>
    obtain ⟨i, hi, rfl, hb, hrw⟩ := hrel
    clear r0
    by_cases hlt : i < n
    · have hw := HB.out.2.2.2.2.2.2.1.below hb
      have q1 : wr.cell? ⟨gp, i, none⟩ = some (.int .u8 (p i : Nat)) := by
        obtain ⟨-, -, a, c, e, -, -, h4⟩ := hw.pts
        cases e
        obtain ⟨b, o, e, hl, hc⟩ := h4 (by omega)
        cases e
        have := hc i hlt
        rw [Nat.zero_add] at this
        exact this
      have q0 := hw.c0
      have c5 := eval8 r t (p i) m v f wr hw.rg (HB.out.2.2.2.2.2.2.2.below hb).rb (by have := HB.out; omega) (hp i hlt)
      have q2 := hrw.2.2.cell hlt
      have q3 := hrw.2.2.frozen i
      have HC : Hid (∀ q, i < n ∧ Below w.heap.size w ((wr.drewN q).setCell ⟨gg, i, none⟩ (.int .u8 (pe 285 (p i) m f : Nat))) ∧ Rw ((wr.drewN q).setCell ⟨gg, i, none⟩ (.int .u8 (pe 285 (p i) m f : Nat))) gg n (fun j => if j < i + 1 then pe 285 (p j) m f else 0)) := fun q => ⟨hlt, (below_drewN hb q).setCell (by show w.heap.size ≤ gg; have := HB.out; omega) _, ((hrw.drewN q).set i (pe 285 (p i) m f) (fld8.pe_lt _ _ _)).congr (fun j _ => by
        by_cases e : j = i
        · rw [if_pos e, if_pos (by omega), e]
        · rw [if_neg e]
          by_cases e2 : j < i
          · rw [if_pos e2, if_pos (by omega)]
          · rw [if_neg e2, if_neg (by omega)])⟩
      have ib : ((i : Nat) : Int) < (n : Int) := Int.ofNat_lt.2 hlt
      have W1 := wrap_lt8 (j := i) (b := n) hlt (by have := HB.out; omega)
      generalize pe 285 (p i) m f = x at c5 HC
      generalize p i = y at q1 c5
      clear hrw hb hw hlt hi
      go_wp2_with (go_at_call 31; (with_reducible refine c5.mono ?_); rintro e w9 ⟨rfl, q, rfl⟩; clear c5; have HD := HC.out q)
      have HE : Hid _ := HD
      clear HD
      go_roundw
      case rel => first | exact ⟨i + 1, HE.out.1, by first | rfl | (rw [W1]; rfl), HE.out.2.1, HE.out.2.2⟩ | ((try rw [W1]); (repeat apply Exists.intro); exact ⟨⟨i + 1, HE.out.1, rfl, HE.out.2.1, HE.out.2.2⟩, rfl⟩)
      case measure => first | exact meas_lt8 HE.out.1 | (rw [W1]; exact meas_lt8 HE.out.1)
    · obtain rfl : i = n := by omega
      have ib : ¬ ((i : Nat) : Int) < (i : Int) := by omega
      have HF : Hid (Rw wr gg i (fun j => pe 285 (p j) m f) ∧ Below w.heap.size w wr) := ⟨hrw.congr (fun j hj => if_pos hj), hb⟩
      clear hrw hb hlt hi
      go_wp2
      go_ret
      rw [HB.out.2.1]
      exact ⟨rfl, HF.out.1, by have := HF.out.2; rw [HB.out.2.1] at this; exact this⟩
end Go.Proofs.Ytfhgamaakkoplaa
namespace Go.Proofs.Ytfhgamaakkoplaa
open Go.RowKit Gf2
set_option linter.unusedVariables false

-- layer 19: near, the mathematics
/-- at so few points a polynomial differs from the values. -/
def Nr19 (p y : Nat → Nat) (n e : Nat) (f : Nat → Nat) : Prop := cnb (fun i => decide (pe 285 (p i) n f ≠ y i)) n ≤ e
theorem cnb_congr {P P' : Nat → Bool} : ∀ {n : Nat}, (∀ i, i < n → P i = P' i) → cnb P n = cnb P' n
  | 0, _ => rfl
  | n + 1, h => by
    show cnb P n + _ = cnb P' n + _
    rw [cnb_congr (fun i hi => h i (by omega)), h n (by omega)]
theorem cnb_zero {P : Nat → Bool} : ∀ {n : Nat}, (∀ i, i < n → P i = false) → cnb P n = 0
  | 0, _ => rfl
  | n + 1, h => by
    show cnb P n + _ = 0
    rw [cnb_zero (fun i hi => h i (by omega)), h n (by omega)]
    rfl
theorem up_inj8 {n : Nat} {p : Nat → Nat} (up : Up8 n p) : ∀ i j, i < n → j < n → p i = p j → i = j := fun i j hi hj e => by
  rcases Nat.lt_trichotomy i j with h | h | h
  · have := up i j h hj; omega
  · exact h
  · have := up j i h hi; omega
/-- a quotient that is exact and low is near. -/
theorem near_yes19 {n k d A : Nat} {p y R a ua va b ub vb Q : Nat → Nat} (hp : ∀ i, i < n → p i < 256) (up : Up8 n p) (eR : Gf2.El 8 R) (dR : Dg R n) (hR : ∀ i, i < n → pe 285 (p i) n R = y i)
    (u : Euc 285 8 n (pv 285 p n) R a ua va b ub vb A) (hd : d = n - (n - k) / 2) (hA : d ≤ A) (hk : k ≤ n) (eQ : Gf2.El 8 Q) (dQ : Dg Q k) (e : b = pm 285 Q vb) : Nr19 p y n ((n - k) / 2) Q := by
  have h := fld8.near_true (pts := p) (k := k) (e := (n - k) / 2) hp (up_inj8 up) eR dR u (by omega) eQ dQ hk (by omega) (by rw [e, fld8.pm_comm])
  unfold Nr19
  rw [cnb_congr (P' := fun i => decide (pe 285 (p i) n Q ≠ pe 285 (p i) n R)) (fun i hi => by rw [hR i hi])]
  exact h
/-- where there is a near one, it is the quotient. -/
theorem near_only19 {n k d A : Nat} {p y R a ua va b ub vb f : Nat → Nat} (hp : ∀ i, i < n → p i < 256) (up : Up8 n p) (eR : Gf2.El 8 R) (dR : Dg R n) (hR : ∀ i, i < n → pe 285 (p i) n R = y i)
    (u : Euc 285 8 n (pv 285 p n) R a ua va b ub vb A) (hd : d = n - (n - k) / 2) (hA : d ≤ A) (hb : Dg b d) (h1 : 1 ≤ k) (hk : k ≤ n) (ef : Gf2.El 8 f) (df : Dg f k) (hf : Nr19 p y n ((n - k) / 2) f) : b = pm 285 f vb := by
  have h := fld8.near_found (pts := p) (k := k) (e := (n - k) / 2) (P := fun i => decide (pe 285 (p i) n f ≠ y i)) hp (up_inj8 up) eR dR u (by omega) (by rw [← hd]; exact hb) (by omega) h1 ef df (fun i hi hP => by
    have : pe 285 (p i) n f = y i := by simpa using hP
    rw [this, hR i hi]) hf
  rw [h, fld8.pm_comm]
theorem near_div19 {b vb Q M f : Nat → Nat} {m : Nat} (hv : Gf2.El 8 vb) (tv : Tp vb m) (pQ : Pol 8 Q) (dM : Dg M m) (e1 : b = pa (pm 285 Q vb) M) (pf : Pol 8 f) (e2 : b = pm 285 f vb) : Q = f ∧ M = pz :=
  fld8.div_only hv tv pQ pf dM (Dg.pz m) (by rw [pa_pz, ← e2, e1])
end Go.Proofs.Ytfhgamaakkoplaa
namespace Go.Proofs.Ytfhgamaakkoplaa
open Go.RowKit Gf2
set_option linter.unusedVariables false

-- layer 19: near
/-- what near answers. -/
structure Ne19 (w w' : World) (x : Value) (ok : Bool) (k n : Nat) (p y : Nat → Nat) : Prop where
  yes : ok = true → ∃ m f, Pl8 w' x m f ∧ Dg f k ∧ Nr19 p y n ((n - k) / 2) f
  no : ok = false → ∀ f, Gf2.El 8 f → Dg f k → ¬ Nr19 p y n ((n - k) / 2) f
  bel : Below w.heap.size w w'
  fr : Fh8 w x
/-- what the division tells. -/
structure Nd19 (w w' : World) (xq xr : Value) (lq lr k n : Nat) (p y : Nat → Nat) : Prop where
  q : ∃ Q, Pl8 w' xq lq Q ∧ (lr = 0 → lq ≤ k → Dg Q k ∧ Nr19 p y n ((n - k) / 2) Q)
  r : ∃ a c, xr = .slice a lr c
  ql : lq ≤ 1000
  no : ¬ (lr = 0 ∧ lq ≤ k) → ∀ f, Gf2.El 8 f → Dg f k → ¬ Nr19 p y n ((n - k) / 2) f
  bel : Below w.heap.size w w'
  fr : Fh8 w xq
theorem near_c19 {w w5 : World} {xm xv : Value} {r t n k d : Nat} {p y R : Nat → Nat} (hr : Rg8 w5 r t) (hQ : Pr8 w w5 xm xv n d (pv 285 p n) R)
    (hp : ∀ i, i < n → p i < 256) (up : Up8 n p) (eR : Gf2.El 8 R) (dR : Dg R n) (hR : ∀ i, i < n → pe 285 (p i) n R = y i) (hd : d = n - (n - k) / 2) (h1 : 1 ≤ k) (hk : k ≤ n) (hn : n ≤ 256) (q : Nat) :
    Calls Try.prog 30 #[.pointer (some ⟨r, 0, none⟩), xm, xv] (w5.drewN q) fun e w' => ∃ xq xr lq lr, e = .returned (.tuple #[xq, xr, .int .i64 0]) ∧ Nd19 w5 w' xq xr lq lr k n p y := by
  obtain ⟨lm, lv, a, ua, va, b, ub, vb, A, eu, hA, db, pm1, pv1⟩ := hQ.ex
  have l1 : lm ≤ d := pm1.len db
  have l2 : lv ≤ n - A + 1 := pv1.len eu.dvb
  have ne := fld8.euc_ne eu (fld8.pol_pv p n) (fld8.pv_tp p n)
  have lv1 : 1 ≤ lv := by
    apply Nat.le_of_not_lt
    intro h
    obtain rfl : lv = 0 := by omega
    exact ne (funext fun i => pv1.dg i (Nat.zero_le _))
  refine (divmod8 r t lm lv xm xv b vb (w5.drewN q) (hr.drewN q) (pm1.drewN q) (pv1.drewN q) (by omega) (by omega) lv1).mono ?_
  rintro e w' ⟨xq, xr, rfl, hD⟩
  obtain ⟨lq, lr, Q, M, pQ, pM, eb, dM, dQ, b1, b2⟩ := hD.ex
  have tv : Tp vb (lv - 1) := ⟨by rw [show lv - 1 + 1 = lv by omega]; exact pv1.dg, pv1.top.resolve_left (by omega)⟩
  refine ⟨xq, xr, lq, lr, rfl, ⟨Q, pQ, fun e0 hl => ?_⟩, ?_, by omega, ?_, (below_drewN (Below.refl _ _) q).trans hD.bel, hD.fr⟩
  · have dk : Dg Q k := pQ.dg.mono hl
    have hM : M = pz := funext fun i => pM.dg i (by omega)
    refine ⟨dk, near_yes19 hp up eR dR hR eu hd hA hk pQ.el dk ?_⟩
    rw [eb, hM, pa_pz]
  · obtain ⟨a, c, e, -⟩ := rb_slice8 pM.rb
    exact ⟨a, c, e⟩
  · intro hno f ef df hf
    have e2 := near_only19 hp up eR dR hR eu hd hA db h1 hk ef df hf
    obtain ⟨e3, e4⟩ := near_div19 pv1.el tv ⟨pQ.el, _, pQ.dg⟩ dM eb ⟨ef, _, df⟩ e2
    refine hno ⟨?_, ?_⟩
    · rcases pM.top with h | h
      · exact h
      · rw [e4] at h; exact absurd rfl h
    · rw [e3] at pQ; exact pQ.len df
set_option maxHeartbeats 8000000 in
set_option maxRecDepth 100000 in
theorem near19 (u : Value) (g k n r t gp gv : Nat) (p y : Nat → Nat) (w : World) (h : De19 w g k n p r t gp gv) (up : Up8 n p) (hp : ∀ i, i < n → p i < 256) (hu : Rb w u n y) (h1 : 1 ≤ k) (h2 : k ≤ n) (hn : n ≤ 256) :
    Calls Try.prog 16 #[.pointer (some ⟨g, 0, none⟩), u] w fun e w' => ∃ x ok, e = .returned (.tuple #[x, .bool ok]) ∧ Ne19 w w' x ok k n p y := by
  have c1 := through19f u g k n r t gp gv p y w h up hu hn
  have HH : Hid (De19 w g k n p r t gp gv ∧ Up8 n p ∧ (∀ i, i < n → p i < 256) ∧ 1 ≤ k ∧ k ≤ n ∧ n ≤ 256) := ⟨h, up, hp, h1, h2, hn⟩
  clear h up hp hu h1 h2 hn
  go_enter Try.func16, Try.ntmps16
  go_wp2_with (go_at_call 18; (with_reducible refine c1.mono ?_); rintro e w1 ⟨x, m, R, rfl, hm, hP, hR, hb, hfr⟩; clear c1)
  have hD := HH.out.1.below hb
  have z0 := hD.c0
  have z2 := hD.c2
  have c2 := fun q => deg8 r t m x R (w1.drewN q) (hD.rg.drewN q) (hP.drewN q) (by have := HH.out; omega)
  by_cases hmk : m ≤ k
  · have im : ((m : Nat) : Int) - 1 < (k : Int) := by omega
    have HF : Hid (∀ q, Ne19 w (w1.drewN q) x true k n p y) := fun q => ⟨fun _ => ⟨m, R, hP.drewN q, hP.dg.mono hmk, by
      unfold Nr19
      rw [cnb_zero (fun i hi => by rw [hR i hi]; simp)]
      exact Nat.zero_le _⟩, (fun e => by cases e), below_drewN hb q, hfr⟩
    clear hD hP hR hb hm hmk
    go_wp2
    go_quiet ((go_at_call 28; with_reducible exact Calls.quiet_of (c2 _)))
    go_wp2
    go_ret2
    exact ⟨_, true, rfl, HF.out _⟩
  · have im : ¬ ((m : Nat) : Int) - 1 < (k : Int) := by omega
    obtain ⟨rad, hrad⟩ : ∃ rad, rad = (n - k) / 2 := ⟨_, rfl⟩
    obtain ⟨d, hd⟩ : ∃ d, d = n - rad := ⟨_, rfl⟩
    have z3 := hD.c3
    rw [← hrad] at z3
    have z1 := hD.c1
    have z4 := hD.c4
    have Wd : wrap64 (((n : Nat) : Int) - ((rad : Nat) : Int)) = ((d : Nat) : Int) := by have := HH.out; unfold wrap64; omega
    have c3 := fun q => partial_8 r t n m d (.slice (some ⟨gv, 0, none⟩) (n + 1) (n + 1)) x (pv 285 p n) R (w1.drewN q) (hD.rg.drewN q) (hD.van.drewN q) (fld8.pv_tp p n) (hP.drewN q) (hP.dg.mono hm) HH.out.2.2.2.2.2 (by omega)
    have HR : Hid (Gf2.El 8 R ∧ Dg R n ∧ (∀ i, i < n → pe 285 (p i) n R = y i) ∧ rad = (n - k) / 2 ∧ d = n - rad ∧ Below w.heap.size w w1 ∧ De19 w1 g k n p r t gp gv) := ⟨hP.el, hP.dg.mono hm, hR, hrad, hd, hb, hD⟩
    clear hD hP hR hb hm hmk hrad hd
    go_wp2
    go_quiet ((go_at_call 28; with_reducible exact Calls.quiet_of (c2 _)))
    go_wp2
    go_quiet (fail)
    go_wp2
    have HZ : Hid (∀ q w', Below (w1.drewN q).heap.size (w1.drewN q) w' → w'.cell? ⟨g, 0, none⟩ = some (.pointer (some ⟨r, 0, none⟩)) ∧ w'.cell? ⟨g, 4, none⟩ = some (.slice (some ⟨gv, 0, none⟩) (n + 1) (n + 1))) := fun q w' hb => ⟨(HR.out.2.2.2.2.2.2.below ((below_drewN (Below.refl _ _) q).trans hb)).c0, (HR.out.2.2.2.2.2.2.below ((below_drewN (Below.refl _ _) q).trans hb)).c4⟩
    go_region_held (fun W => W.cell? ⟨g, 0, none⟩ = some (.pointer (some ⟨r, 0, none⟩)) ∧ W.cell? ⟨g, 4, none⟩ = some (.slice (some ⟨gv, 0, none⟩) (n + 1) (n + 1))) (first | exact ⟨z0, z4⟩ | exact HZ.out _ _ hb5) ((go_at_call 29; (with_reducible refine (c3 _).mono ?_); rintro e w5 ⟨xm, xu, xv, rfl, hQ⟩; clear c3; have hb5 := hQ.bel))
    have hD5 := (HR.out.2.2.2.2.2.2.below ((below_drewN (Below.refl _ _) _).trans hb5))
    have c4 := near_c19 (q := 0) hD5.rg hQ HH.out.2.2.1 HH.out.2.1 HR.out.1 HR.out.2.1 HR.out.2.2.1 (by have := HR.out; omega) HH.out.2.2.2.1 HH.out.2.2.2.2.1 HH.out.2.2.2.2.2
    rw [World.drewN_zero] at c4
    have y0 := hD5.c0
    have HB5 : Hid (Below w.heap.size w w5 ∧ De19 w5 g k n p r t gp gv) := ⟨HR.out.2.2.2.2.2.1.trans (((below_drewN (Below.refl _ _) _).trans hb5).mono HR.out.2.2.2.2.2.1.size), hD5⟩
    clear hD5 hQ hb5 HZ z0 z4
    go_wp2_with (go_at_call 30; (with_reducible refine c4.mono ?_); rintro e w6 ⟨xq, xr, lq, lr, rfl, hN⟩; clear c4)
    have hD6 := HB5.out.2.below hN.bel
    have x0 := hD6.c0
    have x2 := hD6.c2
    obtain ⟨Q, pQ, hyes⟩ := hN.q
    have c5 := fun q => deg8 r t lq xq Q (w6.drewN q) (hD6.rg.drewN q) (pQ.drewN q) (by have := hN.ql; omega)
    obtain ⟨ra, rc, rfl⟩ := hN.r
    have HFR : Hid (Fh8 w xq) := hN.fr.mono HB5.out.1.size
    have HB6 : Hid (∀ q, Below w.heap.size w (w6.drewN q)) := fun q => below_drewN (HB5.out.1.trans (hN.bel.mono HB5.out.1.size)) q
    by_cases hlr : lr = 0
    · subst hlr
      by_cases hlq : lq ≤ k
      · have iq : ¬ (k : Int) ≤ (lq : Int) - 1 := by omega
        have HF : Hid (∀ q, Ne19 w (w6.drewN q) xq true k n p y) := fun q => ⟨fun _ => ⟨lq, Q, pQ.drewN q, (hyes rfl hlq).1, (hyes rfl hlq).2⟩, (fun e => by cases e), HB6.out q, HFR.out⟩
        clear hN hyes hD6 pQ hlq y0
        go_wp2
        go_quiet ((go_at_call 28; with_reducible exact Calls.quiet_of (c5 _)))
        go_wp2
        go_ret2
        exact ⟨_, true, rfl, HF.out _⟩
      · have iq : (k : Int) ≤ (lq : Int) - 1 := by omega
        have HF : Hid (∀ q, Ne19 w (w6.drewN q) (.slice none 0 0) false k n p y) := fun q => ⟨(fun e => by cases e), fun _ => hN.no (fun h => hlq h.2), HB6.out q, Fh8.nil _ _ _⟩
        clear hN hyes hD6 pQ hlq y0
        go_wp2
        go_quiet ((go_at_call 28; with_reducible exact Calls.quiet_of (c5 _)))
        go_wp2
        go_ret2
        exact ⟨_, false, rfl, HF.out _⟩
    · have ir : (0 : Int) < (lr : Int) := by omega
      have irn : 0 < lr := by omega
      have HF : Hid (∀ q, Ne19 w (w6.drewN q) (.slice none 0 0) false k n p y) := fun q => ⟨(fun e => by cases e), fun _ => hN.no (fun h => hlr h.1), HB6.out q, Fh8.nil _ _ _⟩
      clear hN hyes hD6 pQ hlr y0
      go_wp2
      go_quiet ((go_at_call 28; with_reducible exact Calls.quiet_of (c5 _)))
      go_wp2
      go_ret2
      exact ⟨_, false, rfl, HF.out _⟩
end Go.Proofs.Ytfhgamaakkoplaa
