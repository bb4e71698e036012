import Derived.Test.YtfhgamaakkoplaaMvaz
import Derived.Test.YtfhgamaakkoplaaMvaw
namespace Go.Proofs.Ytfhgamaakkoplaa
open Go.RowKit Gf2
set_option linter.unusedVariables false

-- layer 4: division
/-- division under way: k of its steps are left. -/
structure Dv8 (f g : Nat → Nat) (n top k : Nat) (Q M : Nat → Nat) : Prop where
  eq : f = pa (pm 285 Q g) M
  elQ : Gf2.El 8 Q
  elM : Gf2.El 8 M
  dgQ : Dg Q (n - top)
  dgM : Dg M (k + top)
  low : ∀ j, j < k → Q j = 0
theorem Dv8.start {f g : Nat → Nat} {n top : Nat} (ef : Gf2.El 8 f) (df : Dg f n) (h : top ≤ n) : Dv8 f g n top (n - top) pz f :=
  ⟨by rw [fld8.pz_pm, pz_pa], El.pz 8, ef, Dg.pz _, df.mono (by omega), fun _ _ => rfl⟩
/-- what is taken off. -/
theorem sub_row8 {g M : Nat → Nat} {top i c : Nat} (dg : Dg g (top + 1)) (j : Nat) : pl M i (top + 1) (fun y => M (i + y) ^^^ fm 285 c (g y)) j = pa M (pm 285 (mo c i) g) j := by
  rw [fld8.mo_pm]
  show _ = M j ^^^ ps i (pc 285 c g) j
  unfold pl ps pc
  by_cases e : i ≤ j ∧ j < i + (top + 1)
  · rw [if_pos e, if_neg (by omega)]
    show M (i + (j - i)) ^^^ fm 285 c (g (j - i)) = _
    rw [show i + (j - i) = j by omega]
  · rw [if_neg e]
    by_cases e2 : j < i
    · rw [if_pos e2, Nat.xor_zero]
    · rw [if_neg e2, dg (j - i) (by omega), fld8.fm_zero, Nat.xor_zero]
theorem put_row8 {Q : Nat → Nat} {i c : Nat} (h : Q i = 0) (j : Nat) : (if j = i then c else Q j) = pa Q (mo c i) j := by
  show _ = Q j ^^^ mo c i j
  unfold mo
  by_cases e : j = i
  · rw [if_pos e, if_pos e, e, h, Nat.zero_xor]
  · rw [if_neg e, if_neg e, Nat.xor_zero]
theorem Dv8.step {f g Q M : Nat → Nat} {n top i c : Nat} (h : Dv8 f g n top (i + 1) Q M) (eg : Gf2.El 8 g) (tg : Tp g top) (hi : i + top < n) (hc : c = fm 285 (M (i + top)) (fi 285 (g top))) :
    Dv8 f g n top i (pa Q (mo c i)) (pa M (pm 285 (mo c i) g)) := by
  have hcl : c < 2 ^ 8 := by rw [hc]; exact fld8.fm_lt _ _
  have em : pa (pm 285 (mo c i) g) (pm 285 (mo c i) g) = pz := pa_self _
  refine ⟨?_, h.elQ.pa (el_mo hcl i), h.elM.pa (fld8.el_pm _ _), ?_, fun j hj => ?_, fun j hj => ?_⟩
  · rw [fld8.pa_pm, h.eq]
    funext j
    show pm 285 Q g j ^^^ M j = (pm 285 Q g j ^^^ pm 285 (mo c i) g j) ^^^ (M j ^^^ pm 285 (mo c i) g j)
    rw [Nat.xor_assoc, Nat.xor_comm (pm 285 (mo c i) g j), Nat.xor_assoc (M j), Nat.xor_self, Nat.xor_zero]
  · exact h.dgQ.pa ((mo_dg c i).mono (by omega))
  · rw [fld8.mo_pm]
    show M j ^^^ ps i (pc 285 c g) j = 0
    unfold ps pc
    rw [if_neg (by omega)]
    by_cases e : j = i + top
    · subst e
      have e2 : fm 285 c (g top) = M (i + top) := by rw [hc]; exact fld8.div_mul (h.elM _) (eg _) tg.2
      rw [show i + top - i = top by omega, e2, Nat.xor_self]
    · rw [h.dgM j (by omega), tg.1 (j - i) (by omega), fld8.fm_zero]; rfl
  · show Q j ^^^ mo c i j = 0
    rw [h.low j (by omega)]
    unfold mo
    rw [if_neg (by omega)]; rfl
theorem Dv8.top {f g Q M : Nat → Nat} {n top : Nat} (h : Dv8 f g n top 0 Q M) (tg : Dg g (top + 1)) (hn : top < n) (ft : f (n - 1) ≠ 0) : Q (n - top - 1) ≠ 0 := fun e => ft (by
  have dq : Dg Q (n - top - 1) := fun j hj => by
    by_cases e2 : j = n - top - 1
    · rw [e2, e]
    · exact h.dgQ j (by omega)
  rw [h.eq]
  show pm 285 Q g (n - 1) ^^^ M (n - 1) = 0
  rw [h.dgM (n - 1) (by omega), Nat.xor_zero]
  by_cases e3 : n - top - 1 = 0
  · have : Q = pz := (Dg.zero (by rw [e3] at dq; exact dq))
    rw [this, fld8.pz_pm]; rfl
  · exact fld8.dg_pm dq tg (n - 1) (by omega))
theorem wrapA8 {i top j : Nat} (h : j = i + top) (hj : j ≤ 100000) : wrap64 (((i : Nat) : Int) + ((top : Nat) : Int)) = ((j : Nat) : Int) := by unfold wrap64; omega
theorem wrapAk8 {i top j : Nat} (h : j = i + top) (hj : j ≤ 100000) : IntKind.i64.wrap (((i : Nat) : Int) + ((top : Nat) : Int)) = ((j : Nat) : Int) := by rw [IntKind.wrap_i64]; omega
theorem wrapB8 {i : Nat} (hi : i ≤ 100000) : wrap64 (((i : Nat) : Int) - 1) = ((i : Nat) : Int) - 1 := by unfold wrap64; omega
/-- a division's answer. -/
structure Qr8 (w w' : World) (xq xm : Value) (f g : Nat → Nat) (n m : Nat) : Prop where
  ex : ∃ lq lm Q M, Pl8 w' xq lq Q ∧ Pl8 w' xm lm M ∧ f = pa (pm 285 Q g) M ∧ Dg M (m - 1) ∧ Dg Q (n + 1 - m) ∧ lq ≤ n ∧ lm ≤ n
  bel : Below w.heap.size w w'
  fr : Fh8 w xq
set_option maxHeartbeats 8000000 in
set_option maxRecDepth 100000 in
theorem divide8 (r t n m : Nat) (v u : Value) (f g : Nat → Nat) (w : World) (hr : Rg8 w r t) (hf : Pl8 w v n f) (hg : Pl8 w u m g) (hn : n ≤ 1000) (hm : m ≤ 1000) (hm1 : 1 ≤ m) :
    Calls Try.prog 52 #[.pointer (some ⟨r, 0, none⟩), v, u] w fun e w' => ∃ xq xm, e = .returned (.tuple #[xq, xm]) ∧ Qr8 w w' xq xm f g n m := by
  obtain ⟨va, vc, rfl, -⟩ := rb_slice8 hf.rb
  obtain ⟨ua, uc, rfl, -⟩ := rb_slice8 hg.rb
  have c1 := copied8 (.slice va n vc) n f w hf.rb (by omega)
  by_cases hlt : n < m
  · have i1 : ((n : Nat) : Int) < (m : Int) := by omega
    have HQ : Hid (∀ w1, Rw w1 w.heap.size n f → Below w.heap.size w w1 → Qr8 w w1 (.slice none 0 0) (.slice (some ⟨w.heap.size, 0, none⟩) n n) f g n m) := fun w1 h1 h2 =>
      ⟨⟨0, n, pz, f, pl8_nil w1, ⟨h1.rb0, hf.dg, hf.el, hf.top⟩, by rw [fld8.pz_pm, pz_pa], hf.dg.mono (by omega), Dg.pz _, Nat.zero_le _, Nat.le_refl _⟩, h2, Fh8.nil _ _ _⟩
    clear hr hf hg hn hm hm1
    go_enter Try.func52, Try.ntmps52
    go_wp2_with (go_at_call 49; (with_reducible refine c1.mono ?_); rintro e w1 ⟨rfl, hR1, hb1⟩; clear c1; have HF : Hid _ := HQ.out w1 hR1 hb1; clear HQ hR1 hb1)
    go_ret2
    exact ⟨_, _, rfl, HF.out⟩
  · have i1 : ¬ ((n : Nat) : Int) < (m : Int) := by omega
    obtain ⟨top, ht⟩ : ∃ top, m = top + 1 := ⟨m - 1, by omega⟩
    obtain ⟨L, hL⟩ : ∃ L, L = n - top := ⟨_, rfl⟩
    have W0 : wrap64 (((m : Nat) : Int) - 1) = ((top : Nat) : Int) := by unfold wrap64; omega
    have WL : wrap64 (((n : Nat) : Int) - ((top : Nat) : Int)) = ((L : Nat) : Int) := by unfold wrap64; omega
    have tg : Tp g top := ⟨by rw [← ht]; exact hg.dg, by have := hg.top.resolve_left (by omega); rw [ht] at this; exact this⟩
    obtain ⟨ub, uo, hua, hul, huc⟩ : ∃ b o, ua = some ⟨b, o, none⟩ ∧ b < w.heap.size ∧ ∀ i, i < m → w.cell? ⟨b, o + i, none⟩ = some (.int .u8 (g i : Nat)) := by
      obtain ⟨-, -, a, c, e, -, -, h4⟩ := hg.rb
      cases e
      exact h4 hm1
    subst hua
    have hmk := make_u8 L (by omega)
    have HT : Hid (Gf2.El 8 g ∧ Tp g top ∧ Dg g (top + 1) ∧ m = top + 1 ∧ L = n - top ∧ top < n ∧ n ≤ 1000 ∧ (n = 0 ∨ f (n - 1) ≠ 0) ∧ Rg8 w r t) := ⟨hg.el, tg, tg.1, ht, hL, by omega, hn, hf.top, hr⟩
    have HG : Hid (Rb w (.slice (some ⟨ub, uo, none⟩) m uc) m g) := hg.rb
    have HW0 : Hid (wrap64 (((m : Nat) : Int) - 1) = ((top : Nat) : Int)) := W0
    have HD0 : Hid (Dv8 f g n top L pz f) := by show Dv8 _ _ _ _ _ _ _; rw [hL]; exact Dv8.start hf.el hf.dg (by omega)
    clear hf hg hn hm hm1 ht hL tg
    go_enter Try.func52, Try.ntmps52
    go_wp2_with (go_at_call 49; (with_reducible refine c1.mono ?_); rintro e w1 ⟨rfl, hR1, hb1⟩; clear c1)
    obtain ⟨gm, hgm⟩ : ∃ gm, Hid (w.heap.size = gm) := ⟨_, rfl⟩
    have hr1 := hr.below hb1
    have qi := hr1.inv
    have qg : w1.cell? ⟨ub, uo + top, none⟩ = some (.int .u8 (g top : Nat)) := (hb1.cell (p := ⟨ub, uo + top, none⟩) hul).trans (huc top (by have := HT.out; omega))
    have c5 := fun a => tinv_nat t (g top) (w1.drewN a) (hr1.tab.drewN a) (HT.out.1 top) HT.out.2.1.2
    have it : ((top : Nat) : Int) < (m : Int) := by have := HT.out; omega
    have HI : Hid (∀ q, Below w.heap.size w ((w1.drewN q).alloc (.cells (madeCells #[.int .u8 0] L) 5)) ∧ Rw ((w1.drewN q).alloc (.cells (madeCells #[.int .u8 0] L) 5)) gm n f ∧ Rw ((w1.drewN q).alloc (.cells (madeCells #[.int .u8 0] L) 5)) w1.heap.size L pz ∧ gm < w1.heap.size) := fun q => by
      rw [← hgm.out]
      have hb1q := below_drewN hb1 q
      have b2 : Below (w1.drewN q).heap.size (w1.drewN q) ((w1.drewN q).alloc (.cells (madeCells #[.int .u8 0] L) 5)) := (Below.refl _ _).alloc (Nat.le_refl _) _
      exact ⟨hb1q.trans (b2.mono hb1q.size), (hR1.drewN q).of_block (b2.block _ hR1.lt), made_rw L (by have := HT.out; omega) (w1.drewN q), hR1.lt⟩
    obtain ⟨I, hI⟩ : ∃ I, I = fi 285 (g top) := ⟨_, rfl⟩
    have lI : I < 256 := by rw [hI]; exact fi8_lt (HT.out.1 top) HT.out.2.1.2
    have HII : Hid (I = fi 285 (g top) ∧ I < 256) := ⟨hI, lI⟩
    rw [← hI] at c5
    rw [hgm.out]
    clear hr1 hb1 hR1 hI lI hr
    go_wp2
    go_quiet ((go_at_call 44; with_reducible exact Calls.quiet_of (c5 _)))
    go_wp2
    obtain ⟨k1, k2, k3, k4⟩ := HI.out nq
    obtain ⟨w4, hw4⟩ : ∃ w4, Hid ((w1.drewN nq).alloc (.cells (madeCells #[.int .u8 0] L) 5) = w4) := ⟨_, rfl⟩
    obtain ⟨gq, hgq⟩ : ∃ gq, Hid (w1.heap.size = gq) := ⟨_, rfl⟩
    rw [hw4.out] at k1 k2 k3
    rw [hgq.out] at k3 k4
    rw [hw4.out, hgq.out]
    have HS : Hid (Below w.heap.size w w4 ∧ Rw w4 gm n f ∧ Rw w4 gq L pz) := ⟨k1, k2, k3⟩
    have HN : Hid (gm < gq ∧ w.heap.size = gm) := ⟨k4, hgm.out⟩
    have WQ : wrap64 (((L : Nat) : Int) - 1) = ((L : Nat) : Int) - 1 := by have := HT.out; unfold wrap64; omega
    clear k1 k2 k3 k4 hw4 hgq qi qg c5 HI hmk hgm
    go_loopw [11] (fun s wr => ∃ k Q M, k ≤ L ∧ s = .int .i64 ((k : Int) - 1) ∧ Below w.heap.size w wr ∧ Rw wr gm n M ∧ Rw wr gq L Q ∧ Hid (Dv8 f g n top k Q M)) (fun s _ => (intOf s + 1).toNat)
    case atStart => exact ⟨L, pz, f, Nat.le_refl _, by first | rfl | (rw [WQ]), HS.out.1, HS.out.2.1, HS.out.2.2, HD0⟩
    case round =>
      obtain ⟨k, Q, M, hk, rfl, hb, hRm, hRq, hD⟩ := hrel
      clear HS HD0 WQ W0 WL
      by_cases h0 : k = 0
      · subst h0
        have e1 : (((0 : Nat) : Int) - 1) = -1 := by omega
        rw [e1]
        have c7 := trimmed8 (some ⟨gm, 0, none⟩) n n M wr hRm.rb0 (by have := HT.out; omega)
        have HF : Hid (Rw wr gm n M ∧ Rw wr gq L Q ∧ Below w.heap.size w wr) := ⟨hRm, hRq, hb⟩
        clear hRm hRq hb e1
        go_wp2_with (go_at_call 50; (with_reducible refine c7.mono ?_); rintro e w9 ⟨d, rfl, hz, q, rfl⟩; clear c7; have HZ : Hid (Nz8 n M d) := hz; clear hz)
        go_ret2
        have d1 := hD.out
        refine ⟨_, _, rfl, ⟨L, d, Q, M, ⟨(HF.out.2.1.drewN q).rb0, by rw [HT.out.2.2.2.2.1]; exact d1.dgQ, d1.elQ, .inr ?_⟩, pl8_of (HF.out.1.drewN q) d1.elM (d1.dgM.mono (by have := HT.out; omega)) HZ.out, d1.eq, d1.dgM.mono (by have := HT.out; omega), d1.dgQ.mono (by have := HT.out; omega), by have := HT.out; omega, HZ.out.le⟩, below_drewN HF.out.2.2 q, Fh8.at_ (by have := HN.out; omega)⟩
        rw [HT.out.2.2.2.2.1]
        exact d1.top HT.out.2.2.1 HT.out.2.2.2.2.2.1 (HT.out.2.2.2.2.2.2.2.1.resolve_left (by have := HT.out; omega))
      · obtain ⟨i, rfl⟩ : ∃ i, k = i + 1 := ⟨k - 1, by omega⟩
        have e1 : (((i + 1 : Nat) : Int) - 1) = (i : Int) := by omega
        rw [e1]
        obtain ⟨j, hj⟩ : ∃ j, j = i + top := ⟨_, rfl⟩
        obtain ⟨c, hc⟩ : ∃ c, c = fm 285 (M j) I := ⟨_, rfl⟩
        have hg := HT.out.2.2.2.2.2.2.2.2.below hb
        have hjn : j < n := by have := HT.out; omega
        have hiL : i < L := by omega
        have q1 : wr.cell? ⟨gm, j, none⟩ = some (.int .u8 (M j : Nat)) := hRm.2.2.cell hjn
        have q2 := hg.mul
        have q3 := hRq.2.2.cell hiL
        have q4 := hRq.2.2.frozen i
        have c5 := tmul_nat t (M j) I wr.drew (hg.tab.of_heap rfl) (hRm.2.1 j hjn) HII.out.2
        rw [← hc] at c5
        have lc : c < 256 := by rw [hc]; exact fm8_lt _ _
        have b5 : Below w.heap.size w (wr.setCell ⟨gq, i, none⟩ (.int .u8 (c : Nat))) := hb.setCell (by show w.heap.size ≤ gq; have := HN.out; omega) _
        have r5q : Rw (wr.setCell ⟨gq, i, none⟩ (.int .u8 (c : Nat))) gq L (fun y => if y = i then c else Q y) := hRq.set i c lc
        have r5m : Rw (wr.setCell ⟨gq, i, none⟩ (.int .u8 (c : Nat))) gm n M := hRm.of_block (Below.heap_setCell _ _ _ _ (by show gm ≠ gq; have := HN.out; omega))
        have e5 : (fun y => if y = i then c else Q y) i = c := if_pos rfl
        have q5 := r5q.2.2.cell hiL
        rw [e5] at q5
        have g5 := HT.out.2.2.2.2.2.2.2.2.below b5
        have k5 : Fk (wr.setCell ⟨gq, i, none⟩ (.int .u8 (c : Nat))) gm m (some ⟨ub, uo, none⟩) g := fk_rb8 (HG.out.below b5) (fun b o e => by cases e; have := HN.out; omega)
        have cw : ∀ a, ((wr.drewN a).setCell ⟨gq, i, none⟩ (.int .u8 (c : Nat))).drew = (wr.setCell ⟨gq, i, none⟩ (.int .u8 (c : Nat))).drewN (a + 1) := fun a => by rfl
        have c6 : ∀ a, Calls Try.prog 66 #[.pointer (some ⟨r, 0, none⟩), .slice (some ⟨gm, i, none⟩) (n - i) (n - i), .int .u8 (c : Int), .slice (some ⟨ub, uo, none⟩) m uc] ((wr.drewN a).setCell ⟨gq, i, none⟩ (.int .u8 (c : Nat))).drew fun e w' => e = .returned (.tuple #[]) ∧ Kp gm ((wr.drewN a).setCell ⟨gq, i, none⟩ (.int .u8 (c : Nat))).drew w' ∧ Rw w' gm n (pl M i m (fun y => M (i + y) ^^^ fm 285 c (g y))) := fun a => by
          rw [cw a]
          exact addtimes8 r t c m gm i n (n - i) (n - i) M g (some ⟨ub, uo, none⟩) uc ((wr.setCell ⟨gq, i, none⟩ (.int .u8 (c : Nat))).drewN (a + 1)) (g5.drewN (a + 1)) (by have := HT.out.2.2.2.2.2.2.2.2.lt; have := HN.out; omega) (by have := HT.out.2.2.2.2.2.2.2.2.tab.lt; have := HN.out; omega) lc (r5m.drewN (a + 1)) (by have := HT.out; omega) (by have := HT.out; omega) k5
        have HK : Hid (∀ a w9, Kp gm ((wr.drewN a).setCell ⟨gq, i, none⟩ (.int .u8 (c : Nat))).drew w9 → Rw w9 gm n (pl M i m (fun y => M (i + y) ^^^ fm 285 c (g y))) → w9.cell? ⟨gq, i, none⟩ = some (.int .u8 (c : Nat)) ∧ Below w.heap.size w w9 ∧ Rw w9 gm n (pa M (pm 285 (mo c i) g)) ∧ Rw w9 gq L (pa Q (mo c i)) ∧ Dv8 f g n top i (pa Q (mo c i)) (pa M (pm 285 (mo c i) g))) := fun a w9 h9 hR9 => by
          rw [cw a] at h9
          have rq9 := h9.rw_ (r5q.drewN (a + 1)) (by have := HN.out; omega)
          have cq := rq9.2.2.cell hiL
          rw [e5] at cq
          have b5a := below_drewN b5 (a + 1)
          refine ⟨cq, b5a.trans (h9.below (by have := HN.out; omega) b5a.size), hR9.congr (fun y _ => by rw [HT.out.2.2.2.1]; exact sub_row8 HT.out.2.2.1 y), rq9.congr (fun y _ => put_row8 (hD.out.low i (by omega)) y), hD.out.step HT.out.1 HT.out.2.1 (by rw [← hj]; exact hjn) (by rw [hc, HII.out.1, hj])⟩
        have s0 := run_from8 gm 0 n n i (by have := HT.out; omega) (Nat.le_refl _) (by have := HT.out; omega)
        rw [Nat.zero_add] at s0
        have ij : ((j : Nat) : Int) < (n : Int) := by omega
        have iL : ((i : Nat) : Int) < (L : Int) := by omega
        have HX : Hid (i ≤ L) := by show i ≤ L; omega
        have li : i ≤ 100000 := by have := HT.out; omega
        have lj : j ≤ 100000 := by have := HT.out; omega
        have WJ := wrapA8 hj lj
        have WJk := wrapAk8 hj lj
        rw [← HW0.out] at WJ WJk
        have W1 := wrapB8 li
        generalize M j = y1 at q1 c5
        generalize Q i = y2 at q3
        clear cw li lj hRm hRq hb hD hk h0 e1 e5 hj hc hg hjn hiL lc b5 r5q r5m g5 k5
        go_wp2
        refine region_planJ (fun w' => w'.cell? ⟨gm, j, none⟩ = some (.int .u8 (y1 : Nat)) ∧ w'.cell? ⟨r, 0, none⟩ = some (.func (.func 43) #[.pointer (some ⟨t, 0, none⟩)] #[])) 14 [13, 0] 75 ⟨q1, q2⟩ (by kernel_rfl) (by kernel_rfl) (fun _ a d v _ h => by cases d <;> exact h) ?_
        refine planT_step ?A1 rfl (fun w' hS => ?s1) rfl (fun K hK => ?n1)
        case s1 =>
          obtain ⟨y1, y2⟩ := hS
          simp only [List.take_succ_cons, List.take_zero]
          repeat still_step
          exact rfl
        case n1 =>
        go_simp
        go_wp2_with (go_at_call 43; (with_reducible refine c5.mono ?_); rintro e w9 ⟨rfl, q, rfl⟩)
        refine hK _ _ ⟨q1, q2⟩ ?_
        clear hK K c5
        refine planT_last ?A2 rfl (fun w' hS => ?s2) rfl ?n2
        case s2 =>
          simp only [List.take_zero]
          exact rfl
        case n2 =>
        simp only [List.drop_succ_cons, List.drop_zero]
        go_wp2
        go_region_held (fun W => W.cell? ⟨gq, i, none⟩ = some (.int .u8 (c : Nat))) (first | exact q5 | exact u1) ((go_at_call 66; (with_reducible refine (c6 _).mono ?_); rintro e w9 ⟨rfl, h9, hR9⟩; obtain ⟨u1, u2, u3, u4, u5⟩ := HK.out _ w9 h9 hR9; clear c6 HK h9 hR9))
        have HF : Hid (Below w.heap.size w w9 ∧ Rw w9 gm n (pa M (pm 285 (mo c i) g)) ∧ Rw w9 gq L (pa Q (mo c i)) ∧ Dv8 f g n top i (pa Q (mo c i)) (pa M (pm 285 (mo c i) g))) := ⟨u2, u3, u4, u5⟩
        clear u1 u2 u3 u4 u5 q1 q2 q3 q4 q5 WJ WJk
        go_wp2
        go_roundw
        case rel => first | exact ⟨i, _, _, HX.out, by first | rfl | (rw [W1]), HF.out.1, HF.out.2.1, HF.out.2.2.1, HF.out.2.2.2⟩ | ((try rw [W1]); (repeat apply Exists.intro); exact ⟨⟨i, _, _, HX.out, rfl, HF.out.1, HF.out.2.1, HF.out.2.2.1, HF.out.2.2.2⟩, rfl⟩)
        case measure => simp [intOf]; (try rw [W1]); omega
end Go.Proofs.Ytfhgamaakkoplaa
namespace Go.Proofs.Ytfhgamaakkoplaa
open Go.RowKit Gf2
set_option linter.unusedVariables false

-- layer 4: DivMod of trimmed lists
theorem Nz8.all {n d : Nat} {f : Nat → Nat} (h : Nz8 n f d) (ht : n = 0 ∨ f (n - 1) ≠ 0) : d = n := by
  rcases ht with e | e
  · have := h.le; omega
  · have := h.le
    by_cases e2 : d = n
    · exact e2
    · exact absurd (h.out (n - 1) (by omega) (by omega)) e
theorem trim8 (a : Option Addr) (n c : Nat) (f : Nat → Nat) (w : World) (h : Pl8 w (.slice a n c) n f) (hn : n ≤ 2000) : Calls Try.prog 50 #[.slice a n c] w fun e w' => e = .returned (.slice a n c) ∧ ∃ q, w' = w.drewN q :=
  (trimmed8 a n c f w h.rb hn).mono fun e w' ⟨d, he, hz, hq⟩ => ⟨by rw [he, hz.all h.top], hq⟩
theorem Pl8.drewN {w : World} {v : Value} {n : Nat} {f : Nat → Nat} (h : Pl8 w v n f) (q : Nat) : Pl8 (w.drewN q) v n f := ⟨h.rb.drewN q, h.dg, h.el, h.top⟩
set_option maxHeartbeats 4000000 in
set_option maxRecDepth 100000 in
theorem divmod8 (r t n m : Nat) (v u : Value) (f g : Nat → Nat) (w : World) (hr : Rg8 w r t) (hf : Pl8 w v n f) (hg : Pl8 w u m g) (hn : n ≤ 1000) (hm : m ≤ 1000) (hm1 : 1 ≤ m) :
    Calls Try.prog 30 #[.pointer (some ⟨r, 0, none⟩), v, u] w fun e w' => ∃ xq xm, e = .returned (.tuple #[xq, xm, .int .i64 0]) ∧ Qr8 w w' xq xm f g n m := by
  obtain ⟨va, vc, rfl, -⟩ := rb_slice8 hf.rb
  obtain ⟨ua, uc, rfl, -⟩ := rb_slice8 hg.rb
  have c1 := unfit8 r t n m (.slice va n vc) (.slice ua m uc) w hr ⟨_, _, rfl⟩ ⟨_, _, rfl⟩ (by omega) (by omega)
  have c2 := trim8 va n vc f w hf (by omega)
  have c3 := fun q => trim8 ua m uc g (w.drewN q) (hg.drewN q) (by omega)
  have HC : Hid (∀ q, Calls Try.prog 52 #[.pointer (some ⟨r, 0, none⟩), .slice va n vc, .slice ua m uc] (w.drewN q) fun e w' => ∃ xq xm, e = .returned (.tuple #[xq, xm]) ∧ Qr8 w w' xq xm f g n m) := fun q => by
    refine (divide8 r t n m _ _ f g (w.drewN q) (hr.drewN q) (hf.drewN q) (hg.drewN q) hn hm hm1).mono ?_
    rintro e w' ⟨xq, xm, he, hq⟩
    exact ⟨xq, xm, he, hq.ex, (below_drewN (Below.refl _ _) q).trans hq.bel, hq.fr⟩
  have mI : ¬ ((m : Nat) : Int) = 0 := by omega
  have mIb : (((m : Nat) : Int) == 0) = false := by simpa using mI
  have mN : ¬ m = 0 := by omega
  have hd : ∀ q a, (w.drewN q).drewN a = w.drewN (q + a) := fun q a => World.drewN_drewN _ _ _
  clear hf hg hr hn hm hm1
  go_enter Try.func30, Try.ntmps30
  go_wp2_with (first
    | (go_at_call 45; (with_reducible refine c1.mono ?_); rintro e w9 ⟨rfl, hw9⟩; have hw9 := hw9.symm; subst hw9; clear c1)
    | (go_at_call 50; first
      | ((with_reducible refine c2.mono ?_); rintro e w9 ⟨rfl, q1, rfl⟩; clear c2)
      | ((with_reducible refine (c3 _).mono ?_); rintro e w9 ⟨rfl, q2, hw9⟩; rw [hd] at hw9; subst hw9; clear c3))
    | (go_at_call 52; (with_reducible refine Calls.mono (HC.out _) ?_); rintro e w8 ⟨xq, xm, rfl, hQ⟩; clear HC; have HF : Hid _ := hQ; clear hQ))
  go_ret3
  exact ⟨_, _, rfl, HF.out⟩
set_option maxHeartbeats 4000000 in
set_option maxRecDepth 100000 in
/-- Degree, of a trimmed list. -/
theorem deg8 (r t n : Nat) (v : Value) (f : Nat → Nat) (w : World) (hr : Rg8 w r t) (hf : Pl8 w v n f) (hn : n ≤ 2000) :
    Calls Try.prog 28 #[.pointer (some ⟨r, 0, none⟩), v] w fun e w' => e = .returned (.int .i64 ((n : Int) - 1)) ∧ ∃ q, w' = w.drewN q := by
  have c1 := lacking8 r t w hr
  have c2 : Calls Try.prog 48 #[v] w fun e w' => e = .returned (.int .i64 ((n : Int) - 1)) ∧ ∃ q, w' = w.drewN q := (degree8 v n f w hf.rb hn).mono fun e w' ⟨d, he, hz, hq⟩ => ⟨by rw [he, hz.all hf.top], hq⟩
  clear hf hr hn
  go_enter Try.func28, Try.ntmps28
  go_wp2_with (first
    | (go_at_call 47; (with_reducible refine c1.mono ?_); rintro e w9 ⟨rfl, hw9⟩; have hw9 := hw9.symm; subst hw9; clear c1)
    | (go_at_call 48; (with_reducible refine c2.mono ?_); rintro e w9 ⟨rfl, q1, rfl⟩; clear c2))
  go_ret
  exact ⟨rfl, _, rfl⟩
end Go.Proofs.Ytfhgamaakkoplaa
namespace Go.Proofs.Ytfhgamaakkoplaa
open Go.RowKit Gf2
set_option linter.unusedVariables false

-- layer 4: the link behind two links
theorem bh8 {W : World} {r t lq lua lub lva lvb : Nat} {xq vua vub vva vvb : Value} {Q fua fub fva fvb : Nat → Nat} (hr : Rg8 W r t) (hq : Pl8 W xq lq Q) (hua : Pl8 W vua lua fua) (hub : Pl8 W vub lub fub) (hva : Pl8 W vva lva fva) (hvb : Pl8 W vvb lvb fvb)
    (b1 : lq ≤ 300) (b2 : lua ≤ 300) (b3 : lub ≤ 300) (b4 : lva ≤ 300) (b5 : lvb ≤ 300) :
    Calls Try.prog 65 #[.pointer (some ⟨r, 0, none⟩), xq, vub] W fun e W1 => ∃ x1, e = .returned x1 ∧ Below W.heap.size W W1 ∧
    Calls Try.prog 64 #[vua, x1] W1 fun e W2 => ∃ x2, e = .returned x2 ∧ Below W.heap.size W W2 ∧
    Calls Try.prog 65 #[.pointer (some ⟨r, 0, none⟩), xq, vvb] W2 fun e W3 => ∃ x3, e = .returned x3 ∧ Below W.heap.size W W3 ∧
    Calls Try.prog 64 #[vva, x3] W3 fun e W4 => ∃ x4, e = .returned x4 ∧ Below W.heap.size W W4 ∧ ∃ l2 l4, Pl8 W4 x2 l2 (pa fua (pm 285 Q fub)) ∧ Pl8 W4 x4 l4 (pa fva (pm 285 Q fvb)) := by
  refine (times8 r t lq lub xq vub Q fub W hr hq hub (by omega) (by omega)).mono ?_
  rintro e W1 ⟨x1, l1, rfl, p1, e1, h1⟩
  refine ⟨x1, rfl, h1, (sum8 lua l1 vua x1 fua (pm 285 Q fub) W1 (hua.below h1) p1 (by omega) (by omega)).mono ?_⟩
  rintro e W2 ⟨x2, l2, rfl, p2, e2, h2⟩
  have h02 := h1.trans (h2.mono h1.size)
  refine ⟨x2, rfl, h02, (times8 r t lq lvb xq vvb Q fvb W2 (hr.below h02) (hq.below h02) (hvb.below h02) (by omega) (by omega)).mono ?_⟩
  rintro e W3 ⟨x3, l3, rfl, p3, e3, h3⟩
  have h03 := h02.trans (h3.mono h02.size)
  refine ⟨x3, rfl, h03, (sum8 lva l3 vva x3 fva (pm 285 Q fvb) W3 (hva.below h03) p3 (by omega) (by omega)).mono ?_⟩
  rintro e W4 ⟨x4, l4, rfl, p4, e4, h4⟩
  have h24 := h3.trans (h4.mono h3.size)
  exact ⟨x4, rfl, h03.trans (h4.mono h03.size), l2, l4, p2.below h24, p4⟩
/-- a list's length by its degree. -/
theorem Pl8.len {w : World} {v : Value} {n N : Nat} {f : Nat → Nat} (h : Pl8 w v n f) (hd : Dg f N) : n ≤ N := by
  rcases h.top with e | e
  · omega
  · apply Nat.le_of_not_lt
    intro hlt
    exact e (hd (n - 1) (by omega))
/-- what behind answers. -/
structure Bh8 (w w' : World) (xm xu xv : Value) (fa fua fva fb fub fvb : Nat → Nat) (na nb : Nat) : Prop where
  ex : ∃ lm lu lv Q M, Pl8 w' xm lm M ∧ Pl8 w' xu lu (pa fua (pm 285 Q fub)) ∧ Pl8 w' xv lv (pa fva (pm 285 Q fvb)) ∧ Pol 8 Q ∧ fa = pa (pm 285 Q fb) M ∧ Dg M (nb - 1) ∧ Dg Q (na + 1 - nb)
  bel : Below w.heap.size w w'
theorem set_at8 {w : World} {g o : Nat} {cs : Array Value} {ty : TypeId} {fr : Nat × Nat} (v : Value) (h : w.heap[g]? = some (.cells cs ty fr)) : (w.setCell ⟨g, o, none⟩ v).heap[g]? = some (.cells (cs.setIfInBounds o v) ty fr) := by
  simp only [World.setCell, Array.getElem?_modify, h]
  simp
/-- bytes don't lie in a link. -/
theorem Rb.link8 {w w' : World} {br n : Nat} {v : Value} {F : Nat → Nat} {T : TypeId} {s0 s1 s2 : Option Addr} {n0 c0 n1 c1 n2 c2 : Nat} (h : Rb w v n F) (k : Kp br w w') (r : w.heap[br]? = some (.cells #[.slice s0 n0 c0, .slice s1 n1 c1, .slice s2 n2 c2] T (0, 0))) : Rb w' v n F := by
  obtain ⟨h1, h2, a, cap, h3, h5, h6, h4⟩ := h
  refine ⟨h1, h2, a, cap, h3, h5, h6, fun h0 => ?_⟩
  obtain ⟨b, o, e, hl, hc⟩ := h4 h0
  have hne : b ≠ br := fun eb => by
    subst eb
    have z := hc 0 h0
    rw [cell_of_row _ _ (o + 0) _ _ _ r] at z
    rcases o with _ | _ | _ | o
    · simp at z
    · simp at z
    · simp at z
    · simp at z
  exact ⟨b, o, e, Nat.lt_of_lt_of_le hl k.size, fun i hi => (k.cell hl hne).trans (hc i hi)⟩
theorem Pl8.link8 {w w' : World} {br n : Nat} {v : Value} {f : Nat → Nat} {T : TypeId} {s0 s1 s2 : Option Addr} {n0 c0 n1 c1 n2 c2 : Nat} (h : Pl8 w v n f) (k : Kp br w w') (r : w.heap[br]? = some (.cells #[.slice s0 n0 c0, .slice s1 n1 c1, .slice s2 n2 c2] T (0, 0))) : Pl8 w' v n f := ⟨h.rb.link8 k r, h.dg, h.el, h.top⟩
theorem info_link8 : (Try.prog.info? 96).map (·.size) = some 3 := by kernel_rfl
theorem set3_8 {w : World} {g : Nat} {x y z : Value} {ty : TypeId} (a b c : Value) (h : w.heap[g]? = some (.cells #[x, y, z] ty (0, 0))) :
    (((w.setCell ⟨g, 0, none⟩ a).setCell ⟨g, 1, none⟩ b).setCell ⟨g, 2, none⟩ c).heap[g]? = some (.cells #[a, b, c] ty (0, 0)) := by
  rw [set_at8 c (set_at8 b (set_at8 a h))]
  rfl
set_option maxHeartbeats 8000000 in
set_option maxRecDepth 100000 in
theorem behind8 (r t na nb lua lub lva lvb : Nat) (vma vua vva vmb vub vvb : Value) (fa fua fva fb fub fvb : Nat → Nat) (w : World) (hr : Rg8 w r t) (ha : Pl8 w vma na fa) (hua : Pl8 w vua lua fua) (hva : Pl8 w vva lva fva) (hb : Pl8 w vmb nb fb) (hub : Pl8 w vub lub fub) (hvb : Pl8 w vvb lvb fvb)
    (b1 : na ≤ 300) (b2 : nb ≤ 300) (b3 : lua ≤ 300) (b4 : lub ≤ 300) (b5 : lva ≤ 300) (b6 : lvb ≤ 300) (hnb : 1 ≤ nb) :
    Calls Try.prog 51 #[.pointer (some ⟨r, 0, none⟩), .agg #[vma, vua, vva], .agg #[vmb, vub, vvb]] w fun e w' => ∃ xm xu xv, e = .returned (.agg #[xm, xu, xv]) ∧ Bh8 w w' xm xu xv fa fua fva fb fub fvb na nb := by
  obtain ⟨w1, hw1⟩ : ∃ w1, w1 = w.alloc (.cells #[vma, vua, vva] 96) := ⟨_, rfl⟩
  obtain ⟨w2, hw2⟩ : ∃ w2, w2 = w1.alloc (.cells #[vmb, vub, vvb] 96) := ⟨_, rfl⟩
  obtain ⟨w3, hw3⟩ : ∃ w3, w3 = w2.alloc (.cells #[.slice none 0 0, .slice none 0 0, .slice none 0 0] 96) := ⟨_, rfl⟩
  have s1 : w1.heap.size = w.heap.size + 1 := by rw [hw1]; simp
  have s2 : w2.heap.size = w.heap.size + 1 + 1 := by rw [hw2, ← s1]; simp
  have k1 : Below w.heap.size w w1 := by rw [hw1]; exact (Below.refl _ _).alloc (Nat.le_refl _) _
  have k2 : Below w1.heap.size w1 w2 := by rw [hw2]; exact (Below.refl _ _).alloc (Nat.le_refl _) _
  have k3 : Below w2.heap.size w2 w3 := by rw [hw3]; exact (Below.refl _ _).alloc (Nat.le_refl _) _
  have k13 := k2.trans (k3.mono k2.size)
  have k03 := k1.trans (k13.mono k1.size)
  have ra : w3.heap[w.heap.size]? = some (.cells #[vma, vua, vva] 96 (0, 0)) := by
    rw [k13.block _ (by omega), hw1]; exact heap_alloc_new _ _
  have rb : w3.heap[w.heap.size + 1]? = some (.cells #[vmb, vub, vvb] 96 (0, 0)) := by
    rw [k3.block _ (by omega), ← s1, hw2]; exact heap_alloc_new _ _
  have rr : w3.heap[w.heap.size + 1 + 1]? = some (.cells #[.slice none 0 0, .slice none 0 0, .slice none 0 0] 96 (0, 0)) := by
    rw [← s2, hw3]; exact heap_alloc_new _ _
  have s3 : w.heap.size + 1 + 1 < w3.heap.size := (Array.getElem?_eq_some_iff.1 rr).1
  have y0 : w3.cell? ⟨w.heap.size, 0, none⟩ = some vma := by rw [cell_of_row _ _ 0 _ _ _ ra]; rfl
  have y1 : w3.cell? ⟨w.heap.size + 1, 0, none⟩ = some vmb := by rw [cell_of_row _ _ 0 _ _ _ rb]; rfl
  have c1 := divide8 r t na nb vma vmb fa fb w3 (hr.below k03) (ha.below k03) (hb.below k03) (by omega) (by omega) hnb
  have HC : Hid (∀ w4 xq xm, Qr8 w3 w4 xq xm fa fb na nb → ∃ lq lm Q M, Pl8 w4 xm lm M ∧ Pol 8 Q ∧ fa = pa (pm 285 Q fb) M ∧ Dg M (nb - 1) ∧ Dg Q (na + 1 - nb) ∧ Below w3.heap.size w3 w4 ∧ _) := fun w4 xq xm h => by
    obtain ⟨lq, lm, Q, M, p1, p2, p3, p4, p5, p6, p7⟩ := h.ex
    have k04 := k03.trans (h.bel.mono k03.size)
    exact ⟨lq, lm, Q, M, p2, ⟨p1.el, _, p1.dg⟩, p3, p4, p5, h.bel, bh8 (W := w4.drew) ((hr.below k04).drewN 1) (p1.drewN 1) ((hua.below k04).drewN 1) ((hub.below k04).drewN 1) ((hva.below k04).drewN 1) ((hvb.below k04).drewN 1) (by omega) b3 b4 b5 b6⟩
  have HR : Hid (w3.heap[w.heap.size]? = some (.cells #[vma, vua, vva] 96 (0, 0)) ∧ w3.heap[w.heap.size + 1]? = some (.cells #[vmb, vub, vvb] 96 (0, 0)) ∧ w3.heap[w.heap.size + 1 + 1]? = some (.cells #[.slice none 0 0, .slice none 0 0, .slice none 0 0] 96 (0, 0)) ∧ w.heap.size + 1 + 1 < w3.heap.size ∧ Below w.heap.size w w3) := ⟨ra, rb, rr, s3, k03⟩
  have HW : Hid (((w.alloc (.cells #[vma, vua, vva] 96)).alloc (.cells #[vmb, vub, vvb] 96)).alloc (.cells #[.slice none 0 0, .slice none 0 0, .slice none 0 0] 96) = w3) := by show _ = _; rw [hw3, hw2, hw1]
  clear hr ha hua hva hb hub hvb hw1 hw2 hw3 k1 k2 k3 k13 k03 ra rb rr s1 s2 s3 b1 b2 b3 b4 b5 b6 hnb
  go_enter Try.func51, Try.ntmps51
  go_wp2_with (go_at_call 52; rw [HW.out]; (with_reducible refine c1.mono ?_); rintro e w4 ⟨xq, xm, rfl, hQ⟩; clear c1)
  obtain ⟨lq, lm, Q, M, p2, p1, p3, p4, p5, k34, cT⟩ := HC.out w4 xq xm hQ
  have HZ : Hid (∀ W, Below w4.drew.heap.size w4.drew W → W.cell? ⟨w.heap.size, 1, none⟩ = some vua ∧ W.cell? ⟨w.heap.size, 2, none⟩ = some vva ∧ W.cell? ⟨w.heap.size + 1, 1, none⟩ = some vub ∧ W.cell? ⟨w.heap.size + 1, 2, none⟩ = some vvb ∧ W.heap[w.heap.size + 1 + 1]? = some (.cells #[.slice none 0 0, .slice none 0 0, .slice none 0 0] 96 (0, 0)) ∧ Below w.heap.size w W) := fun W hW => by
    have k34' : Below w3.heap.size w3 w4.drew := below_drewN k34 1
    have k3W : Below w3.heap.size w3 W := k34'.trans (hW.mono k34'.size)
    have ra := (k3W.block _ (by have := HR.out.2.2.2.1; omega)).trans HR.out.1
    have rb := (k3W.block _ (by have := HR.out.2.2.2.1; omega)).trans HR.out.2.1
    have rr := (k3W.block _ HR.out.2.2.2.1).trans HR.out.2.2.1
    refine ⟨?_, ?_, ?_, ?_, rr, HR.out.2.2.2.2.trans (k3W.mono HR.out.2.2.2.2.size)⟩
    · rw [cell_of_row _ _ 1 _ _ _ ra]; rfl
    · rw [cell_of_row _ _ 2 _ _ _ ra]; rfl
    · rw [cell_of_row _ _ 1 _ _ _ rb]; rfl
    · rw [cell_of_row _ _ 2 _ _ _ rb]; rfl
  have HP : Hid (Pl8 w4 xm lm M ∧ Pol 8 Q ∧ fa = pa (pm 285 Q fb) M ∧ Dg M (nb - 1) ∧ Dg Q (na + 1 - nb)) := ⟨p2, p1, p3, p4, p5⟩
  have HQ : Hid (∀ W, Below w4.drew.heap.size w4.drew W → W.cell? ⟨w.heap.size, 1, none⟩ = some vua ∧ W.cell? ⟨w.heap.size, 2, none⟩ = some vva ∧ W.cell? ⟨w.heap.size + 1, 1, none⟩ = some vub ∧ W.cell? ⟨w.heap.size + 1, 2, none⟩ = some vvb) := fun W hW => ⟨(HZ.out W hW).1, (HZ.out W hW).2.1, (HZ.out W hW).2.2.1, (HZ.out W hW).2.2.2.1⟩
  clear p1 p2 p3 p4 p5 k34 hQ HC y0 y1
  refine region_planI (fun w' => w'.cell? ⟨w.heap.size, 1, none⟩ = some vua ∧ w'.cell? ⟨w.heap.size, 2, none⟩ = some vva ∧ w'.cell? ⟨w.heap.size + 1, 1, none⟩ = some vub ∧ w'.cell? ⟨w.heap.size + 1, 2, none⟩ = some vvb) [0, 1, 2, 3, 4, 5, 6, 9, 10, 11, 12, 13, 14, 7, 8, 15, 16, 17, 18] [13, 0, 0, 0, 1, 0] 36 (HQ.out _ (Below.refl _ _)) (by kernel_rfl) (by kernel_rfl) (fun _ a d v _ h => by cases d <;> exact h) ?_
  simp only [atI, List.getElem?_cons_zero, List.getElem?_cons_succ]
  refine planH_step ?Aa rfl (fun w' hS => ?sa) rfl (fun K hK => ?na)
  case sa =>
    obtain ⟨z1, z2, z3, z4⟩ := hS
    simp only [List.take_succ_cons, List.take_zero]
    repeat still_step
    exact rfl
  case na =>
  go_simp
  go_wp2_with (go_at_call 65; (with_reducible refine cT.mono ?_); rintro e w5 ⟨x1, rfl, h5, cU⟩; clear cT)
  refine hK _ _ (HQ.out _ h5) ?_
  clear hK K
  refine planH_step ?Ab rfl (fun w' hS => ?sb) rfl (fun K hK => ?nb)
  case sb =>
    simp only [List.take_zero]
    exact rfl
  case nb =>
  go_simp
  go_wp2_with (go_at_call 64; (with_reducible refine cU.mono ?_); rintro e w6 ⟨x2, rfl, h6, cV⟩; clear cU)
  refine hK _ _ (HQ.out _ h6) ?_
  clear hK K
  refine planH_step ?Ac rfl (fun w' hS => ?sc) rfl (fun K hK => ?nc)
  case sc =>
    simp only [List.take_zero]
    exact rfl
  case nc =>
  go_simp
  go_wp2_with (go_at_call 65; (with_reducible refine cV.mono ?_); rintro e w7 ⟨x3, rfl, h7, cX⟩; clear cV)
  refine hK _ _ (HQ.out _ h7) ?_
  clear hK K
  refine planH_step ?Ad rfl (fun w' hS => ?sd) rfl (fun K hK => ?nd)
  case sd =>
    simp only [List.take_zero]
    exact rfl
  case nd =>
  go_simp
  go_wp2_with (go_at_call 64; (with_reducible refine cX.mono ?_); rintro e w8 ⟨x4, rfl, h8, hE⟩; clear cX)
  refine hK _ _ (HQ.out _ h8) ?_
  clear hK K
  obtain ⟨-, -, -, -, r8, b8⟩ := HZ.out w8 h8
  obtain ⟨l2, l4, e2, e4⟩ := hE
  obtain ⟨a0, c0, ee0, -⟩ := rb_slice8 HP.out.1.rb
  obtain ⟨a2, c2, ee2, -⟩ := rb_slice8 e2.rb
  obtain ⟨a4, c4, ee4, -⟩ := rb_slice8 e4.rb
  have k48 : Below w4.heap.size w4 w8 := (below_drewN (Below.refl _ _) 1).trans h8
  have HF : Hid (Pl8 w8 xm lm M ∧ Pl8 w8 x2 l2 (pa fua (pm 285 Q fub)) ∧ Pl8 w8 x4 l4 (pa fva (pm 285 Q fvb))) := ⟨HP.out.1.below k48, e2, e4⟩
  subst ee0 ee2 ee4
  have z0 : w8.cell? ⟨w.heap.size + 1 + 1, 0, none⟩ = some (.slice none 0 0) := by rw [cell_of_row _ _ 0 _ _ _ r8]; rfl
  have z1 : w8.cell? ⟨w.heap.size + 1 + 1, 1, none⟩ = some (.slice none 0 0) := by rw [cell_of_row _ _ 1 _ _ _ r8]; rfl
  have z2 : w8.cell? ⟨w.heap.size + 1 + 1, 2, none⟩ = some (.slice none 0 0) := by rw [cell_of_row _ _ 2 _ _ _ r8]; rfl
  have g0 := frozen_of_row w8 (w.heap.size + 1 + 1) 0 _ _ r8
  have g1 := frozen_of_row w8 (w.heap.size + 1 + 1) 1 _ _ r8
  have g2 := frozen_of_row w8 (w.heap.size + 1 + 1) 2 _ _ r8
  refine planH_step ?Ae rfl (fun w' hS => ?se) rfl (fun K hK => ?ne)
  case se =>
    simp only [List.take_succ_cons, List.take_zero]
    repeat still_step
    exact rfl
  case ne =>
  go_simp
  go_wp2
  obtain ⟨w9, hw9⟩ : ∃ w9, w9 = ((w8.setCell ⟨w.heap.size + 1 + 1, 0, none⟩ (.slice a0 lm c0)).setCell ⟨w.heap.size + 1 + 1, 1, none⟩ (.slice a2 l2 c2)).setCell ⟨w.heap.size + 1 + 1, 2, none⟩ (.slice a4 l4 c4) := ⟨_, rfl⟩
  have r9 : w9.heap[w.heap.size + 1 + 1]? = some (.cells #[.slice a0 lm c0, .slice a2 l2 c2, .slice a4 l4 c4] 96 (0, 0)) := by rw [hw9]; exact set3_8 _ _ _ r8
  have k9 : Kp (w.heap.size + 1 + 1) w8 w9 := by rw [hw9]; exact (((Kp.refl _ _).setCell _ _).setCell _ _).setCell _ _
  have l8 : w.heap.size + 1 + 1 < w8.heap.size := (Array.getElem?_eq_some_iff.1 r8).1
  have q8 := HQ.out _ h8
  have HE : Hid (Bh8 w w9 (.slice a0 lm c0) (.slice a2 l2 c2) (.slice a4 l4 c4) fa fua fva fb fub fvb na nb ∧ w9.heap[w.heap.size + 1 + 1]? = some (.cells #[.slice a0 lm c0, .slice a2 l2 c2, .slice a4 l4 c4] 96 (0, 0))) :=
    ⟨⟨⟨lm, l2, l4, Q, M, HF.out.1.link8 k9 r8, HF.out.2.1.link8 k9 r8, HF.out.2.2.link8 k9 r8, HP.out.2.1, HP.out.2.2.1, HP.out.2.2.2.1, HP.out.2.2.2.2⟩, b8.trans (k9.below (by omega) b8.size)⟩, r9⟩
  rw [← hw9]
  refine hK _ _ ⟨(k9.cell (by omega) (by omega)).trans q8.1, (k9.cell (by omega) (by omega)).trans q8.2.1, (k9.cell (by omega) (by omega)).trans q8.2.2.1, (k9.cell (by omega) (by omega)).trans q8.2.2.2⟩ ?_
  clear hK K q8 k9 l8 r9 hw9 z0 z1 z2 g0 g1 g2 e2 e4 k48 h8 h7 h6 h5 r8 b8
  refine planH_last ?Af rfl (fun w' hS => ?sf) rfl ?nf
  case sf =>
    simp only [List.take_zero]
    exact rfl
  case nf =>
  go_wp2
  refine bodyPost_ret (results_cell_row (P := Try.prog) (fn := Try.f51) rfl _ _ (w.heap.size + 1 + 1) 96 #[.slice a0 lm c0, .slice a2 l2 c2, .slice a4 l4 c4] (0, 0) _ rfl HE.out.2 Try.underlying96 rfl info_link8) rfl ?_
  exact ⟨_, _, _, rfl, HE.out.1⟩
end Go.Proofs.Ytfhgamaakkoplaa
