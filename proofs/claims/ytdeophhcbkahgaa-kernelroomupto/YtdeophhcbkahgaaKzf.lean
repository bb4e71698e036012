import Derived.Test.YtdeophhcbkahgaaKj4
namespace Go.Proofs.Ytdeophhcbkahgaa
open Go.RowKit Gf2
set_option linter.unusedVariables false

theorem spb_more {w : World} {N r f t : Nat} {B o : Nat → Nat} {V G : Nat → Nat → Nat} (hft : f ≤ t) {T : Nat → Nat}
    (h : Rw w (B r) N (pl (spb B o f t V G r (B r)) (o r + f) (t - f) (fun x => spb B o f t V G r (B r) (o r + f + x) ^^^ T x))) (hT : ∀ x, x < t - f → T x = V r (f + x)) :
    Rw w (B r) N (spb B o f t V G (r + 1) (B r)) :=
  h.congr (fun i hi => by
    show _ = if B r = B r ∧ o r + f ≤ i ∧ i < o r + t then spb B o f t V G r (B r) i ^^^ V r (i - o r) else spb B o f t V G r (B r) i
    by_cases e : o r + f ≤ i ∧ i < o r + f + (t - f)
    · rw [if_pos (by omega)]
      obtain ⟨x, hx, rfl⟩ : ∃ x, x < t - f ∧ i = o r + f + x := ⟨i - (o r + f), by omega, by omega⟩
      rw [pl_in hx, hT _ hx, show o r + f + x - o r = f + x by omega]
    · rw [if_neg (by omega), pl_out (by omega)])
theorem spb_other {r f t b : Nat} {B o : Nat → Nat} {V G : Nat → Nat → Nat} (h : b ≠ B r) (i : Nat) : spb B o f t V G (r + 1) b i = spb B o f t V G r b i := by
  show (if b = B r ∧ o r + f ≤ i ∧ i < o r + t then spb B o f t V G r b i ^^^ V r (i - o r) else spb B o f t V G r b i) = _
  rw [if_neg (fun e => h e.1)]
theorem sub_big9 {o L N f t : Nat} (h : o + L ≤ N) (hN : N ≤ big) (ht : t ≤ L) : t - f ≤ big := by omega
theorem add_sub9 {o L N f t : Nat} (hft : f ≤ t) (ht : t ≤ L) (h : o + L ≤ N) : o + f + (t - f) ≤ N := by omega
theorem re_form {E : Nat → Prop} {w : World} {v : Value} {n : Nat} {S : Nat → Nat} (h : Re E w v n S) : ∃ a c, v = .slice a n c ∧ n ≤ c := by
  obtain ⟨_, _, a, c, h, h', _⟩ := h
  exact ⟨a, c, h, h'⟩
set_option maxHeartbeats 4000000 in
set_option maxRecDepth 100000 in
theorem sprd9_table (q : Addr) (lo mid hi g0 m L f t : Nat) (B o Nn Kc F : Nat → Nat) (G : Nat → Nat → Nat) (col diff dsts : Value) (w : World) (hk : Ks w ⟨g0, 0, none⟩ 0 lo hi) (hK : Ker w q lo mid) (i0 : w.cell? ⟨g0, 0, none⟩ = some (.iface 83 (.pointer (some q)))) (h1 : lo ≤ g0) (h2 : g0 < hi) (h3 : hi ≤ w.heap.size) (h4 : mid ≤ hi)
    (hmb : 24 * m ≤ 140737488355328) (hg : ∀ r, r < m → B r < lo ∨ hi ≤ B r) (hc : Re (Eb m B) w col m Kc) (hs : Re (Eb m B) w diff L F) (hd : Dl w dsts m L B o Nn G) (hft : f ≤ t) (htL : t ≤ L) :
    Calls Try.prog 13 #[.pointer (some ⟨g0, 0, none⟩), col, diff, dsts, .agg #[.int .i64 (f : Int), .int .i64 (t : Int)]] w fun e w' => e = .returned (.int .i64 0) ∧ Ke (Eb m B) w w' ∧ ∀ r, r < m → Rw w' (B r) (Nn (B r)) (spb B o f t (fun r j => fm 285 (Kc r) (F j)) G m (B r)) := by
  have b1 : Below w.heap.size w (w.alloc (.cells #[.int .i64 (f : Int), .int .i64 (t : Int)] 30)) := (Below.refl _ _).alloc (Nat.le_refl _) _
  have c0 := isnil9_no _ 0 lo hi _ (hk.under b1)
  have c2 := allof9_yes L dsts m (fun _ => L) _ _ (hd.lb.below b1) (by omega) (fun _ _ => rfl)
  have c3 := within9_yes (f : Int) (t : Int) L (w.alloc (.cells #[.int .i64 (f : Int), .int .i64 (t : Int)] 30)) ⟨by omega, by omega, by omega⟩
  have hm : ∀ W, Sem.run Try.prog (method 248 83 (.pointer (some q)) "MulAdd") W = .ok (74, .pointer (some q)) W := fun _ => by kernel_rfl
  obtain ⟨Ad, Cd, hdv, hdA⟩ := hd.lv
  have hdr := hd.row
  clear hd
  obtain ⟨hmb2, ad, cd, ed, -, -, d4⟩ := id hdv
  obtain ⟨xs, cx, es, hcx⟩ := re_form hs
  obtain ⟨k1, k2, xc, cc, ec, -, -, k4⟩ := hc
  subst ed es ec
  have HE : Hid (∀ r, r < m → B r < w.heap.size) := fun r h => (hdr r h).1.lt
  go_enter Try.func13, Try.ntmps13
  go_wp2_with (first | (go_at_call 24; (with_reducible refine c0.mono ?_); rintro e w9 ⟨rfl, hw9⟩; have hw9 := hw9.symm; subst hw9) | (go_at_call 27; (with_reducible refine c2.mono ?_); rintro e w9 ⟨rfl, hw9⟩; have hw9 := hw9.symm; subst hw9) | (go_at_call 28; (with_reducible refine c3.mono ?_); rintro e w2 ⟨rfl, b2⟩))
  have y1 : w2.cell? ⟨w.heap.size, 0, none⟩ = some (.int .i64 (f : Int)) := (b2.cell (p := ⟨w.heap.size, 0, none⟩) (by simp)).trans (by simp)
  have y2 : w2.cell? ⟨w.heap.size, 1, none⟩ = some (.int .i64 (t : Int)) := (b2.cell (p := ⟨w.heap.size, 1, none⟩) (by simp)).trans (by simp)
  have z2 : w.heap.size < w2.heap.size := Nat.lt_of_lt_of_le (by simp) b2.size
  have B2 : Below w.heap.size w w2 := b1.trans (b2.mono b1.size)
  have K2 : Ke (Eb m B) w w2 := ke_below B2 _
  clear b1 b2 c0 c2 c3
  go_loopw [34] (fun i wr => ∃ r : Nat, r ≤ m ∧ i = .int .i64 r ∧ Ke (Eb m B) w2 wr ∧ ∀ s, s < m → Rw wr (B s) (Nn (B s)) (spb B o f t (fun r j => fm 285 (Kc r) (F j)) G r (B s))) (fun i _ => m - (intOf i).toNat)
  case atStart => exact ⟨0, Nat.zero_le _, rfl, Ke.refl _ _, fun s hs' => rw_below (hdr s hs').1 B2⟩
  case round =>
    obtain ⟨r, hrm, rfl, hke, hrw⟩ := hrel
    by_cases hlt : r < m
    · obtain ⟨bc, oc, rfl, hbc, hcc⟩ := k4 (by omega)
      obtain ⟨bd, od, rfl, hbd, hcd⟩ := d4 (by omega)
      clear k4 d4
      have K3 : Ke (Eb m B) w wr := K2.trans hke
      have K4 : Ke (Eb m B) w2 wr.drew := hke.drew9
      have K5 : Ke (Eb m B) w wr.drew := K2.trans K4
      have q2 := (K3.cell hbd.1 hbd.2).trans (hcd r hlt)
      have nE : ¬ Eb m B w.heap.size := fun ⟨s, hs', e⟩ => Nat.lt_irrefl _ (e ▸ HE.out s hs')
      have n0 : ¬ Eb m B g0 := fun ⟨s, hs', e⟩ => (hg s hs').elim (fun h => Nat.not_le.2 h (e ▸ h1)) (fun h => Nat.not_le.2 h2 (e.symm ▸ h))
      have q6 := (K5.cell (q := oc + r) hbc.1 hbc.2).trans (hcc r hlt)
      have q7 := (K4.cell (q := 0) z2 nE).trans y1
      have q8 := (K4.cell (q := 1) z2 nE).trans y2
      have e1 : g0 < w.heap.size := Nat.lt_of_lt_of_le h2 h3
      have q9 := (K5.cell (q := 0) e1 n0).trans i0
      obtain ⟨hd1, hd2, hd3⟩ := hdA r hlt
      have hN := (hdr r hlt).2
      obtain ⟨a9, ha9, hcut⟩ := cut_pl9 (f := f) (t := t) hd3 hd1 hft htL
      obtain ⟨a8, hre, hcut8⟩ := cut_re9 (f := f) (t := t) hs hft htL
      have hK5 : Ker wr.drew q lo mid := hK.keep (Nat.le_trans (Nat.le_trans h4 h3) K5.size) (fun b hb1 hb2 => K5.2 b (Nat.lt_of_lt_of_le hb2 (Nat.le_trans h4 h3)) (fun ⟨s, hs', e⟩ => (hg s hs').elim (fun h => Nat.not_le.2 h (e ▸ hb1)) (fun h => Nat.not_le.2 hb2 (Nat.le_trans h4 (e.symm ▸ h)))))
      have c5 := t9add_far q lo mid (Kc r) (t - f) (B r) (o r + f) (Nn (B r)) _ _ a9 a8 (Cd r - f) (cx - f) wr.drew hK5 (k2 r hlt) (sub_big9 hN (hrw r hlt).1 htL) ((hg r hlt).imp_right (Nat.le_trans h4)) (Nat.sub_le_sub_right (Nat.le_trans htL hd1) f) (Nat.sub_le_sub_right (Nat.le_trans htL hcx) f) (hrw r hlt).drew9 ha9 (add_sub9 hft htL hN) ((hre.ke K5).mono (fun x _ e => ⟨r, hlt, e⟩)).fk
      have ib : ((r : Nat) : Int) < (m : Int) := Int.ofNat_lt.2 hlt
      have W1 := wrap_succ8 (j := r) (by unfold big; omega)
      have HQ : Hid (Ke (Eb m B) w2 wr.drew ∧ (∀ s, s < m → Rw wr (B s) (Nn (B s)) (spb B o f t (fun r j => fm 285 (Kc r) (F j)) G r (B s))) ∧ (bc < wr.drew.heap.size ∧ bc ≠ B r) ∧ (w.heap.size < wr.drew.heap.size ∧ w.heap.size ≠ B r) ∧ g0 < wr.drew.heap.size ∧ g0 ≠ B r) :=
        ⟨K4, hrw, ⟨Nat.lt_of_lt_of_le hbc.1 K5.size, fun e => hbc.2 ⟨r, hlt, e⟩⟩, ⟨Nat.lt_of_lt_of_le z2 K4.size, fun e => nE ⟨r, hlt, e⟩⟩, Nat.lt_of_lt_of_le e1 K5.size, fun e => n0 ⟨r, hlt, e⟩⟩
      clear hcc hcd hdv hs hk hg hdr hdA hke hrw K2 K3 K4 K5 hbc hbd nE n0 hd1 hd2 hd3 hN ha9 hmb2 y1 y2 B2 HE z2 k1 k2 hK hK5 hre i0 e1
      go_wp2
      refine region_planI (fun w' => w'.cell? ⟨g0, 0, none⟩ = some (.iface 83 (.pointer (some q))) ∧ w'.cell? ⟨bc, oc + r, none⟩ = some (.int .u8 (Kc r : Nat)) ∧ w'.cell? ⟨w.heap.size, 0, none⟩ = some (.int .i64 (f : Int)) ∧ w'.cell? ⟨w.heap.size, 1, none⟩ = some (.int .i64 (t : Int))) [0, 1, 2, 3, 4, 5, 6, 7, 8, 9, 10, 11, 12, 13, 14, 15, 16, 17, 18, 19, 20, 21, 22, 23] [23, 0] 64 ⟨q9, q6, q7, q8⟩ (by kernel_rfl) (by kernel_rfl) (fun _ a d v _ h => by cases d <;> exact h) ?_
      simp only [atI, List.getElem?_cons_zero, List.getElem?_cons_succ]
      refine planH_step ?A1 rfl (fun w' hS => ?s1) rfl (fun K hK => ?n1)
      case s1 =>
        obtain ⟨y0, y1, y2, y3⟩ := hS
        simp only [List.take_succ_cons, List.take_zero]
        repeat still_step
        exact rfl
      case n1 =>
      go_simp
      go_wp2_with (go_at_call 74; (with_reducible refine c5.mono ?_); rintro e x1 ⟨rfl, k5, r5⟩)
      clear c5
      obtain ⟨n1, n3, n4, n6, n8⟩ := HQ.out
      have HN : Hid (Ke (Eb m B) w2 x1 ∧ ∀ s, s < m → Rw x1 (B s) (Nn (B s)) (spb B o f t (fun r j => fm 285 (Kc r) (F j)) G (r + 1) (B s))) := by
        refine ⟨n1.trans (k5.ke.mono (fun x _ e => ⟨r, hlt, e⟩)), fun s hs' => ?_⟩
        by_cases e : B s = B r
        · rw [e]
          exact spb_more hft r5 (fun x _ => rfl)
        · exact (k5.rw_ (n3 s hs').drew9 e).congr (fun i _ => (spb_other e i).symm)
      refine hK _ _ ⟨(k5.cell n8.1 n8.2).trans q9, (k5.cell n4.1 n4.2).trans q6, (k5.cell n6.1 n6.2).trans q7, (k5.cell n6.1 n6.2).trans q8⟩ ?_
      clear hK K n1 n3 n4 n6 n8 k5 r5 q2 q6 q7 q8 q9 HQ hcut hcut8
      refine planH_last ?A2 rfl (fun w' hS => ?s2) rfl ?n2
      case s2 =>
        simp only [List.take_zero]
        exact rfl
      case n2 =>
      go_wp2
      go_roundw
      case rel => exact ⟨r + 1, hlt, by first | rfl | (rw [W1]; rfl), HN.out.1, HN.out.2⟩
      case measure => first | exact meas_lt8 hlt | (rw [W1]; exact meas_lt8 hlt)
    · have hkn : r = m := by omega
      subst hkn
      clear k4 d4
      go_wp2
      go_ret
      exact ⟨rfl, K2.trans hke, hrw⟩
set_option maxHeartbeats 4000000 in
set_option maxRecDepth 100000 in
theorem sprd9_nibble (q : Addr) (lo mid hi g0 m L f t : Nat) (B o Nn Kc F : Nat → Nat) (G : Nat → Nat → Nat) (col diff dsts : Value) (w : World) (hk : Ks w ⟨g0, 0, none⟩ 1 lo hi) (hK : Nk w q lo mid) (i0 : w.cell? ⟨g0, 0, none⟩ = some (.iface 85 (.pointer (some q)))) (h1 : lo ≤ g0) (h2 : g0 < hi) (h3 : hi ≤ w.heap.size) (h4 : mid ≤ hi)
    (hmb : 24 * m ≤ 140737488355328) (hg : ∀ r, r < m → B r < lo ∨ hi ≤ B r) (hc : Re (Eb m B) w col m Kc) (hs : Re (Eb m B) w diff L F) (hd : Dl w dsts m L B o Nn G) (hft : f ≤ t) (htL : t ≤ L) :
    Calls Try.prog 13 #[.pointer (some ⟨g0, 0, none⟩), col, diff, dsts, .agg #[.int .i64 (f : Int), .int .i64 (t : Int)]] w fun e w' => e = .returned (.int .i64 0) ∧ Ke (Eb m B) w w' ∧ ∀ r, r < m → Rw w' (B r) (Nn (B r)) (spb B o f t (fun r j => fm 285 (Kc r) (F j)) G m (B r)) := by
  have b1 : Below w.heap.size w (w.alloc (.cells #[.int .i64 (f : Int), .int .i64 (t : Int)] 30)) := (Below.refl _ _).alloc (Nat.le_refl _) _
  have c0 := isnil9_no _ 1 lo hi _ (hk.under b1)
  have c2 := allof9_yes L dsts m (fun _ => L) _ _ (hd.lb.below b1) (by omega) (fun _ _ => rfl)
  have c3 := within9_yes (f : Int) (t : Int) L (w.alloc (.cells #[.int .i64 (f : Int), .int .i64 (t : Int)] 30)) ⟨by omega, by omega, by omega⟩
  have hm : ∀ W, Sem.run Try.prog (method 248 85 (.pointer (some q)) "MulAdd") W = .ok (78, .pointer (some q)) W := fun _ => by kernel_rfl
  obtain ⟨Ad, Cd, hdv, hdA⟩ := hd.lv
  have hdr := hd.row
  clear hd
  obtain ⟨hmb2, ad, cd, ed, -, -, d4⟩ := id hdv
  obtain ⟨xs, cx, es, hcx⟩ := re_form hs
  obtain ⟨k1, k2, xc, cc, ec, -, -, k4⟩ := hc
  subst ed es ec
  have HE : Hid (∀ r, r < m → B r < w.heap.size) := fun r h => (hdr r h).1.lt
  go_enter Try.func13, Try.ntmps13
  go_wp2_with (first | (go_at_call 24; (with_reducible refine c0.mono ?_); rintro e w9 ⟨rfl, hw9⟩; have hw9 := hw9.symm; subst hw9) | (go_at_call 27; (with_reducible refine c2.mono ?_); rintro e w9 ⟨rfl, hw9⟩; have hw9 := hw9.symm; subst hw9) | (go_at_call 28; (with_reducible refine c3.mono ?_); rintro e w2 ⟨rfl, b2⟩))
  have y1 : w2.cell? ⟨w.heap.size, 0, none⟩ = some (.int .i64 (f : Int)) := (b2.cell (p := ⟨w.heap.size, 0, none⟩) (by simp)).trans (by simp)
  have y2 : w2.cell? ⟨w.heap.size, 1, none⟩ = some (.int .i64 (t : Int)) := (b2.cell (p := ⟨w.heap.size, 1, none⟩) (by simp)).trans (by simp)
  have z2 : w.heap.size < w2.heap.size := Nat.lt_of_lt_of_le (by simp) b2.size
  have B2 : Below w.heap.size w w2 := b1.trans (b2.mono b1.size)
  have K2 : Ke (Eb m B) w w2 := ke_below B2 _
  clear b1 b2 c0 c2 c3
  go_loopw [34] (fun i wr => ∃ r : Nat, r ≤ m ∧ i = .int .i64 r ∧ Ke (Eb m B) w2 wr ∧ ∀ s, s < m → Rw wr (B s) (Nn (B s)) (spb B o f t (fun r j => fm 285 (Kc r) (F j)) G r (B s))) (fun i _ => m - (intOf i).toNat)
  case atStart => exact ⟨0, Nat.zero_le _, rfl, Ke.refl _ _, fun s hs' => rw_below (hdr s hs').1 B2⟩
  case round =>
    obtain ⟨r, hrm, rfl, hke, hrw⟩ := hrel
    by_cases hlt : r < m
    · obtain ⟨bc, oc, rfl, hbc, hcc⟩ := k4 (by omega)
      obtain ⟨bd, od, rfl, hbd, hcd⟩ := d4 (by omega)
      clear k4 d4
      have K3 : Ke (Eb m B) w wr := K2.trans hke
      have K4 : Ke (Eb m B) w2 wr.drew := hke.drew9
      have K5 : Ke (Eb m B) w wr.drew := K2.trans K4
      have q2 := (K3.cell hbd.1 hbd.2).trans (hcd r hlt)
      have nE : ¬ Eb m B w.heap.size := fun ⟨s, hs', e⟩ => Nat.lt_irrefl _ (e ▸ HE.out s hs')
      have n0 : ¬ Eb m B g0 := fun ⟨s, hs', e⟩ => (hg s hs').elim (fun h => Nat.not_le.2 h (e ▸ h1)) (fun h => Nat.not_le.2 h2 (e.symm ▸ h))
      have q6 := (K5.cell (q := oc + r) hbc.1 hbc.2).trans (hcc r hlt)
      have q7 := (K4.cell (q := 0) z2 nE).trans y1
      have q8 := (K4.cell (q := 1) z2 nE).trans y2
      have e1 : g0 < w.heap.size := Nat.lt_of_lt_of_le h2 h3
      have q9 := (K5.cell (q := 0) e1 n0).trans i0
      obtain ⟨hd1, hd2, hd3⟩ := hdA r hlt
      have hN := (hdr r hlt).2
      obtain ⟨a9, ha9, hcut⟩ := cut_pl9 (f := f) (t := t) hd3 hd1 hft htL
      obtain ⟨a8, hre, hcut8⟩ := cut_re9 (f := f) (t := t) hs hft htL
      have hK5 : Nk wr.drew q lo mid := hK.keep (Nat.le_trans (Nat.le_trans h4 h3) K5.size) (fun b hb1 hb2 => K5.2 b (Nat.lt_of_lt_of_le hb2 (Nat.le_trans h4 h3)) (fun ⟨s, hs', e⟩ => (hg s hs').elim (fun h => Nat.not_le.2 h (e ▸ hb1)) (fun h => Nat.not_le.2 hb2 (Nat.le_trans h4 (e.symm ▸ h)))))
      have c5 := n9add_far q lo mid (Kc r) (t - f) (B r) (o r + f) (Nn (B r)) _ _ a9 a8 (Cd r - f) (cx - f) wr.drew hK5 (k2 r hlt) (sub_big9 hN (hrw r hlt).1 htL) ((hg r hlt).imp_right (Nat.le_trans h4)) (Nat.sub_le_sub_right (Nat.le_trans htL hd1) f) (Nat.sub_le_sub_right (Nat.le_trans htL hcx) f) (hrw r hlt).drew9 ha9 (add_sub9 hft htL hN) ((hre.ke K5).mono (fun x _ e => ⟨r, hlt, e⟩)).fk
      have ib : ((r : Nat) : Int) < (m : Int) := Int.ofNat_lt.2 hlt
      have W1 := wrap_succ8 (j := r) (by unfold big; omega)
      have HQ : Hid (Ke (Eb m B) w2 wr.drew ∧ (∀ s, s < m → Rw wr (B s) (Nn (B s)) (spb B o f t (fun r j => fm 285 (Kc r) (F j)) G r (B s))) ∧ (bc < wr.drew.heap.size ∧ bc ≠ B r) ∧ (w.heap.size < wr.drew.heap.size ∧ w.heap.size ≠ B r) ∧ g0 < wr.drew.heap.size ∧ g0 ≠ B r) :=
        ⟨K4, hrw, ⟨Nat.lt_of_lt_of_le hbc.1 K5.size, fun e => hbc.2 ⟨r, hlt, e⟩⟩, ⟨Nat.lt_of_lt_of_le z2 K4.size, fun e => nE ⟨r, hlt, e⟩⟩, Nat.lt_of_lt_of_le e1 K5.size, fun e => n0 ⟨r, hlt, e⟩⟩
      clear hcc hcd hdv hs hk hg hdr hdA hke hrw K2 K3 K4 K5 hbc hbd nE n0 hd1 hd2 hd3 hN ha9 hmb2 y1 y2 B2 HE z2 k1 k2 hK hK5 hre i0 e1
      go_wp2
      refine region_planI (fun w' => w'.cell? ⟨g0, 0, none⟩ = some (.iface 85 (.pointer (some q))) ∧ w'.cell? ⟨bc, oc + r, none⟩ = some (.int .u8 (Kc r : Nat)) ∧ w'.cell? ⟨w.heap.size, 0, none⟩ = some (.int .i64 (f : Int)) ∧ w'.cell? ⟨w.heap.size, 1, none⟩ = some (.int .i64 (t : Int))) [0, 1, 2, 3, 4, 5, 6, 7, 8, 9, 10, 11, 12, 13, 14, 15, 16, 17, 18, 19, 20, 21, 22, 23] [23, 0] 64 ⟨q9, q6, q7, q8⟩ (by kernel_rfl) (by kernel_rfl) (fun _ a d v _ h => by cases d <;> exact h) ?_
      simp only [atI, List.getElem?_cons_zero, List.getElem?_cons_succ]
      refine planH_step ?A1 rfl (fun w' hS => ?s1) rfl (fun K hK => ?n1)
      case s1 =>
        obtain ⟨y0, y1, y2, y3⟩ := hS
        simp only [List.take_succ_cons, List.take_zero]
        repeat still_step
        exact rfl
      case n1 =>
      go_simp
      go_wp2_with (go_at_call 78; (with_reducible refine c5.mono ?_); rintro e x1 ⟨rfl, k5, r5⟩)
      clear c5
      obtain ⟨n1, n3, n4, n6, n8⟩ := HQ.out
      have HN : Hid (Ke (Eb m B) w2 x1 ∧ ∀ s, s < m → Rw x1 (B s) (Nn (B s)) (spb B o f t (fun r j => fm 285 (Kc r) (F j)) G (r + 1) (B s))) := by
        refine ⟨n1.trans (k5.ke.mono (fun x _ e => ⟨r, hlt, e⟩)), fun s hs' => ?_⟩
        by_cases e : B s = B r
        · rw [e]
          exact spb_more hft r5 (fun x _ => rfl)
        · exact (k5.rw_ (n3 s hs').drew9 e).congr (fun i _ => (spb_other e i).symm)
      refine hK _ _ ⟨(k5.cell n8.1 n8.2).trans q9, (k5.cell n4.1 n4.2).trans q6, (k5.cell n6.1 n6.2).trans q7, (k5.cell n6.1 n6.2).trans q8⟩ ?_
      clear hK K n1 n3 n4 n6 n8 k5 r5 q2 q6 q7 q8 q9 HQ hcut hcut8
      refine planH_last ?A2 rfl (fun w' hS => ?s2) rfl ?n2
      case s2 =>
        simp only [List.take_zero]
        exact rfl
      case n2 =>
      go_wp2
      go_roundw
      case rel => exact ⟨r + 1, hlt, by first | rfl | (rw [W1]; rfl), HN.out.1, HN.out.2⟩
      case measure => first | exact meas_lt8 hlt | (rw [W1]; exact meas_lt8 hlt)
    · have hkn : r = m := by omega
      subst hkn
      clear k4 d4
      go_wp2
      go_ret
      exact ⟨rfl, K2.trans hke, hrw⟩
set_option maxHeartbeats 4000000 in
set_option maxRecDepth 100000 in
theorem sprd9_sliced (q : Addr) (lo mid hi g0 m L f t : Nat) (B o Nn Kc F : Nat → Nat) (G : Nat → Nat → Nat) (col diff dsts : Value) (w : World) (hk : Ks w ⟨g0, 0, none⟩ 2 lo hi) (hK : Sk w q lo mid) (i0 : w.cell? ⟨g0, 0, none⟩ = some (.iface 87 (.pointer (some q)))) (h1 : lo ≤ g0) (h2 : g0 < hi) (h3 : hi ≤ w.heap.size) (h4 : mid ≤ hi)
    (hmb : 24 * m ≤ 140737488355328) (hg : ∀ r, r < m → B r < lo ∨ hi ≤ B r) (hc : Re (Eb m B) w col m Kc) (hs : Re (Eb m B) w diff L F) (hd : Dl w dsts m L B o Nn G) (hft : f ≤ t) (htL : t ≤ L) :
    Calls Try.prog 13 #[.pointer (some ⟨g0, 0, none⟩), col, diff, dsts, .agg #[.int .i64 (f : Int), .int .i64 (t : Int)]] w fun e w' => e = .returned (.int .i64 0) ∧ Ke (Eb m B) w w' ∧ ∀ r, r < m → Rw w' (B r) (Nn (B r)) (spb B o f t (fun r j => fm 285 (Kc r) (F j)) G m (B r)) := by
  have b1 : Below w.heap.size w (w.alloc (.cells #[.int .i64 (f : Int), .int .i64 (t : Int)] 30)) := (Below.refl _ _).alloc (Nat.le_refl _) _
  have c0 := isnil9_no _ 2 lo hi _ (hk.under b1)
  have c2 := allof9_yes L dsts m (fun _ => L) _ _ (hd.lb.below b1) (by omega) (fun _ _ => rfl)
  have c3 := within9_yes (f : Int) (t : Int) L (w.alloc (.cells #[.int .i64 (f : Int), .int .i64 (t : Int)] 30)) ⟨by omega, by omega, by omega⟩
  have hm : ∀ W, Sem.run Try.prog (method 248 87 (.pointer (some q)) "MulAdd") W = .ok (83, .pointer (some q)) W := fun _ => by kernel_rfl
  obtain ⟨Ad, Cd, hdv, hdA⟩ := hd.lv
  have hdr := hd.row
  clear hd
  obtain ⟨hmb2, ad, cd, ed, -, -, d4⟩ := id hdv
  obtain ⟨xs, cx, es, hcx⟩ := re_form hs
  obtain ⟨k1, k2, xc, cc, ec, -, -, k4⟩ := hc
  subst ed es ec
  have HE : Hid (∀ r, r < m → B r < w.heap.size) := fun r h => (hdr r h).1.lt
  go_enter Try.func13, Try.ntmps13
  go_wp2_with (first | (go_at_call 24; (with_reducible refine c0.mono ?_); rintro e w9 ⟨rfl, hw9⟩; have hw9 := hw9.symm; subst hw9) | (go_at_call 27; (with_reducible refine c2.mono ?_); rintro e w9 ⟨rfl, hw9⟩; have hw9 := hw9.symm; subst hw9) | (go_at_call 28; (with_reducible refine c3.mono ?_); rintro e w2 ⟨rfl, b2⟩))
  have y1 : w2.cell? ⟨w.heap.size, 0, none⟩ = some (.int .i64 (f : Int)) := (b2.cell (p := ⟨w.heap.size, 0, none⟩) (by simp)).trans (by simp)
  have y2 : w2.cell? ⟨w.heap.size, 1, none⟩ = some (.int .i64 (t : Int)) := (b2.cell (p := ⟨w.heap.size, 1, none⟩) (by simp)).trans (by simp)
  have z2 : w.heap.size < w2.heap.size := Nat.lt_of_lt_of_le (by simp) b2.size
  have B2 : Below w.heap.size w w2 := b1.trans (b2.mono b1.size)
  have K2 : Ke (Eb m B) w w2 := ke_below B2 _
  clear b1 b2 c0 c2 c3
  go_loopw [34] (fun i wr => ∃ r : Nat, r ≤ m ∧ i = .int .i64 r ∧ Ke (Eb m B) w2 wr ∧ ∀ s, s < m → Rw wr (B s) (Nn (B s)) (spb B o f t (fun r j => fm 285 (Kc r) (F j)) G r (B s))) (fun i _ => m - (intOf i).toNat)
  case atStart => exact ⟨0, Nat.zero_le _, rfl, Ke.refl _ _, fun s hs' => rw_below (hdr s hs').1 B2⟩
  case round =>
    obtain ⟨r, hrm, rfl, hke, hrw⟩ := hrel
    by_cases hlt : r < m
    · obtain ⟨bc, oc, rfl, hbc, hcc⟩ := k4 (by omega)
      obtain ⟨bd, od, rfl, hbd, hcd⟩ := d4 (by omega)
      clear k4 d4
      have K3 : Ke (Eb m B) w wr := K2.trans hke
      have K4 : Ke (Eb m B) w2 wr.drew := hke.drew9
      have K5 : Ke (Eb m B) w wr.drew := K2.trans K4
      have q2 := (K3.cell hbd.1 hbd.2).trans (hcd r hlt)
      have nE : ¬ Eb m B w.heap.size := fun ⟨s, hs', e⟩ => Nat.lt_irrefl _ (e ▸ HE.out s hs')
      have n0 : ¬ Eb m B g0 := fun ⟨s, hs', e⟩ => (hg s hs').elim (fun h => Nat.not_le.2 h (e ▸ h1)) (fun h => Nat.not_le.2 h2 (e.symm ▸ h))
      have q6 := (K5.cell (q := oc + r) hbc.1 hbc.2).trans (hcc r hlt)
      have q7 := (K4.cell (q := 0) z2 nE).trans y1
      have q8 := (K4.cell (q := 1) z2 nE).trans y2
      have e1 : g0 < w.heap.size := Nat.lt_of_lt_of_le h2 h3
      have q9 := (K5.cell (q := 0) e1 n0).trans i0
      obtain ⟨hd1, hd2, hd3⟩ := hdA r hlt
      have hN := (hdr r hlt).2
      obtain ⟨a9, ha9, hcut⟩ := cut_pl9 (f := f) (t := t) hd3 hd1 hft htL
      obtain ⟨a8, hre, hcut8⟩ := cut_re9 (f := f) (t := t) hs hft htL
      have hK5 : Sk wr.drew q lo mid := hK.keep (Nat.le_trans (Nat.le_trans h4 h3) K5.size) (fun b hb1 hb2 => K5.2 b (Nat.lt_of_lt_of_le hb2 (Nat.le_trans h4 h3)) (fun ⟨s, hs', e⟩ => (hg s hs').elim (fun h => Nat.not_le.2 h (e ▸ hb1)) (fun h => Nat.not_le.2 hb2 (Nat.le_trans h4 (e.symm ▸ h)))))
      have c5 := s9add_far q lo mid (Kc r) (t - f) (B r) (o r + f) (Nn (B r)) _ _ a9 a8 (Cd r - f) (cx - f) wr.drew hK5 (k2 r hlt) (sub_big9 hN (hrw r hlt).1 htL) ((hg r hlt).imp_right (Nat.le_trans h4)) (Nat.sub_le_sub_right (Nat.le_trans htL hd1) f) (Nat.sub_le_sub_right (Nat.le_trans htL hcx) f) (hrw r hlt).drew9 ha9 (add_sub9 hft htL hN) ((hre.ke K5).mono (fun x _ e => ⟨r, hlt, e⟩)).fk
      have ib : ((r : Nat) : Int) < (m : Int) := Int.ofNat_lt.2 hlt
      have W1 := wrap_succ8 (j := r) (by unfold big; omega)
      have HQ : Hid (Ke (Eb m B) w2 wr.drew ∧ (∀ s, s < m → Rw wr (B s) (Nn (B s)) (spb B o f t (fun r j => fm 285 (Kc r) (F j)) G r (B s))) ∧ (bc < wr.drew.heap.size ∧ bc ≠ B r) ∧ (w.heap.size < wr.drew.heap.size ∧ w.heap.size ≠ B r) ∧ g0 < wr.drew.heap.size ∧ g0 ≠ B r) :=
        ⟨K4, hrw, ⟨Nat.lt_of_lt_of_le hbc.1 K5.size, fun e => hbc.2 ⟨r, hlt, e⟩⟩, ⟨Nat.lt_of_lt_of_le z2 K4.size, fun e => nE ⟨r, hlt, e⟩⟩, Nat.lt_of_lt_of_le e1 K5.size, fun e => n0 ⟨r, hlt, e⟩⟩
      clear hcc hcd hdv hs hk hg hdr hdA hke hrw K2 K3 K4 K5 hbc hbd nE n0 hd1 hd2 hd3 hN ha9 hmb2 y1 y2 B2 HE z2 k1 k2 hK hK5 hre i0 e1
      go_wp2
      refine region_planI (fun w' => w'.cell? ⟨g0, 0, none⟩ = some (.iface 87 (.pointer (some q))) ∧ w'.cell? ⟨bc, oc + r, none⟩ = some (.int .u8 (Kc r : Nat)) ∧ w'.cell? ⟨w.heap.size, 0, none⟩ = some (.int .i64 (f : Int)) ∧ w'.cell? ⟨w.heap.size, 1, none⟩ = some (.int .i64 (t : Int))) [0, 1, 2, 3, 4, 5, 6, 7, 8, 9, 10, 11, 12, 13, 14, 15, 16, 17, 18, 19, 20, 21, 22, 23] [23, 0] 64 ⟨q9, q6, q7, q8⟩ (by kernel_rfl) (by kernel_rfl) (fun _ a d v _ h => by cases d <;> exact h) ?_
      simp only [atI, List.getElem?_cons_zero, List.getElem?_cons_succ]
      refine planH_step ?A1 rfl (fun w' hS => ?s1) rfl (fun K hK => ?n1)
      case s1 =>
        obtain ⟨y0, y1, y2, y3⟩ := hS
        simp only [List.take_succ_cons, List.take_zero]
        repeat still_step
        exact rfl
      case n1 =>
      go_simp
      go_wp2_with (go_at_call 83; (with_reducible refine c5.mono ?_); rintro e x1 ⟨rfl, k5, r5⟩)
      clear c5
      obtain ⟨n1, n3, n4, n6, n8⟩ := HQ.out
      have HN : Hid (Ke (Eb m B) w2 x1 ∧ ∀ s, s < m → Rw x1 (B s) (Nn (B s)) (spb B o f t (fun r j => fm 285 (Kc r) (F j)) G (r + 1) (B s))) := by
        refine ⟨n1.trans (k5.ke.mono (fun x _ e => ⟨r, hlt, e⟩)), fun s hs' => ?_⟩
        by_cases e : B s = B r
        · rw [e]
          exact spb_more hft r5 (fun x _ => rfl)
        · exact (k5.rw_ (n3 s hs').drew9 e).congr (fun i _ => (spb_other e i).symm)
      refine hK _ _ ⟨(k5.cell n8.1 n8.2).trans q9, (k5.cell n4.1 n4.2).trans q6, (k5.cell n6.1 n6.2).trans q7, (k5.cell n6.1 n6.2).trans q8⟩ ?_
      clear hK K n1 n3 n4 n6 n8 k5 r5 q2 q6 q7 q8 q9 HQ hcut hcut8
      refine planH_last ?A2 rfl (fun w' hS => ?s2) rfl ?n2
      case s2 =>
        simp only [List.take_zero]
        exact rfl
      case n2 =>
      go_wp2
      go_roundw
      case rel => exact ⟨r + 1, hlt, by first | rfl | (rw [W1]; rfl), HN.out.1, HN.out.2⟩
      case measure => first | exact meas_lt8 hlt | (rw [W1]; exact meas_lt8 hlt)
    · have hkn : r = m := by omega
      subst hkn
      clear k4 d4
      go_wp2
      go_ret
      exact ⟨rfl, K2.trans hke, hrw⟩
theorem kspread_ok (p : Addr) (bk lo hi m L f t : Nat) (B o Nn K F : Nat → Nat) (G : Nat → Nat → Nat) (col diff dsts : Value) (w : World) (hk : Ks w p bk lo hi) (hmb : 24 * m ≤ 140737488355328) (hg : ∀ r, r < m → B r < lo ∨ hi ≤ B r)
    (hc : Re (Eb m B) w col m K) (hs : Re (Eb m B) w diff L F) (hd : Dl w dsts m L B o Nn G) (hft : f ≤ t) (htL : t ≤ L) :
    Calls Try.prog 13 #[.pointer (some p), col, diff, dsts, .agg #[.int .i64 (f : Int), .int .i64 (t : Int)]] w fun e w' => e = .returned (.int .i64 0) ∧ Ke (Eb m B) w w' ∧ ∀ r, r < m → Rw w' (B r) (Nn (B r)) (spb B o f t (fun r j => fm 285 (K r) (F j)) G m (B r)) := by
  obtain ⟨g0, T, q, mid, rfl, h1, h2, h3, h4, h5, i0, i1⟩ := id hk
  rcases h5 with ⟨rfl, rfl, h5⟩ | ⟨rfl, rfl, h5⟩ | ⟨rfl, rfl, h5⟩
  · exact sprd9_table q lo mid hi g0 m L f t B o Nn K F G col diff dsts w hk h5 i0 h1 h2 h3 h4 hmb hg hc hs hd hft htL
  · exact sprd9_nibble q lo mid hi g0 m L f t B o Nn K F G col diff dsts w hk h5 i0 h1 h2 h3 h4 hmb hg hc hs hd hft htL
  · exact sprd9_sliced q lo mid hi g0 m L f t B o Nn K F G col diff dsts w hk h5 i0 h1 h2 h3 h4 hmb hg hc hs hd hft htL
end Go.Proofs.Ytdeophhcbkahgaa
