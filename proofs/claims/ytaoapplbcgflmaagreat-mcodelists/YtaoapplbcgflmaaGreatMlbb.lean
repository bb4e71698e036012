import Derived.Test.YtaoapplbcgflmaaGreatMlba
import Derived.Lib.SliceRun
namespace Go.Proofs.YtaoapplbcgflmaaGreat
open Go.RowKit Gf2
set_option linter.unusedVariables false

/-- a set adds the products. -/
theorem addp9 (p : Addr) (bk lo hi k L f t g o N : Nat) (F R : Nat → Nat) (S : Nat → Nat → Nat) (a : Option Addr) (ca : Nat) (row srcs : Value) (w : World) (hk : Ks w p bk lo hi)
    (hg : g < lo ∨ hi ≤ g) (hR : Rw w g N F) (hd : 0 < t - f → a = some ⟨g, o, none⟩) (hoN : o + (t - f) ≤ N) (hca : t - f ≤ ca) (hn : t - f ≤ big) (hr : Re (fun x => x = g) w row k R) (hs : Ll (fun x => x = g) w srcs k (fun _ => L) S) (hft : f ≤ t) (htL : 0 < k → t ≤ L) (hkb : k ≤ 140737488355328) :
    Calls Tryz.prog 74 #[.pointer (some p), row, srcs, .slice a (t - f : Nat) ca, .agg #[.int .i64 (f : Int), .int .i64 (t : Int)]] w fun e w' => (∃ v, e = .returned v) ∧ Kp g w w' ∧ Rw w' g N (pl F o (t - f) (fun x => F (o + x) ^^^ ks R (fun i j => S i (f + j)) k x)) := by
  obtain ⟨g0, T, q, mid, rfl, h1, h2, h3, h4, h5, i0, i1⟩ := hk
  rcases h5 with ⟨rfl, rfl, h5⟩ | ⟨rfl, rfl, h5⟩ | ⟨rfl, rfl, h5⟩
  · exact addp9_table q lo mid hi g0 k L f t g o N F R S a ca row srcs w h5 i0 h1 h2 h3 h4 hg hR hd hoN hca hn hr hs hft htL hkb
  · exact addp9_nibble q lo mid hi g0 k L f t g o N F R S a ca row srcs w h5 i0 h1 h2 h3 h4 hg hR hd hoN hca hn hr hs hft htL hkb
  · exact addp9_sliced q lo mid hi g0 k L f t g o N F R S a ca row srcs w h5 i0 h1 h2 h3 h4 hg hR hd hoN hca hn hr hs hft htL hkb

theorem zeros9 {g N : Nat} : ∀ (n o : Nat) (w : World) (F : Nat → Nat), Rw w g N F → o + n ≤ N →
    Rw (w.setCells g o (List.replicate n (.int .u8 0))) g N (pl F o n (fun _ => 0)) ∧ Only g w (w.setCells g o (List.replicate n (.int .u8 0)))
  | 0, o, w, F, h, _ => ⟨h.congr (fun i _ => (pl_out (by omega)).symm), Only.refl _ _⟩
  | n + 1, o, w, F, h, hn => by
    obtain ⟨h1, h2⟩ := zeros9 n (o + 1) (w.setCell ⟨g, o, none⟩ (.int .u8 0)) (fun i => if i = o then 0 else F i) (h.set o 0 (by decide)) (by omega)
    refine ⟨h1.congr (fun i hi => ?_), ((Only.refl g w).setCell o _).trans h2⟩
    unfold pl
    by_cases e : o + 1 ≤ i ∧ i < o + 1 + n
    · rw [if_pos e, if_pos (by omega)]
    · rw [if_neg e]
      show (if i = o then 0 else F i) = _
      by_cases e2 : i = o
      · rw [if_pos e2, if_pos (by omega)]
      · rw [if_neg e2, if_neg (by omega)]
theorem zero_u8k (w : World) : (zeroValue 5).run Tryz.prog w = .ok (.int .u8 0) w := by kernel_rfl
/-- clear of a list that lies in a row. -/
theorem clear9 {w : World} {g N o n ca : Nat} {F : Nat → Nat} {a : Option Addr} (hR : Rw w g N F) (hd : 0 < n → a = some ⟨g, o, none⟩) (hoN : o + n ≤ N) :
    ∃ w1, (∀ ty, (Builtin.clear_ #[27] ty #[.slice a n ca]).run Tryz.prog w = .ok (.tuple #[]) w1) ∧ Only g w w1 ∧ Rw w1 g N (pl F o n (fun _ => 0)) := by
  by_cases h0 : 0 < n
  · obtain ⟨h1, h2⟩ := zeros9 n o w F hR hoN
    rw [hd h0]
    exact ⟨_, fun ty => Lib.run_clear_slice w 27 5 ty _ Tryz.underlying27 zero_u8k rfl rfl g o n ca h0 (fun j hj => by rw [hR.2.2.cell (i := o + j) (by omega)]; rfl) (fun j hj => hR.2.2.frozen (o + j)), h2, h1⟩
  · have hn0 : n = 0 := by omega
    subst hn0
    refine ⟨w, fun ty => ?_, Only.refl _ _, hR.congr (fun i _ => (pl_out (by omega)).symm)⟩
    cases a <;> simp [Builtin.clear_, run_underlying Tryz.underlying27]
/-- what the lists that are written hold. -/
theorem Dl.lb {w : World} {v : Value} {m L : Nat} {B o Nn : Nat → Nat} {G : Nat → Nat → Nat} (h : Dl w v m L B o Nn G) : Lb w v m (fun _ => L) (fun r j => G (B r) (o r + j)) := by
  obtain ⟨A, C, hv, hA⟩ := h.lv
  refine ⟨_, hv.mono (fun x _ e => e.elim), fun r hr => ?_⟩
  obtain ⟨h1, h2, h3⟩ := hA r hr
  obtain ⟨h4, h5⟩ := h.row r hr
  have hNb := h4.1
  show Re (fun _ => False) w (.slice (A r) L (C r)) L _
  exact ⟨by omega, fun i hi => h4.2.1 _ (by omega), A r, C r, rfl, h1, h2, fun h0 => ⟨B r, o r, h3 h0, ⟨h4.lt, fun e => e⟩, fun i hi => h4.2.2.cell (by omega)⟩⟩
/-- the rows behind one more sum. -/
theorem apb_more {w : World} {N r f t : Nat} {B o : Nat → Nat} {V G : Nat → Nat → Nat} (hft : f ≤ t) {T : Nat → Nat}
    (h : Rw w (B r) N (pl (pl (apb B o f t V G r (B r)) (o r + f) (t - f) (fun _ => 0)) (o r + f) (t - f) (fun x => pl (apb B o f t V G r (B r)) (o r + f) (t - f) (fun _ => 0) (o r + f + x) ^^^ T x))) (hT : ∀ x, x < t - f → T x = V r (f + x)) :
    Rw w (B r) N (apb B o f t V G (r + 1) (B r)) :=
  h.congr (fun i hi => by
    show _ = if B r = B r ∧ o r + f ≤ i ∧ i < o r + t then V r (i - o r) else apb B o f t V G r (B r) i
    by_cases e : o r + f ≤ i ∧ i < o r + f + (t - f)
    · rw [if_pos (by omega)]
      obtain ⟨x, hx, rfl⟩ : ∃ x, x < t - f ∧ i = o r + f + x := ⟨i - (o r + f), by omega, by omega⟩
      rw [pl_in hx, pl_in hx, Nat.zero_xor, hT _ hx, show o r + f + x - o r = f + x by omega]
    · rw [if_neg (by omega), pl_out (by omega), pl_out (by omega)])
theorem apb_other {r f t b : Nat} {B o : Nat → Nat} {V G : Nat → Nat → Nat} (h : b ≠ B r) (i : Nat) : apb B o f t V G (r + 1) b i = apb B o f t V G r b i := by
  show (if b = B r ∧ o r + f ≤ i ∧ i < o r + t then V r (i - o r) else apb B o f t V G r b i) = _
  rw [if_neg (fun e => h e.1)]
theorem len9_of {k m L : Nat} (h : 0 < k ∨ 0 < m) : len9 k m (fun _ => L) (fun _ => L) = L := by
  unfold len9
  by_cases h1 : 0 < k
  · rw [if_pos h1]
  · rw [if_neg h1, if_pos (by omega)]
theorem fit9_ok {m k L f t : Nat} (hft : f ≤ t) (htL : t ≤ len9 k m (fun _ => L) (fun _ => L)) : fit9 m k m (fun _ => k) (fun _ => L) (fun _ => L) (f : Int) (t : Int) = 0 :=
  fit9_zero ⟨rfl, fun _ _ => rfl, fun i hi => (len9_of (.inl (by omega))).symm, fun i hi => (len9_of (.inr (by omega))).symm⟩ ⟨by omega, by omega, by omega⟩
theorem ks_shift (R : Nat → Nat) (S : Nat → Nat → Nat) (f x : Nat) : ∀ k, ks R (fun i j => S i (f + j)) k x = ks R S k (f + x)
  | 0 => rfl
  | k + 1 => by unfold ks; rw [ks_shift R S f x k]
theorem Ks.held {E : Nat → Prop} {w w' : World} {p : Addr} {b lo hi : Nat} (h : Ks w p b lo hi) (hk : Ke E w w') (hE : ∀ x, E x → x < lo ∨ hi ≤ x) : Ks w' p b lo hi :=
  h.keep (Nat.le_trans h.hi hk.size) (fun x h1 hx => hk.2 x (Nat.lt_of_lt_of_le hx h.hi) (fun e => by have := hE x e; omega))
theorem Ke.drew9 {E : Nat → Prop} {a b : World} (h : Ke E a b) : Ke E a b.drew := ⟨h.1.drew, h.2⟩
theorem Rw.drew9 {w : World} {g N : Nat} {F : Nat → Nat} (h : Rw w g N F) : Rw w.drew g N F := ⟨h.1, h.2.1, h.2.2.drew⟩
end Go.Proofs.YtaoapplbcgflmaaGreat
namespace Go.Proofs.YtaoapplbcgflmaaGreat
open Go.RowKit Gf2
set_option linter.unusedVariables false

set_option maxHeartbeats 4000000 in
set_option maxRecDepth 100000 in
theorem kapply_ok (p : Addr) (bk lo hi m k L f t : Nat) (B o Nn : Nat → Nat) (R S G : Nat → Nat → Nat) (rows srcs dsts : Value) (w : World) (hk : Ks w p bk lo hi) (hmb : 24 * m ≤ 140737488355328) (hkb : 24 * k ≤ 140737488355328) (hg : ∀ r, r < m → B r < lo ∨ hi ≤ B r)
    (hr : Ll (Eb m B) w rows m (fun _ => k) R) (hs : Ll (Eb m B) w srcs k (fun _ => L) S) (hd : Dl w dsts m L B o Nn G) (hft : f ≤ t) (htL : t ≤ len9 k m (fun _ => L) (fun _ => L)) :
    Calls Tryz.prog 47 #[.pointer (some p), rows, srcs, dsts, .agg #[.int .i64 (f : Int), .int .i64 (t : Int)]] w fun e w' => e = .returned (.int .i64 0) ∧ Ke (Eb m B) w w' ∧ ∀ r, r < m → Rw w' (B r) (Nn (B r)) (apb B o f t (fun r j => ks (R r) S k j) G m (B r)) := by
  have b1 : Below w.heap.size w (w.alloc (.cells #[.int .i64 (f : Int), .int .i64 (t : Int)] 48)) := (Below.refl _ _).alloc (Nat.le_refl _) _
  have cU := unfit9 p bk lo hi m k m (fun _ => k) (fun _ => L) (fun _ => L) R S _ (f : Int) (t : Int) rows srcs dsts _ (hk.under b1) (by omega) (by omega) (by omega) (hr.lb.below b1) (hs.lb.below b1) (hd.lb.below b1)
  rw [fit9_ok hft htL] at cU
  have htL2 : 0 < m → t ≤ L := fun h => by rw [len9_of (.inr h)] at htL; exact htL
  have htL3 : 0 < k → t ≤ L := fun h => by rw [len9_of (.inl h)] at htL; exact htL
  clear htL
  obtain ⟨as_, cs, es⟩ := ll_form hs
  obtain ⟨Ad, Cd, hdv, hdA⟩ := hd.lv
  have hdr := hd.row
  obtain ⟨Vr, hrv, hVr⟩ := hr
  clear hd
  obtain ⟨hmb2, ar, cr, er, -, -, r4⟩ := id hrv
  obtain ⟨hmb3, ad, cd, ed, -, -, d4⟩ := id hdv
  subst er ed es
  have HE : Hid (∀ r, r < m → B r < w.heap.size) := fun r h => (hdr r h).1.lt
  go_enter Tryz.func47, Tryz.ntmps47
  go_wp2_with (go_at_call 73; (with_reducible refine cU.mono ?_); rintro e w2 ⟨rfl, b2⟩)
  have y1 : w2.cell? ⟨w.heap.size, 0, none⟩ = some (.int .i64 (f : Int)) := (b2.cell (p := ⟨w.heap.size, 0, none⟩) (by simp)).trans (by simp)
  have y2 : w2.cell? ⟨w.heap.size, 1, none⟩ = some (.int .i64 (t : Int)) := (b2.cell (p := ⟨w.heap.size, 1, none⟩) (by simp)).trans (by simp)
  have z2 : w.heap.size < w2.heap.size := Nat.lt_of_lt_of_le (by simp) b2.size
  have B2 : Below w.heap.size w w2 := b1.trans (b2.mono b1.size)
  have K2 : Ke (Eb m B) w w2 := ke_below B2 _
  clear b1 b2 cU
  go_loopw [26] (fun i wr => ∃ r : Nat, r ≤ m ∧ i = .int .i64 r ∧ Ke (Eb m B) w2 wr ∧ ∀ s, s < m → Rw wr (B s) (Nn (B s)) (apb B o f t (fun r j => ks (R r) S k j) G r (B s))) (fun i _ => m - (intOf i).toNat)
  case atStart => exact ⟨0, Nat.zero_le _, rfl, Ke.refl _ _, fun s hs' => rw_below (hdr s hs').1 B2⟩
  case round =>
    obtain ⟨r, hrm, rfl, hke, hrw⟩ := hrel
    by_cases hlt : r < m
    · obtain ⟨br, orr, rfl, hbr, hcr⟩ := r4 (by omega)
      obtain ⟨bd, od, rfl, hbd, hcd⟩ := d4 (by omega)
      clear r4 d4
      have K3 : Ke (Eb m B) w wr := K2.trans hke
      have q1 := (K3.cell hbr.1 hbr.2).trans (hcr r hlt)
      have q2 := (K3.cell hbd.1 hbd.2).trans (hcd r hlt)
      have nE : ¬ Eb m B w.heap.size := fun ⟨s, hs', e⟩ => Nat.lt_irrefl _ (e ▸ HE.out s hs')
      have q4 := (hke.cell z2 nE).trans y1
      have q5 := (hke.cell z2 nE).trans y2
      obtain ⟨hd1, hd2, hd3⟩ := hdA r hlt
      have hN := (hdr r hlt).2
      have tL := htL2 (by omega)
      obtain ⟨a9, ha9, hcut⟩ := cut_pl9 (f := f) (t := t) hd3 hd1 hft tL
      obtain ⟨w3, hclr, o3, r3⟩ := clear9 (n := t - f) (o := o r + f) (ca := Cd r - f) (hrw r hlt) ha9 (by omega)
      have K4 : Ke (Eb m B) w2 w3.drew := (hke.trans (o3.kp.ke.mono (fun x _ e => ⟨r, hlt, e⟩))).drew9
      have K5 : Ke (Eb m B) w w3.drew := K2.trans K4
      have c5 := addp9 p bk lo hi k L f t (B r) (o r + f) (Nn (B r)) _ (R r) S a9 (Cd r - f) (Vr r) _ w3.drew (hk.held K5 (fun x ⟨s, hs', e⟩ => e ▸ hg s hs')) (hg r hlt) r3.drew9 ha9 (by omega) (by omega) (by have := (hrw r hlt).1; omega) (((hVr r hlt).ke K5).mono (fun x _ e => ⟨r, hlt, e⟩)) ((hs.ke K5).mono (fun x _ e => ⟨r, hlt, e⟩)) hft htL3 (by omega)
      have q6 := (K5.cell (q := orr + r) hbr.1 hbr.2).trans (hcr r hlt)
      have q7 := (K4.cell (q := 0) z2 nE).trans y1
      have q8 := (K4.cell (q := 1) z2 nE).trans y2
      have ib : ((r : Nat) : Int) < (m : Int) := by omega
      have W1 := wrap_succ8 (j := r) (by unfold big; omega)
      have HQ : Hid (Ke (Eb m B) w2 w3.drew ∧ Only (B r) wr w3 ∧ (∀ s, s < m → Rw wr (B s) (Nn (B s)) (apb B o f t (fun r j => ks (R r) S k j) G r (B s))) ∧ br < w3.drew.heap.size ∧ br ≠ B r ∧ w.heap.size < w3.drew.heap.size ∧ w.heap.size ≠ B r) :=
        ⟨K4, o3, hrw, Nat.lt_of_lt_of_le hbr.1 K5.size, fun e => hbr.2 ⟨r, hlt, e⟩, Nat.lt_of_lt_of_le z2 K4.size, fun e => nE ⟨r, hlt, e⟩⟩
      clear hcr hcd hrv hVr hdv hs hk hg hdr hdA hke hrw K2 K3 K4 K5 hbr hbd nE hd1 hd2 hd3 hN ha9 o3 r3 hmb2 hmb3 y1 y2 B2 HE z2 htL2 htL3
      go_wp2
      refine region_planI (fun w' => w'.cell? ⟨br, orr + r, none⟩ = some (Vr r) ∧ w'.cell? ⟨w.heap.size, 0, none⟩ = some (.int .i64 (f : Int)) ∧ w'.cell? ⟨w.heap.size, 1, none⟩ = some (.int .i64 (t : Int))) [0, 1, 2, 3, 4, 5, 6, 7, 8] [8, 0] 48 ⟨q6, q7, q8⟩ (by kernel_rfl) (by kernel_rfl) (fun _ a d v _ h => by cases d <;> exact h) ?_
      simp only [atI, List.getElem?_cons_zero, List.getElem?_cons_succ]
      refine planH_step ?A1 rfl (fun w' hS => ?s1) rfl (fun K hK => ?n1)
      case s1 =>
        obtain ⟨y0, y1, y2⟩ := hS
        simp only [List.take_succ_cons, List.take_zero]
        repeat still_step
        exact rfl
      case n1 =>
      go_simp
      go_wp2_with (go_at_call 74; (with_reducible refine c5.mono ?_); rintro e x1 ⟨⟨v5, rfl⟩, k5, r5⟩)
      clear c5
      obtain ⟨n1, n2, n3, n4, n5, n6, n7⟩ := HQ.out
      have HN : Hid (Ke (Eb m B) w2 x1 ∧ ∀ s, s < m → Rw x1 (B s) (Nn (B s)) (apb B o f t (fun r j => ks (R r) S k j) G (r + 1) (B s))) := by
        refine ⟨n1.trans (k5.ke.mono (fun x _ e => ⟨r, hlt, e⟩)), fun s hs' => ?_⟩
        by_cases e : B s = B r
        · rw [e]
          exact apb_more hft r5 (fun x _ => ks_shift _ _ _ _ _)
        · have h1 : Rw w3 (B s) (Nn (B s)) _ := (n3 s hs').of_block (n2.2.2 (B s) e)
          exact (k5.rw_ h1.drew9 e).congr (fun i _ => (apb_other e i).symm)
      refine hK _ _ ⟨(k5.cell n4 n5).trans q6, (k5.cell n6 n7).trans q7, (k5.cell n6 n7).trans q8⟩ ?_
      clear hK K n1 n2 n3 n4 n5 n6 n7 k5 r5 q1 q2 q4 q5 q6 q7 q8 HQ hcut hclr
      refine planH_last ?A2 rfl (fun w' hS => ?s2) rfl ?n2
      case s2 =>
        simp only [List.take_zero]
        exact rfl
      case n2 =>
      go_wp2
      go_roundw
      case rel => exact ⟨r + 1, hlt, by first | rfl | (rw [W1]; rfl), HN.out.1, HN.out.2⟩
      case measure => first | exact meas_lt8 hlt | (rw [W1]; exact meas_lt8 hlt)
    · have hkn : r = m := by omega
      subst hkn
      clear r4 d4
      go_wp2
      go_ret
      exact ⟨rfl, K2.trans hke, hrw⟩
end Go.Proofs.YtaoapplbcgflmaaGreat
namespace Go.Proofs.YtaoapplbcgflmaaGreat
open Go.RowKit Gf2
set_option linter.unusedVariables false

theorem spb_more {w : World} {N r f t : Nat} {B o : Nat → Nat} {V G : Nat → Nat → Nat} (hft : f ≤ t) {T : Nat → Nat}
    (h : Rw w (B r) N (pl (spb B o f t V G r (B r)) (o r + f) (t - f) (fun x => spb B o f t V G r (B r) (o r + f + x) ^^^ T x))) (hT : ∀ x, x < t - f → T x = V r (f + x)) :
    Rw w (B r) N (spb B o f t V G (r + 1) (B r)) :=
  h.congr (fun i hi => by
    show _ = if B r = B r ∧ o r + f ≤ i ∧ i < o r + t then spb B o f t V G r (B r) i ^^^ V r (i - o r) else spb B o f t V G r (B r) i
    by_cases e : o r + f ≤ i ∧ i < o r + f + (t - f)
    · rw [if_pos (by omega)]
      obtain ⟨x, hx, rfl⟩ : ∃ x, x < t - f ∧ i = o r + f + x := ⟨i - (o r + f), by omega, by omega⟩
      rw [pl_in hx, hT _ hx, show o r + f + x - o r = f + x by omega]
    · rw [if_neg (by omega), pl_out (by omega)])
theorem spb_other {r f t b : Nat} {B o : Nat → Nat} {V G : Nat → Nat → Nat} (h : b ≠ B r) (i : Nat) : spb B o f t V G (r + 1) b i = spb B o f t V G r b i := by
  show (if b = B r ∧ o r + f ≤ i ∧ i < o r + t then spb B o f t V G r b i ^^^ V r (i - o r) else spb B o f t V G r b i) = _
  rw [if_neg (fun e => h e.1)]
theorem sub_big9 {o L N f t : Nat} (h : o + L ≤ N) (hN : N ≤ big) (ht : t ≤ L) : t - f ≤ big := by omega
theorem add_sub9 {o L N f t : Nat} (hft : f ≤ t) (ht : t ≤ L) (h : o + L ≤ N) : o + f + (t - f) ≤ N := by omega
theorem re_form {E : Nat → Prop} {w : World} {v : Value} {n : Nat} {S : Nat → Nat} (h : Re E w v n S) : ∃ a c, v = .slice a n c ∧ n ≤ c := by
  obtain ⟨_, _, a, c, h, h', _⟩ := h
  exact ⟨a, c, h, h'⟩
set_option maxHeartbeats 4000000 in
set_option maxRecDepth 100000 in
theorem sprd9_table (q : Addr) (lo mid hi g0 m L f t : Nat) (B o Nn Kc F : Nat → Nat) (G : Nat → Nat → Nat) (col diff dsts : Value) (w : World) (hk : Ks w ⟨g0, 0, none⟩ 0 lo hi) (hK : Ker w q lo mid) (i0 : w.cell? ⟨g0, 0, none⟩ = some (.iface 123 (.pointer (some q)))) (h1 : lo ≤ g0) (h2 : g0 < hi) (h3 : hi ≤ w.heap.size) (h4 : mid ≤ hi)
    (hmb : 24 * m ≤ 140737488355328) (hg : ∀ r, r < m → B r < lo ∨ hi ≤ B r) (hc : Re (Eb m B) w col m Kc) (hs : Re (Eb m B) w diff L F) (hd : Dl w dsts m L B o Nn G) (hft : f ≤ t) (htL : t ≤ L) :
    Calls Tryz.prog 65 #[.pointer (some ⟨g0, 0, none⟩), col, diff, dsts, .agg #[.int .i64 (f : Int), .int .i64 (t : Int)]] w fun e w' => e = .returned (.int .i64 0) ∧ Ke (Eb m B) w w' ∧ ∀ r, r < m → Rw w' (B r) (Nn (B r)) (spb B o f t (fun r j => fm 285 (Kc r) (F j)) G m (B r)) := by
  have b1 : Below w.heap.size w (w.alloc (.cells #[.int .i64 (f : Int), .int .i64 (t : Int)] 48)) := (Below.refl _ _).alloc (Nat.le_refl _) _
  have c0 := isnil9_no _ 0 lo hi _ (hk.under b1)
  have c2 := allof9_yes L dsts m (fun _ => L) _ _ (hd.lb.below b1) (by omega) (fun _ _ => rfl)
  have c3 := within9_yes (f : Int) (t : Int) L (w.alloc (.cells #[.int .i64 (f : Int), .int .i64 (t : Int)] 48)) ⟨by omega, by omega, by omega⟩
  have hm : ∀ W, Sem.run Tryz.prog (method 368 123 (.pointer (some q)) "MulAdd") W = .ok (189, .pointer (some q)) W := fun _ => by kernel_rfl
  obtain ⟨Ad, Cd, hdv, hdA⟩ := hd.lv
  have hdr := hd.row
  clear hd
  obtain ⟨hmb2, ad, cd, ed, -, -, d4⟩ := id hdv
  obtain ⟨xs, cx, es, hcx⟩ := re_form hs
  obtain ⟨k1, k2, xc, cc, ec, -, -, k4⟩ := hc
  subst ed es ec
  have HE : Hid (∀ r, r < m → B r < w.heap.size) := fun r h => (hdr r h).1.lt
  go_enter Tryz.func65, Tryz.ntmps65
  go_wp2_with (first | (go_at_call 103; (with_reducible refine c0.mono ?_); rintro e w9 ⟨rfl, hw9⟩; have hw9 := hw9.symm; subst hw9) | (go_at_call 104; (with_reducible refine c2.mono ?_); rintro e w9 ⟨rfl, hw9⟩; have hw9 := hw9.symm; subst hw9) | (go_at_call 105; (with_reducible refine c3.mono ?_); rintro e w2 ⟨rfl, b2⟩))
  have y1 : w2.cell? ⟨w.heap.size, 0, none⟩ = some (.int .i64 (f : Int)) := (b2.cell (p := ⟨w.heap.size, 0, none⟩) (by simp)).trans (by simp)
  have y2 : w2.cell? ⟨w.heap.size, 1, none⟩ = some (.int .i64 (t : Int)) := (b2.cell (p := ⟨w.heap.size, 1, none⟩) (by simp)).trans (by simp)
  have z2 : w.heap.size < w2.heap.size := Nat.lt_of_lt_of_le (by simp) b2.size
  have B2 : Below w.heap.size w w2 := b1.trans (b2.mono b1.size)
  have K2 : Ke (Eb m B) w w2 := ke_below B2 _
  clear b1 b2 c0 c2 c3
  go_loopw [34] (fun i wr => ∃ r : Nat, r ≤ m ∧ i = .int .i64 r ∧ Ke (Eb m B) w2 wr ∧ ∀ s, s < m → Rw wr (B s) (Nn (B s)) (spb B o f t (fun r j => fm 285 (Kc r) (F j)) G r (B s))) (fun i _ => m - (intOf i).toNat)
  case atStart => exact ⟨0, Nat.zero_le _, rfl, Ke.refl _ _, fun s hs' => rw_below (hdr s hs').1 B2⟩
  case round =>
    obtain ⟨r, hrm, rfl, hke, hrw⟩ := hrel
    by_cases hlt : r < m
    · obtain ⟨bc, oc, rfl, hbc, hcc⟩ := k4 (by omega)
      obtain ⟨bd, od, rfl, hbd, hcd⟩ := d4 (by omega)
      clear k4 d4
      have K3 : Ke (Eb m B) w wr := K2.trans hke
      have K4 : Ke (Eb m B) w2 wr.drew := hke.drew9
      have K5 : Ke (Eb m B) w wr.drew := K2.trans K4
      have q2 := (K3.cell hbd.1 hbd.2).trans (hcd r hlt)
      have nE : ¬ Eb m B w.heap.size := fun ⟨s, hs', e⟩ => Nat.lt_irrefl _ (e ▸ HE.out s hs')
      have n0 : ¬ Eb m B g0 := fun ⟨s, hs', e⟩ => (hg s hs').elim (fun h => Nat.not_le.2 h (e ▸ h1)) (fun h => Nat.not_le.2 h2 (e.symm ▸ h))
      have q6 := (K5.cell (q := oc + r) hbc.1 hbc.2).trans (hcc r hlt)
      have q7 := (K4.cell (q := 0) z2 nE).trans y1
      have q8 := (K4.cell (q := 1) z2 nE).trans y2
      have e1 : g0 < w.heap.size := Nat.lt_of_lt_of_le h2 h3
      have q9 := (K5.cell (q := 0) e1 n0).trans i0
      obtain ⟨hd1, hd2, hd3⟩ := hdA r hlt
      have hN := (hdr r hlt).2
      obtain ⟨a9, ha9, hcut⟩ := cut_pl9 (f := f) (t := t) hd3 hd1 hft htL
      obtain ⟨a8, hre, hcut8⟩ := cut_re9 (f := f) (t := t) hs hft htL
      have hK5 : Ker wr.drew q lo mid := hK.keep (Nat.le_trans (Nat.le_trans h4 h3) K5.size) (fun b hb1 hb2 => K5.2 b (Nat.lt_of_lt_of_le hb2 (Nat.le_trans h4 h3)) (fun ⟨s, hs', e⟩ => (hg s hs').elim (fun h => Nat.not_le.2 h (e ▸ hb1)) (fun h => Nat.not_le.2 hb2 (Nat.le_trans h4 (e.symm ▸ h)))))
      have c5 := t9add_far q lo mid (Kc r) (t - f) (B r) (o r + f) (Nn (B r)) _ _ a9 a8 (Cd r - f) (cx - f) wr.drew hK5 (k2 r hlt) (sub_big9 hN (hrw r hlt).1 htL) ((hg r hlt).imp_right (Nat.le_trans h4)) (Nat.sub_le_sub_right (Nat.le_trans htL hd1) f) (Nat.sub_le_sub_right (Nat.le_trans htL hcx) f) (hrw r hlt).drew9 ha9 (add_sub9 hft htL hN) ((hre.ke K5).mono (fun x _ e => ⟨r, hlt, e⟩)).fk
      have ib : ((r : Nat) : Int) < (m : Int) := Int.ofNat_lt.2 hlt
      have W1 := wrap_succ8 (j := r) (by unfold big; omega)
      have HQ : Hid (Ke (Eb m B) w2 wr.drew ∧ (∀ s, s < m → Rw wr (B s) (Nn (B s)) (spb B o f t (fun r j => fm 285 (Kc r) (F j)) G r (B s))) ∧ (bc < wr.drew.heap.size ∧ bc ≠ B r) ∧ (w.heap.size < wr.drew.heap.size ∧ w.heap.size ≠ B r) ∧ g0 < wr.drew.heap.size ∧ g0 ≠ B r) :=
        ⟨K4, hrw, ⟨Nat.lt_of_lt_of_le hbc.1 K5.size, fun e => hbc.2 ⟨r, hlt, e⟩⟩, ⟨Nat.lt_of_lt_of_le z2 K4.size, fun e => nE ⟨r, hlt, e⟩⟩, Nat.lt_of_lt_of_le e1 K5.size, fun e => n0 ⟨r, hlt, e⟩⟩
      clear hcc hcd hdv hs hk hg hdr hdA hke hrw K2 K3 K4 K5 hbc hbd nE n0 hd1 hd2 hd3 hN ha9 hmb2 y1 y2 B2 HE z2 k1 k2 hK hK5 hre i0 e1
      go_wp2
      refine region_planI (fun w' => w'.cell? ⟨g0, 0, none⟩ = some (.iface 123 (.pointer (some q))) ∧ w'.cell? ⟨bc, oc + r, none⟩ = some (.int .u8 (Kc r : Nat)) ∧ w'.cell? ⟨w.heap.size, 0, none⟩ = some (.int .i64 (f : Int)) ∧ w'.cell? ⟨w.heap.size, 1, none⟩ = some (.int .i64 (t : Int))) [0, 1, 2, 3, 4, 5, 6, 7, 8, 9, 10, 11, 12, 13, 14, 15, 16, 17, 18, 19, 20, 21, 22, 23] [23, 0] 64 ⟨q9, q6, q7, q8⟩ (by kernel_rfl) (by kernel_rfl) (fun _ a d v _ h => by cases d <;> exact h) ?_
      simp only [atI, List.getElem?_cons_zero, List.getElem?_cons_succ]
      refine planH_step ?A1 rfl (fun w' hS => ?s1) rfl (fun K hK => ?n1)
      case s1 =>
        obtain ⟨y0, y1, y2, y3⟩ := hS
        simp only [List.take_succ_cons, List.take_zero]
        repeat still_step
        exact rfl
      case n1 =>
      go_simp
      go_wp2_with (go_at_call 189; (with_reducible refine c5.mono ?_); rintro e x1 ⟨rfl, k5, r5⟩)
      clear c5
      obtain ⟨n1, n3, n4, n6, n8⟩ := HQ.out
      have HN : Hid (Ke (Eb m B) w2 x1 ∧ ∀ s, s < m → Rw x1 (B s) (Nn (B s)) (spb B o f t (fun r j => fm 285 (Kc r) (F j)) G (r + 1) (B s))) := by
        refine ⟨n1.trans (k5.ke.mono (fun x _ e => ⟨r, hlt, e⟩)), fun s hs' => ?_⟩
        by_cases e : B s = B r
        · rw [e]
          exact spb_more hft r5 (fun x _ => rfl)
        · exact (k5.rw_ (n3 s hs').drew9 e).congr (fun i _ => (spb_other e i).symm)
      refine hK _ _ ⟨(k5.cell n8.1 n8.2).trans q9, (k5.cell n4.1 n4.2).trans q6, (k5.cell n6.1 n6.2).trans q7, (k5.cell n6.1 n6.2).trans q8⟩ ?_
      clear hK K n1 n3 n4 n6 n8 k5 r5 q2 q6 q7 q8 q9 HQ hcut hcut8
      refine planH_last ?A2 rfl (fun w' hS => ?s2) rfl ?n2
      case s2 =>
        simp only [List.take_zero]
        exact rfl
      case n2 =>
      go_wp2
      go_roundw
      case rel => exact ⟨r + 1, hlt, by first | rfl | (rw [W1]; rfl), HN.out.1, HN.out.2⟩
      case measure => first | exact meas_lt8 hlt | (rw [W1]; exact meas_lt8 hlt)
    · have hkn : r = m := by omega
      subst hkn
      clear k4 d4
      go_wp2
      go_ret
      exact ⟨rfl, K2.trans hke, hrw⟩
set_option maxHeartbeats 4000000 in
set_option maxRecDepth 100000 in
theorem sprd9_nibble (q : Addr) (lo mid hi g0 m L f t : Nat) (B o Nn Kc F : Nat → Nat) (G : Nat → Nat → Nat) (col diff dsts : Value) (w : World) (hk : Ks w ⟨g0, 0, none⟩ 1 lo hi) (hK : Nk w q lo mid) (i0 : w.cell? ⟨g0, 0, none⟩ = some (.iface 125 (.pointer (some q)))) (h1 : lo ≤ g0) (h2 : g0 < hi) (h3 : hi ≤ w.heap.size) (h4 : mid ≤ hi)
    (hmb : 24 * m ≤ 140737488355328) (hg : ∀ r, r < m → B r < lo ∨ hi ≤ B r) (hc : Re (Eb m B) w col m Kc) (hs : Re (Eb m B) w diff L F) (hd : Dl w dsts m L B o Nn G) (hft : f ≤ t) (htL : t ≤ L) :
    Calls Tryz.prog 65 #[.pointer (some ⟨g0, 0, none⟩), col, diff, dsts, .agg #[.int .i64 (f : Int), .int .i64 (t : Int)]] w fun e w' => e = .returned (.int .i64 0) ∧ Ke (Eb m B) w w' ∧ ∀ r, r < m → Rw w' (B r) (Nn (B r)) (spb B o f t (fun r j => fm 285 (Kc r) (F j)) G m (B r)) := by
  have b1 : Below w.heap.size w (w.alloc (.cells #[.int .i64 (f : Int), .int .i64 (t : Int)] 48)) := (Below.refl _ _).alloc (Nat.le_refl _) _
  have c0 := isnil9_no _ 1 lo hi _ (hk.under b1)
  have c2 := allof9_yes L dsts m (fun _ => L) _ _ (hd.lb.below b1) (by omega) (fun _ _ => rfl)
  have c3 := within9_yes (f : Int) (t : Int) L (w.alloc (.cells #[.int .i64 (f : Int), .int .i64 (t : Int)] 48)) ⟨by omega, by omega, by omega⟩
  have hm : ∀ W, Sem.run Tryz.prog (method 368 125 (.pointer (some q)) "MulAdd") W = .ok (193, .pointer (some q)) W := fun _ => by kernel_rfl
  obtain ⟨Ad, Cd, hdv, hdA⟩ := hd.lv
  have hdr := hd.row
  clear hd
  obtain ⟨hmb2, ad, cd, ed, -, -, d4⟩ := id hdv
  obtain ⟨xs, cx, es, hcx⟩ := re_form hs
  obtain ⟨k1, k2, xc, cc, ec, -, -, k4⟩ := hc
  subst ed es ec
  have HE : Hid (∀ r, r < m → B r < w.heap.size) := fun r h => (hdr r h).1.lt
  go_enter Tryz.func65, Tryz.ntmps65
  go_wp2_with (first | (go_at_call 103; (with_reducible refine c0.mono ?_); rintro e w9 ⟨rfl, hw9⟩; have hw9 := hw9.symm; subst hw9) | (go_at_call 104; (with_reducible refine c2.mono ?_); rintro e w9 ⟨rfl, hw9⟩; have hw9 := hw9.symm; subst hw9) | (go_at_call 105; (with_reducible refine c3.mono ?_); rintro e w2 ⟨rfl, b2⟩))
  have y1 : w2.cell? ⟨w.heap.size, 0, none⟩ = some (.int .i64 (f : Int)) := (b2.cell (p := ⟨w.heap.size, 0, none⟩) (by simp)).trans (by simp)
  have y2 : w2.cell? ⟨w.heap.size, 1, none⟩ = some (.int .i64 (t : Int)) := (b2.cell (p := ⟨w.heap.size, 1, none⟩) (by simp)).trans (by simp)
  have z2 : w.heap.size < w2.heap.size := Nat.lt_of_lt_of_le (by simp) b2.size
  have B2 : Below w.heap.size w w2 := b1.trans (b2.mono b1.size)
  have K2 : Ke (Eb m B) w w2 := ke_below B2 _
  clear b1 b2 c0 c2 c3
  go_loopw [34] (fun i wr => ∃ r : Nat, r ≤ m ∧ i = .int .i64 r ∧ Ke (Eb m B) w2 wr ∧ ∀ s, s < m → Rw wr (B s) (Nn (B s)) (spb B o f t (fun r j => fm 285 (Kc r) (F j)) G r (B s))) (fun i _ => m - (intOf i).toNat)
  case atStart => exact ⟨0, Nat.zero_le _, rfl, Ke.refl _ _, fun s hs' => rw_below (hdr s hs').1 B2⟩
  case round =>
    obtain ⟨r, hrm, rfl, hke, hrw⟩ := hrel
    by_cases hlt : r < m
    · obtain ⟨bc, oc, rfl, hbc, hcc⟩ := k4 (by omega)
      obtain ⟨bd, od, rfl, hbd, hcd⟩ := d4 (by omega)
      clear k4 d4
      have K3 : Ke (Eb m B) w wr := K2.trans hke
      have K4 : Ke (Eb m B) w2 wr.drew := hke.drew9
      have K5 : Ke (Eb m B) w wr.drew := K2.trans K4
      have q2 := (K3.cell hbd.1 hbd.2).trans (hcd r hlt)
      have nE : ¬ Eb m B w.heap.size := fun ⟨s, hs', e⟩ => Nat.lt_irrefl _ (e ▸ HE.out s hs')
      have n0 : ¬ Eb m B g0 := fun ⟨s, hs', e⟩ => (hg s hs').elim (fun h => Nat.not_le.2 h (e ▸ h1)) (fun h => Nat.not_le.2 h2 (e.symm ▸ h))
      have q6 := (K5.cell (q := oc + r) hbc.1 hbc.2).trans (hcc r hlt)
      have q7 := (K4.cell (q := 0) z2 nE).trans y1
      have q8 := (K4.cell (q := 1) z2 nE).trans y2
      have e1 : g0 < w.heap.size := Nat.lt_of_lt_of_le h2 h3
      have q9 := (K5.cell (q := 0) e1 n0).trans i0
      obtain ⟨hd1, hd2, hd3⟩ := hdA r hlt
      have hN := (hdr r hlt).2
      obtain ⟨a9, ha9, hcut⟩ := cut_pl9 (f := f) (t := t) hd3 hd1 hft htL
      obtain ⟨a8, hre, hcut8⟩ := cut_re9 (f := f) (t := t) hs hft htL
      have hK5 : Nk wr.drew q lo mid := hK.keep (Nat.le_trans (Nat.le_trans h4 h3) K5.size) (fun b hb1 hb2 => K5.2 b (Nat.lt_of_lt_of_le hb2 (Nat.le_trans h4 h3)) (fun ⟨s, hs', e⟩ => (hg s hs').elim (fun h => Nat.not_le.2 h (e ▸ hb1)) (fun h => Nat.not_le.2 hb2 (Nat.le_trans h4 (e.symm ▸ h)))))
      have c5 := n9add_far q lo mid (Kc r) (t - f) (B r) (o r + f) (Nn (B r)) _ _ a9 a8 (Cd r - f) (cx - f) wr.drew hK5 (k2 r hlt) (sub_big9 hN (hrw r hlt).1 htL) ((hg r hlt).imp_right (Nat.le_trans h4)) (Nat.sub_le_sub_right (Nat.le_trans htL hd1) f) (Nat.sub_le_sub_right (Nat.le_trans htL hcx) f) (hrw r hlt).drew9 ha9 (add_sub9 hft htL hN) ((hre.ke K5).mono (fun x _ e => ⟨r, hlt, e⟩)).fk
      have ib : ((r : Nat) : Int) < (m : Int) := Int.ofNat_lt.2 hlt
      have W1 := wrap_succ8 (j := r) (by unfold big; omega)
      have HQ : Hid (Ke (Eb m B) w2 wr.drew ∧ (∀ s, s < m → Rw wr (B s) (Nn (B s)) (spb B o f t (fun r j => fm 285 (Kc r) (F j)) G r (B s))) ∧ (bc < wr.drew.heap.size ∧ bc ≠ B r) ∧ (w.heap.size < wr.drew.heap.size ∧ w.heap.size ≠ B r) ∧ g0 < wr.drew.heap.size ∧ g0 ≠ B r) :=
        ⟨K4, hrw, ⟨Nat.lt_of_lt_of_le hbc.1 K5.size, fun e => hbc.2 ⟨r, hlt, e⟩⟩, ⟨Nat.lt_of_lt_of_le z2 K4.size, fun e => nE ⟨r, hlt, e⟩⟩, Nat.lt_of_lt_of_le e1 K5.size, fun e => n0 ⟨r, hlt, e⟩⟩
      clear hcc hcd hdv hs hk hg hdr hdA hke hrw K2 K3 K4 K5 hbc hbd nE n0 hd1 hd2 hd3 hN ha9 hmb2 y1 y2 B2 HE z2 k1 k2 hK hK5 hre i0 e1
      go_wp2
      refine region_planI (fun w' => w'.cell? ⟨g0, 0, none⟩ = some (.iface 125 (.pointer (some q))) ∧ w'.cell? ⟨bc, oc + r, none⟩ = some (.int .u8 (Kc r : Nat)) ∧ w'.cell? ⟨w.heap.size, 0, none⟩ = some (.int .i64 (f : Int)) ∧ w'.cell? ⟨w.heap.size, 1, none⟩ = some (.int .i64 (t : Int))) [0, 1, 2, 3, 4, 5, 6, 7, 8, 9, 10, 11, 12, 13, 14, 15, 16, 17, 18, 19, 20, 21, 22, 23] [23, 0] 64 ⟨q9, q6, q7, q8⟩ (by kernel_rfl) (by kernel_rfl) (fun _ a d v _ h => by cases d <;> exact h) ?_
      simp only [atI, List.getElem?_cons_zero, List.getElem?_cons_succ]
      refine planH_step ?A1 rfl (fun w' hS => ?s1) rfl (fun K hK => ?n1)
      case s1 =>
        obtain ⟨y0, y1, y2, y3⟩ := hS
        simp only [List.take_succ_cons, List.take_zero]
        repeat still_step
        exact rfl
      case n1 =>
      go_simp
      go_wp2_with (go_at_call 193; (with_reducible refine c5.mono ?_); rintro e x1 ⟨rfl, k5, r5⟩)
      clear c5
      obtain ⟨n1, n3, n4, n6, n8⟩ := HQ.out
      have HN : Hid (Ke (Eb m B) w2 x1 ∧ ∀ s, s < m → Rw x1 (B s) (Nn (B s)) (spb B o f t (fun r j => fm 285 (Kc r) (F j)) G (r + 1) (B s))) := by
        refine ⟨n1.trans (k5.ke.mono (fun x _ e => ⟨r, hlt, e⟩)), fun s hs' => ?_⟩
        by_cases e : B s = B r
        · rw [e]
          exact spb_more hft r5 (fun x _ => rfl)
        · exact (k5.rw_ (n3 s hs').drew9 e).congr (fun i _ => (spb_other e i).symm)
      refine hK _ _ ⟨(k5.cell n8.1 n8.2).trans q9, (k5.cell n4.1 n4.2).trans q6, (k5.cell n6.1 n6.2).trans q7, (k5.cell n6.1 n6.2).trans q8⟩ ?_
      clear hK K n1 n3 n4 n6 n8 k5 r5 q2 q6 q7 q8 q9 HQ hcut hcut8
      refine planH_last ?A2 rfl (fun w' hS => ?s2) rfl ?n2
      case s2 =>
        simp only [List.take_zero]
        exact rfl
      case n2 =>
      go_wp2
      go_roundw
      case rel => exact ⟨r + 1, hlt, by first | rfl | (rw [W1]; rfl), HN.out.1, HN.out.2⟩
      case measure => first | exact meas_lt8 hlt | (rw [W1]; exact meas_lt8 hlt)
    · have hkn : r = m := by omega
      subst hkn
      clear k4 d4
      go_wp2
      go_ret
      exact ⟨rfl, K2.trans hke, hrw⟩
set_option maxHeartbeats 4000000 in
set_option maxRecDepth 100000 in
theorem sprd9_sliced (q : Addr) (lo mid hi g0 m L f t : Nat) (B o Nn Kc F : Nat → Nat) (G : Nat → Nat → Nat) (col diff dsts : Value) (w : World) (hk : Ks w ⟨g0, 0, none⟩ 2 lo hi) (hK : Sk w q lo mid) (i0 : w.cell? ⟨g0, 0, none⟩ = some (.iface 127 (.pointer (some q)))) (h1 : lo ≤ g0) (h2 : g0 < hi) (h3 : hi ≤ w.heap.size) (h4 : mid ≤ hi)
    (hmb : 24 * m ≤ 140737488355328) (hg : ∀ r, r < m → B r < lo ∨ hi ≤ B r) (hc : Re (Eb m B) w col m Kc) (hs : Re (Eb m B) w diff L F) (hd : Dl w dsts m L B o Nn G) (hft : f ≤ t) (htL : t ≤ L) :
    Calls Tryz.prog 65 #[.pointer (some ⟨g0, 0, none⟩), col, diff, dsts, .agg #[.int .i64 (f : Int), .int .i64 (t : Int)]] w fun e w' => e = .returned (.int .i64 0) ∧ Ke (Eb m B) w w' ∧ ∀ r, r < m → Rw w' (B r) (Nn (B r)) (spb B o f t (fun r j => fm 285 (Kc r) (F j)) G m (B r)) := by
  have b1 : Below w.heap.size w (w.alloc (.cells #[.int .i64 (f : Int), .int .i64 (t : Int)] 48)) := (Below.refl _ _).alloc (Nat.le_refl _) _
  have c0 := isnil9_no _ 2 lo hi _ (hk.under b1)
  have c2 := allof9_yes L dsts m (fun _ => L) _ _ (hd.lb.below b1) (by omega) (fun _ _ => rfl)
  have c3 := within9_yes (f : Int) (t : Int) L (w.alloc (.cells #[.int .i64 (f : Int), .int .i64 (t : Int)] 48)) ⟨by omega, by omega, by omega⟩
  have hm : ∀ W, Sem.run Tryz.prog (method 368 127 (.pointer (some q)) "MulAdd") W = .ok (198, .pointer (some q)) W := fun _ => by kernel_rfl
  obtain ⟨Ad, Cd, hdv, hdA⟩ := hd.lv
  have hdr := hd.row
  clear hd
  obtain ⟨hmb2, ad, cd, ed, -, -, d4⟩ := id hdv
  obtain ⟨xs, cx, es, hcx⟩ := re_form hs
  obtain ⟨k1, k2, xc, cc, ec, -, -, k4⟩ := hc
  subst ed es ec
  have HE : Hid (∀ r, r < m → B r < w.heap.size) := fun r h => (hdr r h).1.lt
  go_enter Tryz.func65, Tryz.ntmps65
  go_wp2_with (first | (go_at_call 103; (with_reducible refine c0.mono ?_); rintro e w9 ⟨rfl, hw9⟩; have hw9 := hw9.symm; subst hw9) | (go_at_call 104; (with_reducible refine c2.mono ?_); rintro e w9 ⟨rfl, hw9⟩; have hw9 := hw9.symm; subst hw9) | (go_at_call 105; (with_reducible refine c3.mono ?_); rintro e w2 ⟨rfl, b2⟩))
  have y1 : w2.cell? ⟨w.heap.size, 0, none⟩ = some (.int .i64 (f : Int)) := (b2.cell (p := ⟨w.heap.size, 0, none⟩) (by simp)).trans (by simp)
  have y2 : w2.cell? ⟨w.heap.size, 1, none⟩ = some (.int .i64 (t : Int)) := (b2.cell (p := ⟨w.heap.size, 1, none⟩) (by simp)).trans (by simp)
  have z2 : w.heap.size < w2.heap.size := Nat.lt_of_lt_of_le (by simp) b2.size
  have B2 : Below w.heap.size w w2 := b1.trans (b2.mono b1.size)
  have K2 : Ke (Eb m B) w w2 := ke_below B2 _
  clear b1 b2 c0 c2 c3
  go_loopw [34] (fun i wr => ∃ r : Nat, r ≤ m ∧ i = .int .i64 r ∧ Ke (Eb m B) w2 wr ∧ ∀ s, s < m → Rw wr (B s) (Nn (B s)) (spb B o f t (fun r j => fm 285 (Kc r) (F j)) G r (B s))) (fun i _ => m - (intOf i).toNat)
  case atStart => exact ⟨0, Nat.zero_le _, rfl, Ke.refl _ _, fun s hs' => rw_below (hdr s hs').1 B2⟩
  case round =>
    obtain ⟨r, hrm, rfl, hke, hrw⟩ := hrel
    by_cases hlt : r < m
    · obtain ⟨bc, oc, rfl, hbc, hcc⟩ := k4 (by omega)
      obtain ⟨bd, od, rfl, hbd, hcd⟩ := d4 (by omega)
      clear k4 d4
      have K3 : Ke (Eb m B) w wr := K2.trans hke
      have K4 : Ke (Eb m B) w2 wr.drew := hke.drew9
      have K5 : Ke (Eb m B) w wr.drew := K2.trans K4
      have q2 := (K3.cell hbd.1 hbd.2).trans (hcd r hlt)
      have nE : ¬ Eb m B w.heap.size := fun ⟨s, hs', e⟩ => Nat.lt_irrefl _ (e ▸ HE.out s hs')
      have n0 : ¬ Eb m B g0 := fun ⟨s, hs', e⟩ => (hg s hs').elim (fun h => Nat.not_le.2 h (e ▸ h1)) (fun h => Nat.not_le.2 h2 (e.symm ▸ h))
      have q6 := (K5.cell (q := oc + r) hbc.1 hbc.2).trans (hcc r hlt)
      have q7 := (K4.cell (q := 0) z2 nE).trans y1
      have q8 := (K4.cell (q := 1) z2 nE).trans y2
      have e1 : g0 < w.heap.size := Nat.lt_of_lt_of_le h2 h3
      have q9 := (K5.cell (q := 0) e1 n0).trans i0
      obtain ⟨hd1, hd2, hd3⟩ := hdA r hlt
      have hN := (hdr r hlt).2
      obtain ⟨a9, ha9, hcut⟩ := cut_pl9 (f := f) (t := t) hd3 hd1 hft htL
      obtain ⟨a8, hre, hcut8⟩ := cut_re9 (f := f) (t := t) hs hft htL
      have hK5 : Sk wr.drew q lo mid := hK.keep (Nat.le_trans (Nat.le_trans h4 h3) K5.size) (fun b hb1 hb2 => K5.2 b (Nat.lt_of_lt_of_le hb2 (Nat.le_trans h4 h3)) (fun ⟨s, hs', e⟩ => (hg s hs').elim (fun h => Nat.not_le.2 h (e ▸ hb1)) (fun h => Nat.not_le.2 hb2 (Nat.le_trans h4 (e.symm ▸ h)))))
      have c5 := s9add_far q lo mid (Kc r) (t - f) (B r) (o r + f) (Nn (B r)) _ _ a9 a8 (Cd r - f) (cx - f) wr.drew hK5 (k2 r hlt) (sub_big9 hN (hrw r hlt).1 htL) ((hg r hlt).imp_right (Nat.le_trans h4)) (Nat.sub_le_sub_right (Nat.le_trans htL hd1) f) (Nat.sub_le_sub_right (Nat.le_trans htL hcx) f) (hrw r hlt).drew9 ha9 (add_sub9 hft htL hN) ((hre.ke K5).mono (fun x _ e => ⟨r, hlt, e⟩)).fk
      have ib : ((r : Nat) : Int) < (m : Int) := Int.ofNat_lt.2 hlt
      have W1 := wrap_succ8 (j := r) (by unfold big; omega)
      have HQ : Hid (Ke (Eb m B) w2 wr.drew ∧ (∀ s, s < m → Rw wr (B s) (Nn (B s)) (spb B o f t (fun r j => fm 285 (Kc r) (F j)) G r (B s))) ∧ (bc < wr.drew.heap.size ∧ bc ≠ B r) ∧ (w.heap.size < wr.drew.heap.size ∧ w.heap.size ≠ B r) ∧ g0 < wr.drew.heap.size ∧ g0 ≠ B r) :=
        ⟨K4, hrw, ⟨Nat.lt_of_lt_of_le hbc.1 K5.size, fun e => hbc.2 ⟨r, hlt, e⟩⟩, ⟨Nat.lt_of_lt_of_le z2 K4.size, fun e => nE ⟨r, hlt, e⟩⟩, Nat.lt_of_lt_of_le e1 K5.size, fun e => n0 ⟨r, hlt, e⟩⟩
      clear hcc hcd hdv hs hk hg hdr hdA hke hrw K2 K3 K4 K5 hbc hbd nE n0 hd1 hd2 hd3 hN ha9 hmb2 y1 y2 B2 HE z2 k1 k2 hK hK5 hre i0 e1
      go_wp2
      refine region_planI (fun w' => w'.cell? ⟨g0, 0, none⟩ = some (.iface 127 (.pointer (some q))) ∧ w'.cell? ⟨bc, oc + r, none⟩ = some (.int .u8 (Kc r : Nat)) ∧ w'.cell? ⟨w.heap.size, 0, none⟩ = some (.int .i64 (f : Int)) ∧ w'.cell? ⟨w.heap.size, 1, none⟩ = some (.int .i64 (t : Int))) [0, 1, 2, 3, 4, 5, 6, 7, 8, 9, 10, 11, 12, 13, 14, 15, 16, 17, 18, 19, 20, 21, 22, 23] [23, 0] 64 ⟨q9, q6, q7, q8⟩ (by kernel_rfl) (by kernel_rfl) (fun _ a d v _ h => by cases d <;> exact h) ?_
      simp only [atI, List.getElem?_cons_zero, List.getElem?_cons_succ]
      refine planH_step ?A1 rfl (fun w' hS => ?s1) rfl (fun K hK => ?n1)
      case s1 =>
        obtain ⟨y0, y1, y2, y3⟩ := hS
        simp only [List.take_succ_cons, List.take_zero]
        repeat still_step
        exact rfl
      case n1 =>
      go_simp
      go_wp2_with (go_at_call 198; (with_reducible refine c5.mono ?_); rintro e x1 ⟨rfl, k5, r5⟩)
      clear c5
      obtain ⟨n1, n3, n4, n6, n8⟩ := HQ.out
      have HN : Hid (Ke (Eb m B) w2 x1 ∧ ∀ s, s < m → Rw x1 (B s) (Nn (B s)) (spb B o f t (fun r j => fm 285 (Kc r) (F j)) G (r + 1) (B s))) := by
        refine ⟨n1.trans (k5.ke.mono (fun x _ e => ⟨r, hlt, e⟩)), fun s hs' => ?_⟩
        by_cases e : B s = B r
        · rw [e]
          exact spb_more hft r5 (fun x _ => rfl)
        · exact (k5.rw_ (n3 s hs').drew9 e).congr (fun i _ => (spb_other e i).symm)
      refine hK _ _ ⟨(k5.cell n8.1 n8.2).trans q9, (k5.cell n4.1 n4.2).trans q6, (k5.cell n6.1 n6.2).trans q7, (k5.cell n6.1 n6.2).trans q8⟩ ?_
      clear hK K n1 n3 n4 n6 n8 k5 r5 q2 q6 q7 q8 q9 HQ hcut hcut8
      refine planH_last ?A2 rfl (fun w' hS => ?s2) rfl ?n2
      case s2 =>
        simp only [List.take_zero]
        exact rfl
      case n2 =>
      go_wp2
      go_roundw
      case rel => exact ⟨r + 1, hlt, by first | rfl | (rw [W1]; rfl), HN.out.1, HN.out.2⟩
      case measure => first | exact meas_lt8 hlt | (rw [W1]; exact meas_lt8 hlt)
    · have hkn : r = m := by omega
      subst hkn
      clear k4 d4
      go_wp2
      go_ret
      exact ⟨rfl, K2.trans hke, hrw⟩
theorem kspread_ok (p : Addr) (bk lo hi m L f t : Nat) (B o Nn K F : Nat → Nat) (G : Nat → Nat → Nat) (col diff dsts : Value) (w : World) (hk : Ks w p bk lo hi) (hmb : 24 * m ≤ 140737488355328) (hg : ∀ r, r < m → B r < lo ∨ hi ≤ B r)
    (hc : Re (Eb m B) w col m K) (hs : Re (Eb m B) w diff L F) (hd : Dl w dsts m L B o Nn G) (hft : f ≤ t) (htL : t ≤ L) :
    Calls Tryz.prog 65 #[.pointer (some p), col, diff, dsts, .agg #[.int .i64 (f : Int), .int .i64 (t : Int)]] w fun e w' => e = .returned (.int .i64 0) ∧ Ke (Eb m B) w w' ∧ ∀ r, r < m → Rw w' (B r) (Nn (B r)) (spb B o f t (fun r j => fm 285 (K r) (F j)) G m (B r)) := by
  obtain ⟨g0, T, q, mid, rfl, h1, h2, h3, h4, h5, i0, i1⟩ := id hk
  rcases h5 with ⟨rfl, rfl, h5⟩ | ⟨rfl, rfl, h5⟩ | ⟨rfl, rfl, h5⟩
  · exact sprd9_table q lo mid hi g0 m L f t B o Nn K F G col diff dsts w hk h5 i0 h1 h2 h3 h4 hmb hg hc hs hd hft htL
  · exact sprd9_nibble q lo mid hi g0 m L f t B o Nn K F G col diff dsts w hk h5 i0 h1 h2 h3 h4 hmb hg hc hs hd hft htL
  · exact sprd9_sliced q lo mid hi g0 m L f t B o Nn K F G col diff dsts w hk h5 i0 h1 h2 h3 h4 hmb hg hc hs hd hft htL
end Go.Proofs.YtaoapplbcgflmaaGreat
namespace Go.Proofs.YtaoapplbcgflmaaGreat
open Go.RowKit Gf2
set_option linter.unusedVariables false

set_option maxHeartbeats 2000000 in
set_option maxRecDepth 100000 in
theorem iszero9 (v : Value) (n : Nat) (F : Nat → Nat) (w : World) (h : Rb w v n F) :
    Calls Tryz.prog 101 #[v] w fun e w' => (∃ b : Bool, e = .returned (.bool b) ∧ (b = true ↔ ∀ i, i < n → F i = 0)) ∧ w' = w := by
  obtain ⟨h1, h2, a, cap, rfl, -, -, h4⟩ := h
  go_enter Tryz.func101, Tryz.ntmps101
  go_wp2
  go_loopw [7] (fun i wr => ∃ j : Nat, j ≤ n ∧ i = .int .i64 j ∧ w = wr ∧ ∀ i, i < j → F i = 0) (fun i _ => n - (intOf i).toNat)
  case atStart => exact ⟨0, Nat.zero_le _, rfl, rfl, fun i hi => absurd hi (Nat.not_lt_zero _)⟩
  case round =>
    obtain ⟨j, hj, rfl, rfl, hE⟩ := hrel
    by_cases hlt : j < n
    · obtain ⟨b', o', rfl, hbl, hc'⟩ := h4 (by omega)
      have q2 := hc' j hlt
      have ib : ((j : Nat) : Int) < (n : Int) := by omega
      have W1 := wrap_succ8 (j := j) (by omega)
      by_cases hjL : F j = 0
      · rw [hjL] at q2
        have HV : Hid ((∀ i, i < j → F i = 0) ∧ F j = 0) := ⟨hE, hjL⟩
        clear hE hjL hc' h4 h1 h2 hbl
        go_wp2
        go_roundw
        case rel =>
          refine ⟨j + 1, hlt, by first | rfl | (rw [W1]; rfl), by first | rfl | trivial, fun i hi => ?_⟩
          by_cases e : i = j
          · rw [e]; exact HV.out.2
          · exact HV.out.1 i (by omega)
        case measure => first | exact meas_lt8 hlt | (rw [W1]; exact meas_lt8 hlt)
      · have hI : ¬ ((F j : Int) = 0) := by omega
        have H6 : Hid (¬ ∀ i, i < n → F i = 0) := fun h => hjL (h j hlt)
        clear hE hjL hc' h4 h1 h2 hbl
        go_wp2
        go_ret
        exact ⟨⟨false, rfl, ⟨fun h => absurd h (by decide), fun h => absurd h H6.out⟩⟩, by first | rfl | trivial⟩
    · have hjm : j = n := by omega
      subst hjm
      clear h4 h1 hlt hj
      go_wp2
      go_ret
      exact ⟨⟨true, rfl, ⟨fun _ => hE, fun _ => rfl⟩⟩, by first | rfl | trivial⟩
theorem iszero9_yes (v : Value) (n : Nat) (F : Nat → Nat) (w : World) (hv : Rb w v n F) (h : ∀ i, i < n → F i = 0) :
    Calls Tryz.prog 101 #[v] w fun e w' => e = .returned (.bool true) ∧ w' = w :=
  (iszero9 v n F w hv).mono fun e w' ⟨⟨b, e1, hb⟩, h2⟩ => ⟨by rw [e1, hb.2 h], h2⟩
theorem iszero9_no (v : Value) (n : Nat) (F : Nat → Nat) (w : World) (hv : Rb w v n F) (h : ¬ ∀ i, i < n → F i = 0) :
    Calls Tryz.prog 101 #[v] w fun e w' => e = .returned (.bool false) ∧ w' = w :=
  (iszero9 v n F w hv).mono fun e w' ⟨⟨b, e1, hb⟩, h2⟩ => ⟨by rw [e1]; cases b with | false => rfl | true => exact absurd (hb.1 rfl) h, h2⟩
/-- the first m of a list. -/
theorem run_head9 (x : Option Addr) (n cx m : Nat) (hm : m ≤ cx) (W : World) : (Instr.slice 27 (.slice x n cx) none (some (.int .i64 (m : Int))) none).run Tryz.prog W = .ok (.slice x m cx) W := by
  have hu : Tryz.prog.underlying 27 = some (.slice (Tryz.prog.elem 27)) := by rw [elem_u8k]; exact Tryz.underlying27
  have h := run_slice_h (P := Tryz.prog) (w := W) 27 x n cx hu .i64 (m : Int) (by omega) (by omega)
  have e : (if cx = 0 then x else x.map (·.add 0)) = x := by
    split
    · rfl
    · cases x with
      | none => rfl
      | some a =>
        show some (a.add 0) = some a
        obtain ⟨b, o, s⟩ := a
        cases s <;> simp [Addr.add]
  rw [h, elem_u8k, size_u8k]
  simp only [Result.andThen, sliced, Int.toNat_natCast, Nat.zero_mul, Nat.sub_zero]
  rw [e]
theorem xor_zero9 {a b : Nat} : a ^^^ b = 0 ↔ a = b := by
  constructor
  · intro h
    have := congrArg (· ^^^ b) h
    simp only [Nat.xor_assoc, Nat.xor_self, Nat.xor_zero, Nat.zero_xor] at this
    exact this
  · rintro rfl
    exact Nat.xor_self _
set_option maxHeartbeats 4000000 in
set_option maxRecDepth 100000 in
theorem kagrees_bad (p : Addr) (bk lo hi m k d : Nat) (nr ns nd : Nat → Nat) (R S D : Nat → Nat → Nat) (fr to : Int) (rows srcs dsts : Value) (w : World) (hk : Ks w p bk lo hi) (hmb : 24 * m ≤ 140737488355328) (hkb : 24 * k ≤ 140737488355328) (hdb : 24 * d ≤ 140737488355328)
    (hr : Lb w rows m nr R) (hs : Lb w srcs k ns S) (hd : Lb w dsts d nd D) (hf : fit9 m k d nr ns nd fr to ≠ 0) :
    Calls Tryz.prog 61 #[.pointer (some p), rows, srcs, dsts, .agg #[.int .i64 fr, .int .i64 to]] w fun e w' => e = .returned (.tuple #[.bool false, .int .i64 (fit9 m k d nr ns nd fr to : Nat)]) ∧ Below w.heap.size w w' := by
  have b1 : Below w.heap.size w (w.alloc (.cells #[.int .i64 fr, .int .i64 to] 48)) := (Below.refl _ _).alloc (Nat.le_refl _) _
  have cU := unfit9 p bk lo hi m k d nr ns nd R S D fr to rows srcs dsts _ (hk.under b1) (by omega) (by omega) (by omega) (hr.below b1) (hs.below b1) (hd.below b1)
  generalize fit9 m k d nr ns nd fr to = n at hf cU ⊢
  have hI : ¬ ((n : Int) = 0) := by omega
  clear hr hs hd hk
  go_enter Tryz.func61, Tryz.ntmps61
  go_wp2_with (go_at_call 73; (with_reducible refine cU.mono ?_); rintro e w2 ⟨rfl, b2⟩)
  go_ret2
  exact ⟨rfl, b1.trans (b2.mono b1.size)⟩
end Go.Proofs.YtaoapplbcgflmaaGreat
