import Derived.Test.YtefolifecbhgoaaGreatMbay
import Derived.Lib.SliceRun
namespace Go.Proofs.YtefolifecbhgoaaGreat
open Go.RowKit Gf2
set_option linter.unusedVariables false

theorem addp9 (p : Addr) (bk lo hi k L f t g o N : Nat) (F R : Nat → Nat) (S : Nat → Nat → Nat) (a : Option Addr) (ca : Nat) (row srcs : Value) (w : World) (hk : Ks w p bk lo hi)
    (hg : g < lo ∨ hi ≤ g) (hR : Rw w g N F) (hd : 0 < t - f → a = some ⟨g, o, none⟩) (hoN : o + (t - f) ≤ N) (hca : t - f ≤ ca) (hn : t - f ≤ big) (hr : Re (fun x => x = g) w row k R) (hs : Ll (fun x => x = g) w srcs k (fun _ => L) S) (hft : f ≤ t) (htL : 0 < k → t ≤ L) (hkb : k ≤ 140737488355328) :
    Calls Tryz.prog 80 #[.pointer (some p), row, srcs, .slice a (t - f : Nat) ca, .agg #[.int .i64 (f : Int), .int .i64 (t : Int)]] w fun e w' => (∃ v, e = .returned v) ∧ Kp g w w' ∧ Rw w' g N (pl F o (t - f) (fun x => F (o + x) ^^^ ks R (fun i j => S i (f + j)) k x)) := by
  obtain ⟨g0, T, q, mid, rfl, h1, h2, h3, h4, h5, i0, i1⟩ := hk
  rcases h5 with ⟨rfl, rfl, h5⟩ | ⟨rfl, rfl, h5⟩ | ⟨rfl, rfl, h5⟩
  · exact addp9_table q lo mid hi g0 k L f t g o N F R S a ca row srcs w h5 i0 h1 h2 h3 h4 hg hR hd hoN hca hn hr hs hft htL hkb
  · exact addp9_nibble q lo mid hi g0 k L f t g o N F R S a ca row srcs w h5 i0 h1 h2 h3 h4 hg hR hd hoN hca hn hr hs hft htL hkb
  · exact addp9_sliced q lo mid hi g0 k L f t g o N F R S a ca row srcs w h5 i0 h1 h2 h3 h4 hg hR hd hoN hca hn hr hs hft htL hkb

theorem zeros9 {g N : Nat} : ∀ (n o : Nat) (w : World) (F : Nat → Nat), Rw w g N F → o + n ≤ N →
    Rw (w.setCells g o (List.replicate n (.int .u8 0))) g N (pl F o n (fun _ => 0)) ∧ Only g w (w.setCells g o (List.replicate n (.int .u8 0)))
  | 0, o, w, F, h, _ => ⟨h.congr (fun i _ => (pl_out (by omega)).symm), Only.refl _ _⟩
  | n + 1, o, w, F, h, hn => by
    obtain ⟨h1, h2⟩ := zeros9 n (o + 1) (w.setCell ⟨g, o, none⟩ (.int .u8 0)) (fun i => if i = o then 0 else F i) (h.set o 0 (by decide)) (by omega)
    refine ⟨h1.congr (fun i hi => ?_), ((Only.refl g w).setCell o _).trans h2⟩
    unfold pl
    by_cases e : o + 1 ≤ i ∧ i < o + 1 + n
    · rw [if_pos e, if_pos (by omega)]
    · rw [if_neg e]
      show (if i = o then 0 else F i) = _
      by_cases e2 : i = o
      · rw [if_pos e2, if_pos (by omega)]
      · rw [if_neg e2, if_neg (by omega)]
theorem zero_u8k (w : World) : (zeroValue 5).run Tryz.prog w = .ok (.int .u8 0) w := by kernel_rfl
theorem clear9 {w : World} {g N o n ca : Nat} {F : Nat → Nat} {a : Option Addr} (hR : Rw w g N F) (hd : 0 < n → a = some ⟨g, o, none⟩) (hoN : o + n ≤ N) :
    ∃ w1, (∀ ty, (Builtin.clear_ #[27] ty #[.slice a n ca]).run Tryz.prog w = .ok (.tuple #[]) w1) ∧ Only g w w1 ∧ Rw w1 g N (pl F o n (fun _ => 0)) := by
  by_cases h0 : 0 < n
  · obtain ⟨h1, h2⟩ := zeros9 n o w F hR hoN
    rw [hd h0]
    exact ⟨_, fun ty => Lib.run_clear_slice w 27 5 ty _ Tryz.underlying27 zero_u8k rfl rfl g o n ca h0 (fun j hj => by rw [hR.2.2.cell (i := o + j) (by omega)]; rfl) (fun j hj => hR.2.2.frozen (o + j)), h2, h1⟩
  · have hn0 : n = 0 := by omega
    subst hn0
    refine ⟨w, fun ty => ?_, Only.refl _ _, hR.congr (fun i _ => (pl_out (by omega)).symm)⟩
    cases a <;> simp [Builtin.clear_, run_underlying Tryz.underlying27]
theorem Dl.lb {w : World} {v : Value} {m L : Nat} {B o Nn : Nat → Nat} {G : Nat → Nat → Nat} (h : Dl w v m L B o Nn G) : Lb w v m (fun _ => L) (fun r j => G (B r) (o r + j)) := by
  obtain ⟨A, C, hv, hA⟩ := h.lv
  refine ⟨_, hv.mono (fun x _ e => e.elim), fun r hr => ?_⟩
  obtain ⟨h1, h2, h3⟩ := hA r hr
  obtain ⟨h4, h5⟩ := h.row r hr
  have hNb := h4.1
  show Re (fun _ => False) w (.slice (A r) L (C r)) L _
  exact ⟨by omega, fun i hi => h4.2.1 _ (by omega), A r, C r, rfl, h1, h2, fun h0 => ⟨B r, o r, h3 h0, ⟨h4.lt, fun e => e⟩, fun i hi => h4.2.2.cell (by omega)⟩⟩
theorem apb_more {w : World} {N r f t : Nat} {B o : Nat → Nat} {V G : Nat → Nat → Nat} (hft : f ≤ t) {T : Nat → Nat}
    (h : Rw w (B r) N (pl (pl (apb B o f t V G r (B r)) (o r + f) (t - f) (fun _ => 0)) (o r + f) (t - f) (fun x => pl (apb B o f t V G r (B r)) (o r + f) (t - f) (fun _ => 0) (o r + f + x) ^^^ T x))) (hT : ∀ x, x < t - f → T x = V r (f + x)) :
    Rw w (B r) N (apb B o f t V G (r + 1) (B r)) :=
  h.congr (fun i hi => by
    show _ = if B r = B r ∧ o r + f ≤ i ∧ i < o r + t then V r (i - o r) else apb B o f t V G r (B r) i
    by_cases e : o r + f ≤ i ∧ i < o r + f + (t - f)
    · rw [if_pos (by omega)]
      obtain ⟨x, hx, rfl⟩ : ∃ x, x < t - f ∧ i = o r + f + x := ⟨i - (o r + f), by omega, by omega⟩
      rw [pl_in hx, pl_in hx, Nat.zero_xor, hT _ hx, show o r + f + x - o r = f + x by omega]
    · rw [if_neg (by omega), pl_out (by omega), pl_out (by omega)])
theorem apb_other {r f t b : Nat} {B o : Nat → Nat} {V G : Nat → Nat → Nat} (h : b ≠ B r) (i : Nat) : apb B o f t V G (r + 1) b i = apb B o f t V G r b i := by
  show (if b = B r ∧ o r + f ≤ i ∧ i < o r + t then V r (i - o r) else apb B o f t V G r b i) = _
  rw [if_neg (fun e => h e.1)]
theorem len9_of {k m L : Nat} (h : 0 < k ∨ 0 < m) : len9 k m (fun _ => L) (fun _ => L) = L := by
  unfold len9
  by_cases h1 : 0 < k
  · rw [if_pos h1]
  · rw [if_neg h1, if_pos (by omega)]
theorem fit9_ok {m k L f t : Nat} (hft : f ≤ t) (htL : t ≤ len9 k m (fun _ => L) (fun _ => L)) : fit9 m k m (fun _ => k) (fun _ => L) (fun _ => L) (f : Int) (t : Int) = 0 :=
  fit9_zero ⟨rfl, fun _ _ => rfl, fun i hi => (len9_of (.inl (by omega))).symm, fun i hi => (len9_of (.inr (by omega))).symm⟩ ⟨by omega, by omega, by omega⟩
theorem ks_shift (R : Nat → Nat) (S : Nat → Nat → Nat) (f x : Nat) : ∀ k, ks R (fun i j => S i (f + j)) k x = ks R S k (f + x)
  | 0 => rfl
  | k + 1 => by unfold ks; rw [ks_shift R S f x k]
theorem Ks.held {E : Nat → Prop} {w w' : World} {p : Addr} {b lo hi : Nat} (h : Ks w p b lo hi) (hk : Ke E w w') (hE : ∀ x, E x → x < lo ∨ hi ≤ x) : Ks w' p b lo hi :=
  h.keep (Nat.le_trans h.hi hk.size) (fun x h1 hx => hk.2 x (Nat.lt_of_lt_of_le hx h.hi) (fun e => by have := hE x e; omega))
theorem Ke.drew9 {E : Nat → Prop} {a b : World} (h : Ke E a b) : Ke E a b.drew := ⟨h.1.drew, h.2⟩
theorem Rw.drew9 {w : World} {g N : Nat} {F : Nat → Nat} (h : Rw w g N F) : Rw w.drew g N F := ⟨h.1, h.2.1, h.2.2.drew⟩
end Go.Proofs.YtefolifecbhgoaaGreat
namespace Go.Proofs.YtefolifecbhgoaaGreat
open Go.RowKit Gf2
set_option linter.unusedVariables false

set_option maxHeartbeats 4000000 in
set_option maxRecDepth 100000 in
theorem kapply_ok (p : Addr) (bk lo hi m k L f t : Nat) (B o Nn : Nat → Nat) (R S G : Nat → Nat → Nat) (rows srcs dsts : Value) (w : World) (hk : Ks w p bk lo hi) (hmb : 24 * m ≤ 140737488355328) (hkb : 24 * k ≤ 140737488355328) (hg : ∀ r, r < m → B r < lo ∨ hi ≤ B r)
    (hr : Ll (Eb m B) w rows m (fun _ => k) R) (hs : Ll (Eb m B) w srcs k (fun _ => L) S) (hd : Dl w dsts m L B o Nn G) (hft : f ≤ t) (htL : t ≤ len9 k m (fun _ => L) (fun _ => L)) :
    Calls Tryz.prog 41 #[.pointer (some p), rows, srcs, dsts, .agg #[.int .i64 (f : Int), .int .i64 (t : Int)]] w fun e w' => e = .returned (.int .i64 0) ∧ Ke (Eb m B) w w' ∧ ∀ r, r < m → Rw w' (B r) (Nn (B r)) (apb B o f t (fun r j => ks (R r) S k j) G m (B r)) := by
  have b1 : Below w.heap.size w (w.alloc (.cells #[.int .i64 (f : Int), .int .i64 (t : Int)] 65)) := (Below.refl _ _).alloc (Nat.le_refl _) _
  have cU := unfit9 p bk lo hi m k m (fun _ => k) (fun _ => L) (fun _ => L) R S _ (f : Int) (t : Int) rows srcs dsts _ (hk.under b1) (by omega) (by omega) (by omega) (hr.lb.below b1) (hs.lb.below b1) (hd.lb.below b1)
  rw [fit9_ok hft htL] at cU
  have htL2 : 0 < m → t ≤ L := fun h => by rw [len9_of (.inr h)] at htL; exact htL
  have htL3 : 0 < k → t ≤ L := fun h => by rw [len9_of (.inl h)] at htL; exact htL
  clear htL
  obtain ⟨as_, cs, es⟩ := ll_form hs
  obtain ⟨Ad, Cd, hdv, hdA⟩ := hd.lv
  have hdr := hd.row
  obtain ⟨Vr, hrv, hVr⟩ := hr
  clear hd
  obtain ⟨hmb2, ar, cr, er, -, -, r4⟩ := id hrv
  obtain ⟨hmb3, ad, cd, ed, -, -, d4⟩ := id hdv
  subst er ed es
  have HE : Hid (∀ r, r < m → B r < w.heap.size) := fun r h => (hdr r h).1.lt
  go_enter Tryz.func41, Tryz.ntmps41
  go_wp2_with (go_at_call 79; (with_reducible refine cU.mono ?_); rintro e w2 ⟨rfl, b2⟩)
  have y1 : w2.cell? ⟨w.heap.size, 0, none⟩ = some (.int .i64 (f : Int)) := (b2.cell (p := ⟨w.heap.size, 0, none⟩) (by simp)).trans (by simp)
  have y2 : w2.cell? ⟨w.heap.size, 1, none⟩ = some (.int .i64 (t : Int)) := (b2.cell (p := ⟨w.heap.size, 1, none⟩) (by simp)).trans (by simp)
  have z2 : w.heap.size < w2.heap.size := Nat.lt_of_lt_of_le (by simp) b2.size
  have B2 : Below w.heap.size w w2 := b1.trans (b2.mono b1.size)
  have K2 : Ke (Eb m B) w w2 := ke_below B2 _
  clear b1 b2 cU
  go_loopw [26] (fun i wr => ∃ r : Nat, r ≤ m ∧ i = .int .i64 r ∧ Ke (Eb m B) w2 wr ∧ ∀ s, s < m → Rw wr (B s) (Nn (B s)) (apb B o f t (fun r j => ks (R r) S k j) G r (B s))) (fun i _ => m - (intOf i).toNat)
  case atStart => exact ⟨0, Nat.zero_le _, rfl, Ke.refl _ _, fun s hs' => rw_below (hdr s hs').1 B2⟩
  case round =>
    obtain ⟨r, hrm, rfl, hke, hrw⟩ := hrel
    by_cases hlt : r < m
    · obtain ⟨br, orr, rfl, hbr, hcr⟩ := r4 (by omega)
      obtain ⟨bd, od, rfl, hbd, hcd⟩ := d4 (by omega)
      clear r4 d4
      have K3 : Ke (Eb m B) w wr := K2.trans hke
      have q1 := (K3.cell hbr.1 hbr.2).trans (hcr r hlt)
      have q2 := (K3.cell hbd.1 hbd.2).trans (hcd r hlt)
      have nE : ¬ Eb m B w.heap.size := fun ⟨s, hs', e⟩ => Nat.lt_irrefl _ (e ▸ HE.out s hs')
      have q4 := (hke.cell z2 nE).trans y1
      have q5 := (hke.cell z2 nE).trans y2
      obtain ⟨hd1, hd2, hd3⟩ := hdA r hlt
      have hN := (hdr r hlt).2
      have tL := htL2 (by omega)
      obtain ⟨a9, ha9, hcut⟩ := cut_pl9 (f := f) (t := t) hd3 hd1 hft tL
      obtain ⟨w3, hclr, o3, r3⟩ := clear9 (n := t - f) (o := o r + f) (ca := Cd r - f) (hrw r hlt) ha9 (by omega)
      have K4 : Ke (Eb m B) w2 w3.drew := (hke.trans (o3.kp.ke.mono (fun x _ e => ⟨r, hlt, e⟩))).drew9
      have K5 : Ke (Eb m B) w w3.drew := K2.trans K4
      have c5 := addp9 p bk lo hi k L f t (B r) (o r + f) (Nn (B r)) _ (R r) S a9 (Cd r - f) (Vr r) _ w3.drew (hk.held K5 (fun x ⟨s, hs', e⟩ => e ▸ hg s hs')) (hg r hlt) r3.drew9 ha9 (by omega) (by omega) (by have := (hrw r hlt).1; omega) (((hVr r hlt).ke K5).mono (fun x _ e => ⟨r, hlt, e⟩)) ((hs.ke K5).mono (fun x _ e => ⟨r, hlt, e⟩)) hft htL3 (by omega)
      have q6 := (K5.cell (q := orr + r) hbr.1 hbr.2).trans (hcr r hlt)
      have q7 := (K4.cell (q := 0) z2 nE).trans y1
      have q8 := (K4.cell (q := 1) z2 nE).trans y2
      have ib : ((r : Nat) : Int) < (m : Int) := by omega
      have W1 := wrap_succ8 (j := r) (by unfold big; omega)
      have HQ : Hid (Ke (Eb m B) w2 w3.drew ∧ Only (B r) wr w3 ∧ (∀ s, s < m → Rw wr (B s) (Nn (B s)) (apb B o f t (fun r j => ks (R r) S k j) G r (B s))) ∧ br < w3.drew.heap.size ∧ br ≠ B r ∧ w.heap.size < w3.drew.heap.size ∧ w.heap.size ≠ B r) :=
        ⟨K4, o3, hrw, Nat.lt_of_lt_of_le hbr.1 K5.size, fun e => hbr.2 ⟨r, hlt, e⟩, Nat.lt_of_lt_of_le z2 K4.size, fun e => nE ⟨r, hlt, e⟩⟩
      clear hcr hcd hrv hVr hdv hs hk hg hdr hdA hke hrw K2 K3 K4 K5 hbr hbd nE hd1 hd2 hd3 hN ha9 o3 r3 hmb2 hmb3 y1 y2 B2 HE z2 htL2 htL3
      go_wp2
      refine region_planI (fun w' => w'.cell? ⟨br, orr + r, none⟩ = some (Vr r) ∧ w'.cell? ⟨w.heap.size, 0, none⟩ = some (.int .i64 (f : Int)) ∧ w'.cell? ⟨w.heap.size, 1, none⟩ = some (.int .i64 (t : Int))) [0, 1, 2, 3, 4, 5, 6, 7, 8] [8, 0] 48 ⟨q6, q7, q8⟩ (by kernel_rfl) (by kernel_rfl) (fun _ a d v _ h => by cases d <;> exact h) ?_
      simp only [atI, List.getElem?_cons_zero, List.getElem?_cons_succ]
      refine planH_step ?A1 rfl (fun w' hS => ?s1) rfl (fun K hK => ?n1)
      case s1 =>
        obtain ⟨y0, y1, y2⟩ := hS
        simp only [List.take_succ_cons, List.take_zero]
        repeat still_step
        exact rfl
      case n1 =>
      go_simp
      go_wp2_with (go_at_call 80; (with_reducible refine c5.mono ?_); rintro e x1 ⟨⟨v5, rfl⟩, k5, r5⟩)
      clear c5
      obtain ⟨n1, n2, n3, n4, n5, n6, n7⟩ := HQ.out
      have HN : Hid (Ke (Eb m B) w2 x1 ∧ ∀ s, s < m → Rw x1 (B s) (Nn (B s)) (apb B o f t (fun r j => ks (R r) S k j) G (r + 1) (B s))) := by
        refine ⟨n1.trans (k5.ke.mono (fun x _ e => ⟨r, hlt, e⟩)), fun s hs' => ?_⟩
        by_cases e : B s = B r
        · rw [e]
          exact apb_more hft r5 (fun x _ => ks_shift _ _ _ _ _)
        · have h1 : Rw w3 (B s) (Nn (B s)) _ := (n3 s hs').of_block (n2.2.2 (B s) e)
          exact (k5.rw_ h1.drew9 e).congr (fun i _ => (apb_other e i).symm)
      refine hK _ _ ⟨(k5.cell n4 n5).trans q6, (k5.cell n6 n7).trans q7, (k5.cell n6 n7).trans q8⟩ ?_
      clear hK K n1 n2 n3 n4 n5 n6 n7 k5 r5 q1 q2 q4 q5 q6 q7 q8 HQ hcut hclr
      refine planH_last ?A2 rfl (fun w' hS => ?s2) rfl ?n2
      case s2 =>
        simp only [List.take_zero]
        exact rfl
      case n2 =>
      go_wp2
      go_roundw
      case rel => exact ⟨r + 1, hlt, by first | rfl | (rw [W1]; rfl), HN.out.1, HN.out.2⟩
      case measure => first | exact meas_lt8 hlt | (rw [W1]; exact meas_lt8 hlt)
    · have hkn : r = m := by omega
      subst hkn
      clear r4 d4
      go_wp2
      go_ret
      exact ⟨rfl, K2.trans hke, hrw⟩
end Go.Proofs.YtefolifecbhgoaaGreat
namespace Go.Proofs.YtefolifecbhgoaaGreat
open Go.RowKit Gf2
set_option linter.unusedVariables false

theorem spb_more {w : World} {N r f t : Nat} {B o : Nat → Nat} {V G : Nat → Nat → Nat} (hft : f ≤ t) {T : Nat → Nat}
    (h : Rw w (B r) N (pl (spb B o f t V G r (B r)) (o r + f) (t - f) (fun x => spb B o f t V G r (B r) (o r + f + x) ^^^ T x))) (hT : ∀ x, x < t - f → T x = V r (f + x)) :
    Rw w (B r) N (spb B o f t V G (r + 1) (B r)) :=
  h.congr (fun i hi => by
    show _ = if B r = B r ∧ o r + f ≤ i ∧ i < o r + t then spb B o f t V G r (B r) i ^^^ V r (i - o r) else spb B o f t V G r (B r) i
    by_cases e : o r + f ≤ i ∧ i < o r + f + (t - f)
    · rw [if_pos (by omega)]
      obtain ⟨x, hx, rfl⟩ : ∃ x, x < t - f ∧ i = o r + f + x := ⟨i - (o r + f), by omega, by omega⟩
      rw [pl_in hx, hT _ hx, show o r + f + x - o r = f + x by omega]
    · rw [if_neg (by omega), pl_out (by omega)])
theorem spb_other {r f t b : Nat} {B o : Nat → Nat} {V G : Nat → Nat → Nat} (h : b ≠ B r) (i : Nat) : spb B o f t V G (r + 1) b i = spb B o f t V G r b i := by
  show (if b = B r ∧ o r + f ≤ i ∧ i < o r + t then spb B o f t V G r b i ^^^ V r (i - o r) else spb B o f t V G r b i) = _
  rw [if_neg (fun e => h e.1)]
theorem sub_big9 {o L N f t : Nat} (h : o + L ≤ N) (hN : N ≤ big) (ht : t ≤ L) : t - f ≤ big := by omega
theorem add_sub9 {o L N f t : Nat} (hft : f ≤ t) (ht : t ≤ L) (h : o + L ≤ N) : o + f + (t - f) ≤ N := by omega
theorem re_form {E : Nat → Prop} {w : World} {v : Value} {n : Nat} {S : Nat → Nat} (h : Re E w v n S) : ∃ a c, v = .slice a n c ∧ n ≤ c := by
  obtain ⟨_, _, a, c, h, h', _⟩ := h
  exact ⟨a, c, h, h'⟩
set_option maxHeartbeats 4000000 in
set_option maxRecDepth 100000 in
theorem sprd9_table (q : Addr) (lo mid hi g0 m L f t : Nat) (B o Nn Kc F : Nat → Nat) (G : Nat → Nat → Nat) (col diff dsts : Value) (w : World) (hk : Ks w ⟨g0, 0, none⟩ 0 lo hi) (hK : Ker w q lo mid) (i0 : w.cell? ⟨g0, 0, none⟩ = some (.iface 98 (.pointer (some q)))) (h1 : lo ≤ g0) (h2 : g0 < hi) (h3 : hi ≤ w.heap.size) (h4 : mid ≤ hi)
    (hmb : 24 * m ≤ 140737488355328) (hg : ∀ r, r < m → B r < lo ∨ hi ≤ B r) (hc : Re (Eb m B) w col m Kc) (hs : Re (Eb m B) w diff L F) (hd : Dl w dsts m L B o Nn G) (hft : f ≤ t) (htL : t ≤ L) :
    Calls Tryz.prog 74 #[.pointer (some ⟨g0, 0, none⟩), col, diff, dsts, .agg #[.int .i64 (f : Int), .int .i64 (t : Int)]] w fun e w' => e = .returned (.int .i64 0) ∧ Ke (Eb m B) w w' ∧ ∀ r, r < m → Rw w' (B r) (Nn (B r)) (spb B o f t (fun r j => fm 285 (Kc r) (F j)) G m (B r)) := by
  have b1 : Below w.heap.size w (w.alloc (.cells #[.int .i64 (f : Int), .int .i64 (t : Int)] 65)) := (Below.refl _ _).alloc (Nat.le_refl _) _
  have c0 := isnil9_no _ 0 lo hi _ (hk.under b1)
  have c2 := allof9_yes L dsts m (fun _ => L) _ _ (hd.lb.below b1) (by omega) (fun _ _ => rfl)
  have c3 := within9_yes (f : Int) (t : Int) L (w.alloc (.cells #[.int .i64 (f : Int), .int .i64 (t : Int)] 65)) ⟨by omega, by omega, by omega⟩
  have hm : ∀ W, Sem.run Tryz.prog (method 364 98 (.pointer (some q)) "MulAdd") W = .ok (185, .pointer (some q)) W := fun _ => by kernel_rfl
  obtain ⟨Ad, Cd, hdv, hdA⟩ := hd.lv
  have hdr := hd.row
  clear hd
  obtain ⟨hmb2, ad, cd, ed, -, -, d4⟩ := id hdv
  obtain ⟨xs, cx, es, hcx⟩ := re_form hs
  obtain ⟨k1, k2, xc, cc, ec, -, -, k4⟩ := hc
  subst ed es ec
  have HE : Hid (∀ r, r < m → B r < w.heap.size) := fun r h => (hdr r h).1.lt
  go_enter Tryz.func74, Tryz.ntmps74
  go_wp2_with (first | (go_at_call 115; (with_reducible refine c0.mono ?_); rintro e w9 ⟨rfl, hw9⟩; have hw9 := hw9.symm; subst hw9) | (go_at_call 116; (with_reducible refine c2.mono ?_); rintro e w9 ⟨rfl, hw9⟩; have hw9 := hw9.symm; subst hw9) | (go_at_call 117; (with_reducible refine c3.mono ?_); rintro e w2 ⟨rfl, b2⟩))
  have y1 : w2.cell? ⟨w.heap.size, 0, none⟩ = some (.int .i64 (f : Int)) := (b2.cell (p := ⟨w.heap.size, 0, none⟩) (by simp)).trans (by simp)
  have y2 : w2.cell? ⟨w.heap.size, 1, none⟩ = some (.int .i64 (t : Int)) := (b2.cell (p := ⟨w.heap.size, 1, none⟩) (by simp)).trans (by simp)
  have z2 : w.heap.size < w2.heap.size := Nat.lt_of_lt_of_le (by simp) b2.size
  have B2 : Below w.heap.size w w2 := b1.trans (b2.mono b1.size)
  have K2 : Ke (Eb m B) w w2 := ke_below B2 _
  clear b1 b2 c0 c2 c3
  go_loopw [34] (fun i wr => ∃ r : Nat, r ≤ m ∧ i = .int .i64 r ∧ Ke (Eb m B) w2 wr ∧ ∀ s, s < m → Rw wr (B s) (Nn (B s)) (spb B o f t (fun r j => fm 285 (Kc r) (F j)) G r (B s))) (fun i _ => m - (intOf i).toNat)
  case atStart => exact ⟨0, Nat.zero_le _, rfl, Ke.refl _ _, fun s hs' => rw_below (hdr s hs').1 B2⟩
  case round =>
    obtain ⟨r, hrm, rfl, hke, hrw⟩ := hrel
    by_cases hlt : r < m
    · obtain ⟨bc, oc, rfl, hbc, hcc⟩ := k4 (by omega)
      obtain ⟨bd, od, rfl, hbd, hcd⟩ := d4 (by omega)
      clear k4 d4
      have K3 : Ke (Eb m B) w wr := K2.trans hke
      have K4 : Ke (Eb m B) w2 wr.drew := hke.drew9
      have K5 : Ke (Eb m B) w wr.drew := K2.trans K4
      have q2 := (K3.cell hbd.1 hbd.2).trans (hcd r hlt)
      have nE : ¬ Eb m B w.heap.size := fun ⟨s, hs', e⟩ => Nat.lt_irrefl _ (e ▸ HE.out s hs')
      have n0 : ¬ Eb m B g0 := fun ⟨s, hs', e⟩ => (hg s hs').elim (fun h => Nat.not_le.2 h (e ▸ h1)) (fun h => Nat.not_le.2 h2 (e.symm ▸ h))
      have q6 := (K5.cell (q := oc + r) hbc.1 hbc.2).trans (hcc r hlt)
      have q7 := (K4.cell (q := 0) z2 nE).trans y1
      have q8 := (K4.cell (q := 1) z2 nE).trans y2
      have e1 : g0 < w.heap.size := Nat.lt_of_lt_of_le h2 h3
      have q9 := (K5.cell (q := 0) e1 n0).trans i0
      obtain ⟨hd1, hd2, hd3⟩ := hdA r hlt
      have hN := (hdr r hlt).2
      obtain ⟨a9, ha9, hcut⟩ := cut_pl9 (f := f) (t := t) hd3 hd1 hft htL
      obtain ⟨a8, hre, hcut8⟩ := cut_re9 (f := f) (t := t) hs hft htL
      have hK5 : Ker wr.drew q lo mid := hK.keep (Nat.le_trans (Nat.le_trans h4 h3) K5.size) (fun b hb1 hb2 => K5.2 b (Nat.lt_of_lt_of_le hb2 (Nat.le_trans h4 h3)) (fun ⟨s, hs', e⟩ => (hg s hs').elim (fun h => Nat.not_le.2 h (e ▸ hb1)) (fun h => Nat.not_le.2 hb2 (Nat.le_trans h4 (e.symm ▸ h)))))
      have c5 := t9add_far q lo mid (Kc r) (t - f) (B r) (o r + f) (Nn (B r)) _ _ a9 a8 (Cd r - f) (cx - f) wr.drew hK5 (k2 r hlt) (sub_big9 hN (hrw r hlt).1 htL) ((hg r hlt).imp_right (Nat.le_trans h4)) (Nat.sub_le_sub_right (Nat.le_trans htL hd1) f) (Nat.sub_le_sub_right (Nat.le_trans htL hcx) f) (hrw r hlt).drew9 ha9 (add_sub9 hft htL hN) ((hre.ke K5).mono (fun x _ e => ⟨r, hlt, e⟩)).fk
      have ib : ((r : Nat) : Int) < (m : Int) := Int.ofNat_lt.2 hlt
      have W1 := wrap_succ8 (j := r) (by unfold big; omega)
      have HQ : Hid (Ke (Eb m B) w2 wr.drew ∧ (∀ s, s < m → Rw wr (B s) (Nn (B s)) (spb B o f t (fun r j => fm 285 (Kc r) (F j)) G r (B s))) ∧ (bc < wr.drew.heap.size ∧ bc ≠ B r) ∧ (w.heap.size < wr.drew.heap.size ∧ w.heap.size ≠ B r) ∧ g0 < wr.drew.heap.size ∧ g0 ≠ B r) :=
        ⟨K4, hrw, ⟨Nat.lt_of_lt_of_le hbc.1 K5.size, fun e => hbc.2 ⟨r, hlt, e⟩⟩, ⟨Nat.lt_of_lt_of_le z2 K4.size, fun e => nE ⟨r, hlt, e⟩⟩, Nat.lt_of_lt_of_le e1 K5.size, fun e => n0 ⟨r, hlt, e⟩⟩
      clear hcc hcd hdv hs hk hg hdr hdA hke hrw K2 K3 K4 K5 hbc hbd nE n0 hd1 hd2 hd3 hN ha9 hmb2 y1 y2 B2 HE z2 k1 k2 hK hK5 hre i0 e1
      go_wp2
      refine region_planI (fun w' => w'.cell? ⟨g0, 0, none⟩ = some (.iface 98 (.pointer (some q))) ∧ w'.cell? ⟨bc, oc + r, none⟩ = some (.int .u8 (Kc r : Nat)) ∧ w'.cell? ⟨w.heap.size, 0, none⟩ = some (.int .i64 (f : Int)) ∧ w'.cell? ⟨w.heap.size, 1, none⟩ = some (.int .i64 (t : Int))) [0, 1, 2, 3, 4, 5, 6, 7, 8, 9, 10, 11, 12, 13, 14, 15, 16, 17, 18, 19, 20, 21, 22, 23] [23, 0] 64 ⟨q9, q6, q7, q8⟩ (by kernel_rfl) (by kernel_rfl) (fun _ a d v _ h => by cases d <;> exact h) ?_
      simp only [atI, List.getElem?_cons_zero, List.getElem?_cons_succ]
      refine planH_step ?A1 rfl (fun w' hS => ?s1) rfl (fun K hK => ?n1)
      case s1 =>
        obtain ⟨y0, y1, y2, y3⟩ := hS
        simp only [List.take_succ_cons, List.take_zero]
        repeat still_step
        exact rfl
      case n1 =>
      go_simp
      go_wp2_with (go_at_call 185; (with_reducible refine c5.mono ?_); rintro e x1 ⟨rfl, k5, r5⟩)
      clear c5
      obtain ⟨n1, n3, n4, n6, n8⟩ := HQ.out
      have HN : Hid (Ke (Eb m B) w2 x1 ∧ ∀ s, s < m → Rw x1 (B s) (Nn (B s)) (spb B o f t (fun r j => fm 285 (Kc r) (F j)) G (r + 1) (B s))) := by
        refine ⟨n1.trans (k5.ke.mono (fun x _ e => ⟨r, hlt, e⟩)), fun s hs' => ?_⟩
        by_cases e : B s = B r
        · rw [e]
          exact spb_more hft r5 (fun x _ => rfl)
        · exact (k5.rw_ (n3 s hs').drew9 e).congr (fun i _ => (spb_other e i).symm)
      refine hK _ _ ⟨(k5.cell n8.1 n8.2).trans q9, (k5.cell n4.1 n4.2).trans q6, (k5.cell n6.1 n6.2).trans q7, (k5.cell n6.1 n6.2).trans q8⟩ ?_
      clear hK K n1 n3 n4 n6 n8 k5 r5 q2 q6 q7 q8 q9 HQ hcut hcut8
      refine planH_last ?A2 rfl (fun w' hS => ?s2) rfl ?n2
      case s2 =>
        simp only [List.take_zero]
        exact rfl
      case n2 =>
      go_wp2
      go_roundw
      case rel => exact ⟨r + 1, hlt, by first | rfl | (rw [W1]; rfl), HN.out.1, HN.out.2⟩
      case measure => first | exact meas_lt8 hlt | (rw [W1]; exact meas_lt8 hlt)
    · have hkn : r = m := by omega
      subst hkn
      clear k4 d4
      go_wp2
      go_ret
      exact ⟨rfl, K2.trans hke, hrw⟩
set_option maxHeartbeats 4000000 in
set_option maxRecDepth 100000 in
theorem sprd9_nibble (q : Addr) (lo mid hi g0 m L f t : Nat) (B o Nn Kc F : Nat → Nat) (G : Nat → Nat → Nat) (col diff dsts : Value) (w : World) (hk : Ks w ⟨g0, 0, none⟩ 1 lo hi) (hK : Nk w q lo mid) (i0 : w.cell? ⟨g0, 0, none⟩ = some (.iface 100 (.pointer (some q)))) (h1 : lo ≤ g0) (h2 : g0 < hi) (h3 : hi ≤ w.heap.size) (h4 : mid ≤ hi)
    (hmb : 24 * m ≤ 140737488355328) (hg : ∀ r, r < m → B r < lo ∨ hi ≤ B r) (hc : Re (Eb m B) w col m Kc) (hs : Re (Eb m B) w diff L F) (hd : Dl w dsts m L B o Nn G) (hft : f ≤ t) (htL : t ≤ L) :
    Calls Tryz.prog 74 #[.pointer (some ⟨g0, 0, none⟩), col, diff, dsts, .agg #[.int .i64 (f : Int), .int .i64 (t : Int)]] w fun e w' => e = .returned (.int .i64 0) ∧ Ke (Eb m B) w w' ∧ ∀ r, r < m → Rw w' (B r) (Nn (B r)) (spb B o f t (fun r j => fm 285 (Kc r) (F j)) G m (B r)) := by
  have b1 : Below w.heap.size w (w.alloc (.cells #[.int .i64 (f : Int), .int .i64 (t : Int)] 65)) := (Below.refl _ _).alloc (Nat.le_refl _) _
  have c0 := isnil9_no _ 1 lo hi _ (hk.under b1)
  have c2 := allof9_yes L dsts m (fun _ => L) _ _ (hd.lb.below b1) (by omega) (fun _ _ => rfl)
  have c3 := within9_yes (f : Int) (t : Int) L (w.alloc (.cells #[.int .i64 (f : Int), .int .i64 (t : Int)] 65)) ⟨by omega, by omega, by omega⟩
  have hm : ∀ W, Sem.run Tryz.prog (method 364 100 (.pointer (some q)) "MulAdd") W = .ok (189, .pointer (some q)) W := fun _ => by kernel_rfl
  obtain ⟨Ad, Cd, hdv, hdA⟩ := hd.lv
  have hdr := hd.row
  clear hd
  obtain ⟨hmb2, ad, cd, ed, -, -, d4⟩ := id hdv
  obtain ⟨xs, cx, es, hcx⟩ := re_form hs
  obtain ⟨k1, k2, xc, cc, ec, -, -, k4⟩ := hc
  subst ed es ec
  have HE : Hid (∀ r, r < m → B r < w.heap.size) := fun r h => (hdr r h).1.lt
  go_enter Tryz.func74, Tryz.ntmps74
  go_wp2_with (first | (go_at_call 115; (with_reducible refine c0.mono ?_); rintro e w9 ⟨rfl, hw9⟩; have hw9 := hw9.symm; subst hw9) | (go_at_call 116; (with_reducible refine c2.mono ?_); rintro e w9 ⟨rfl, hw9⟩; have hw9 := hw9.symm; subst hw9) | (go_at_call 117; (with_reducible refine c3.mono ?_); rintro e w2 ⟨rfl, b2⟩))
  have y1 : w2.cell? ⟨w.heap.size, 0, none⟩ = some (.int .i64 (f : Int)) := (b2.cell (p := ⟨w.heap.size, 0, none⟩) (by simp)).trans (by simp)
  have y2 : w2.cell? ⟨w.heap.size, 1, none⟩ = some (.int .i64 (t : Int)) := (b2.cell (p := ⟨w.heap.size, 1, none⟩) (by simp)).trans (by simp)
  have z2 : w.heap.size < w2.heap.size := Nat.lt_of_lt_of_le (by simp) b2.size
  have B2 : Below w.heap.size w w2 := b1.trans (b2.mono b1.size)
  have K2 : Ke (Eb m B) w w2 := ke_below B2 _
  clear b1 b2 c0 c2 c3
  go_loopw [34] (fun i wr => ∃ r : Nat, r ≤ m ∧ i = .int .i64 r ∧ Ke (Eb m B) w2 wr ∧ ∀ s, s < m → Rw wr (B s) (Nn (B s)) (spb B o f t (fun r j => fm 285 (Kc r) (F j)) G r (B s))) (fun i _ => m - (intOf i).toNat)
  case atStart => exact ⟨0, Nat.zero_le _, rfl, Ke.refl _ _, fun s hs' => rw_below (hdr s hs').1 B2⟩
  case round =>
    obtain ⟨r, hrm, rfl, hke, hrw⟩ := hrel
    by_cases hlt : r < m
    · obtain ⟨bc, oc, rfl, hbc, hcc⟩ := k4 (by omega)
      obtain ⟨bd, od, rfl, hbd, hcd⟩ := d4 (by omega)
      clear k4 d4
      have K3 : Ke (Eb m B) w wr := K2.trans hke
      have K4 : Ke (Eb m B) w2 wr.drew := hke.drew9
      have K5 : Ke (Eb m B) w wr.drew := K2.trans K4
      have q2 := (K3.cell hbd.1 hbd.2).trans (hcd r hlt)
      have nE : ¬ Eb m B w.heap.size := fun ⟨s, hs', e⟩ => Nat.lt_irrefl _ (e ▸ HE.out s hs')
      have n0 : ¬ Eb m B g0 := fun ⟨s, hs', e⟩ => (hg s hs').elim (fun h => Nat.not_le.2 h (e ▸ h1)) (fun h => Nat.not_le.2 h2 (e.symm ▸ h))
      have q6 := (K5.cell (q := oc + r) hbc.1 hbc.2).trans (hcc r hlt)
      have q7 := (K4.cell (q := 0) z2 nE).trans y1
      have q8 := (K4.cell (q := 1) z2 nE).trans y2
      have e1 : g0 < w.heap.size := Nat.lt_of_lt_of_le h2 h3
      have q9 := (K5.cell (q := 0) e1 n0).trans i0
      obtain ⟨hd1, hd2, hd3⟩ := hdA r hlt
      have hN := (hdr r hlt).2
      obtain ⟨a9, ha9, hcut⟩ := cut_pl9 (f := f) (t := t) hd3 hd1 hft htL
      obtain ⟨a8, hre, hcut8⟩ := cut_re9 (f := f) (t := t) hs hft htL
      have hK5 : Nk wr.drew q lo mid := hK.keep (Nat.le_trans (Nat.le_trans h4 h3) K5.size) (fun b hb1 hb2 => K5.2 b (Nat.lt_of_lt_of_le hb2 (Nat.le_trans h4 h3)) (fun ⟨s, hs', e⟩ => (hg s hs').elim (fun h => Nat.not_le.2 h (e ▸ hb1)) (fun h => Nat.not_le.2 hb2 (Nat.le_trans h4 (e.symm ▸ h)))))
      have c5 := n9add_far q lo mid (Kc r) (t - f) (B r) (o r + f) (Nn (B r)) _ _ a9 a8 (Cd r - f) (cx - f) wr.drew hK5 (k2 r hlt) (sub_big9 hN (hrw r hlt).1 htL) ((hg r hlt).imp_right (Nat.le_trans h4)) (Nat.sub_le_sub_right (Nat.le_trans htL hd1) f) (Nat.sub_le_sub_right (Nat.le_trans htL hcx) f) (hrw r hlt).drew9 ha9 (add_sub9 hft htL hN) ((hre.ke K5).mono (fun x _ e => ⟨r, hlt, e⟩)).fk
      have ib : ((r : Nat) : Int) < (m : Int) := Int.ofNat_lt.2 hlt
      have W1 := wrap_succ8 (j := r) (by unfold big; omega)
      have HQ : Hid (Ke (Eb m B) w2 wr.drew ∧ (∀ s, s < m → Rw wr (B s) (Nn (B s)) (spb B o f t (fun r j => fm 285 (Kc r) (F j)) G r (B s))) ∧ (bc < wr.drew.heap.size ∧ bc ≠ B r) ∧ (w.heap.size < wr.drew.heap.size ∧ w.heap.size ≠ B r) ∧ g0 < wr.drew.heap.size ∧ g0 ≠ B r) :=
        ⟨K4, hrw, ⟨Nat.lt_of_lt_of_le hbc.1 K5.size, fun e => hbc.2 ⟨r, hlt, e⟩⟩, ⟨Nat.lt_of_lt_of_le z2 K4.size, fun e => nE ⟨r, hlt, e⟩⟩, Nat.lt_of_lt_of_le e1 K5.size, fun e => n0 ⟨r, hlt, e⟩⟩
      clear hcc hcd hdv hs hk hg hdr hdA hke hrw K2 K3 K4 K5 hbc hbd nE n0 hd1 hd2 hd3 hN ha9 hmb2 y1 y2 B2 HE z2 k1 k2 hK hK5 hre i0 e1
      go_wp2
      refine region_planI (fun w' => w'.cell? ⟨g0, 0, none⟩ = some (.iface 100 (.pointer (some q))) ∧ w'.cell? ⟨bc, oc + r, none⟩ = some (.int .u8 (Kc r : Nat)) ∧ w'.cell? ⟨w.heap.size, 0, none⟩ = some (.int .i64 (f : Int)) ∧ w'.cell? ⟨w.heap.size, 1, none⟩ = some (.int .i64 (t : Int))) [0, 1, 2, 3, 4, 5, 6, 7, 8, 9, 10, 11, 12, 13, 14, 15, 16, 17, 18, 19, 20, 21, 22, 23] [23, 0] 64 ⟨q9, q6, q7, q8⟩ (by kernel_rfl) (by kernel_rfl) (fun _ a d v _ h => by cases d <;> exact h) ?_
      simp only [atI, List.getElem?_cons_zero, List.getElem?_cons_succ]
      refine planH_step ?A1 rfl (fun w' hS => ?s1) rfl (fun K hK => ?n1)
      case s1 =>
        obtain ⟨y0, y1, y2, y3⟩ := hS
        simp only [List.take_succ_cons, List.take_zero]
        repeat still_step
        exact rfl
      case n1 =>
      go_simp
      go_wp2_with (go_at_call 189; (with_reducible refine c5.mono ?_); rintro e x1 ⟨rfl, k5, r5⟩)
      clear c5
      obtain ⟨n1, n3, n4, n6, n8⟩ := HQ.out
      have HN : Hid (Ke (Eb m B) w2 x1 ∧ ∀ s, s < m → Rw x1 (B s) (Nn (B s)) (spb B o f t (fun r j => fm 285 (Kc r) (F j)) G (r + 1) (B s))) := by
        refine ⟨n1.trans (k5.ke.mono (fun x _ e => ⟨r, hlt, e⟩)), fun s hs' => ?_⟩
        by_cases e : B s = B r
        · rw [e]
          exact spb_more hft r5 (fun x _ => rfl)
        · exact (k5.rw_ (n3 s hs').drew9 e).congr (fun i _ => (spb_other e i).symm)
      refine hK _ _ ⟨(k5.cell n8.1 n8.2).trans q9, (k5.cell n4.1 n4.2).trans q6, (k5.cell n6.1 n6.2).trans q7, (k5.cell n6.1 n6.2).trans q8⟩ ?_
      clear hK K n1 n3 n4 n6 n8 k5 r5 q2 q6 q7 q8 q9 HQ hcut hcut8
      refine planH_last ?A2 rfl (fun w' hS => ?s2) rfl ?n2
      case s2 =>
        simp only [List.take_zero]
        exact rfl
      case n2 =>
      go_wp2
      go_roundw
      case rel => exact ⟨r + 1, hlt, by first | rfl | (rw [W1]; rfl), HN.out.1, HN.out.2⟩
      case measure => first | exact meas_lt8 hlt | (rw [W1]; exact meas_lt8 hlt)
    · have hkn : r = m := by omega
      subst hkn
      clear k4 d4
      go_wp2
      go_ret
      exact ⟨rfl, K2.trans hke, hrw⟩
set_option maxHeartbeats 4000000 in
set_option maxRecDepth 100000 in
theorem sprd9_sliced (q : Addr) (lo mid hi g0 m L f t : Nat) (B o Nn Kc F : Nat → Nat) (G : Nat → Nat → Nat) (col diff dsts : Value) (w : World) (hk : Ks w ⟨g0, 0, none⟩ 2 lo hi) (hK : Sk w q lo mid) (i0 : w.cell? ⟨g0, 0, none⟩ = some (.iface 102 (.pointer (some q)))) (h1 : lo ≤ g0) (h2 : g0 < hi) (h3 : hi ≤ w.heap.size) (h4 : mid ≤ hi)
    (hmb : 24 * m ≤ 140737488355328) (hg : ∀ r, r < m → B r < lo ∨ hi ≤ B r) (hc : Re (Eb m B) w col m Kc) (hs : Re (Eb m B) w diff L F) (hd : Dl w dsts m L B o Nn G) (hft : f ≤ t) (htL : t ≤ L) :
    Calls Tryz.prog 74 #[.pointer (some ⟨g0, 0, none⟩), col, diff, dsts, .agg #[.int .i64 (f : Int), .int .i64 (t : Int)]] w fun e w' => e = .returned (.int .i64 0) ∧ Ke (Eb m B) w w' ∧ ∀ r, r < m → Rw w' (B r) (Nn (B r)) (spb B o f t (fun r j => fm 285 (Kc r) (F j)) G m (B r)) := by
  have b1 : Below w.heap.size w (w.alloc (.cells #[.int .i64 (f : Int), .int .i64 (t : Int)] 65)) := (Below.refl _ _).alloc (Nat.le_refl _) _
  have c0 := isnil9_no _ 2 lo hi _ (hk.under b1)
  have c2 := allof9_yes L dsts m (fun _ => L) _ _ (hd.lb.below b1) (by omega) (fun _ _ => rfl)
  have c3 := within9_yes (f : Int) (t : Int) L (w.alloc (.cells #[.int .i64 (f : Int), .int .i64 (t : Int)] 65)) ⟨by omega, by omega, by omega⟩
  have hm : ∀ W, Sem.run Tryz.prog (method 364 102 (.pointer (some q)) "MulAdd") W = .ok (194, .pointer (some q)) W := fun _ => by kernel_rfl
  obtain ⟨Ad, Cd, hdv, hdA⟩ := hd.lv
  have hdr := hd.row
  clear hd
  obtain ⟨hmb2, ad, cd, ed, -, -, d4⟩ := id hdv
  obtain ⟨xs, cx, es, hcx⟩ := re_form hs
  obtain ⟨k1, k2, xc, cc, ec, -, -, k4⟩ := hc
  subst ed es ec
  have HE : Hid (∀ r, r < m → B r < w.heap.size) := fun r h => (hdr r h).1.lt
  go_enter Tryz.func74, Tryz.ntmps74
  go_wp2_with (first | (go_at_call 115; (with_reducible refine c0.mono ?_); rintro e w9 ⟨rfl, hw9⟩; have hw9 := hw9.symm; subst hw9) | (go_at_call 116; (with_reducible refine c2.mono ?_); rintro e w9 ⟨rfl, hw9⟩; have hw9 := hw9.symm; subst hw9) | (go_at_call 117; (with_reducible refine c3.mono ?_); rintro e w2 ⟨rfl, b2⟩))
  have y1 : w2.cell? ⟨w.heap.size, 0, none⟩ = some (.int .i64 (f : Int)) := (b2.cell (p := ⟨w.heap.size, 0, none⟩) (by simp)).trans (by simp)
  have y2 : w2.cell? ⟨w.heap.size, 1, none⟩ = some (.int .i64 (t : Int)) := (b2.cell (p := ⟨w.heap.size, 1, none⟩) (by simp)).trans (by simp)
  have z2 : w.heap.size < w2.heap.size := Nat.lt_of_lt_of_le (by simp) b2.size
  have B2 : Below w.heap.size w w2 := b1.trans (b2.mono b1.size)
  have K2 : Ke (Eb m B) w w2 := ke_below B2 _
  clear b1 b2 c0 c2 c3
  go_loopw [34] (fun i wr => ∃ r : Nat, r ≤ m ∧ i = .int .i64 r ∧ Ke (Eb m B) w2 wr ∧ ∀ s, s < m → Rw wr (B s) (Nn (B s)) (spb B o f t (fun r j => fm 285 (Kc r) (F j)) G r (B s))) (fun i _ => m - (intOf i).toNat)
  case atStart => exact ⟨0, Nat.zero_le _, rfl, Ke.refl _ _, fun s hs' => rw_below (hdr s hs').1 B2⟩
  case round =>
    obtain ⟨r, hrm, rfl, hke, hrw⟩ := hrel
    by_cases hlt : r < m
    · obtain ⟨bc, oc, rfl, hbc, hcc⟩ := k4 (by omega)
      obtain ⟨bd, od, rfl, hbd, hcd⟩ := d4 (by omega)
      clear k4 d4
      have K3 : Ke (Eb m B) w wr := K2.trans hke
      have K4 : Ke (Eb m B) w2 wr.drew := hke.drew9
      have K5 : Ke (Eb m B) w wr.drew := K2.trans K4
      have q2 := (K3.cell hbd.1 hbd.2).trans (hcd r hlt)
      have nE : ¬ Eb m B w.heap.size := fun ⟨s, hs', e⟩ => Nat.lt_irrefl _ (e ▸ HE.out s hs')
      have n0 : ¬ Eb m B g0 := fun ⟨s, hs', e⟩ => (hg s hs').elim (fun h => Nat.not_le.2 h (e ▸ h1)) (fun h => Nat.not_le.2 h2 (e.symm ▸ h))
      have q6 := (K5.cell (q := oc + r) hbc.1 hbc.2).trans (hcc r hlt)
      have q7 := (K4.cell (q := 0) z2 nE).trans y1
      have q8 := (K4.cell (q := 1) z2 nE).trans y2
      have e1 : g0 < w.heap.size := Nat.lt_of_lt_of_le h2 h3
      have q9 := (K5.cell (q := 0) e1 n0).trans i0
      obtain ⟨hd1, hd2, hd3⟩ := hdA r hlt
      have hN := (hdr r hlt).2
      obtain ⟨a9, ha9, hcut⟩ := cut_pl9 (f := f) (t := t) hd3 hd1 hft htL
      obtain ⟨a8, hre, hcut8⟩ := cut_re9 (f := f) (t := t) hs hft htL
      have hK5 : Sk wr.drew q lo mid := hK.keep (Nat.le_trans (Nat.le_trans h4 h3) K5.size) (fun b hb1 hb2 => K5.2 b (Nat.lt_of_lt_of_le hb2 (Nat.le_trans h4 h3)) (fun ⟨s, hs', e⟩ => (hg s hs').elim (fun h => Nat.not_le.2 h (e ▸ hb1)) (fun h => Nat.not_le.2 hb2 (Nat.le_trans h4 (e.symm ▸ h)))))
      have c5 := s9add_far q lo mid (Kc r) (t - f) (B r) (o r + f) (Nn (B r)) _ _ a9 a8 (Cd r - f) (cx - f) wr.drew hK5 (k2 r hlt) (sub_big9 hN (hrw r hlt).1 htL) ((hg r hlt).imp_right (Nat.le_trans h4)) (Nat.sub_le_sub_right (Nat.le_trans htL hd1) f) (Nat.sub_le_sub_right (Nat.le_trans htL hcx) f) (hrw r hlt).drew9 ha9 (add_sub9 hft htL hN) ((hre.ke K5).mono (fun x _ e => ⟨r, hlt, e⟩)).fk
      have ib : ((r : Nat) : Int) < (m : Int) := Int.ofNat_lt.2 hlt
      have W1 := wrap_succ8 (j := r) (by unfold big; omega)
      have HQ : Hid (Ke (Eb m B) w2 wr.drew ∧ (∀ s, s < m → Rw wr (B s) (Nn (B s)) (spb B o f t (fun r j => fm 285 (Kc r) (F j)) G r (B s))) ∧ (bc < wr.drew.heap.size ∧ bc ≠ B r) ∧ (w.heap.size < wr.drew.heap.size ∧ w.heap.size ≠ B r) ∧ g0 < wr.drew.heap.size ∧ g0 ≠ B r) :=
        ⟨K4, hrw, ⟨Nat.lt_of_lt_of_le hbc.1 K5.size, fun e => hbc.2 ⟨r, hlt, e⟩⟩, ⟨Nat.lt_of_lt_of_le z2 K4.size, fun e => nE ⟨r, hlt, e⟩⟩, Nat.lt_of_lt_of_le e1 K5.size, fun e => n0 ⟨r, hlt, e⟩⟩
      clear hcc hcd hdv hs hk hg hdr hdA hke hrw K2 K3 K4 K5 hbc hbd nE n0 hd1 hd2 hd3 hN ha9 hmb2 y1 y2 B2 HE z2 k1 k2 hK hK5 hre i0 e1
      go_wp2
      refine region_planI (fun w' => w'.cell? ⟨g0, 0, none⟩ = some (.iface 102 (.pointer (some q))) ∧ w'.cell? ⟨bc, oc + r, none⟩ = some (.int .u8 (Kc r : Nat)) ∧ w'.cell? ⟨w.heap.size, 0, none⟩ = some (.int .i64 (f : Int)) ∧ w'.cell? ⟨w.heap.size, 1, none⟩ = some (.int .i64 (t : Int))) [0, 1, 2, 3, 4, 5, 6, 7, 8, 9, 10, 11, 12, 13, 14, 15, 16, 17, 18, 19, 20, 21, 22, 23] [23, 0] 64 ⟨q9, q6, q7, q8⟩ (by kernel_rfl) (by kernel_rfl) (fun _ a d v _ h => by cases d <;> exact h) ?_
      simp only [atI, List.getElem?_cons_zero, List.getElem?_cons_succ]
      refine planH_step ?A1 rfl (fun w' hS => ?s1) rfl (fun K hK => ?n1)
      case s1 =>
        obtain ⟨y0, y1, y2, y3⟩ := hS
        simp only [List.take_succ_cons, List.take_zero]
        repeat still_step
        exact rfl
      case n1 =>
      go_simp
      go_wp2_with (go_at_call 194; (with_reducible refine c5.mono ?_); rintro e x1 ⟨rfl, k5, r5⟩)
      clear c5
      obtain ⟨n1, n3, n4, n6, n8⟩ := HQ.out
      have HN : Hid (Ke (Eb m B) w2 x1 ∧ ∀ s, s < m → Rw x1 (B s) (Nn (B s)) (spb B o f t (fun r j => fm 285 (Kc r) (F j)) G (r + 1) (B s))) := by
        refine ⟨n1.trans (k5.ke.mono (fun x _ e => ⟨r, hlt, e⟩)), fun s hs' => ?_⟩
        by_cases e : B s = B r
        · rw [e]
          exact spb_more hft r5 (fun x _ => rfl)
        · exact (k5.rw_ (n3 s hs').drew9 e).congr (fun i _ => (spb_other e i).symm)
      refine hK _ _ ⟨(k5.cell n8.1 n8.2).trans q9, (k5.cell n4.1 n4.2).trans q6, (k5.cell n6.1 n6.2).trans q7, (k5.cell n6.1 n6.2).trans q8⟩ ?_
      clear hK K n1 n3 n4 n6 n8 k5 r5 q2 q6 q7 q8 q9 HQ hcut hcut8
      refine planH_last ?A2 rfl (fun w' hS => ?s2) rfl ?n2
      case s2 =>
        simp only [List.take_zero]
        exact rfl
      case n2 =>
      go_wp2
      go_roundw
      case rel => exact ⟨r + 1, hlt, by first | rfl | (rw [W1]; rfl), HN.out.1, HN.out.2⟩
      case measure => first | exact meas_lt8 hlt | (rw [W1]; exact meas_lt8 hlt)
    · have hkn : r = m := by omega
      subst hkn
      clear k4 d4
      go_wp2
      go_ret
      exact ⟨rfl, K2.trans hke, hrw⟩
theorem kspread_ok (p : Addr) (bk lo hi m L f t : Nat) (B o Nn K F : Nat → Nat) (G : Nat → Nat → Nat) (col diff dsts : Value) (w : World) (hk : Ks w p bk lo hi) (hmb : 24 * m ≤ 140737488355328) (hg : ∀ r, r < m → B r < lo ∨ hi ≤ B r)
    (hc : Re (Eb m B) w col m K) (hs : Re (Eb m B) w diff L F) (hd : Dl w dsts m L B o Nn G) (hft : f ≤ t) (htL : t ≤ L) :
    Calls Tryz.prog 74 #[.pointer (some p), col, diff, dsts, .agg #[.int .i64 (f : Int), .int .i64 (t : Int)]] w fun e w' => e = .returned (.int .i64 0) ∧ Ke (Eb m B) w w' ∧ ∀ r, r < m → Rw w' (B r) (Nn (B r)) (spb B o f t (fun r j => fm 285 (K r) (F j)) G m (B r)) := by
  obtain ⟨g0, T, q, mid, rfl, h1, h2, h3, h4, h5, i0, i1⟩ := id hk
  rcases h5 with ⟨rfl, rfl, h5⟩ | ⟨rfl, rfl, h5⟩ | ⟨rfl, rfl, h5⟩
  · exact sprd9_table q lo mid hi g0 m L f t B o Nn K F G col diff dsts w hk h5 i0 h1 h2 h3 h4 hmb hg hc hs hd hft htL
  · exact sprd9_nibble q lo mid hi g0 m L f t B o Nn K F G col diff dsts w hk h5 i0 h1 h2 h3 h4 hmb hg hc hs hd hft htL
  · exact sprd9_sliced q lo mid hi g0 m L f t B o Nn K F G col diff dsts w hk h5 i0 h1 h2 h3 h4 hmb hg hc hs hd hft htL
end Go.Proofs.YtefolifecbhgoaaGreat
namespace Go.Proofs.YtefolifecbhgoaaGreat
open Go.RowKit Gf2
set_option linter.unusedVariables false

set_option maxHeartbeats 2000000 in
set_option maxRecDepth 100000 in
theorem iszero9 (v : Value) (n : Nat) (F : Nat → Nat) (w : World) (h : Rb w v n F) :
    Calls Tryz.prog 88 #[v] w fun e w' => (∃ b : Bool, e = .returned (.bool b) ∧ (b = true ↔ ∀ i, i < n → F i = 0)) ∧ w' = w := by
  obtain ⟨h1, h2, a, cap, rfl, -, -, h4⟩ := h
  go_enter Tryz.func88, Tryz.ntmps88
  go_wp2
  go_loopw [7] (fun i wr => ∃ j : Nat, j ≤ n ∧ i = .int .i64 j ∧ w = wr ∧ ∀ i, i < j → F i = 0) (fun i _ => n - (intOf i).toNat)
  case atStart => exact ⟨0, Nat.zero_le _, rfl, rfl, fun i hi => absurd hi (Nat.not_lt_zero _)⟩
  case round =>
    obtain ⟨j, hj, rfl, rfl, hE⟩ := hrel
    by_cases hlt : j < n
    · obtain ⟨b', o', rfl, hbl, hc'⟩ := h4 (by omega)
      have q2 := hc' j hlt
      have ib : ((j : Nat) : Int) < (n : Int) := by omega
      have W1 := wrap_succ8 (j := j) (by omega)
      by_cases hjL : F j = 0
      · rw [hjL] at q2
        have HV : Hid ((∀ i, i < j → F i = 0) ∧ F j = 0) := ⟨hE, hjL⟩
        clear hE hjL hc' h4 h1 h2 hbl
        go_wp2
        go_roundw
        case rel =>
          refine ⟨j + 1, hlt, by first | rfl | (rw [W1]; rfl), by first | rfl | trivial, fun i hi => ?_⟩
          by_cases e : i = j
          · rw [e]; exact HV.out.2
          · exact HV.out.1 i (by omega)
        case measure => first | exact meas_lt8 hlt | (rw [W1]; exact meas_lt8 hlt)
      · have hI : ¬ ((F j : Int) = 0) := by omega
        have H6 : Hid (¬ ∀ i, i < n → F i = 0) := fun h => hjL (h j hlt)
        clear hE hjL hc' h4 h1 h2 hbl
        go_wp2
        go_ret
        exact ⟨⟨false, rfl, ⟨fun h => absurd h (by decide), fun h => absurd h H6.out⟩⟩, by first | rfl | trivial⟩
    · have hjm : j = n := by omega
      subst hjm
      clear h4 h1 hlt hj
      go_wp2
      go_ret
      exact ⟨⟨true, rfl, ⟨fun _ => hE, fun _ => rfl⟩⟩, by first | rfl | trivial⟩
theorem iszero9_yes (v : Value) (n : Nat) (F : Nat → Nat) (w : World) (hv : Rb w v n F) (h : ∀ i, i < n → F i = 0) :
    Calls Tryz.prog 88 #[v] w fun e w' => e = .returned (.bool true) ∧ w' = w :=
  (iszero9 v n F w hv).mono fun e w' ⟨⟨b, e1, hb⟩, h2⟩ => ⟨by rw [e1, hb.2 h], h2⟩
theorem iszero9_no (v : Value) (n : Nat) (F : Nat → Nat) (w : World) (hv : Rb w v n F) (h : ¬ ∀ i, i < n → F i = 0) :
    Calls Tryz.prog 88 #[v] w fun e w' => e = .returned (.bool false) ∧ w' = w :=
  (iszero9 v n F w hv).mono fun e w' ⟨⟨b, e1, hb⟩, h2⟩ => ⟨by rw [e1]; cases b with | false => rfl | true => exact absurd (hb.1 rfl) h, h2⟩
theorem run_head9 (x : Option Addr) (n cx m : Nat) (hm : m ≤ cx) (W : World) : (Instr.slice 27 (.slice x n cx) none (some (.int .i64 (m : Int))) none).run Tryz.prog W = .ok (.slice x m cx) W := by
  have hu : Tryz.prog.underlying 27 = some (.slice (Tryz.prog.elem 27)) := by rw [elem_u8k]; exact Tryz.underlying27
  have h := run_slice_h (P := Tryz.prog) (w := W) 27 x n cx hu .i64 (m : Int) (by omega) (by omega)
  have e : (if cx = 0 then x else x.map (·.add 0)) = x := by
    split
    · rfl
    · cases x with
      | none => rfl
      | some a =>
        show some (a.add 0) = some a
        obtain ⟨b, o, s⟩ := a
        cases s <;> simp [Addr.add]
  rw [h, elem_u8k, size_u8k]
  simp only [Result.andThen, sliced, Int.toNat_natCast, Nat.zero_mul, Nat.sub_zero]
  rw [e]
theorem xor_zero9 {a b : Nat} : a ^^^ b = 0 ↔ a = b := by
  constructor
  · intro h
    have := congrArg (· ^^^ b) h
    simp only [Nat.xor_assoc, Nat.xor_self, Nat.xor_zero, Nat.zero_xor] at this
    exact this
  · rintro rfl
    exact Nat.xor_self _
set_option maxHeartbeats 4000000 in
set_option maxRecDepth 100000 in
theorem kagrees_bad (p : Addr) (bk lo hi m k d : Nat) (nr ns nd : Nat → Nat) (R S D : Nat → Nat → Nat) (fr to : Int) (rows srcs dsts : Value) (w : World) (hk : Ks w p bk lo hi) (hmb : 24 * m ≤ 140737488355328) (hkb : 24 * k ≤ 140737488355328) (hdb : 24 * d ≤ 140737488355328)
    (hr : Lb w rows m nr R) (hs : Lb w srcs k ns S) (hd : Lb w dsts d nd D) (hf : fit9 m k d nr ns nd fr to ≠ 0) :
    Calls Tryz.prog 46 #[.pointer (some p), rows, srcs, dsts, .agg #[.int .i64 fr, .int .i64 to]] w fun e w' => e = .returned (.tuple #[.bool false, .int .i64 (fit9 m k d nr ns nd fr to : Nat)]) ∧ Below w.heap.size w w' := by
  have b1 : Below w.heap.size w (w.alloc (.cells #[.int .i64 fr, .int .i64 to] 65)) := (Below.refl _ _).alloc (Nat.le_refl _) _
  have cU := unfit9 p bk lo hi m k d nr ns nd R S D fr to rows srcs dsts _ (hk.under b1) (by omega) (by omega) (by omega) (hr.below b1) (hs.below b1) (hd.below b1)
  generalize fit9 m k d nr ns nd fr to = n at hf cU ⊢
  have hI : ¬ ((n : Int) = 0) := by omega
  clear hr hs hd hk
  go_enter Tryz.func46, Tryz.ntmps46
  go_wp2_with (go_at_call 79; (with_reducible refine cU.mono ?_); rintro e w2 ⟨rfl, b2⟩)
  go_ret2
  exact ⟨rfl, b1.trans (b2.mono b1.size)⟩
end Go.Proofs.YtefolifecbhgoaaGreat
namespace Go.Proofs.YtefolifecbhgoaaGreat
open Go.RowKit Gf2
set_option linter.unusedVariables false

theorem lt_shift9 {x j pt t : Nat} (h : j < pt - x) (ht : pt ≤ t) : x + j < t := by omega
theorem re_form9 {E : Nat → Prop} {w : World} {v : Value} {n : Nat} {S : Nat → Nat} (h : Re E w v n S) : ∃ a c, v = .slice a n c ∧ n ≤ c := by
  obtain ⟨_, _, a, c, h, h', _⟩ := h
  exact ⟨a, c, h, h'⟩
def AgP (Q : Prop) (w : World) (e : Ending) (w' : World) : Prop := ∃ b : Bool, e = .returned (.tuple #[.bool b, .int .i64 0]) ∧ (b = true ↔ Q) ∧ Below w.heap.size w w'
set_option maxHeartbeats 4000000 in
set_option maxRecDepth 100000 in
theorem kagrees_good (p : Addr) (bk lo hi m k L f t : Nat) (R S D : Nat → Nat → Nat) (rows srcs dsts : Value) (w : World) (hk : Ks w p bk lo hi) (hmb : 24 * m ≤ 140737488355328) (hkb : 24 * k ≤ 140737488355328)
    (hL : L ≤ 140737488351232) (hr : Lb w rows m (fun _ => k) R) (hs : Lb w srcs k (fun _ => L) S) (hd : Lb w dsts m (fun _ => L) D) (hft : f ≤ t) (htL : t ≤ len9 k m (fun _ => L) (fun _ => L)) :
    Calls Tryz.prog 46 #[.pointer (some p), rows, srcs, dsts, .agg #[.int .i64 (f : Int), .int .i64 (t : Int)]] w fun e w' => AgP (∀ r, r < m → ∀ j, f ≤ j → j < t → D r j = ks (R r) S k j) w e w' := by
  have b1 : Below w.heap.size w (w.alloc (.cells #[.int .i64 (f : Int), .int .i64 (t : Int)] 65)) := (Below.refl _ _).alloc (Nat.le_refl _) _
  have cU := unfit9 p bk lo hi m k m (fun _ => k) (fun _ => L) (fun _ => L) R S D (f : Int) (t : Int) rows srcs dsts _ (hk.under b1) (by omega) (by omega) (by omega) (hr.below b1) (hs.below b1) (hd.below b1)
  rw [fit9_ok hft htL] at cU
  have htb : t ≤ 140737488351232 := by
    rcases Nat.eq_zero_or_pos m with h1 | h1
    · rcases Nat.eq_zero_or_pos k with h2 | h2
      · subst h1 h2
        have : len9 0 0 (fun _ => L) (fun _ => L) = 0 := rfl
        omega
      · rw [len9_of (.inl h2)] at htL; omega
    · rw [len9_of (.inr h1)] at htL; omega
  have htL2 : 0 < m → t ≤ L := fun h => by rw [len9_of (.inr h)] at htL; exact htL
  have htL3 : 0 < k → t ≤ L := fun h => by rw [len9_of (.inl h)] at htL; exact htL
  clear htL
  obtain ⟨as_, cs, es⟩ := ll_form hs
  obtain ⟨Vr, hrv, hVr⟩ := hr
  obtain ⟨Vd, hdv, hVd⟩ := hd
  obtain ⟨hmb2, ar, cr, er, -, -, r4⟩ := id hrv
  obtain ⟨hmb3, ad, cd, ed, -, -, d4⟩ := id hdv
  subst er ed es
  obtain ⟨n, hn, hnb⟩ : ∃ n : Nat, n = Nat.min 4096 (t - f) ∧ n ≤ 4096 := ⟨_, rfl, Nat.min_le_left _ _⟩
  have eM : min (4096 : Int) ((t : Int) - (f : Int)) = (n : Int) := by have : n = min 4096 (t - f) := hn; omega
  have hmk := make_u8 n (by omega)
  have HM : Hid (n = min 4096 (t - f)) := hn
  clear hn
  have HI : Hid (Ks w p bk lo hi ∧ Ll (fun _ => False) w (.slice as_ k cs) k (fun _ => L) S) := ⟨hk, hs⟩
  clear hk hs
  go_enter Tryz.func46, Tryz.ntmps46
  go_wp2_with (go_at_call 79; (with_reducible refine cU.mono ?_); rintro e w2 ⟨rfl, b2⟩; have y1 : w2.cell? ⟨w.heap.size, 0, none⟩ = some (.int .i64 (f : Int)) := (b2.cell (p := ⟨w.heap.size, 0, none⟩) (by simp)).trans (by simp); have y2 : w2.cell? ⟨w.heap.size, 1, none⟩ = some (.int .i64 (t : Int)) := (b2.cell (p := ⟨w.heap.size, 1, none⟩) (by simp)).trans (by simp); have y1' := Lib.cell?_alloc_some (.cells (madeCells #[.int .u8 0] n) 5) y1; have y2' := Lib.cell?_alloc_some (.cells (madeCells #[.int .u8 0] n) 5) y2)
  have z2 : w.heap.size < w2.heap.size := Nat.lt_of_lt_of_le (by simp) b2.size
  have B2 : Below w.heap.size w w2 := b1.trans (b2.mono b1.size)
  obtain ⟨w3, hw3⟩ : ∃ x, x = w2.alloc (.cells (madeCells #[.int .u8 0] n) 5) := ⟨_, rfl⟩
  rw [← hw3]
  have R3 : Rw w3 w2.heap.size n (fun _ => 0) := by rw [hw3]; exact made_rw n (by omega) w2
  have B3 : Below w2.heap.size w2 w3 := by rw [hw3]; exact (Below.refl _ _).alloc (Nat.le_refl _) _
  have z3 : w3.heap.size = w2.heap.size + 1 := by rw [hw3]; simp
  clear y1' y2'
  have y3 := (B3.cell (p := ⟨w.heap.size, 0, none⟩) z2).trans y1
  have y4 := (B3.cell (p := ⟨w.heap.size, 1, none⟩) z2).trans y2
  have B4 : Below w.heap.size w w3 := B2.trans (B3.mono B2.size)
  clear hw3 hmk cU b1 b2 y1 y2 B2 B3
  obtain ⟨gR, hgR⟩ : ∃ g, g = w2.heap.size := ⟨_, rfl⟩
  rw [← hgR] at R3 z3 z2 ⊢
  clear hgR
  obtain ⟨hk, hs⟩ := HI.out
  have HA : Hid (_ ∧ _ ∧ _ ∧ _ ∧ _ ∧ _ ∧ _ ∧ _ ∧ _ ∧ _ ∧ _ ∧ _) := ⟨hk, hs, hVr, hVd, r4, d4, htL2, htL3, hmb, hkb, HM.out, B4⟩
  have HG : Hid (hi ≤ gR ∧ t ≤ 140737488351232 ∧ gR < w3.heap.size) := ⟨Nat.le_trans hk.hi (Nat.le_of_lt z2), htb, by omega⟩
  have n1 : w.heap.size ≠ gR := Nat.ne_of_lt z2
  have z5 : w.heap.size < w3.heap.size := by omega
  clear HI hk hs hVr hVd r4 d4 htL2 htL3 hmb hkb HM B4 hrv hdv hmb2 hmb3 hL eM hnb htb
  go_loopw [14] (fun i wr => ∃ (x : Nat) (F' : Nat → Nat), f ≤ x ∧ x ≤ t + 4096 ∧ i = .int .i64 x ∧ Kp gR w3 wr ∧ Rw wr gR n F' ∧ ∀ r, r < m → ∀ j, f ≤ j → j < x → j < t → D r j = ks (R r) S k j) (fun i _ => t + 8192 - (intOf i).toNat)
  case atStart => exact ⟨f, _, Nat.le_refl _, by omega, rfl, Kp.refl _ _, R3, fun r _ j h1 h2 => absurd h2 (by omega)⟩
  case round =>
    obtain ⟨x, F', hfx, hxt, rfl, hkp, hrw, hE⟩ := hrel
    have q3 := (hkp.cell (q := 0) z5 n1).trans y3
    have q4 := (hkp.cell (q := 1) z5 n1).trans y4
    by_cases hlt : x < t
    · obtain ⟨pt, hpt⟩ : ∃ pt : Nat, pt = min (x + 4096) t := ⟨_, rfl⟩
      have htb := HG.out.2.1
      have eP : min ((x : Int) + 4096) (t : Int) = (pt : Int) := by omega
      have ib : ((x : Nat) : Int) < (t : Int) := Int.ofNat_lt.2 hlt
      have WX : wrap64 ((x : Int) + 4096) = (x : Int) + 4096 := by unfold wrap64; omega
      have HX : Hid (x < pt ∧ pt ≤ t ∧ pt - x ≤ n ∧ (∀ j, x ≤ j → j < x + 4096 → j < t → j < pt) ∧ x < t ∧ f ≤ x) := ⟨by omega, by omega, by have := HA.out.2.2.2.2.2.2.2.2.2.2.1; omega, fun j _ _ _ => by omega, hlt, hfx⟩
      have HE : Hid (_ ∧ _) := ⟨hE, hkp⟩
      have b5 : Below wr.heap.size wr (wr.alloc (.cells #[.int .i64 (x : Int), .int .i64 (pt : Int)] 65)) := (Below.refl _ _).alloc (Nat.le_refl _) _
      have K4 : Ke (fun y => y = gR) w (wr.alloc (.cells #[.int .i64 (x : Int), .int .i64 (pt : Int)] 65)) := ((ke_below HA.out.2.2.2.2.2.2.2.2.2.2.2 _).trans hkp.ke).trans (ke_below b5 _)
      have R4 := rw_below hrw b5
      have HB : Hid (Kp gR wr (wr.alloc (.cells #[.int .i64 (x : Int), .int .i64 (pt : Int)] 65)) ∧ gR ≠ wr.heap.size) := ⟨kp_below b5 gR, Nat.ne_of_lt hrw.lt⟩
      clear hpt hE hkp hrw hfx hxt hlt htb b5 hft R3 z3
      go_wp2
      obtain ⟨w4, hw4⟩ : ∃ y, y = wr.alloc (.cells #[.int .i64 (x : Int), .int .i64 (pt : Int)] 65) := ⟨_, rfl⟩
      rw [← hw4] at K4 R4 HB ⊢
      have z4 : wr.heap.size < w4.heap.size := by rw [hw4]; simp
      have y5 : w4.cell? ⟨wr.heap.size, 0, none⟩ = some (.int .i64 (x : Int)) := by rw [hw4]; simp
      have y6 : w4.cell? ⟨wr.heap.size, 1, none⟩ = some (.int .i64 (pt : Int)) := by rw [hw4]; simp
      have hkq : Kp gR w3 w4 := HE.out.2.trans HB.out.1
      have hng := HB.out.2
      have hE := HE.out.1
      clear HB HE
      obtain ⟨gP, hgP⟩ : ∃ g, g = wr.heap.size := ⟨_, rfl⟩
      rw [← hgP] at z4 y5 y6 hng ⊢
      clear hw4 q3 q4 hgP
      have HE : Hid (_ ∧ _ ∧ _) := ⟨hE, hkq, hng⟩
      clear hE hkq hng
      go_loopw [52] (fun i wz => ∃ (r : Nat) (F2 : Nat → Nat), r ≤ m ∧ i = .int .i64 r ∧ Kp gR w4 wz ∧ Rw wz gR n F2 ∧ ∀ s, s < r → ∀ j, x ≤ j → j < pt → D s j = ks (R s) S k j) (fun i _ => m - (intOf i).toNat)
      case atStart => exact ⟨0, F', Nat.zero_le _, rfl, Kp.refl _ _, R4, fun s hs => absurd hs (Nat.not_lt_zero _)⟩
      case round =>
        obtain ⟨r, F2, hrm, rfl, hkz, hrz, hE2⟩ := hrel
        by_cases hlt : r < m
        · obtain ⟨hk, hs, hVr, hVd, r4, d4, htL2, htL3, hmb, hkb, -, B4⟩ := HA.out
          obtain ⟨br, orr, rfl, hbr, hcr⟩ := r4 (by omega)
          obtain ⟨bd, od, rfl, hbd, hcd⟩ := d4 (by omega)
          clear r4 d4
          obtain ⟨x1, x2, x3, -, -, -⟩ := HX.out
          have ne : ∀ b, b < w.heap.size → b ≠ gR := fun b hb e => by omega
          have K5 : Ke (fun y => y = gR) w wr := K4.trans hkz.ke
          have q2 := (K5.cell hbd.1 (ne _ hbd.1)).trans (hcd r hlt)
          have hv := hVd r hlt
          obtain ⟨xd, cx, hxd, hcx⟩ := re_form9 hv
          rw [hxd] at q2 hv
          have pL : pt ≤ L := Nat.le_trans x2 (htL2 (by omega))
          obtain ⟨a9, hre, hcut⟩ := cut_re9 (f := x) (t := pt) hv (Nat.le_of_lt x1) pL
          have hhd := run_head9 (some ⟨gR, 0, none⟩) n n (pt - x) x3
          have eD : (pt : Int) - (x : Int) = ((pt - x : Nat) : Int) := by omega
          have WD : wrap64 ((pt : Int) - (x : Int)) = ((pt - x : Nat) : Int) := by have := HG.out.2.1; unfold wrap64; omega
          have q7 := (hkz.cell (q := 0) z4 (Ne.symm HE.out.2.2)).trans y5
          have q8 := (hkz.cell (q := 1) z4 (Ne.symm HE.out.2.2)).trans y6
          have hre5 := (hre.mono (E' := fun y => y = gR) (fun b hb e => ne b hb e)).ke K5
          obtain ⟨w5, hcopy, r5, o5⟩ := copy8_min wr (g := gR) (o := 0) (dl := pt - x) (cap := n) hrz (a := a9) (m := pt - x) (n := pt - x) (cap' := cx - x) (S := fun j => D r (x + j)) hre5.2.1 (fun h0 => by
            obtain ⟨_, _, a, c, e, _, _, h4⟩ := hre5
            cases e
            obtain ⟨b, o, e, hl, hc⟩ := h4 h0
            exact ⟨b, o, e, hc⟩) (by omega) (Nat.le_refl _) (Nat.le_refl _) (Nat.min_self _)
          have K6 : Ke (fun y => y = gR) w w5.drew := (K5.trans o5.kp.ke).drew9
          have k6 : Kp gR w4 w5.drew := ⟨(hkz.trans o5.kp).1.drew, (hkz.trans o5.kp).2⟩
          have c5 := addp9 p bk lo hi k L x pt gR 0 n _ (R r) S (some ⟨gR, 0, none⟩) n (Vr r) _ w5.drew (hk.held K6 (fun y e => e ▸ .inr HG.out.1)) (.inr HG.out.1) r5.drew9 (fun _ => rfl) (by omega) x3 (Nat.le_trans x3 r5.1) (((hVr r hlt).mono (E' := fun y => y = gR) (fun b hb e => ne b hb e)).ke K6) ((hs.mono (E' := fun y => y = gR) (fun b hb e => ne b hb e)).ke K6) (Nat.le_of_lt x1) (fun h => Nat.le_trans x2 (htL3 h)) (by omega)
          have q6 := (K6.cell (q := orr + r) hbr.1 (ne _ hbr.1)).trans (hcr r hlt)
          have q9 := (k6.cell (q := 0) z4 (Ne.symm HE.out.2.2)).trans y5
          have q10 := (k6.cell (q := 1) z4 (Ne.symm HE.out.2.2)).trans y6
          have ib2 : ((r : Nat) : Int) < (m : Int) := Int.ofNat_lt.2 hlt
          have W1 := wrap_succ8 (j := r) (by unfold big; omega)
          have HQ : Hid ((br < w5.drew.heap.size ∧ br ≠ gR) ∧ (gP < w5.drew.heap.size ∧ gP ≠ gR) ∧ Kp gR w4 w5.drew ∧ (∀ s, s < r → ∀ j, x ≤ j → j < pt → D s j = ks (R s) S k j) ∧ Below w.heap.size w w5.drew ∧ pt - x ≤ n) := ⟨⟨Nat.lt_of_lt_of_le hbr.1 K6.size, ne _ hbr.1⟩, ⟨Nat.lt_of_lt_of_le z4 k6.size, Ne.symm HE.out.2.2⟩, k6, hE2, K6.below (fun y e => by omega) (Nat.le_refl _), x3⟩
          clear hk hs hVr hVd htL2 htL3 hmb hkb B4 hcr hcd hbr hbd ne K5 hv hxd hcx pL hre hre5 r5 o5 K6 k6 hkz hrz hE2 x1 x2 x3 K4 R4 y3 y4 y5 y6
          go_wp2
          refine region_planI (fun w' => w'.cell? ⟨br, orr + r, none⟩ = some (Vr r) ∧ w'.cell? ⟨gP, 0, none⟩ = some (.int .i64 (x : Int)) ∧ w'.cell? ⟨gP, 1, none⟩ = some (.int .i64 (pt : Int))) [0, 1, 2, 3, 4, 5, 6, 7, 8] [8, 0] 85 ⟨q6, q9, q10⟩ (by kernel_rfl) (by kernel_rfl) (fun _ a d v _ h => by cases d <;> exact h) ?_
          simp only [atI, List.getElem?_cons_zero, List.getElem?_cons_succ]
          refine planH_step ?A1 rfl (fun w' hS => ?s1) rfl (fun K hK => ?n1)
          case s1 =>
            obtain ⟨y0, y1, y2⟩ := hS
            simp only [List.take_succ_cons, List.take_zero]
            repeat still_step
            exact rfl
          case n1 =>
          go_simp
          go_wp2_with (go_at_call 80; (with_reducible refine c5.mono ?_); rintro e x5 ⟨⟨v5, rfl⟩, k5, r7⟩)
          clear c5
          obtain ⟨n1, n2, n3, n4, n5, n6⟩ := HQ.out
          have k7 : Kp gR w4 x5 := n3.trans k5
          have hval : ∀ j, j < pt - x → (pl (pl F2 0 (pt - x) fun j => D r (x + j)) 0 (pt - x) fun x_1 => pl F2 0 (pt - x) (fun j => D r (x + j)) (0 + x_1) ^^^ ks (R r) (fun i j => S i (x + j)) k x_1) j = D r (x + j) ^^^ ks (R r) S k (x + j) := fun j hj => by
            have h1 := pl_in (F := pl F2 0 (pt - x) fun j => D r (x + j)) (o := 0) (S := fun x_1 => pl F2 0 (pt - x) (fun j => D r (x + j)) (0 + x_1) ^^^ ks (R r) (fun i j => S i (x + j)) k x_1) hj
            rw [Nat.zero_add] at h1
            rw [h1]
            have h2 := pl_in (F := F2) (o := 0) (S := fun j => D r (x + j)) hj
            rw [Nat.zero_add] at h2
            show pl F2 0 (pt - x) (fun j => D r (x + j)) j ^^^ ks (R r) (fun i j => S i (x + j)) k j = _
            rw [h2, ks_shift]
          have hrb : Rb x5 (.slice (some ⟨gR, 0, none⟩) (pt - x) n) (pt - x) (fun j => D r (x + j) ^^^ ks (R r) S k (x + j)) := ((r7.re (E := fun _ => False) n6 n6 r7.1 (fun e => e)).congr hval).rb
          have HN : Hid (Kp gR w4 x5 ∧ Rw x5 gR n _ ∧ Below w.heap.size w x5) := ⟨k7, r7, n5.trans (k5.below (Nat.le_of_lt z2) n5.size)⟩
          by_cases hz : ∀ j, j < pt - x → D r (x + j) = ks (R r) S k (x + j)
          · have cz := iszero9_yes _ _ _ x5 hrb (fun j hj => xor_zero9.2 (hz j hj))
            have HZ : Hid (∀ s, s < r + 1 → ∀ j, x ≤ j → j < pt → D s j = ks (R s) S k j) := fun s hs j h1 h2 => by
              rcases Nat.lt_or_ge s r with h | h
              · exact n4 s h j h1 h2
              · have e : s = r := Nat.le_antisymm (Nat.le_of_lt_succ hs) h
                subst e
                have := hz (j - x) (Nat.sub_lt_sub_right h1 h2)
                rwa [Nat.add_sub_of_le h1] at this
            clear hz hrb hval k7
            refine hK _ _ ⟨(k5.cell n1.1 n1.2).trans q6, (k5.cell n2.1 n2.2).trans q9, (k5.cell n2.1 n2.2).trans q10⟩ ?_
            clear hK K n1 n2 n3 n4 n5 n6 k5 r7 q2 q6 q7 q8 q9 q10 HQ hcut hcopy hhd
            refine planH_last ?A2 rfl (fun w' hS => ?s2) rfl ?n2
            case s2 =>
              simp only [List.take_zero]
              exact rfl
            case n2 =>
            go_wp2_with (go_at_call 88; (with_reducible refine cz.mono ?_); rintro e w9 ⟨rfl, hw9⟩; have hw9 := hw9.symm; subst hw9)
            go_roundw
            case rel => exact ⟨r + 1, _, hlt, by first | rfl | (rw [W1]; rfl), HN.out.1, HN.out.2.1, HZ.out⟩
            case measure => first | exact meas_lt8 hlt | (rw [W1]; exact meas_lt8 hlt)
          · have cz := iszero9_no _ _ _ x5 hrb (fun h => hz (fun j hj => xor_zero9.1 (h j hj)))
            have HZ : Hid (¬ ∀ r, r < m → ∀ j, f ≤ j → j < t → D r j = ks (R r) S k j) := fun h => hz (fun j hj => h r hlt (x + j) (Nat.le_trans HX.out.2.2.2.2.2 (Nat.le_add_right x j)) (lt_shift9 hj HX.out.2.1))
            clear hz hrb hval k7
            refine hK _ _ ⟨(k5.cell n1.1 n1.2).trans q6, (k5.cell n2.1 n2.2).trans q9, (k5.cell n2.1 n2.2).trans q10⟩ ?_
            clear hK K n1 n2 n3 n4 n5 n6 k5 r7 q2 q6 q7 q8 q9 q10 HQ hcut hcopy hhd
            refine planH_last ?A2 rfl (fun w' hS => ?s2) rfl ?n2
            case s2 =>
              simp only [List.take_zero]
              exact rfl
            case n2 =>
            go_wp2_with (go_at_call 88; (with_reducible refine cz.mono ?_); rintro e w9 ⟨rfl, hw9⟩; have hw9 := hw9.symm; subst hw9)
            go_ret2
            exact ⟨false, rfl, ⟨fun h => absurd h (by decide), fun h => absurd h HZ.out⟩, HN.out.2.2⟩
        · have hkn : r = m := by omega
          subst hkn
          have HN : Hid (Kp gR w3 wr ∧ Rw wr gR n F2 ∧ ∀ s, s < r → ∀ j, f ≤ j → j < x + 4096 → j < t → D s j = ks (R s) S k j) := by
            refine ⟨HE.out.2.1.trans hkz, hrz, fun s hs j h1 h2 h3 => ?_⟩
            rcases Nat.lt_or_ge j x with h | h
            · exact HE.out.1 s hs j h1 h h3
            · exact hE2 s hs j h (HX.out.2.2.2.1 j h h2 h3)
          have HY : Hid (x < t ∧ f ≤ x) := ⟨HX.out.2.2.2.2.1, HX.out.2.2.2.2.2⟩
          clear hkz hrz hE2 K4 R4
          go_wp2
          go_roundw
          case rel => exact ⟨x + 4096, F2, by have := HY.out; omega, by have := HY.out; omega, by first | rfl | (rw [WX]; rfl), HN.out.1, HN.out.2.1, HN.out.2.2⟩
          case measure =>
            have := HY.out
            first | (simp [intOf]; omega) | (rw [WX]; simp [intOf]; omega)
    · have B4 := HA.out.2.2.2.2.2.2.2.2.2.2.2
      have HF : Hid (∀ r, r < m → ∀ j, f ≤ j → j < t → D r j = ks (R r) S k j) := fun r hr j h1 h2 => hE r hr j h1 (by omega) h2
      have HB : Hid (Below w.heap.size w wr) := B4.trans (hkp.below (Nat.le_of_lt z2) (Nat.le_of_lt z5))
      clear hE B4 hkp hrw
      go_wp2
      go_ret2
      exact ⟨true, rfl, ⟨fun _ => HF.out, fun _ => rfl⟩, HB.out⟩
end Go.Proofs.YtefolifecbhgoaaGreat
