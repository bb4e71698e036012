import Derived.Test.YtfhgamaakkoplaaMvbb
import Derived.Test.YtfhgamaakkoplaaMvaf
import Derived.Test.YtfhgamaakkoplaaMvax
import Derived.Test.YtfhgamaakkoplaaMvaj
import Derived.Test.YtfhgamaakkoplaaMvbj
import Derived.Laws.BitsLemmas
import Derived.Deep.Cut
import Derived.Test.YtfhgamaakkoplaaDpll
import Derived.Test.YtfhgamaakkoplaaMvbd
namespace Go.Proofs.Ytfhgamaakkoplaa
open Go.RowKit Gf2
set_option linter.unusedVariables false

-- the document's less: a row times a factor is added to another
theorem less_none (c : Nat) {g N n cv : Nat} {F B : Nat → Nat} {w : World} (hv : Rw w g N F) (hc0 : c = 0) : Rw w g N (fun i => if i < n then F i ^^^ fm 285 c (B i) else F i) := hv.congr (fun i _ => by
  rw [hc0, fld8.zero_fm, Nat.xor_zero, ite_self])
set_option maxHeartbeats 4000000 in
set_option maxRecDepth 100000 in
theorem less10 (g N n cv c : Nat) (F B : Nat → Nat) (xb : Option Addr) (cb : Nat) (w : World) (hv : Rw w g N F) (hn : n ≤ N) (hb : Re (fun x => x = g) w (.slice xb n cb) n B) (hc : c < 256) :
    Calls Try.prog 69 #[.slice (some ⟨g, 0, none⟩) n cv, .slice xb n cb, .int .u8 (c : Int)] w fun e w' => e = .returned (.tuple #[]) ∧ Kp g w w' ∧ Rw w' g N (fun i => if i < n then F i ^^^ fm 285 c (B i) else F i) := by
  by_cases hc0 : c = 0
  · have h9 := less_none c (n := n) (cv := cv) (B := B) hv hc0
    have e0 : (((c : Nat) : Int) == 0) = true := by simp [hc0]
    have e0N : ((c : Nat) : Int) = 0 := by omega
    clear hb hc hc0
    go_enter Try.func69, Try.ntmps69
    go_wp2
    ((try simp only [Exit.inBlock, Exit.then]); first | (refine bodyPost_ret (results_none rfl _ _ _) rfl ?_) | (refine bodyPost_end (results_none rfl _ _ _) rfl ?_))
    exact ⟨rfl, Kp.refl _ _, h9⟩
  · have e0 : (((c : Nat) : Int) == 0) = false := by simp [hc0]
    have e0N : ¬ ((c : Nat) : Int) = 0 := by omega
    have HH : Hid (n ≤ N ∧ N ≤ big ∧ (∀ i, i < N → F i < 256) ∧ c < 256 ∧ (∀ W, Kp g w W → ∀ i, i < n → B i < 256 ∧ ∃ b o, xb = some ⟨b, o, none⟩ ∧ W.cell? ⟨b, o + i, none⟩ = some (.int .u8 ((B i : Nat) : Int)))) := by
      refine ⟨hn, hv.1, hv.2.1, hc, fun W hW i hi => ?_⟩
      obtain ⟨-, h2, a, cap, e, -, -, h4⟩ := hb
      cases e
      obtain ⟨b, o, rfl, ⟨hl, hne⟩, hcell⟩ := h4 (by omega)
      exact ⟨h2 i hi, b, o, rfl, (hW.cell (q := o + i) hl hne).trans (hcell i hi)⟩
    have H0 : Hid (Rw w g N F) := hv
    clear hv hn hb hc hc0
    go_enter Try.func69, Try.ntmps69
    go_wp2
    go_loopw [6] (fun i wr => ∃ k : Nat, k ≤ n ∧ i = .int .i64 k ∧ Kp g w wr ∧ Rw wr g N (fun i => if i < k then F i ^^^ fm 285 c (B i) else F i)) (fun i _ => n - (intOf i).toNat)
    case atStart => exact ⟨0, Nat.zero_le _, rfl, Kp.refl _ _, H0.out.congr (fun i _ => (if_neg (Nat.not_lt_zero _)).symm)⟩
    case round =>
      obtain ⟨k, hk, rfl, hkp, hr⟩ := hrel
      clear H0
      by_cases hlt : k < n
      · obtain ⟨lB, b, o, rfl, q1⟩ := HH.out.2.2.2.2 wr hkp k hlt
        have hkN : k < N := Nat.lt_of_lt_of_le hlt HH.out.1
        have q2 : wr.cell? ⟨g, k, none⟩ = some (.int .u8 ((F k : Nat) : Int)) := (hr.2.2.cell hkN).trans (by (try dsimp only); rw [if_neg (Nat.lt_irrefl _)])
        have q3 := hr.2.2.frozen k
        have lF := HH.out.2.2.1 k hkN
        have c5 := refMul_nat c (B k) wr.drew HH.out.2.2.2.1 lB
        have X := u8_xor_nat (F k) (fm 285 c (B k)) lF (fm8_lt _ _)
        have hkp2 : Kp g w wr.drew := ⟨below_drewN hkp.1 1, hkp.2⟩
        have HC : Hid (k < n ∧ Kp g w (wr.drew.setCell ⟨g, k, none⟩ (.int .u8 ((F k ^^^ fm 285 c (B k) : Nat) : Int))) ∧ Rw (wr.drew.setCell ⟨g, k, none⟩ (.int .u8 ((F k ^^^ fm 285 c (B k) : Nat) : Int))) g N (fun i => if i < k + 1 then F i ^^^ fm 285 c (B i) else F i)) :=
          ⟨hlt, hkp2.setCell _ _, ((show Rw wr.drew g N _ from hr.drewN 1).set k (F k ^^^ fm 285 c (B k)) (Nat.xor_lt_two_pow (n := 8) lF (fm8_lt _ _))).congr (fun i _ => by
            by_cases e : i = k
            · rw [if_pos e, if_pos (by omega), e]
            · rw [if_neg e]
              by_cases e2 : i < k
              · rw [if_pos e2, if_pos (by omega)]
              · rw [if_neg e2, if_neg (by omega)])⟩
        have ib : ((k : Nat) : Int) < (n : Int) := by omega
        have W1 := wrap_succ8 (j := k) (by have := HH.out.2.1; omega)
        generalize fm 285 c (B k) = M at c5 X HC
        generalize F k = A0 at q2 X HC
        generalize B k = B0 at q1 c5
        generalize hM2 : A0 ^^^ M = M2 at X HC
        clear hr hkp hkp2 hM2 lF lB hk
        go_upto_region 4 with (fail)
        refine region_tail8 14 (by kernel_rfl) (by kernel_rfl) ?_
        simp only [List.take_succ_cons, List.take_zero, List.drop_succ_cons, List.drop_zero]
        repeat still_step
        still_call c5
        repeat still_step
        refine wpStill_nil ?_
        go_wp2
        go_roundw
        case rel => exact ⟨k + 1, HC.out.1, by first | rfl | (rw [W1]; rfl), HC.out.2.1, HC.out.2.2⟩
        case measure => first | exact meas_lt8 HC.out.1 | (rw [W1]; exact meas_lt8 HC.out.1)
      · have ib : ¬ ((k : Nat) : Int) < (n : Int) := by omega
        obtain rfl : k = n := by omega
        have HC : Hid (Kp g w wr ∧ Rw wr g N (fun i => if i < k then F i ^^^ fm 285 c (B i) else F i)) := ⟨hkp, hr⟩
        clear hkp hr hlt hk
        go_wp2
        ((try simp only [Exit.inBlock, Exit.then]); first | (refine bodyPost_ret (results_none rfl _ _ _) rfl ?_) | (refine bodyPost_end (results_none rfl _ _ _) rfl ?_))
        exact ⟨rfl, HC.out⟩
end Go.Proofs.Ytfhgamaakkoplaa
namespace Go.Proofs.Ytfhgamaakkoplaa
open Go.RowKit Gf2
set_option linter.unusedVariables false

-- culletref10.reduced: what its loops read, call and leave
theorem below_drew0 {B : Nat} {w : World} : Below B w w.drew := (Below.refl B w).drew
theorem red_l1 {lo n k g i : Nat} {W wr : World} {rv pv : Value} {B p a : Nat → Nat} {R : Nat → Nat → Nat} (h : Gl8 lo W rv k (fun _ => n) (fun _ => n) B R) (hj : Gj lo W pv k (fun i => (p i : Int))) (hR : Rdu n k R p) (ha : ∀ c, a c < 256) (hi : i < k) (hb : Below W.heap.size W wr) (hr : Rw wr g n (cle R p a i)) (hg : W.heap.size ≤ g) :
    ∃ gl c gp cp, rv = .slice (some ⟨gl, 0, none⟩) k c ∧ pv = .slice (some ⟨gp, 0, none⟩) k cp ∧ wr.cell? ⟨gl, i, none⟩ = some (.slice (some ⟨B i, 0, none⟩) n n) ∧ wr.cell? ⟨gp, i, none⟩ = some (.int .i64 (p i : Nat)) ∧ wr.cell? ⟨g, p i, none⟩ = some (.int .u8 (cle R p a i (p i) : Nat)) ∧ p i < n ∧
      Calls Try.prog 69 #[.slice (some ⟨g, 0, none⟩) n n, .slice (some ⟨B i, 0, none⟩) n n, .int .u8 (cle R p a i (p i) : Nat)] wr.drew fun e w' => e = .returned (.tuple #[]) ∧ Kp g wr w' ∧ Rw w' g n (cle R p a (i + 1)) := by
  have h2 := h.below hb
  have j2 := hj.below hb
  obtain ⟨gl, c, e1, -, c1, -⟩ := h2.head (by omega)
  obtain ⟨gp, cp, e2, -, c2, -⟩ := j2.head (by omega)
  have hp := hR.lt i hi
  have hne : B i ≠ g := by have := (h.rows i hi).2.2.lt; omega
  have lv := cle_lt hR (fun c _ => ha c) i (by omega) (p i) hp
  refine ⟨gl, c, gp, cp, e1, e2, c1 i hi, c2 i hi, hr.2.2.cell hp, hp, ?_⟩
  have c5 := less10 g n n n (cle R p a i (p i)) (cle R p a i) (R i) (some ⟨B i, 0, none⟩) n wr.drew (show Rw wr.drew g n _ from hr.drewN 1) (Nat.le_refl _) ((show Rw wr.drew (B i) n _ from (h2.rows i hi).2.2.drewN 1).re (Nat.le_refl _) (Nat.le_refl _) hr.1 hne) lv
  refine c5.mono ?_
  rintro e w' ⟨rfl, hk, hw⟩
  exact ⟨rfl, (Kp.refl g wr).drew.trans hk, hw.congr (fun c hc => by
    rw [if_pos hc, fm_comm]
    rfl)⟩
theorem red_l4 {lo n k g q i : Nat} {wr : World} {rv pv : Value} {B p a : Nat → Nat} {R : Nat → Nat → Nat} (h : Gl8 lo wr rv k (fun _ => n) (fun _ => n) B (fun j => if j < i then insr R p a k q j else R j)) (hj : Gj lo wr pv k (fun i => (p i : Int))) (hR : Rdu n k R p) (hq : q < n) (hi : i < k) (hr : Rw wr g n (nrmr R p a k q)) (hg : ∀ j, j < k → B j ≠ g) :
    ∃ gl c, rv = .slice (some ⟨gl, 0, none⟩) k c ∧ wr.cell? ⟨gl, i, none⟩ = some (.slice (some ⟨B i, 0, none⟩) n n) ∧ wr.cell? ⟨B i, q, none⟩ = some (.int .u8 (R i q : Nat)) ∧
      Calls Try.prog 69 #[.slice (some ⟨B i, 0, none⟩) n n, .slice (some ⟨g, 0, none⟩) n n, .int .u8 (R i q : Nat)] wr.drew fun e w' => e = .returned (.tuple #[]) ∧ Kp (B i) wr w' ∧ Gl8 lo w' rv k (fun _ => n) (fun _ => n) B (fun j => if j < i + 1 then insr R p a k q j else R j) ∧ Gj lo w' pv k (fun i => (p i : Int)) ∧ Rw w' g n (nrmr R p a k q) := by
  obtain ⟨gl, c, e1, -, c1, -⟩ := h.head (by omega)
  have hB := (h.rows i hi).2.2
  have hB2 : Rw wr (B i) n (R i) := hB.congr (fun c _ => by rw [if_neg (Nat.lt_irrefl _)])
  have hty := h.hs hi
  refine ⟨gl, c, e1, c1 i hi, hB2.2.2.cell hq, ?_⟩
  have c5 := less10 (B i) n n n (R i q) (R i) (nrmr R p a k q) (some ⟨g, 0, none⟩) n wr.drew (show Rw wr.drew (B i) n _ from hB2.drewN 1) (Nat.le_refl _) ((show Rw wr.drew g n _ from hr.drewN 1).re (Nat.le_refl _) (Nat.le_refl _) hr.1 (fun e => hg i hi e.symm)) (hR.byt i q hi hq)
  refine c5.mono ?_
  rintro e w' ⟨rfl, hk, hw⟩
  have hk2 : Kp (B i) wr w' := (Kp.refl _ wr).drew.trans hk
  refine ⟨rfl, hk2, (h.turn hi hk2 (T := insr R p a k q i) (hw.congr (fun c hc => ?_))).cong (fun r hr => ⟨rfl, rfl, rfl, fun x hx => ?_⟩), hj.typ hk2.ke (fun x hx e => hx.ne hty (by decide) e), hk2.rw_ hr (fun e => hg i hi e.symm)⟩
  · rw [if_pos hc]
    unfold insr
    rw [if_pos hi, fm_comm]
  · by_cases e : r = i
    · rw [e, upn_same, if_pos (by omega)]
    · rw [upn_other _ _ e]
      by_cases e2 : r < i
      · rw [if_pos e2, if_pos (by omega)]
      · rw [if_neg e2, if_neg (by omega)]
/-- the appends: a row and its pivot. -/
theorem red_ap {lo n k g q : Nat} {wr : World} {rv pv : Value} {B p a : Nat → Nat} {R : Nat → Nat → Nat} (h : Gl8 lo wr rv k (fun _ => n) (fun _ => n) B (fun j => if j < k then insr R p a k q j else R j)) (hj : Gj lo wr pv k (fun i => (p i : Int))) (hr : Rw wr g n (nrmr R p a k q)) (hg : ∀ j, j < k → B j ≠ g) (hlo : lo ≤ wr.heap.size) (hgl : lo ≤ g) (hk : k ≤ 1000) :
    ∃ v' w1, (Builtin.append_ #[82, 82] 82 #[rv, .slice (some ⟨wr.heap.size, 0, none⟩) 1 1]).run Try.prog (wr.alloc (.cells #[.slice (some ⟨g, 0, none⟩) n n] 25)) = .ok v' w1 ∧
      ∃ w2 u', (Builtin.append_ #[24, 24] 24 #[pv, .slice (some ⟨w1.heap.size, 0, none⟩) 1 1]).run Try.prog (w1.alloc (.cells #[.int .i64 (q : Nat)] 3)) = .ok u' w2 ∧
        ∃ B', Gl8 lo w2 v' (k + 1) (fun _ => n) (fun _ => n) B' (fun j => insr R p a k q (sg k k j)) ∧ Gj lo w2 u' (k + 1) (fun j => (inspr p k q (sg k k j) : Int)) ∧ Below lo wr w2 := by
  obtain ⟨v', w1, r1, h1, b1, k1⟩ := h.put hlo hgl hr (Nat.le_refl _) hg (by omega)
  have j1 := hj.typ k1 (fun x hx e => hx.ne e (by decide) rfl)
  obtain ⟨w2, u', r2, j2, b2, k2⟩ := j1.put (Nat.le_trans hlo b1.size) (q : Nat) (by omega)
  have h2 := h1.typ k2 (fun x hx e => hx.ne e (by decide) rfl) (fun x hx e => hx.ne e (by decide) rfl)
  refine ⟨v', w1, r1, w2, u', r2, _, h2.cong (fun r hr2 => ⟨?_, ?_, rfl, fun x hx => ?_⟩), j2.congr (fun r hr2 => ?_), b1.trans b2⟩
  · by_cases e : r = k
    · rw [e, upn_same]
    · rw [upn_other _ _ e]
  · by_cases e : r = k
    · rw [e, upn_same]
    · rw [upn_other _ _ e]
  · rw [sg_id hr2]
    by_cases e : r = k
    · rw [e, upn_same]
      unfold insr
      rw [if_neg (Nat.lt_irrefl _)]
    · rw [upn_other _ _ e, if_pos (by omega)]
  · rw [sg_id hr2]
    unfold inspr
    by_cases e : r < k
    · rw [if_pos e, if_pos e]
    · rw [if_neg e, if_neg e]
theorem inspr_top (p : Nat → Nat) (k q i : Nat) : inspr p k q (sg k i i) = q := by
  unfold sg inspr
  rw [if_neg (Nat.lt_irrefl _), if_pos rfl, if_neg (Nat.lt_irrefl _)]
theorem inspr_low (p : Nat → Nat) {k q i : Nat} (h : i < k) : inspr p k q (sg k (i + 1) i) = p i := by
  have e : sg k (i + 1) i = i := if_pos (Nat.lt_succ_self i)
  rw [e]
  exact if_pos h
/-- where the last row stands: place i. -/
structure Bub (lo n k i : Nat) (q : Nat) (wr : World) (gl cl gp cp : Nat) (p : Nat → Nat) (X : Nat → Nat → Nat) : Prop where
  rows : ∃ B, Gl8 lo wr (.slice (some ⟨gl, 0, none⟩) (k + 1) cl) (k + 1) (fun _ => n) (fun _ => n) B (fun j => X (sg k i j))
  piv : Gj lo wr (.slice (some ⟨gp, 0, none⟩) (k + 1) cp) (k + 1) (fun j => (inspr p k q (sg k i j) : Int))
  up : ∀ j, i ≤ j → j < k → q < p j
section
variable {lo n k i q : Nat} {wr : World} {gl cl gp cp : Nat} {p : Nat → Nat} {X : Nat → Nat → Nat}
theorem Bub.at_ (h : Bub lo n k i q wr gl cl gp cp p X) (hi : i ≤ k) : wr.cell? ⟨gp, i, none⟩ = some (.int .i64 (q : Nat)) := by
  obtain ⟨g, C, e, -, c, -⟩ := h.piv.head (by omega)
  cases e
  rw [c i (by omega), inspr_top]
theorem Bub.at0 (h : Bub lo n k (i + 1) q wr gl cl gp cp p X) (hi : i + 1 ≤ k) : wr.cell? ⟨gp, i, none⟩ = some (.int .i64 (p i : Nat)) := by
  obtain ⟨g, C, e, -, c, -⟩ := h.piv.head (by omega)
  cases e
  rw [c i (by omega), inspr_low p (by omega)]
theorem Bub.below {w2 : World} (h : Bub lo n k i q wr gl cl gp cp p X) (hb : Below wr.heap.size wr w2) : Bub lo n k i q w2 gl cl gp cp p X := by
  obtain ⟨B, hG⟩ := h.rows
  exact ⟨⟨B, hG.below hb⟩, h.piv.below hb, h.up⟩
end
/-- between the two stores: the rows have changed places, the pivots have not. -/
structure Bm (lo n k i : Nat) (q : Nat) (wr : World) (gl cl gp cp : Nat) (p : Nat → Nat) (X : Nat → Nat → Nat) : Prop where
  rows : ∃ B, Gl8 lo wr (.slice (some ⟨gl, 0, none⟩) (k + 1) cl) (k + 1) (fun _ => n) (fun _ => n) B (fun j => X (sg k i j))
  piv : Gj lo wr (.slice (some ⟨gp, 0, none⟩) (k + 1) cp) (k + 1) (fun j => (inspr p k q (sg k (i + 1) j) : Int))
  up : ∀ j, i + 1 ≤ j → j < k → q < p j
section
variable {lo n k i q : Nat} {wr : World} {gl cl gp cp : Nat} {p : Nat → Nat} {X : Nat → Nat → Nat}
theorem Bm.below {w2 : World} (h : Bm lo n k i q wr gl cl gp cp p X) (hb : Below wr.heap.size wr w2) : Bm lo n k i q w2 gl cl gp cp p X := by
  obtain ⟨B, hG⟩ := h.rows
  exact ⟨⟨B, hG.below hb⟩, h.piv.below hb, h.up⟩
theorem Bub.s1 (h : Bub lo n k (i + 1) q wr gl cl gp cp p X) (hi : i + 1 ≤ k) :
    ∃ V U : Nat, wr.cell? ⟨gl, i + 1, none⟩ = some (.slice (some ⟨V, 0, none⟩) n n) ∧ wr.cell? ⟨gl, i, none⟩ = some (.slice (some ⟨U, 0, none⟩) n n) ∧ wr.frozen? ⟨gl, i + 1, none⟩ = false ∧
      (wr.setCell ⟨gl, i + 1, none⟩ (.slice (some ⟨U, 0, none⟩) n n)).cell? ⟨gl, i, none⟩ = some (.slice (some ⟨U, 0, none⟩) n n) ∧ (wr.setCell ⟨gl, i + 1, none⟩ (.slice (some ⟨U, 0, none⟩) n n)).frozen? ⟨gl, i, none⟩ = false ∧
      Bm lo n k i q ((wr.setCell ⟨gl, i + 1, none⟩ (.slice (some ⟨U, 0, none⟩) n n)).setCell ⟨gl, i, none⟩ (.slice (some ⟨V, 0, none⟩) n n)) gl cl gp cp p X ∧
      Below lo wr ((wr.setCell ⟨gl, i + 1, none⟩ (.slice (some ⟨U, 0, none⟩) n n)).setCell ⟨gl, i, none⟩ (.slice (some ⟨V, 0, none⟩) n n)) := by
  obtain ⟨B, hG⟩ := h.rows
  obtain ⟨g, C, e, ty2, c2, f2⟩ := hG.head (by omega)
  cases e
  have hl := World.ownsRow.lt hG.list gl rfl
  have hd := fun j => sg_down (m := k) (i := i) (j := j) hi
  obtain ⟨s1, s2⟩ := hG.swap (a := i + 1) (b := i) (by omega) (by omega) (by omega)
  have p1 := h.piv.typ s2.ke (fun x hx e => hx.ne ty2 (by decide) e)
  have z1 := hG.list.set (i + 1) (.slice (some ⟨B i, 0, none⟩) n n)
  obtain ⟨a, c, e, -, -, hz⟩ := z1.form
  cases e
  obtain ⟨g, e, -, -, -, hz⟩ := hz (by omega)
  cases e
  refine ⟨B (i + 1), B i, c2 (i + 1) (by omega), c2 i (by omega), f2 _, (hz i (by omega)).trans (by rw [if_neg (by omega)]), World.ownsRow.frozenAt z1 i, ⟨⟨_, s1.cong (fun r hr => ⟨rfl, rfl, rfl, fun x _ => ?_⟩)⟩, p1, h.up⟩, s2.below hl.1 (by omega)⟩
  rw [hd]
  unfold swp
  by_cases r1 : r = i + 1
  · rw [if_pos r1, if_neg (by omega), if_pos r1]
  · rw [if_neg r1]
    by_cases r2 : r = i
    · rw [if_pos r2, if_pos r2]
    · rw [if_neg r2, if_neg r2, if_neg r1]
theorem Bm.s2 (h : Bm lo n k i q wr gl cl gp cp p X) (hi : i + 1 ≤ k) (hq : q < p i) :
    wr.cell? ⟨gp, i + 1, none⟩ = some (.int .i64 (q : Nat)) ∧ wr.cell? ⟨gp, i, none⟩ = some (.int .i64 (p i : Nat)) ∧ wr.frozen? ⟨gp, i + 1, none⟩ = false ∧
      (wr.setCell ⟨gp, i + 1, none⟩ (.int .i64 (p i : Nat))).cell? ⟨gp, i, none⟩ = some (.int .i64 (p i : Nat)) ∧ (wr.setCell ⟨gp, i + 1, none⟩ (.int .i64 (p i : Nat))).frozen? ⟨gp, i, none⟩ = false ∧
      Bub lo n k i q ((wr.setCell ⟨gp, i + 1, none⟩ (.int .i64 (p i : Nat))).setCell ⟨gp, i, none⟩ (.int .i64 (q : Nat))) gl cl gp cp p X ∧
      Below lo wr ((wr.setCell ⟨gp, i + 1, none⟩ (.int .i64 (p i : Nat))).setCell ⟨gp, i, none⟩ (.int .i64 (q : Nat))) := by
  obtain ⟨B, hG⟩ := h.rows
  obtain ⟨g, C, e, ty, c, f⟩ := h.piv.head (by omega)
  cases e
  have hd := fun j => sg_down (m := k) (i := i) (j := j) hi
  have e1 := inspr_top p k q (i + 1)
  have e2 := inspr_low p (q := q) (show i < k by omega)
  have q1 := c (i + 1) (by omega)
  have q2 := c i (by omega)
  obtain ⟨p2, p3⟩ := h.piv.swap (a := i + 1) (b := i) (by omega) (by omega)
  have p4 : ∃ g C F, (Value.slice (some ⟨gp, 0, none⟩) (k + 1) cp) = .slice (some ⟨g, 0, none⟩) (k + 1) C ∧ k + 1 ≤ C ∧ lo ≤ g ∧ Ri wr g C F ∧ ∀ i', i' < k + 1 → F i' = (fun j => (inspr p k q (sg k (i + 1) j) : Int)) i' := by
    rcases h.piv with ⟨e, -⟩ | h9
    · omega
    · exact h9
  obtain ⟨g, C, F, e, hC, hl, hR, hF⟩ := p4
  cases e
  have r1 := hR.set (i + 1) ((p i : Nat) : Int)
  have F1 : F i = ((p i : Nat) : Int) := (hF i (by omega)).trans (by dsimp only; rw [e2])
  have s3 := hG.typ p3.ke (fun x hx e => hx.ne ty (by decide) e) (fun x hx e => hx.ne ty (by decide) e)
  rw [e1, e2] at p2 p3 s3
  rw [e1] at q1
  rw [e2] at q2
  refine ⟨q1, q2, f _, (r1.2.2.cell (i := i) (by omega)).trans (by dsimp only; rw [if_neg (by omega), F1]), r1.2.2.frozen i, ⟨⟨_, s3⟩, p2.congr (fun r hr => ?_), fun j h1 h2 => ?_⟩, p3.below hl (by have := hR.lt; omega)⟩
  · rw [hd]
    unfold swp
    by_cases r1 : r = i + 1
    · rw [if_pos r1, if_neg (by omega), if_pos r1]
    · rw [if_neg r1]
      by_cases r2 : r = i
      · rw [if_pos r2, if_pos r2]
      · rw [if_neg r2, if_neg r2, if_neg r1]
  · by_cases e : j = i
    · rw [e]; exact hq
    · exact h.up j (by omega) h2
end
end Go.Proofs.Ytfhgamaakkoplaa
namespace Go.Proofs.Ytfhgamaakkoplaa
open Go.RowKit Gf2
set_option linter.unusedVariables false

-- culletref19: points and values as words; a value
theorem u16s19 {r : Nat} (h : r < 65536) : IntKind.u16.wrap ((r : Nat) : Int) = ((r : Nat) : Int) := by unfold IntKind.wrap; simp [IntKind.bits, IntKind.signed]; omega
structure Wi19 (w wr : World) (gx gy n i : Nat) (p y : Nat → Nat) : Prop where
  rx : wr.rowIs gx 57 n (fun j => .int .u16 ((if j < i then p j else 0 : Nat) : Int))
  ry : wr.rowIs gy 57 n (fun j => .int .u16 ((if j < i then y j else 0 : Nat) : Int))
  lx : w.heap.size ≤ gx
  ly : w.heap.size ≤ gy
  ne : gx ≠ gy
  bel : Below w.heap.size w wr
theorem Wi19.start (w : World) (n : Nat) (p y : Nat → Nat) : Wi19 w ((w.alloc (.cells (madeCells #[.int .u16 0] n) 57)).alloc (.cells (madeCells #[.int .u16 0] n) 57)) w.heap.size (w.heap.size + 1) n 0 p y := by
  have s1 : (w.alloc (.cells (madeCells #[.int .u16 0] n) 57)).heap.size = w.heap.size + 1 := by simp
  have r1 := World.rowIs_made w (.int .u16 0) n 57
  have r2 := World.rowIs_made (w.alloc (.cells (madeCells #[.int .u16 0] n) 57)) (.int .u16 0) n 57
  rw [s1] at r2
  exact ⟨(r1.alloc _).congr (fun j _ => by rw [if_neg (Nat.not_lt_zero _)]; rfl), r2.congr (fun j _ => by rw [if_neg (Nat.not_lt_zero _)]; rfl), Nat.le_refl _, Nat.le_succ _, by omega, ((Below.refl _ _).alloc (Nat.le_refl _) _).alloc (by omega) _⟩
theorem if_put19 {p : Nat → Nat} {i j : Nat} : (if j = i then Value.int .u16 ((p i : Nat) : Int) else .int .u16 ((if j < i then p j else 0 : Nat) : Int)) = .int .u16 ((if j < i + 1 then p j else 0 : Nat) : Int) := by
  by_cases e : j = i
  · subst e; rw [if_pos rfl, if_pos (by omega)]
  · rw [if_neg e]
    by_cases e2 : j < i
    · rw [if_pos e2, if_pos (by omega)]
    · rw [if_neg e2, if_neg (by omega)]
theorem Wi19.step {w wr : World} {gx gy n i : Nat} {p y : Nat → Nat} (h : Wi19 w wr gx gy n i p y) : Wi19 w ((wr.setCell ⟨gx, i, none⟩ (.int .u16 ((p i : Nat) : Int))).setCell ⟨gy, i, none⟩ (.int .u16 ((y i : Nat) : Int))) gx gy n (i + 1) p y :=
  ⟨((h.rx.set i _).setOther (a := ⟨gy, i, none⟩) h.ne _).congr (fun j _ => if_put19), ((h.ry.setOther (a := ⟨gx, i, none⟩) (Ne.symm h.ne) _).set i _).congr (fun j _ => if_put19), h.lx, h.ly, h.ne, (h.bel.setCell h.lx _).setCell h.ly _⟩
set_option maxHeartbeats 4000000 in
set_option maxRecDepth 100000 in
theorem wide19 (v u : Value) (n : Nat) (p y : Nat → Nat) (w : World) (h : Qi w v n (fun i => (p i : Int))) (hu : Rb w u n y) (hn : n ≤ 256) (hp : ∀ i, i < n → p i < 256) :
    Calls Try.prog 20 #[v, u] w fun e w' => ∃ gx gy, e = .returned (.tuple #[.slice (some ⟨gx, 0, none⟩) n n, .slice (some ⟨gy, 0, none⟩) n n]) ∧ Wi19 w w' gx gy n n p y := by
  have hmk := make_u16 n (by omega)
  obtain ⟨-, hy, ua, uc, rfl, -, -, k4⟩ := hu
  obtain ⟨-, -, a, cap, rfl, -, -, h4⟩ := h
  have H0 : Hid (Wi19 w ((w.alloc (.cells (madeCells #[.int .u16 0] n) 57)).alloc (.cells (madeCells #[.int .u16 0] n) 57)) w.heap.size (w.heap.size + 1) n 0 p y) := Wi19.start w n p y
  have HH : Hid (n ≤ 256 ∧ (∀ i, i < n → p i < 256) ∧ (∀ i, i < n → y i < 256)) := ⟨hn, hp, hy⟩
  obtain ⟨gx, hgx⟩ : ∃ gx, Hid (w.heap.size = gx) := ⟨_, rfl⟩
  obtain ⟨gy, hgy⟩ : ∃ gy, Hid (gx + 1 = gy) := ⟨_, rfl⟩
  have H1 := H0.out
  rw [hgx.out, hgy.out] at H1
  clear H0 hn hp hy
  go_enter Try.func20, Try.ntmps20
  go_wp2
  rw [hgx.out, hgy.out]
  clear hmk
  go_loopw [8] (fun s wr => ∃ i : Nat, i ≤ n ∧ s = .int .i64 ((i : Nat) : Int) ∧ Wi19 w wr gx gy n i p y) (fun s _ => n - (intOf s).toNat)
  case atStart => exact ⟨0, Nat.zero_le _, rfl, H1⟩
  case round =>
    obtain ⟨i, hi, rfl, hW⟩ := hrel
    clear H1
    by_cases hlt : i < n
    · have ib : ((i : Nat) : Int) < (n : Int) := Int.ofNat_lt.2 hlt
      obtain ⟨b, o, rfl, hbl, hc⟩ := h4 (by omega)
      obtain ⟨b', o', rfl, hbl', hc'⟩ := k4 (by omega)
      have q1 := (hW.bel.cell (p := ⟨b, o + i, none⟩) hbl).trans (hc i hlt)
      have q2 := (hW.bel.cell (p := ⟨b', o' + i, none⟩) hbl').trans (hc' i hlt)
      have z1 : ((wr.setCell ⟨gx, i, none⟩ (.int .u16 ((p i : Nat) : Int)))).cell? ⟨b', o' + i, none⟩ = some (.int .u8 ((y i : Nat) : Int)) := ((hW.bel.setCell (show w.heap.size ≤ (⟨gx, i, none⟩ : Addr).block from hW.lx) _).cell (p := ⟨b', o' + i, none⟩) hbl').trans (hc' i hlt)
      have q3 := hW.rx.cell hlt
      have q4 := hW.rx.frozen i
      have z2 : ((wr.setCell ⟨gx, i, none⟩ (.int .u16 ((p i : Nat) : Int)))).cell? ⟨gy, i, none⟩ = _ := (hW.ry.setOther (a := ⟨gx, i, none⟩) (Ne.symm hW.ne) _).cell hlt
      have z3 : ((wr.setCell ⟨gx, i, none⟩ (.int .u16 ((p i : Nat) : Int)))).frozen? ⟨gy, i, none⟩ = false := (hW.ry.setOther (a := ⟨gx, i, none⟩) (Ne.symm hW.ne) _).frozen i
      have U1 : IntKind.u16.wrap ((p i : Nat) : Int) = ((p i : Nat) : Int) := u16s19 (by have := HH.out.2.1 i hlt; omega)
      have U2 : IntKind.u16.wrap ((y i : Nat) : Int) = ((y i : Nat) : Int) := u16s19 (by have := HH.out.2.2 i hlt; omega)
      have HC : Hid (i < n ∧ Wi19 w ((wr.setCell ⟨gx, i, none⟩ (.int .u16 ((p i : Nat) : Int))).setCell ⟨gy, i, none⟩ (.int .u16 ((y i : Nat) : Int))) gx gy n (i + 1) p y) := ⟨hlt, hW.step⟩
      have W1 := wrap_lt8 (j := i) (b := n) hlt (by have := HH.out; omega)
      generalize p i = pi at q1 U1 z1 z2 z3 HC
      generalize y i = yi at q2 U2 z1 HC
      clear hW hc hc' hbl hbl' hlt hi h4 k4
      go_wp2
      go_roundw
      case rel => exact ⟨i + 1, HC.out.1, by first | rfl | (rw [W1]; rfl), HC.out.2⟩
      case measure => first | exact meas_lt8 HC.out.1 | (rw [W1]; exact meas_lt8 HC.out.1)
    · have hin : i = n := by omega
      rw [hin] at hW
      have ib : ¬ ((i : Nat) : Int) < (n : Int) := by omega
      have HF : Hid (Wi19 w wr gx gy n n p y) := hW
      clear hW hlt hi hin h4 k4
      go_wp2
      go_ret2
      exact ⟨gx, gy, rfl, HF.out⟩
set_option maxHeartbeats 4000000 in
set_option maxRecDepth 100000 in
theorem value19 (v : Value) (l : List Nat) (x : Nat) (w : World) (h : Sl w v l) (hl : ∀ y ∈ l, y < 256) (hx : x < 256) :
    Calls Try.prog 23 #[v, .int .i64 (x : Int)] w fun e w' => e = .returned (.int .u8 (pe 285 x l.length (co l) : Nat)) ∧ w' = w := by
  have c1 := peval_any false v l x w h hl hx
  have lt : pe 285 x l.length (co l) < 256 := fld8.pe_lt _ _ _
  have c1 : Calls Try.prog 37 #[.bool false, v, .int .u16 (x : Int)] w fun e w' => e = .returned (.int .u16 (pe 285 x l.length (co l) : Nat)) ∧ w' = w := c1
  have U1 : IntKind.u16.wrap ((x : Nat) : Int) = ((x : Nat) : Int) := u16s19 (by omega)
  have U2 : IntKind.u8.wrap ((pe 285 x l.length (co l) : Nat) : Int) = ((pe 285 x l.length (co l) : Nat) : Int) := u8s19 lt
  generalize pe 285 x l.length (co l) = z at c1 U2 ⊢
  clear h hl hx lt
  go_enter Try.func23, Try.ntmps23
  go_wp2_with (go_at_call 37; (with_reducible refine c1.mono ?_); rintro e w9 ⟨rfl, hw9⟩; have hw9 := hw9.symm; subst hw9; clear c1)
  go_ret
  exact ⟨rfl, rfl⟩
end Go.Proofs.Ytfhgamaakkoplaa
