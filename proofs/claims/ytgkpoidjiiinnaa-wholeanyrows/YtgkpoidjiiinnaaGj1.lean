import Derived.Test.YtgkpoidjiiinnaaMxm
import Derived.Test.YtgkpoidjiiinnaaMxd
import Derived.Test.YtgkpoidjiiinnaaMxe
import Derived.Test.YtgkpoidjiiinnaaMj8
import Derived.Test.YtgkpoidjiiinnaaMya
import Derived.Test.YtgkpoidjiiinnaaKac
import Derived.Test.YtgkpoidjiiinnaaMxn
namespace Go.Proofs.Ytgkpoidjiiinnaa
open Go.RowKit Gf2
set_option linter.unusedVariables false

/-- the product of s + t over all t below n but s. -/
def wg (n s : Nat) : Nat := pr n (fun t => if t = s then 1 else s ^^^ t)
theorem wg_lt (n s : Nat) : wg n s < 256 := pr_lt _ _
theorem wg_skip (n : Nat) : wg (n + 1) n = wg n n := by
  unfold wg
  show fm 285 (pr n _) (if n = n then 1 else n ^^^ n) = _
  rw [if_pos rfl, fld8.fm_one (pr_lt _ _)]
theorem wg_step {n s : Nat} (h : n ≠ s) : wg (n + 1) s = fm 285 (wg n s) (s ^^^ n) := by
  unfold wg
  show fm 285 (pr n _) (if n = s then 1 else s ^^^ n) = _
  rw [if_neg h]
set_option maxHeartbeats 2000000 in
set_option maxRecDepth 100000 in
theorem gapsOf11 (t k s : Nat) (w : World) (ht : Tab8 w t) (hk : k ≤ 256) (hs : s < 256) :
    Calls Try.prog 77 #[.pointer (some ⟨t, 0, none⟩), .int .i64 (k : Int), .int .i64 (s : Int)] w fun e w' => e = .returned (.int .u8 (wg k s : Nat)) ∧ ∃ q, w' = w.drewN q := by
  go_enter Try.func77, Try.ntmps77
  go_wp2
  have HT : Hid (Tab8 w t ∧ k ≤ 256 ∧ s < 256) := ⟨ht, hk, hs⟩
  clear ht hk hs
  go_loopw [7, 10] (fun p i wr => ∃ x q : Nat, x ≤ k ∧ i = .int .i64 x ∧ p = .int .u8 (wg x s : Nat) ∧ Hid (wr = w.drewN q)) (fun _ i _ => k - (intOf i).toNat)
  case atStart => exact ⟨0, 0, Nat.zero_le _, rfl, rfl, rfl⟩
  case round =>
    obtain ⟨x, q, hx, rfl, rfl, hw⟩ := hrel
    by_cases hlt : x < k
    · have ib : ((x : Nat) : Int) < (k : Int) := Int.ofNat_lt.2 hlt
      have W1 := wrap_lt8 (j := x) (b := k) hlt (by have := HT.out; omega)
      have HX : Hid (x < k) := hlt
      by_cases hxs : x = s
      · subst hxs
        have HE : Hid (wg x x = wg (x + 1) x) := (wg_skip x).symm
        generalize hP : wg x x = P0 at HE ⊢
        clear hlt hx hP
        go_wp2
        go_roundw
        case rel => exact ⟨x + 1, q, HX.out, by first | rfl | (rw [W1]; rfl), by rw [HE.out], hw⟩
        case measure => first | exact meas_lt8 HX.out | (rw [W1]; exact meas_lt8 HX.out)
      · have hI : ¬ ((x : Nat) : Int) = ((s : Nat) : Int) := fun e => hxs (Int.ofNat.inj e)
        have hT := HT.out
        have v1 := u8_small (r := s) hT.2.2
        have v2 := u8_small (r := x) (by omega)
        have v3 := u8_xor_nat s x hT.2.2 (by omega)
        have c5 := tmul_nat t (wg x s) (s ^^^ x) wr (by rw [hw.out]; exact hT.1.drewN q) (wg_lt _ _) (xor_lt8 hT.2.2 (by omega))
        have HE : Hid (fm 285 (wg x s) (s ^^^ x) = wg (x + 1) s) := (wg_step hxs).symm
        generalize fm 285 (wg x s) (s ^^^ x) = P1 at c5 HE
        generalize s ^^^ x = z at v3 c5
        generalize hP : wg x s = P0 at c5 ⊢
        clear hlt hx hP hT hxs
        go_wp2_with (go_at_call 59; (with_reducible refine c5.mono ?_); rintro e w8 ⟨rfl, q8, hw8⟩; have H8 : Hid (w8 = wr.drewN q8) := hw8; clear hw8 c5)
        go_roundw
        case rel => exact ⟨x + 1, q + q8, HX.out, by first | rfl | (rw [W1]; rfl), by rw [HE.out], by show _ = _; rw [H8.out, hw.out, World.drewN_drewN]⟩
        case measure => first | exact meas_lt8 HX.out | (rw [W1]; exact meas_lt8 HX.out)
    · have hxk : x = k := Nat.le_antisymm hx (Nat.le_of_not_lt hlt)
      subst hxk
      go_wp2
      go_ret
      exact ⟨rfl, q, hw.out⟩
set_option maxHeartbeats 2000000 in
set_option maxRecDepth 100000 in
theorem check11_yes (f : Int) (k m : Nat) (w : World) (hf : f = 0 ∨ f = 1) (h1 : 1 ≤ k) (h2 : 1 ≤ m) (h3 : k + m ≤ 256) :
    Calls Try.prog 53 #[.int .i64 f, .int .i64 (k : Int), .int .i64 (m : Int)] w fun e w' => e = .returned (.int .i64 0) ∧ w' = w := by
  have k1 : decide ((k : Int) < 1) = false := by simp; omega
  have k2 : decide ((m : Int) < 1) = false := by simp; omega
  have W0 := wrap_256 (m := m) (k := k) h1 (by omega)
  have k3 : decide (256 - (k : Int) < (m : Int)) = false := by simp; omega
  clear h1 h2 h3
  rcases hf with rfl | rfl
  · go_enter Try.func53, Try.ntmps53
    go_wp2
    go_ret
    exact ⟨rfl, rfl⟩
  · go_enter Try.func53, Try.ntmps53
    go_wp2
    go_ret
    exact ⟨rfl, rfl⟩
end Go.Proofs.Ytgkpoidjiiinnaa
namespace Go.Proofs.Ytgkpoidjiiinnaa
open Go.RowKit Gf2
set_option linter.unusedVariables false

/-- Lagrange's factors. -/
def lgr (k : Nat) : Nat → Nat → Nat := fun j i => td (wg k (k + j)) (fm 285 (wg k i) ((k + j) ^^^ i))
theorem lgr_lt (k j i : Nat) : lgr k j i < 256 := td_lt _ _
theorem u8w_add {k j : Nat} (h : k + j < 256) : IntKind.u8.wrap ((k : Int) + (j : Int)) = ((k + j : Nat) : Int) := u8_small (r := k + j) h
theorem fill_step {F : Nat → Nat} {c i : Nat} : (if i = c then F c else if i < c then F i else 0) = if i < c + 1 then F i else 0 := by
  by_cases e : i = c
  · rw [if_pos e, if_pos (by omega), e]
  · rw [if_neg e]
    by_cases e2 : i < c
    · rw [if_pos e2, if_pos (by omega)]
    · rw [if_neg e2, if_neg (by omega)]
set_option maxHeartbeats 4000000 in
set_option maxRecDepth 100000 in
theorem lagrange11 (k m : Nat) (w : World) (h1 : 1 ≤ k) (h2 : 1 ≤ m) (h3 : k + m ≤ 256) :
    Calls Try.prog 54 #[.int .i64 (k : Int), .int .i64 (m : Int)] w fun e w' => ∃ v, e = .returned v ∧ Ans w w' v m k (lgr k) := by
  have c3 := new_tab w
  have W0 : wrap64 ((k : Int) + (m : Int)) = ((k + m : Nat) : Int) := add_small (by omega) (by omega)
  obtain ⟨L, hL⟩ : ∃ L, Hid (L = k + m) := ⟨_, rfl⟩
  rw [← hL.out] at W0
  have hm8 := make_u8 L (by have := hL.out; omega)
  have hmk := make_rows m (by omega)
  have hmr := make_u8 k (by omega)
  have HN : Hid (1 ≤ k ∧ 1 ≤ m ∧ k + m ≤ 256 ∧ L = k + m) := ⟨h1, h2, h3, hL.out⟩
  clear h1 h2 h3
  go_enter Try.func54, Try.ntmps54
  go_wp2_with (go_at_call 37; (with_reducible refine c3.mono ?_); rintro e w9 ⟨rfl, w0, hw9, hs0, ht, hb0⟩; subst hw9; clear c3; have HT : Hid (w0.heap.size = w.heap.size + 1 ∧ Tab8 w0 w.heap.size ∧ Below w.heap.size w w0) := ⟨hs0, ht, hb0⟩; clear hs0 ht hb0)
  have HR0 : Hid (Rw (w0.alloc (.cells (madeCells #[.int .u8 0] L) 5)) w0.heap.size L (fun _ => 0)) := made_rw L (by have := HN.out; omega) w0
  clear hm8 W0
  go_loopw [18] (fun i wr => ∃ x : Nat, x ≤ L ∧ i = .int .i64 x ∧ Rw wr w0.heap.size L (fun s => if s < x then wg k s else 0) ∧ Below w0.heap.size w0 wr) (fun i _ => L - (intOf i).toNat)
  case atStart => exact ⟨0, Nat.zero_le _, rfl, HR0.out.congr (fun i _ => (if_neg (Nat.not_lt_zero _)).symm), (Below.refl _ _).alloc (Nat.le_refl _) _⟩
  case round =>
    obtain ⟨x, hx, rfl, hrw, hb⟩ := hrel
    clear HR0
    by_cases hlt : x < L
    · have ib : ((x : Nat) : Int) < (L : Int) := Int.ofNat_lt.2 hlt
      have W1 := wrap_lt8 (j := x) (b := L) hlt (by have := HN.out; omega)
      have c5 := gapsOf11 w.heap.size k x wr (HT.out.2.1.of_heap (hb.block _ (by have := HT.out.1; omega))) (by have := HN.out; omega) (by have := HN.out; omega)
      have HE : Hid (∀ q y, y = wr.drewN q → (∃ z : Nat, y.cell? ⟨w0.heap.size, x, none⟩ = some (.int .u8 (z : Nat))) ∧ y.frozen? ⟨w0.heap.size, x, none⟩ = false ∧ Rw (y.setCell ⟨w0.heap.size, x, none⟩ (.int .u8 (wg k x : Nat))) w0.heap.size L (fun s => if s < x + 1 then wg k s else 0) ∧ Below w0.heap.size w0 (y.setCell ⟨w0.heap.size, x, none⟩ (.int .u8 (wg k x : Nat)))) := fun q y hy => by
        have r1 := hrw.drewN q
        have b1 := below_drewN hb q
        rw [← hy] at r1 b1
        refine ⟨⟨_, r1.2.2.cell hlt⟩, r1.2.2.frozen x, (r1.set x (wg k x) (wg_lt _ _)).congr (fun i _ => ?_), b1.setCell (Nat.le_refl _) _⟩
        by_cases e : i = x
        · rw [if_pos e, if_pos (by omega), e]
        · rw [if_neg e]
          by_cases e2 : i < x
          · rw [if_pos e2, if_pos (by omega)]
          · rw [if_neg e2, if_neg (by omega)]
      have HX : Hid (x < L) := hlt
      generalize wg k x = P0 at c5 HE
      clear hrw hb hlt hx hmk hmr
      go_wp2_with (go_at_call 77; (with_reducible refine c5.mono ?_); rintro e w8 ⟨rfl, q8, hw8⟩; obtain ⟨⟨z5, q5⟩, q6, q7, q7b⟩ := HE.out q8 w8 hw8; have HE2 : Hid (_ ∧ _) := ⟨q7, q7b⟩; clear hw8 q7 q7b HE c5)
      go_roundw
      case rel => exact ⟨x + 1, HX.out, by first | rfl | (rw [W1]; rfl), HE2.out.1, HE2.out.2⟩
      case measure => first | exact meas_lt8 HX.out | (rw [W1]; exact meas_lt8 HX.out)
    · have hxL : x = L := Nat.le_antisymm hx (Nat.le_of_not_lt hlt)
      subst hxL
      have HG : Hid (Rw wr w0.heap.size x (fun s => wg k s) ∧ Below w0.heap.size w0 wr) := ⟨hrw.congr (fun i hi => if_pos hi), hb⟩
      clear hrw hb hlt hx
      go_wp2
      obtain ⟨w3, hw3⟩ : ∃ w3, Hid (wr = w3) := ⟨_, rfl⟩
      have HZ : Hid (Tw w3 (wr.alloc (.cells (madeCells #[.slice none 0 0] m) 31)) m (fun _ => k) (lgr k) 0) := by rw [hw3.out]; exact Tw.start w3 m _ _
      rw [hw3.out] at HZ HG
      rw [hw3.out]
      clear hw3 hmk
      go_loopw [33] (fun j wr => ∃ y : Nat, y ≤ m ∧ j = .int .i64 y ∧ Tw w3 wr m (fun _ => k) (lgr k) y) (fun j _ => m - (intOf j).toNat)
      case atStart => exact ⟨0, Nat.zero_le _, rfl, HZ.out⟩
      case round =>
        obtain ⟨y, hy, rfl, hT⟩ := hrel
        clear HZ
        by_cases hlt : y < m
        · have ib : ((y : Nat) : Int) < (m : Int) := Int.ofNat_lt.2 hlt
          have W1 := wrap_lt8 (j := y) (b := m) hlt (by have := HN.out; omega)
          have ha : (wr.alloc (.cells (madeCells #[.int .u8 0] k) 5)).rowIs w3.heap.size 31 m (fun i => if i < y then .slice (some ⟨w3.heap.size + 1 + i, 0, none⟩) k k else .slice none 0 0) := hT.list.of_block (Below.heap_alloc wr _ _ (by have := hT.sz; omega))
          have q2 := ha.cell hlt
          rw [if_neg (Nat.lt_irrefl _)] at q2
          have q3 := ha.frozen y
          have HM : Hid _ := hT.mid (by have := HN.out; omega) hlt
          have HS : Hid (wr.heap.size = w3.heap.size + 1 + y) := hT.sz
          have HL : Hid (y < m) := hlt
          obtain ⟨wv, hwv⟩ : ∃ wv, Hid (twi w3 wr y k = wv) := ⟨_, rfl⟩
          rw [hwv.out] at HM
          obtain ⟨sz, hsz⟩ : ∃ sz, Hid (wr.heap.size = sz) := ⟨_, rfl⟩
          rw [hsz.out] at HM HS
          have q4 : ((wr.alloc (.cells (madeCells #[.int .u8 0] k) 5)).setCell ⟨w3.heap.size, y, none⟩ (.slice (some ⟨sz, 0, none⟩) k k)).cell? ⟨w3.heap.size, y, none⟩ = some (.slice (some ⟨sz, 0, none⟩) k k) := by
            have e := hwv.out
            unfold twi at e
            rw [hsz.out] at e
            rw [e]
            have := HM.out.2.1.cell hlt
            rw [if_pos (Nat.lt_succ_self y), ← HS.out] at this
            exact this
          rw [← hsz.out] at q4
          clear hT ha hlt hy
          go_wp2
          rw [hsz.out]
          clear q2 q3 q4
          go_loopw [46] (fun j w4 => ∃ c : Nat, c ≤ k ∧ j = .int .i64 c ∧ Only sz wv w4 ∧ Rw w4 sz k (fun t => if t < c then lgr k y t else 0)) (fun j _ => k - (intOf j).toNat)
          case atStart =>
            have e := hwv.out
            unfold twi at e
            rw [hsz.out] at e
            rw [e]
            exact ⟨0, Nat.zero_le _, rfl, Only.refl _ _, HM.out.2.2.2.1.congr (fun i _ => (if_neg (Nat.not_lt_zero _)).symm)⟩
          case round =>
            obtain ⟨c, hc, rfl, ho, hrw⟩ := hrel
            by_cases hct : c < k
            · have hN := HN.out
              have hbz : Below w3.heap.size w3 wr := HM.out.2.2.2.2.trans (ho.below (by have := HS.out; omega))
              have hg3 : w0.heap.size < w3.heap.size := HG.out.1.lt
              have hgr : Rw wr w0.heap.size x (fun s => wg k s) := HG.out.1.of_block (hbz.block _ hg3)
              have q1 : wr.cell? ⟨w3.heap.size, y, none⟩ = some (.slice (some ⟨sz, 0, none⟩) k k) := by
                have := (HM.out.2.1.of_block (ho.2.2 _ (by have := HS.out; omega))).cell HL.out
                rw [if_pos (Nat.lt_succ_self y), ← HS.out] at this
                exact this
              have q2 : wr.cell? ⟨w0.heap.size, k + y, none⟩ = some (.int .u8 (wg k (k + y) : Nat)) := hgr.2.2.cell (i := k + y) (by have := HL.out; omega)
              have q3 : wr.cell? ⟨w0.heap.size, c, none⟩ = some (.int .u8 (wg k c : Nat)) := hgr.2.2.cell (i := c) (by omega)
              have q7 := hrw.2.2.cell hct
              have q8 := hrw.2.2.frozen c
              obtain ⟨F0, hF0⟩ : ∃ F0 : Nat → Nat, Hid (lgr k y = F0) := ⟨_, rfl⟩
              have e6 : Hid (td (wg k (k + y)) (fm 285 (wg k c) ((k + y) ^^^ c)) = F0 c ∧ F0 c < 256) := by
                constructor
                · rw [← hF0.out]; unfold lgr; exact Eq.refl _
                · rw [← hF0.out]; exact lgr_lt _ _ _
              rw [hF0.out] at hrw
              have hset := hrw.set c (F0 c) e6.out.2
              have HE : Hid (∀ q, Only sz wv ((wr.setCell ⟨sz, c, none⟩ (.int .u8 (F0 c : Nat))).drewN q) ∧ Rw ((wr.setCell ⟨sz, c, none⟩ (.int .u8 (F0 c : Nat))).drewN q) sz k (fun t => if t < c + 1 then F0 t else 0)) := fun q => ⟨(ho.trans ((Only.refl sz wr).setCell c _)).drewN q, (hset.congr (fun i _ => fill_step)).drewN q⟩
              have ht0 : Tab8 wr w.heap.size := HT.out.2.1.of_heap ((hbz.block _ (by have := HT.out.1; omega)).trans (HG.out.2.block _ (by have := HT.out.1; omega)))
              have htb : ∀ q, Tab8 (wr.drewN q) w.heap.size := fun q => ht0.of_heap rfl
              have c5 := tmul_nat w.heap.size (wg k c) ((k + y) ^^^ c) wr.drew (ht0.of_heap rfl) (wg_lt _ _) (xor_lt8 (by have := HL.out; omega) (by omega))
              have c6 := fun q => tdiv_all w.heap.size (wg k (k + y)) (fm 285 (wg k c) ((k + y) ^^^ c)) (wr.drewN q) (htb q) (wg_lt _ _) (fm8_lt _ _)
              obtain ⟨x1, hx1⟩ : ∃ x1, Hid (x1 = k + y) := ⟨_, rfl⟩
              have v1 : IntKind.i64.wrap ((k : Int) + (y : Int)) = (x1 : Int) := by have := HL.out; have := hx1.out; unfold IntKind.wrap; simp [IntKind.bits, IntKind.signed]; omega
              have v2 : IntKind.u8.wrap (x1 : Int) = (x1 : Int) := u8_small (r := x1) (by rw [hx1.out]; have := HL.out; omega)
              have v3 := u8_small (r := c) (by omega)
              have v4 := u8_xor_nat x1 c (by rw [hx1.out]; have := HL.out; omega) (by omega)
              rw [show x1 ^^^ c = (k + y) ^^^ c by rw [hx1.out]] at v4
              have ikx : (x1 : Int) < (x : Int) := by have := HL.out; have := hx1.out; omega
              rw [← hx1.out] at q2
              have icx : ((c : Nat) : Int) < (x : Int) := by omega
              have jb : ((c : Nat) : Int) < (k : Int) := Int.ofNat_lt.2 hct
              have W2 := wrap_lt8 (j := c) (b := k) hct (by omega)
              have HX : Hid (c < k) := hct
              rw [e6.out.1] at c6
              generalize F0 c = R0 at c6 HE
              generalize te (fm 285 (wg k c) ((k + y) ^^^ c)) = E0 at c6
              generalize fm 285 (wg k c) ((k + y) ^^^ c) = P1 at c5 c6
              generalize (k + y) ^^^ c = z1 at v4 c5
              rw [← hx1.out] at c6
              generalize wg k x1 = A1 at q2 c6
              generalize wg k c = A2 at q3 c5
              clear hN hbz hg3 hgr htb ht0 hct hc ho hrw hset e6
              have hq7 : ∃ z, wr.cell? ⟨sz, c, none⟩ = some (.int .u8 z) := ⟨_, q7⟩
              clear q7
              obtain ⟨z7, q7⟩ := hq7
              go_wp2
              refine region_planX (fun w' => w'.cell? ⟨w3.heap.size, y, none⟩ = some (.slice (some ⟨sz, 0, none⟩) k k) ∧ w'.cell? ⟨w0.heap.size, x1, none⟩ = some (.int .u8 (A1 : Nat)) ∧ w'.cell? ⟨w0.heap.size, c, none⟩ = some (.int .u8 (A2 : Nat))) 29 [28] [24, 0, 3] 82 ⟨q1, q2, q3⟩ (by kernel_rfl) (by kernel_rfl) (fun _ a d v _ h => by cases d <;> exact h) ?_
              refine planT_step ?A1x0 rfl (fun w' hS => ?s1x0) rfl (fun K hK => ?n1x0)
              case s1x0 =>
                obtain ⟨g1, g2, g3⟩ := hS
                simp only [List.take_succ_cons, List.take_zero]
                repeat still_step
                exact rfl
              case n1x0 =>
              go_simp
              go_wp2_with (go_at_call 59; ((with_reducible refine c5.mono ?_); rintro e w9 ⟨rfl, q, rfl⟩))
              refine hK _ _ ⟨q1, q2, q3⟩ ?_
              clear hK K c5
              refine planT_step ?A2x0 rfl (fun w' hS => ?s2x0) rfl (fun K hK => ?n2x0)
              case s2x0 =>
                simp only [List.take_zero]
                exact rfl
              case n2x0 =>
              go_simp
              go_wp2_with (go_at_call 78; ((with_reducible refine (c6 _).mono ?_); rintro e w9 ⟨rfl, q', rfl⟩))
              refine hK _ _ ⟨q1, q2, q3⟩ ?_
              clear hK K c6
              refine planT_last ?A3x0 rfl (fun w' hS => ?s3x0) rfl ?n3x0
              case s3x0 =>
                simp only [List.take_succ_cons, List.take_zero]
                repeat still_step
                exact rfl
              case n3x0 =>
              simp only [List.drop_succ_cons, List.drop_zero]
              go_wp2
              go_roundw
              case rel => first | exact ⟨c + 1, HX.out, by first | rfl | (rw [W2]; rfl), (HE.out _).1, by rw [hF0.out]; exact (HE.out _).2⟩ | (rw [W2]; (repeat apply Exists.intro); exact ⟨⟨c + 1, HX.out, rfl, (HE.out _).1, by rw [hF0.out]; exact (HE.out _).2⟩, rfl⟩)
              case measure => first | exact meas_lt8 HX.out | (rw [W2]; exact meas_lt8 HX.out)
            · have hck : c = k := Nat.le_antisymm hc (Nat.le_of_not_lt hct)
              subst hck
              have HT2 : Hid (Tw w3 wr m (fun _ => c) (lgr c) (y + 1)) := by
                obtain ⟨m1, m2, m3, m4, m5⟩ := HM.out
                exact Tw.done (wr := wr) m1 m2 m3 m5 HS.out ho (hrw.congr (fun i hi => if_pos hi))
              clear hc hct ho hrw
              go_wp2
              go_roundw
              case rel => exact ⟨y + 1, HL.out, by first | rfl | (rw [W1]; rfl), HT2.out⟩
              case measure => first | exact meas_lt8 HL.out | (rw [W1]; exact meas_lt8 HL.out)
        · have hym : y = m := Nat.le_antisymm hy (Nat.le_of_not_lt hlt)
          subst hym
          have HA : Hid (Ans w wr (.slice (some ⟨w3.heap.size, 0, none⟩) y y) y k (lgr k)) := by
            have h1 := HT.out
            have h2 := HG.out.2
            have h3 : Below w.heap.size w w3 := h1.2.2.trans (h2.mono h1.2.2.size)
            exact (hT.cs (by have := HN.out; unfold big; omega)).ans h3.size (h3.trans (hT.bel.mono h3.size))
          clear hT hy hlt
          go_wp2
          go_ret
          exact ⟨_, rfl, HA.out⟩
end Go.Proofs.Ytgkpoidjiiinnaa
namespace Go.Proofs.Ytgkpoidjiiinnaa
open Go.RowKit Gf2
set_option linter.unusedVariables false

set_option maxHeartbeats 2000000 in
set_option maxRecDepth 100000 in
theorem ident11 (n : Nat) (w : World) (h1 : 1 ≤ n) (h2 : n ≤ 256) :
    Calls Try.prog 14 #[.int .i64 (n : Int)] w fun e w' => e = .returned (.tuple #[.slice (some ⟨w.heap.size, 0, none⟩) n n, .int .i64 0]) ∧ Ans w w' (.slice (some ⟨w.heap.size, 0, none⟩) n n) n n idm := by
  have c1 := fun x => within10_yes (n : Int) 256 x (by omega) (by omega)
  have c2 := fun x => zeros10_any n n x (by omega) (by omega)
  go_enter Try.func14, Try.ntmps14
  go_wp2_with (first | (go_at_call 32; (with_reducible refine (c1 _).mono ?_); rintro e w9 ⟨rfl, hw9⟩; have hw9 := hw9.symm; subst hw9) | (go_at_call 33; (with_reducible refine (c2 _).mono ?_); rintro e w1 ⟨rfl, hz⟩))
  clear c1 c2
  have hC := hz.cs (by unfold big; omega) (by unfold big; omega)
  have hb := hz.bel
  clear hz
  generalize hB : (fun i => w.heap.size + 1 + i) = B at hC
  clear hB
  go_loopw [14] (fun i wr => ∃ k : Nat, k ≤ n ∧ i = .int .i64 k ∧ Cs w.heap.size w1.heap.size wr (.slice (some ⟨w.heap.size, 0, none⟩) n n) n (fun _ => n) (fun _ => n) B (fun i j => if i < k ∧ i = j then 1 else 0) ∧ Below w.heap.size w wr) (fun i _ => n - (intOf i).toNat)
  case atStart => exact ⟨0, Nat.zero_le _, rfl, hC.congr (fun i _ j _ => (if_neg (by omega)).symm), hb⟩
  case round =>
    obtain ⟨k, hk, rfl, hC', hb'⟩ := hrel
    clear hC hb
    by_cases hlt : k < n
    · have q1 := hC'.at_ hlt
      have q2 := hC'.cell_ hlt (j := k) hlt
      have q3 := hC'.froz hlt k
      have ib : ((k : Nat) : Int) < (n : Int) := by omega
      have W1 := wrap_succ8 (j := k) (by unfold big; omega)
      have HZ : Hid (Cs w.heap.size w1.heap.size (wr.setCell ⟨B k, k, none⟩ (.int .u8 ((1 : Nat) : Int))) (.slice (some ⟨w.heap.size, 0, none⟩) n n) n (fun _ => n) (fun _ => n) B (fun i j => if i < k + 1 ∧ i = j then 1 else 0) ∧ Below w.heap.size w (wr.setCell ⟨B k, k, none⟩ (.int .u8 ((1 : Nat) : Int)))) :=
        ⟨(hC'.set hlt k 1 (by decide)).congr (fun i _ j _ => by
          show (if i = k ∧ j = k then 1 else if i < k ∧ i = j then 1 else 0) = (if i < k + 1 ∧ i = j then 1 else 0)
          by_cases e : i = k ∧ j = k
          · rw [if_pos e, if_pos (by omega)]
          · rw [if_neg e]
            by_cases e2 : i < k ∧ i = j
            · rw [if_pos e2, if_pos (by omega)]
            · rw [if_neg e2, if_neg (by omega)]), hC'.bel hb' hlt k _⟩
      clear hC' hb'
      go_wp2
      go_roundw
      case rel => exact ⟨k + 1, hlt, by first | rfl | (rw [W1]; rfl), HZ.out.1, HZ.out.2⟩
      case measure => first | exact meas_lt8 hlt | (rw [W1]; exact meas_lt8 hlt)
    · have hkn : k = n := by omega
      subst hkn
      go_wp2
      go_ret2
      exact ⟨rfl, (hC'.ans (Nat.le_refl _) hb').congr (fun i hi j hj => by
        unfold idm
        by_cases e : i = j
        · rw [if_pos ⟨hi, e⟩, if_pos e]
        · rw [if_neg (fun h => e h.2), if_neg e])⟩

/-- one list of lists behind another, in new memory. -/
theorem app_lists {W : World} {v : Value} {g n m k : Nat} {S T : Nat → Nat → Nat} (h : Lb W (.slice (some ⟨g, 0, none⟩) n n) n (fun _ => k) S) (hv : Lb W v m (fun _ => k) T) (h0 : 0 < n) (hm : 0 < m) (hnm : n + m ≤ 1000) :
    ∃ v' w', (Builtin.append_ #[25, 25] 25 #[.slice (some ⟨g, 0, none⟩) n n, v]).run Try.prog W = .ok v' w' ∧ Lb w' v' (n + m) (fun _ => k) (fun i j => if i < n then S i j else T (i - n) j) ∧ Below W.heap.size W w' := by
  obtain ⟨V, ⟨hnb, a, cap, e, -, -, h4⟩, hV⟩ := h
  obtain ⟨X, ⟨hmb, a', cap', rfl, -, -, k4⟩, hX⟩ := hv
  obtain ⟨b, o, eb, hbl, hc⟩ := h4 h0
  obtain ⟨b', o', rfl, hbl', hc'⟩ := k4 hm
  cases e
  cases eb
  obtain ⟨iL, k1, k2, k3, k5⟩ := info_l9
  obtain ⟨v', w', hrun, own, gr⟩ := run_append_arg_grows (P := Try.prog) W 25 25 31 iL (.slice Option.none 0 0) 1 24 Try.underlying25 k1 k2 k3 k5 rfl (by decide)
    ⟨g, 0, Option.none⟩ n n (lv9 V n) (by rw [lv9_len, Nat.mul_one]) (fun j u hu => by
      have hj : j < n := by
        apply Nat.lt_of_not_le
        intro hx
        rw [List.getElem?_eq_none (by rw [lv9_len]; exact hx)] at hu
        cases hu
      rw [lv9_get _ hj] at hu
      cases hu
      rw [Addr.add_lit]
      exact hc j hj)
    ⟨b', o', Option.none⟩ m cap' (lv9 X m) (by rw [lv9_len, Nat.mul_one]) (fun j u hu => by
      have hj : j < m := by
        apply Nat.lt_of_not_le
        intro hx
        rw [List.getElem?_eq_none (by rw [lv9_len]; exact hx)] at hu
        cases hu
      rw [lv9_get _ hj] at hu
      cases hu
      rw [Addr.add_lit]
      exact hc' j hj)
    (by omega) (by unfold maxLen; omega) (by omega)
  have hb : Below W.heap.size W w' := ⟨gr.os, gr.tape, gr.output, gr.size, fun x hx => gr.block x hx (fun e => by cases e)⟩
  rw [lv9_snoc] at own
  have hG : Gl w' W.heap.size v' (n + m) (fun r => if r < n then V r else X (r - n)) := own
  obtain ⟨a2, c2, rfl, f1, f2, f3⟩ := hG.form
  refine ⟨_, w', hrun, ⟨fun r => if r < n then V r else X (r - n), ⟨by unfold big; omega, a2, c2, rfl, f1, by unfold big; unfold maxLen at f2; omega, fun _ => ?_⟩, fun i hi => ?_⟩, hb⟩
  · obtain ⟨g2, e2, -, hg2, -, hcell⟩ := f3 (by omega)
    exact ⟨g2, 0, e2, ⟨hg2, fun x => x⟩, fun i hi => by rw [Nat.zero_add]; exact hcell i hi⟩
  · by_cases hin : i < n
    · simp only [if_pos hin]
      exact (hV i hin).ke (ke_below hb _)
    · simp only [if_neg hin]
      exact (hX (i - n) (by omega)).ke (ke_below hb _)

/-- the factors of the parity. -/
def par11 (f : Int) (k : Nat) : Nat → Nat → Nat := if f = 1 then cau k else lgr k
/-- all rows. -/
def gen11 (f : Int) (k : Nat) : Nat → Nat → Nat := fun i j => if i < k then idm i j else par11 f k (i - k) j
set_option maxHeartbeats 2000000 in
set_option maxRecDepth 100000 in
theorem parity11_yes (f : Int) (k m : Nat) (w : World) (hf : f = 0 ∨ f = 1) (h1 : 1 ≤ k) (h2 : 1 ≤ m) (h3 : k + m ≤ 256) :
    Calls Try.prog 29 #[.int .i64 f, .int .i64 (k : Int), .int .i64 (m : Int)] w fun e w' => ∃ v, e = .returned (.tuple #[v, .int .i64 0]) ∧ Ans w w' v m k (par11 f k) := by
  have c1 := check11_yes f k m w hf h1 h2 h3
  rcases hf with rfl | rfl
  · have c2 := lagrange11 k m w h1 h2 h3
    have e0 : par11 0 k = lgr k := if_neg (by decide)
    rw [e0]
    clear h1 h2 h3 e0
    go_enter Try.func29, Try.ntmps29
    go_wp2_with (first | (go_at_call 53; (with_reducible refine c1.mono ?_); rintro e w9 ⟨rfl, hw9⟩; have hw9 := hw9.symm; subst hw9; clear c1) | (go_at_call 54; (with_reducible refine c2.mono ?_); rintro e w1 ⟨v, rfl, hA⟩; clear c2; have HA : Hid _ := hA; clear hA))
    go_ret2
    exact ⟨_, rfl, HA.out⟩
  · have c2 := cauchy10_yes m k w h2 h1 (by omega)
    have e0 : par11 1 k = cau k := if_pos rfl
    rw [e0]
    clear h1 h2 h3 e0
    go_enter Try.func29, Try.ntmps29
    go_wp2_with (first | (go_at_call 53; (with_reducible refine c1.mono ?_); rintro e w9 ⟨rfl, hw9⟩; have hw9 := hw9.symm; subst hw9; clear c1) | (go_at_call 40; (with_reducible refine c2.mono ?_); rintro e w1 ⟨v, rfl, hA⟩; clear c2; have HA : Hid _ := hA; clear hA))
    go_ret2
    exact ⟨_, rfl, HA.out⟩
/-- what Generator answers. -/
structure Gn (w w' : World) (v : Value) (n k : Nat) (S : Nat → Nat → Nat) : Prop where
  lb : Lb w' v n (fun _ => k) S
  bel : Below w.heap.size w w'
set_option maxHeartbeats 2000000 in
set_option maxRecDepth 100000 in
theorem generator11_yes (f : Int) (k m : Nat) (w : World) (hf : f = 0 ∨ f = 1) (h1 : 1 ≤ k) (h2 : 1 ≤ m) (h3 : k + m ≤ 256) :
    Calls Try.prog 8 #[.int .i64 f, .int .i64 (k : Int), .int .i64 (m : Int)] w fun e w' => ∃ v, e = .returned (.tuple #[v, .int .i64 0]) ∧ Gn w w' v (k + m) k (gen11 f k) := by
  have c1 := parity11_yes f k m w hf h1 h2 h3
  have c2 := fun x => ident11 k x h1 (by omega)
  have HG : Hid (∀ w1 v w2, Ans w w1 v m k (par11 f k) → Ans w1 w2 (.slice (some ⟨w1.heap.size, 0, none⟩) k k) k k idm → ∃ v' w', (Builtin.append_ #[25, 25] 25 #[.slice (some ⟨w1.heap.size, 0, none⟩) k k, v]).run Try.prog w2 = .ok v' w' ∧ Gn w w' v' (k + m) k (gen11 f k)) := fun w1 v w2 hA hI => by
    obtain ⟨v', w', a1, a2, a3⟩ := app_lists hI.lb (hA.lb.below hI.2) (by omega) (by omega) (by omega)
    have hb2 := hA.2.trans (hI.2.mono hA.2.size)
    exact ⟨v', w', a1, a2, hb2.trans (a3.mono hb2.size)⟩
  clear hf h1 h2 h3
  go_enter Try.func8, Try.ntmps8
  go_wp2_with (first
    | (go_at_call 29; (with_reducible refine c1.mono ?_); rintro e w1 ⟨v, rfl, hA⟩; clear c1)
    | (go_at_call 14; (with_reducible refine (c2 _).mono ?_); rintro e w2 ⟨rfl, hI⟩; obtain ⟨v5, w5, hrun, hG⟩ := HG.out w1 v w2 hA hI; clear c2 hA hI; have HF : Hid _ := hG; clear hG)
    | (at_builtin; refine Lib.wpList_append_run _ rfl _ _ _ _ rfl _ _ rfl rfl _ _ hrun ?_))
  go_ret2
  exact ⟨_, rfl, HF.out⟩
set_option maxHeartbeats 2000000 in
set_option maxRecDepth 100000 in
theorem rising11_yes (u : Value) (n L : Nat) (R : Nat → Nat) (w : World) (h : Qi w u L (fun i => (R i : Int))) (hL : L ≤ 1000) (hn : n ≤ 1000) (hR : ∀ i, i < L → R i < n) (up : ∀ i j, i < j → j < L → R i < R j) :
    Calls Try.prog 39 #[u, .int .i64 (n : Int)] w fun e w' => e = .returned (.bool true) ∧ w' = w := by
  obtain ⟨-, -, a, cap, rfl, -, -, h4⟩ := h
  go_enter Try.func39, Try.ntmps39
  go_wp2
  go_loopw [5, 10] (fun l i wr => ∃ x c : Nat, c ≤ L ∧ l = .int .i64 x ∧ i = .int .i64 c ∧ (∀ j, c ≤ j → j < L → x ≤ R j) ∧ wr = w) (fun _ i _ => L - (intOf i).toNat)
  case atStart => exact ⟨0, 0, Nat.zero_le _, rfl, rfl, fun _ _ _ => Nat.zero_le _, rfl⟩
  case round =>
    obtain ⟨x, c, hc, rfl, rfl, hx, hw⟩ := hrel
    have hw := hw.symm
    subst hw
    by_cases hct : c < L
    · obtain ⟨b, o, rfl, -, z1⟩ := h4 (by omega)
      have q1 := z1 c hct
      have ib : ((c : Nat) : Int) < (L : Int) := Int.ofNat_lt.2 hct
      have W1 := wrap_lt8 hct hL
      have W2 := wrap_lt8 (hR c hct) hn
      have k1 : ¬ R c < x := Nat.not_lt.2 (hx c (Nat.le_refl _) hct)
      have k2 : ¬ n ≤ R c := Nat.not_le.2 (hR c hct)
      have HD : Hid (c < L ∧ ∀ j, c + 1 ≤ j → j < L → R c + 1 ≤ R j) := ⟨hct, fun j h1 h2 => up c j (by omega) h2⟩
      generalize R c = rc at q1 k1 k2 W2 HD
      clear z1 hct hx hc hR up h4 hL hn
      go_wp2
      go_roundw
      case rel => exact ⟨rc + 1, c + 1, HD.out.1, by first | rfl | (rw [W2]; rfl), by first | rfl | (rw [W1]; rfl), HD.out.2, by first | trivial | rfl⟩
      case measure => first | exact meas_lt8 HD.out.1 | (rw [W1]; exact meas_lt8 HD.out.1)
    · have hcn : c = L := by omega
      subst hcn
      clear h4 hR up hx hc hct hL hn
      go_wp2
      go_ret
      exact ⟨rfl, by first | trivial | rfl⟩
end Go.Proofs.Ytgkpoidjiiinnaa
namespace Go.Proofs.Ytgkpoidjiiinnaa
open Go.RowKit Gf2
set_option linter.unusedVariables false

theorem Qi.take {w : World} {a : Option Addr} {n cap k : Nat} {F : Nat → Int} (h : Qi w (.slice a n cap) n F) (hk : k ≤ n) : Qi w (.slice a k cap) k F := by
  obtain ⟨h1, -, a', cap', e, h5, h6, h4⟩ := h
  cases e
  refine ⟨by omega, trivial, _, _, rfl, by omega, h6, fun h0 => ?_⟩
  obtain ⟨b, o, e, hl, hc⟩ := h4 (by omega)
  exact ⟨b, o, e, hl, fun i hi => hc i (by omega)⟩
theorem gen11_lt {f : Int} {k : Nat} (hc : ∀ i j, par11 f k i j < 256) (i j : Nat) : gen11 f k i j < 256 := by
  unfold gen11
  split
  · unfold idm
    split <;> decide
  · exact hc _ _
theorem Gn.congr {w w' : World} {v : Value} {n k : Nat} {S T : Nat → Nat → Nat} (h : Gn w w' v n k S) (e : ∀ i, i < n → ∀ j, j < k → S i j = T i j) : Gn w w' v n k T := ⟨h.lb.congr e, h.bel⟩
/-- what Decoder answers. -/
structure Dn (w w' : World) (v : Value) (n k : Nat) (X : Nat → Nat → Nat) : Prop where
  lb : Lb w' v n (fun _ => k) X
  bel : Below w.heap.size w w'
/-- the calls of Decoder one behind another. -/
theorem decoder11_chain (f : Int) (k m L N : Nat) (R Q : Nat → Nat) (T : Nat → Nat → Nat) (hT : ∀ i, i < k + m → ∀ j, j < k → gen11 f k i j = T i j) (u v : Value) (w : World) (hf : f = 0 ∨ f = 1) (h1 : 1 ≤ k) (h2 : 1 ≤ m) (h3 : k + m ≤ 256)
    (pa : Option Addr) (pc : Nat) (hu : u = .slice pa L pc) (h : Qi w u L (fun i => (R i : Int))) (hv : Qi w v N (fun i => (Q i : Int))) (hL : k ≤ L) (hL2 : L ≤ 1000) (hN : 1 ≤ N) (hN2 : N ≤ 256)
    (hR : ∀ i, i < L → R i < k + m) (up : ∀ i j, i < j → j < L → R i < R j) (hQ : ∀ i, i < N → Q i < k + m) (upQ : ∀ i j, i < j → j < N → Q i < Q j)
    (hlt : ∀ i j, T i j < 256) (ht : (elm k (fun i j => T (R i) j) k).t = k) :
    Calls Try.prog 8 #[.int .i64 f, .int .i64 (k : Int), .int .i64 (m : Int)] w fun e w1 => ∃ g, e = .returned (.tuple #[g, .int .i64 0]) ∧
    Calls Try.prog 39 #[u, .int .i64 ((k + m : Nat) : Int)] w1 fun e w2 => e = .returned (.bool true) ∧ Calls Try.prog 39 #[v, .int .i64 ((k + m : Nat) : Int)] w2 fun e w3 => e = .returned (.bool true) ∧
    Calls Try.prog 12 #[g, .slice pa k pc] w3 fun e w4 => ∃ x, e = .returned (.tuple #[x, .int .i64 0]) ∧ Calls Try.prog 13 #[x] w4 fun e w5 => ∃ y, e = .returned (.tuple #[y, .int .i64 0]) ∧
    Calls Try.prog 12 #[g, v] w5 fun e w6 => ∃ z, e = .returned (.tuple #[z, .int .i64 0]) ∧ Calls Try.prog 15 #[z, y] w6 fun e w7 => ∃ d, e = .returned (.tuple #[d, .int .i64 0]) ∧
    Dn w w7 d N k (mm k (fun i j => T (Q i) j) (sol k (fun i j => T (R i) j) idm)) := by
  refine (generator11_yes f k m w hf h1 h2 h3).mono ?_
  rintro e w1 ⟨g, rfl, hG0⟩
  have hG := hG0.congr hT
  clear hG0
  refine ⟨g, rfl, (rising11_yes u (k + m) L R w1 (h.below hG.bel) hL2 (by omega) hR up).mono ?_⟩
  rintro e w2 ⟨rfl, hw⟩
  subst hw
  refine ⟨rfl, (rising11_yes v (k + m) N Q w2 (hv.below hG.bel) (by omega) (by omega) hQ upQ).mono ?_⟩
  rintro e w3 ⟨rfl, hw⟩
  subst hw
  subst hu
  refine ⟨rfl, (pick10_yes g _ (k + m) k k _ R w3 hG.lb ((h.below hG.bel).take hL) (by omega) (by omega) h1 (by omega) h1 (by omega) (fun i hi => hR i (by omega))).mono ?_⟩
  rintro e w4 ⟨x, rfl, hA⟩
  refine ⟨x, rfl, (invert10_yes x k _ w4 hA.lb h1 (by omega) (fun i j => hlt _ _) ht).mono ?_⟩
  rintro e w5 ⟨y, rfl, hB⟩
  have b5 := hA.2.trans (hB.2.mono hA.2.size)
  refine ⟨y, rfl, (pick10_yes g v (k + m) k N _ Q w5 (hG.lb.below b5) ((hv.below hG.bel).below b5) (by omega) (by omega) h1 (by omega) hN hN2 hQ).mono ?_⟩
  rintro e w6 ⟨z, rfl, hC⟩
  refine ⟨z, rfl, (mul10_yes z y N k k _ _ w6 hC.lb (hB.lb.below hC.2) hN hN2 h1 (by omega) h1 (by omega)).mono ?_⟩
  rintro e w7 ⟨d, rfl, hD⟩
  have b6 := b5.trans (hC.2.mono b5.size)
  have b7 := b6.trans (hD.2.mono b6.size)
  exact ⟨d, rfl, hD.lb, hG.bel.trans (b7.mono hG.bel.size)⟩
set_option maxHeartbeats 2000000 in
set_option maxRecDepth 100000 in
theorem decoder11_yes (f : Int) (k m L N : Nat) (R Q : Nat → Nat) (T : Nat → Nat → Nat) (hT : ∀ i, i < k + m → ∀ j, j < k → gen11 f k i j = T i j) (u v : Value) (w : World) (hf : f = 0 ∨ f = 1) (h1 : 1 ≤ k) (h2 : 1 ≤ m) (h3 : k + m ≤ 256)
    (h : Qi w u L (fun i => (R i : Int))) (hv : Qi w v N (fun i => (Q i : Int))) (hL : k ≤ L) (hL2 : L ≤ 1000) (hN : 1 ≤ N) (hN2 : N ≤ 256)
    (hR : ∀ i, i < L → R i < k + m) (up : ∀ i j, i < j → j < L → R i < R j) (hQ : ∀ i, i < N → Q i < k + m) (upQ : ∀ i j, i < j → j < N → Q i < Q j)
    (hlt : ∀ i j, T i j < 256) (ht : (elm k (fun i j => T (R i) j) k).t = k) :
    Calls Try.prog 16 #[.int .i64 f, .int .i64 (k : Int), .int .i64 (m : Int), u, v] w fun e w' => ∃ d, e = .returned (.tuple #[d, .int .i64 0]) ∧ Dn w w' d N k (mm k (fun i j => T (Q i) j) (sol k (fun i j => T (R i) j) idm)) := by
  obtain ⟨-, -, pa, pc, hu, hle, -, -⟩ := id h
  obtain ⟨-, -, qa, qc, hv2, -, -, -⟩ := id hv
  have c1 := decoder11_chain f k m L N R Q T hT u v w hf h1 h2 h3 pa pc hu h hv hL hL2 hN hN2 hR up hQ upQ hlt ht
  subst hu hv2
  have W0 : wrap64 ((k : Int) + (m : Int)) = ((k + m : Nat) : Int) := add_small (by omega) (by omega)
  have j1 : decide ((L : Int) < (k : Int)) = false := by simp; omega
  have j2 : ((N : Int) == 0) = false := by simp; omega
  have kL : k ≤ L := hL
  have kc : k ≤ pc := by omega
  have HD : Hid (L ≤ pc) := hle
  generalize (mm k (fun i j => T (Q i) j) (sol k (fun i j => T (R i) j) idm)) = X at c1 ⊢
  generalize k + m = km at c1 W0
  clear h hv hf h1 h2 h3 hL hL2 hN hN2 hR up hQ upQ hlt ht hle hT
  go_enter Try.func16, Try.ntmps16
  go_wp2_with (first
    | (go_at_call 8; (with_reducible refine c1.mono ?_); rintro e w1 ⟨g, rfl, c2⟩; clear c1)
    | (go_at_call 39; first | ((with_reducible refine c2.mono ?_); rintro e w2 ⟨rfl, c3⟩; clear c2) | ((with_reducible refine c3.mono ?_); rintro e w3 ⟨rfl, c4⟩; clear c3))
    | (go_at_call 12; first | ((with_reducible refine c4.mono ?_); rintro e w4 ⟨x, rfl, c5⟩; clear c4) | ((with_reducible refine c6.mono ?_); rintro e w6 ⟨z, rfl, c7⟩; clear c6))
    | (go_at_call 13; (with_reducible refine c5.mono ?_); rintro e w5 ⟨y, rfl, c6⟩; clear c5)
    | (go_at_call 15; (with_reducible refine c7.mono ?_); rintro e w7 ⟨d, rfl, hF⟩; clear c7; have HF : Hid _ := hF; clear hF))
  go_ret2
  exact ⟨_, rfl, HF.out⟩
end Go.Proofs.Ytgkpoidjiiinnaa
