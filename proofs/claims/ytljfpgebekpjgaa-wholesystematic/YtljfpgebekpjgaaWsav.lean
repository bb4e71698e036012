import Derived.Test.YtljfpgebekpjgaaWsat
import Derived.Test.YtljfpgebekpjgaaWsap
import Derived.Test.YtljfpgebekpjgaaWsau
namespace Go.Proofs.Ytljfpgebekpjgaa
open Go.RowKit Gf2
set_option linter.unusedVariables false

/-- the product of s + t over all t below n but s. -/
def wg (n s : Nat) : Nat := pr n (fun t => if t = s then 1 else s ^^^ t)
theorem wg_lt (n s : Nat) : wg n s < 256 := pr_lt _ _
theorem wg_skip (n : Nat) : wg (n + 1) n = wg n n := by
  unfold wg
  show fm 285 (pr n _) (if n = n then 1 else n ^^^ n) = _
  rw [if_pos rfl, fld8.fm_one (pr_lt _ _)]
theorem wg_step {n s : Nat} (h : n ≠ s) : wg (n + 1) s = fm 285 (wg n s) (s ^^^ n) := by
  unfold wg
  show fm 285 (pr n _) (if n = s then 1 else s ^^^ n) = _
  rw [if_neg h]
set_option maxHeartbeats 2000000 in
set_option maxRecDepth 100000 in
theorem gapsOf11 (t k s : Nat) (w : World) (ht : Tab8 w t) (hk : k ≤ 256) (hs : s < 256) :
    Calls Try.prog 81 #[.pointer (some ⟨t, 0, none⟩), .int .i64 (k : Int), .int .i64 (s : Int)] w fun e w' => e = .returned (.int .u8 (wg k s : Nat)) ∧ ∃ q, w' = w.drewN q := by
  go_enter Try.func81, Try.ntmps81
  go_wp2
  have HT : Hid (Tab8 w t ∧ k ≤ 256 ∧ s < 256) := ⟨ht, hk, hs⟩
  clear ht hk hs
  go_loopw [7, 10] (fun p i wr => ∃ x q : Nat, x ≤ k ∧ i = .int .i64 x ∧ p = .int .u8 (wg x s : Nat) ∧ Hid (wr = w.drewN q)) (fun _ i _ => k - (intOf i).toNat)
  case atStart => exact ⟨0, 0, Nat.zero_le _, rfl, rfl, rfl⟩
  case round =>
    obtain ⟨x, q, hx, rfl, rfl, hw⟩ := hrel
    by_cases hlt : x < k
    · have ib : ((x : Nat) : Int) < (k : Int) := Int.ofNat_lt.2 hlt
      have W1 := wrap_lt8 (j := x) (b := k) hlt (by have := HT.out; omega)
      have HX : Hid (x < k) := hlt
      by_cases hxs : x = s
      · subst hxs
        have HE : Hid (wg x x = wg (x + 1) x) := (wg_skip x).symm
        generalize hP : wg x x = P0 at HE ⊢
        clear hlt hx hP
        go_wp2
        go_roundw
        case rel => exact ⟨x + 1, q, HX.out, by first | rfl | (rw [W1]; rfl), by rw [HE.out], hw⟩
        case measure => first | exact meas_lt8 HX.out | (rw [W1]; exact meas_lt8 HX.out)
      · have hI : ¬ ((x : Nat) : Int) = ((s : Nat) : Int) := fun e => hxs (Int.ofNat.inj e)
        have hT := HT.out
        have v1 := u8_small (r := s) hT.2.2
        have v2 := u8_small (r := x) (by omega)
        have v3 := u8_xor_nat s x hT.2.2 (by omega)
        have c5 := tmul_nat t (wg x s) (s ^^^ x) wr (by rw [hw.out]; exact hT.1.drewN q) (wg_lt _ _) (xor_lt8 hT.2.2 (by omega))
        have HE : Hid (fm 285 (wg x s) (s ^^^ x) = wg (x + 1) s) := (wg_step hxs).symm
        generalize fm 285 (wg x s) (s ^^^ x) = P1 at c5 HE
        generalize s ^^^ x = z at v3 c5
        generalize hP : wg x s = P0 at c5 ⊢
        clear hlt hx hP hT hxs
        go_wp2_with (go_at_call 33; (with_reducible refine c5.mono ?_); rintro e w8 ⟨rfl, q8, hw8⟩; have H8 : Hid (w8 = wr.drewN q8) := hw8; clear hw8 c5)
        go_roundw
        case rel => exact ⟨x + 1, q + q8, HX.out, by first | rfl | (rw [W1]; rfl), by rw [HE.out], by show _ = _; rw [H8.out, hw.out, World.drewN_drewN]⟩
        case measure => first | exact meas_lt8 HX.out | (rw [W1]; exact meas_lt8 HX.out)
    · have hxk : x = k := Nat.le_antisymm hx (Nat.le_of_not_lt hlt)
      subst hxk
      go_wp2
      go_ret
      exact ⟨rfl, q, hw.out⟩
set_option maxHeartbeats 2000000 in
set_option maxRecDepth 100000 in
theorem check11_yes (f : Int) (k m : Nat) (w : World) (hf : f = 0 ∨ f = 1) (h1 : 1 ≤ k) (h2 : 1 ≤ m) (h3 : k + m ≤ 256) :
    Calls Try.prog 54 #[.int .i64 f, .int .i64 (k : Int), .int .i64 (m : Int)] w fun e w' => e = .returned (.int .i64 0) ∧ w' = w := by
  have k1 : decide ((k : Int) < 1) = false := by simp; omega
  have k2 : decide ((m : Int) < 1) = false := by simp; omega
  have W0 := wrap_256 (m := m) (k := k) h1 (by omega)
  have k3 : decide (256 - (k : Int) < (m : Int)) = false := by simp; omega
  clear h1 h2 h3
  rcases hf with rfl | rfl
  · go_enter Try.func54, Try.ntmps54
    go_wp2
    go_ret
    exact ⟨rfl, rfl⟩
  · go_enter Try.func54, Try.ntmps54
    go_wp2
    go_ret
    exact ⟨rfl, rfl⟩
end Go.Proofs.Ytljfpgebekpjgaa
namespace Go.Proofs.Ytljfpgebekpjgaa
open Go.RowKit Gf2
set_option linter.unusedVariables false

/-- Lagrange's factors. -/
def lgr (k : Nat) : Nat → Nat → Nat := fun j i => td (wg k (k + j)) (fm 285 (wg k i) ((k + j) ^^^ i))
theorem lgr_lt (k j i : Nat) : lgr k j i < 256 := td_lt _ _
theorem fill_step {F : Nat → Nat} {c i : Nat} : (if i = c then F c else if i < c then F i else 0) = if i < c + 1 then F i else 0 := by
  by_cases e : i = c
  · rw [if_pos e, if_pos (by omega), e]
  · rw [if_neg e]
    by_cases e2 : i < c
    · rw [if_pos e2, if_pos (by omega)]
    · rw [if_neg e2, if_neg (by omega)]
set_option maxHeartbeats 4000000 in
set_option maxRecDepth 100000 in
theorem lagrange11 (k m : Nat) (w : World) (h1 : 1 ≤ k) (h2 : 1 ≤ m) (h3 : k + m ≤ 256) :
    Calls Try.prog 56 #[.int .i64 (k : Int), .int .i64 (m : Int)] w fun e w' => ∃ v, e = .returned v ∧ Ans w w' v m k (lgr k) := by
  have c3 := new_tab w
  have W0 : wrap64 ((k : Int) + (m : Int)) = ((k + m : Nat) : Int) := add_small (by omega) (by omega)
  obtain ⟨L, hL⟩ : ∃ L, Hid (L = k + m) := ⟨_, rfl⟩
  rw [← hL.out] at W0
  have hm8 := make_u8 L (by have := hL.out; omega)
  have hmk := make_rows m (by omega)
  have hmr := make_u8 k (by omega)
  have HN : Hid (1 ≤ k ∧ 1 ≤ m ∧ k + m ≤ 256 ∧ L = k + m) := ⟨h1, h2, h3, hL.out⟩
  clear h1 h2 h3
  go_enter Try.func56, Try.ntmps56
  go_wp2_with (go_at_call 31; (with_reducible refine c3.mono ?_); rintro e w9 ⟨rfl, w0, hw9, hs0, ht, hb0⟩; subst hw9; clear c3; have HT : Hid (w0.heap.size = w.heap.size + 1 ∧ Tab8 w0 w.heap.size ∧ Below w.heap.size w w0) := ⟨hs0, ht, hb0⟩; clear hs0 ht hb0)
  have HR0 : Hid (Rw (w0.alloc (.cells (madeCells #[.int .u8 0] L) 5)) w0.heap.size L (fun _ => 0)) := made_rw L (by have := HN.out; omega) w0
  clear hm8 W0
  go_loopw [18] (fun i wr => ∃ x : Nat, x ≤ L ∧ i = .int .i64 x ∧ Rw wr w0.heap.size L (fun s => if s < x then wg k s else 0) ∧ Below w0.heap.size w0 wr) (fun i _ => L - (intOf i).toNat)
  case atStart => exact ⟨0, Nat.zero_le _, rfl, HR0.out.congr (fun i _ => (if_neg (Nat.not_lt_zero _)).symm), (Below.refl _ _).alloc (Nat.le_refl _) _⟩
  case round =>
    obtain ⟨x, hx, rfl, hrw, hb⟩ := hrel
    clear HR0
    by_cases hlt : x < L
    · have ib : ((x : Nat) : Int) < (L : Int) := Int.ofNat_lt.2 hlt
      have W1 := wrap_lt8 (j := x) (b := L) hlt (by have := HN.out; omega)
      have c5 := gapsOf11 w.heap.size k x wr (HT.out.2.1.of_heap (hb.block _ (by have := HT.out.1; omega))) (by have := HN.out; omega) (by have := HN.out; omega)
      have HE : Hid (∀ q y, y = wr.drewN q → (∃ z : Nat, y.cell? ⟨w0.heap.size, x, none⟩ = some (.int .u8 (z : Nat))) ∧ y.frozen? ⟨w0.heap.size, x, none⟩ = false ∧ Rw (y.setCell ⟨w0.heap.size, x, none⟩ (.int .u8 (wg k x : Nat))) w0.heap.size L (fun s => if s < x + 1 then wg k s else 0) ∧ Below w0.heap.size w0 (y.setCell ⟨w0.heap.size, x, none⟩ (.int .u8 (wg k x : Nat)))) := fun q y hy => by
        have r1 := hrw.drewN q
        have b1 := below_drewN hb q
        rw [← hy] at r1 b1
        refine ⟨⟨_, r1.2.2.cell hlt⟩, r1.2.2.frozen x, (r1.set x (wg k x) (wg_lt _ _)).congr (fun i _ => ?_), b1.setCell (Nat.le_refl _) _⟩
        by_cases e : i = x
        · rw [if_pos e, if_pos (by omega), e]
        · rw [if_neg e]
          by_cases e2 : i < x
          · rw [if_pos e2, if_pos (by omega)]
          · rw [if_neg e2, if_neg (by omega)]
      have HX : Hid (x < L) := hlt
      generalize wg k x = P0 at c5 HE
      clear hrw hb hlt hx hmk hmr
      go_wp2_with (go_at_call 81; (with_reducible refine c5.mono ?_); rintro e w8 ⟨rfl, q8, hw8⟩; obtain ⟨⟨z5, q5⟩, q6, q7, q7b⟩ := HE.out q8 w8 hw8; have HE2 : Hid (_ ∧ _) := ⟨q7, q7b⟩; clear hw8 q7 q7b HE c5)
      go_roundw
      case rel => exact ⟨x + 1, HX.out, by first | rfl | (rw [W1]; rfl), HE2.out.1, HE2.out.2⟩
      case measure => first | exact meas_lt8 HX.out | (rw [W1]; exact meas_lt8 HX.out)
    · have hxL : x = L := Nat.le_antisymm hx (Nat.le_of_not_lt hlt)
      subst hxL
      have HG : Hid (Rw wr w0.heap.size x (fun s => wg k s) ∧ Below w0.heap.size w0 wr) := ⟨hrw.congr (fun i hi => if_pos hi), hb⟩
      clear hrw hb hlt hx
      go_wp2
      obtain ⟨w3, hw3⟩ : ∃ w3, Hid (wr = w3) := ⟨_, rfl⟩
      have HZ : Hid (Twn w3 (wr.alloc (.cells (madeCells #[.slice none 0 0] m) 28)) m (fun _ => k) (lgr k) 0) := by rw [hw3.out]; exact Twn.start w3 m _ _
      rw [hw3.out] at HZ HG
      rw [hw3.out]
      clear hw3 hmk
      go_loopw [33] (fun j wr => ∃ y : Nat, y ≤ m ∧ j = .int .i64 y ∧ Twn w3 wr m (fun _ => k) (lgr k) y) (fun j _ => m - (intOf j).toNat)
      case atStart => exact ⟨0, Nat.zero_le _, rfl, HZ.out⟩
      case round =>
        obtain ⟨y, hy, rfl, hT⟩ := hrel
        clear HZ
        by_cases hlt : y < m
        · have ib : ((y : Nat) : Int) < (m : Int) := Int.ofNat_lt.2 hlt
          have W1 := wrap_lt8 (j := y) (b := m) hlt (by have := HN.out; omega)
          have ha : (wr.alloc (.cells (madeCells #[.int .u8 0] k) 5)).rowIs w3.heap.size 28 m (fun i => if i < y then .slice (some ⟨w3.heap.size + 1 + i, 0, none⟩) k k else .slice none 0 0) := hT.list.of_block (Below.heap_alloc wr _ _ (by have := hT.sz; omega))
          have q2 := ha.cell hlt
          rw [if_neg (Nat.lt_irrefl _)] at q2
          have q3 := ha.frozen y
          have HM : Hid _ := hT.mid (by have := HN.out; omega) hlt
          have HS : Hid (wr.heap.size = w3.heap.size + 1 + y) := hT.sz
          have HL : Hid (y < m) := hlt
          obtain ⟨wv, hwv⟩ : ∃ wv, Hid (twi w3 wr y k = wv) := ⟨_, rfl⟩
          rw [hwv.out] at HM
          obtain ⟨sz, hsz⟩ : ∃ sz, Hid (wr.heap.size = sz) := ⟨_, rfl⟩
          rw [hsz.out] at HM HS
          have q4 : ((wr.alloc (.cells (madeCells #[.int .u8 0] k) 5)).setCell ⟨w3.heap.size, y, none⟩ (.slice (some ⟨sz, 0, none⟩) k k)).cell? ⟨w3.heap.size, y, none⟩ = some (.slice (some ⟨sz, 0, none⟩) k k) := by
            have e := hwv.out
            unfold twi at e
            rw [hsz.out] at e
            rw [e]
            have := HM.out.2.1.cell hlt
            rw [if_pos (Nat.lt_succ_self y), ← HS.out] at this
            exact this
          rw [← hsz.out] at q4
          clear hT ha hlt hy
          go_wp2
          rw [hsz.out]
          clear q2 q3 q4
          go_loopw [46] (fun j w4 => ∃ c : Nat, c ≤ k ∧ j = .int .i64 c ∧ Only sz wv w4 ∧ Rw w4 sz k (fun t => if t < c then lgr k y t else 0)) (fun j _ => k - (intOf j).toNat)
          case atStart =>
            have e := hwv.out
            unfold twi at e
            rw [hsz.out] at e
            rw [e]
            exact ⟨0, Nat.zero_le _, rfl, Only.refl _ _, HM.out.2.2.2.1.congr (fun i _ => (if_neg (Nat.not_lt_zero _)).symm)⟩
          case round =>
            obtain ⟨c, hc, rfl, ho, hrw⟩ := hrel
            by_cases hct : c < k
            · have hN := HN.out
              have hbz : Below w3.heap.size w3 wr := HM.out.2.2.2.2.trans (ho.below (by have := HS.out; omega))
              have hg3 : w0.heap.size < w3.heap.size := HG.out.1.lt
              have hgr : Rw wr w0.heap.size x (fun s => wg k s) := HG.out.1.of_block (hbz.block _ hg3)
              have q1 : wr.cell? ⟨w3.heap.size, y, none⟩ = some (.slice (some ⟨sz, 0, none⟩) k k) := by
                have := (HM.out.2.1.of_block (ho.2.2 _ (by have := HS.out; omega))).cell HL.out
                rw [if_pos (Nat.lt_succ_self y), ← HS.out] at this
                exact this
              have q2 : wr.cell? ⟨w0.heap.size, k + y, none⟩ = some (.int .u8 (wg k (k + y) : Nat)) := hgr.2.2.cell (i := k + y) (by have := HL.out; omega)
              have q3 : wr.cell? ⟨w0.heap.size, c, none⟩ = some (.int .u8 (wg k c : Nat)) := hgr.2.2.cell (i := c) (by omega)
              have q7 := hrw.2.2.cell hct
              have q8 := hrw.2.2.frozen c
              obtain ⟨F0, hF0⟩ : ∃ F0 : Nat → Nat, Hid (lgr k y = F0) := ⟨_, rfl⟩
              have e6 : Hid (td (wg k (k + y)) (fm 285 (wg k c) ((k + y) ^^^ c)) = F0 c ∧ F0 c < 256) := by
                constructor
                · rw [← hF0.out]; unfold lgr; exact Eq.refl _
                · rw [← hF0.out]; exact lgr_lt _ _ _
              rw [hF0.out] at hrw
              have hset := hrw.set c (F0 c) e6.out.2
              have HE : Hid (∀ q, Only sz wv ((wr.setCell ⟨sz, c, none⟩ (.int .u8 (F0 c : Nat))).drewN q) ∧ Rw ((wr.setCell ⟨sz, c, none⟩ (.int .u8 (F0 c : Nat))).drewN q) sz k (fun t => if t < c + 1 then F0 t else 0)) := fun q => ⟨(ho.trans ((Only.refl sz wr).setCell c _)).drewN q, (hset.congr (fun i _ => fill_step)).drewN q⟩
              have ht0 : Tab8 wr w.heap.size := HT.out.2.1.of_heap ((hbz.block _ (by have := HT.out.1; omega)).trans (HG.out.2.block _ (by have := HT.out.1; omega)))
              have htb : ∀ q, Tab8 (wr.drewN q) w.heap.size := fun q => ht0.of_heap rfl
              have c5 := tmul_nat w.heap.size (wg k c) ((k + y) ^^^ c) wr.drew (ht0.of_heap rfl) (wg_lt _ _) (xor_lt8 (by have := HL.out; omega) (by omega))
              have c6 := fun q => tdiv_all w.heap.size (wg k (k + y)) (fm 285 (wg k c) ((k + y) ^^^ c)) (wr.drewN q) (htb q) (wg_lt _ _) (fm8_lt _ _)
              obtain ⟨x1, hx1⟩ : ∃ x1, Hid (x1 = k + y) := ⟨_, rfl⟩
              have v1 : IntKind.i64.wrap ((k : Int) + (y : Int)) = (x1 : Int) := by have := HL.out; have := hx1.out; unfold IntKind.wrap; simp [IntKind.bits, IntKind.signed]; omega
              have v2 : IntKind.u8.wrap (x1 : Int) = (x1 : Int) := u8_small (r := x1) (by rw [hx1.out]; have := HL.out; omega)
              have v3 := u8_small (r := c) (by omega)
              have v4 := u8_xor_nat x1 c (by rw [hx1.out]; have := HL.out; omega) (by omega)
              rw [show x1 ^^^ c = (k + y) ^^^ c by rw [hx1.out]] at v4
              have ikx : (x1 : Int) < (x : Int) := by have := HL.out; have := hx1.out; omega
              rw [← hx1.out] at q2
              have icx : ((c : Nat) : Int) < (x : Int) := by omega
              have jb : ((c : Nat) : Int) < (k : Int) := Int.ofNat_lt.2 hct
              have W2 := wrap_lt8 (j := c) (b := k) hct (by omega)
              have HX : Hid (c < k) := hct
              rw [e6.out.1] at c6
              generalize F0 c = R0 at c6 HE
              generalize te (fm 285 (wg k c) ((k + y) ^^^ c)) = E0 at c6
              generalize fm 285 (wg k c) ((k + y) ^^^ c) = P1 at c5 c6
              generalize (k + y) ^^^ c = z1 at v4 c5
              rw [← hx1.out] at c6
              generalize wg k x1 = A1 at q2 c6
              generalize wg k c = A2 at q3 c5
              clear hN hbz hg3 hgr htb ht0 hct hc ho hrw hset e6
              have hq7 : ∃ z, wr.cell? ⟨sz, c, none⟩ = some (.int .u8 z) := ⟨_, q7⟩
              clear q7
              obtain ⟨z7, q7⟩ := hq7
              go_wp2
              refine region_planX (fun w' => w'.cell? ⟨w3.heap.size, y, none⟩ = some (.slice (some ⟨sz, 0, none⟩) k k) ∧ w'.cell? ⟨w0.heap.size, x1, none⟩ = some (.int .u8 (A1 : Nat)) ∧ w'.cell? ⟨w0.heap.size, c, none⟩ = some (.int .u8 (A2 : Nat))) 29 [28] [24, 0, 3] 82 ⟨q1, q2, q3⟩ (by kernel_rfl) (by kernel_rfl) (fun _ a d v _ h => by cases d <;> exact h) ?_
              refine planT_step ?A1x0 rfl (fun w' hS => ?s1x0) rfl (fun K hK => ?n1x0)
              case s1x0 =>
                obtain ⟨g1, g2, g3⟩ := hS
                simp only [List.take_succ_cons, List.take_zero]
                repeat still_step
                exact rfl
              case n1x0 =>
              go_simp
              go_wp2_with (go_at_call 33; ((with_reducible refine c5.mono ?_); rintro e w9 ⟨rfl, q, rfl⟩))
              refine hK _ _ ⟨q1, q2, q3⟩ ?_
              clear hK K c5
              refine planT_step ?A2x0 rfl (fun w' hS => ?s2x0) rfl (fun K hK => ?n2x0)
              case s2x0 =>
                simp only [List.take_zero]
                exact rfl
              case n2x0 =>
              go_simp
              go_wp2_with (go_at_call 62; ((with_reducible refine (c6 _).mono ?_); rintro e w9 ⟨rfl, q', rfl⟩))
              refine hK _ _ ⟨q1, q2, q3⟩ ?_
              clear hK K c6
              refine planT_last ?A3x0 rfl (fun w' hS => ?s3x0) rfl ?n3x0
              case s3x0 =>
                simp only [List.take_succ_cons, List.take_zero]
                repeat still_step
                exact rfl
              case n3x0 =>
              simp only [List.drop_succ_cons, List.drop_zero]
              go_wp2
              go_roundw
              case rel => first | exact ⟨c + 1, HX.out, by first | rfl | (rw [W2]; rfl), (HE.out _).1, by rw [hF0.out]; exact (HE.out _).2⟩ | (rw [W2]; (repeat apply Exists.intro); exact ⟨⟨c + 1, HX.out, rfl, (HE.out _).1, by rw [hF0.out]; exact (HE.out _).2⟩, rfl⟩)
              case measure => first | exact meas_lt8 HX.out | (rw [W2]; exact meas_lt8 HX.out)
            · have hck : c = k := Nat.le_antisymm hc (Nat.le_of_not_lt hct)
              subst hck
              have HT2 : Hid (Twn w3 wr m (fun _ => c) (lgr c) (y + 1)) := by
                obtain ⟨m1, m2, m3, m4, m5⟩ := HM.out
                exact Twn.done (wr := wr) m1 m2 m3 m5 HS.out ho (hrw.congr (fun i hi => if_pos hi))
              clear hc hct ho hrw
              go_wp2
              go_roundw
              case rel => exact ⟨y + 1, HL.out, by first | rfl | (rw [W1]; rfl), HT2.out⟩
              case measure => first | exact meas_lt8 HL.out | (rw [W1]; exact meas_lt8 HL.out)
        · have hym : y = m := Nat.le_antisymm hy (Nat.le_of_not_lt hlt)
          subst hym
          have HA : Hid (Ans w wr (.slice (some ⟨w3.heap.size, 0, none⟩) y y) y k (lgr k)) := by
            have h1 := HT.out
            have h2 := HG.out.2
            have h3 : Below w.heap.size w w3 := h1.2.2.trans (h2.mono h1.2.2.size)
            exact (hT.cs (by have := HN.out; unfold big; omega)).ans h3.size (h3.trans (hT.bel.mono h3.size))
          clear hT hy hlt
          go_wp2
          go_ret
          exact ⟨_, rfl, HA.out⟩
end Go.Proofs.Ytljfpgebekpjgaa
namespace Go.Proofs.Ytljfpgebekpjgaa
open Go.RowKit Gf2
set_option linter.unusedVariables false

/-- a new row. -/
theorem new_rw {W : World} {cs : Array Value} {N : Nat} {F : Nat → Nat} (hN : cs.size = N) (h2 : N ≤ 1000) (hF : ∀ i, i < N → F i < 256) (hc : ∀ i, i < N → cs[i]? = some (.int .u8 (F i : Nat))) : Rw (W.alloc (.cells cs 5)) W.heap.size N F :=
  ⟨by unfold big; omega, hF, ⟨cs, heap_alloc_new _ _, hN, hc⟩⟩
end Go.Proofs.Ytljfpgebekpjgaa
