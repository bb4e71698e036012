import Derived.Test.YtefolifecbhgoaaGreatMbbe
import Derived.Test.YtefolifecbhgoaaGreatMbal
import Derived.Test.YtefolifecbhgoaaGreatMbbb
namespace Go.Proofs.YtefolifecbhgoaaGreat
open Go.RowKit Gf2
set_option linter.unusedVariables false

set_option maxHeartbeats 2000000 in
set_option maxRecDepth 100000 in
theorem ident11 (n : Nat) (w : World) (h1 : 1 ≤ n) (h2 : n ≤ 256) :
    Calls Tryz.prog 146 #[.int .i64 (n : Int)] w fun e w' => e = .returned (.tuple #[.slice (some ⟨w.heap.size, 0, none⟩) n n, .int .i64 0]) ∧ Ans w w' (.slice (some ⟨w.heap.size, 0, none⟩) n n) n n idm := by
  have c1 := fun x => within10_yes (n : Int) 256 x (by omega) (by omega)
  have c2 := fun x => zeros10_any n n x (by omega) (by omega)
  go_enter Tryz.func146, Tryz.ntmps146
  go_wp2_with (first | (go_at_call 91; (with_reducible refine (c1 _).mono ?_); rintro e w9 ⟨rfl, hw9⟩; have hw9 := hw9.symm; subst hw9) | (go_at_call 92; (with_reducible refine (c2 _).mono ?_); rintro e w1 ⟨rfl, hz⟩))
  clear c1 c2
  have hC := hz.cs (by unfold big; omega) (by unfold big; omega)
  have hb := hz.bel
  clear hz
  generalize hB : (fun i => w.heap.size + 1 + i) = B at hC
  clear hB
  go_loopw [14] (fun i wr => ∃ k : Nat, k ≤ n ∧ i = .int .i64 k ∧ Cs w.heap.size w1.heap.size wr (.slice (some ⟨w.heap.size, 0, none⟩) n n) n (fun _ => n) (fun _ => n) B (fun i j => if i < k ∧ i = j then 1 else 0) ∧ Below w.heap.size w wr) (fun i _ => n - (intOf i).toNat)
  case atStart => exact ⟨0, Nat.zero_le _, rfl, hC.congr (fun i _ j _ => (if_neg (by omega)).symm), hb⟩
  case round =>
    obtain ⟨k, hk, rfl, hC', hb'⟩ := hrel
    clear hC hb
    by_cases hlt : k < n
    · have q1 := hC'.at_ hlt
      have q2 := hC'.cell_ hlt (j := k) hlt
      have q3 := hC'.froz hlt k
      have ib : ((k : Nat) : Int) < (n : Int) := by omega
      have W1 := wrap_succ8 (j := k) (by unfold big; omega)
      have HZ : Hid (Cs w.heap.size w1.heap.size (wr.setCell ⟨B k, k, none⟩ (.int .u8 ((1 : Nat) : Int))) (.slice (some ⟨w.heap.size, 0, none⟩) n n) n (fun _ => n) (fun _ => n) B (fun i j => if i < k + 1 ∧ i = j then 1 else 0) ∧ Below w.heap.size w (wr.setCell ⟨B k, k, none⟩ (.int .u8 ((1 : Nat) : Int)))) :=
        ⟨(hC'.set hlt k 1 (by decide)).congr (fun i _ j _ => by
          show (if i = k ∧ j = k then 1 else if i < k ∧ i = j then 1 else 0) = (if i < k + 1 ∧ i = j then 1 else 0)
          by_cases e : i = k ∧ j = k
          · rw [if_pos e, if_pos (by omega)]
          · rw [if_neg e]
            by_cases e2 : i < k ∧ i = j
            · rw [if_pos e2, if_pos (by omega)]
            · rw [if_neg e2, if_neg (by omega)]), hC'.bel hb' hlt k _⟩
      clear hC' hb'
      go_wp2
      go_roundw
      case rel => exact ⟨k + 1, hlt, by first | rfl | (rw [W1]; rfl), HZ.out.1, HZ.out.2⟩
      case measure => first | exact meas_lt8 hlt | (rw [W1]; exact meas_lt8 hlt)
    · have hkn : k = n := by omega
      subst hkn
      go_wp2
      go_ret2
      exact ⟨rfl, (hC'.ans (Nat.le_refl _) hb').congr (fun i hi j hj => by
        unfold idm
        by_cases e : i = j
        · rw [if_pos ⟨hi, e⟩, if_pos e]
        · rw [if_neg (fun h => e h.2), if_neg e])⟩

theorem app_lists {W : World} {v : Value} {g n m k : Nat} {S T : Nat → Nat → Nat} (h : Lb W (.slice (some ⟨g, 0, none⟩) n n) n (fun _ => k) S) (hv : Lb W v m (fun _ => k) T) (h0 : 0 < n) (hm : 0 < m) (hnm : n + m ≤ 1000) :
    ∃ v' w', (Builtin.append_ #[33, 33] 33 #[.slice (some ⟨g, 0, none⟩) n n, v]).run Tryz.prog W = .ok v' w' ∧ Lb w' v' (n + m) (fun _ => k) (fun i j => if i < n then S i j else T (i - n) j) ∧ Below W.heap.size W w' := by
  obtain ⟨V, ⟨hnb, a, cap, e, -, -, h4⟩, hV⟩ := h
  obtain ⟨X, ⟨hmb, a', cap', rfl, -, -, k4⟩, hX⟩ := hv
  obtain ⟨b, o, eb, hbl, hc⟩ := h4 h0
  obtain ⟨b', o', rfl, hbl', hc'⟩ := k4 hm
  cases e
  cases eb
  obtain ⟨iL, k1, k2, k3, k5⟩ := info_l9
  obtain ⟨v', w', hrun, own, gr⟩ := run_append_arg_grows (P := Tryz.prog) W 33 33 27 iL (.slice Option.none 0 0) 1 24 Tryz.underlying33 k1 k2 k3 k5 rfl (by decide)
    ⟨g, 0, Option.none⟩ n n (lv9 V n) (by rw [lv9_len, Nat.mul_one]) (fun j u hu => by
      have hj : j < n := by
        apply Nat.lt_of_not_le
        intro hx
        rw [List.getElem?_eq_none (by rw [lv9_len]; exact hx)] at hu
        cases hu
      rw [lv9_get _ hj] at hu
      cases hu
      rw [Addr.add_lit]
      exact hc j hj)
    ⟨b', o', Option.none⟩ m cap' (lv9 X m) (by rw [lv9_len, Nat.mul_one]) (fun j u hu => by
      have hj : j < m := by
        apply Nat.lt_of_not_le
        intro hx
        rw [List.getElem?_eq_none (by rw [lv9_len]; exact hx)] at hu
        cases hu
      rw [lv9_get _ hj] at hu
      cases hu
      rw [Addr.add_lit]
      exact hc' j hj)
    (by omega) (by unfold maxLen; omega) (by omega)
  have hb : Below W.heap.size W w' := ⟨gr.os, gr.tape, gr.output, gr.size, fun x hx => gr.block x hx (fun e => by cases e)⟩
  rw [lv9_snoc] at own
  have hG : Gl w' W.heap.size v' (n + m) (fun r => if r < n then V r else X (r - n)) := own
  obtain ⟨a2, c2, rfl, f1, f2, f3⟩ := hG.form
  refine ⟨_, w', hrun, ⟨fun r => if r < n then V r else X (r - n), ⟨by unfold big; omega, a2, c2, rfl, f1, by unfold big; unfold maxLen at f2; omega, fun _ => ?_⟩, fun i hi => ?_⟩, hb⟩
  · obtain ⟨g2, e2, -, hg2, -, hcell⟩ := f3 (by omega)
    exact ⟨g2, 0, e2, ⟨hg2, fun x => x⟩, fun i hi => by rw [Nat.zero_add]; exact hcell i hi⟩
  · by_cases hin : i < n
    · simp only [if_pos hin]
      exact (hV i hin).ke (ke_below hb _)
    · simp only [if_neg hin]
      exact (hX (i - n) (by omega)).ke (ke_below hb _)

def par11 (f : Int) (k : Nat) : Nat → Nat → Nat := if f = 1 then cau k else lgr k
def gen11 (f : Int) (k : Nat) : Nat → Nat → Nat := fun i j => if i < k then idm i j else par11 f k (i - k) j
set_option maxHeartbeats 2000000 in
set_option maxRecDepth 100000 in
theorem parity11_yes (f : Int) (k m : Nat) (w : World) (hf : f = 0 ∨ f = 1) (h1 : 1 ≤ k) (h2 : 1 ≤ m) (h3 : k + m ≤ 256) :
    Calls Tryz.prog 30 #[.int .i64 f, .int .i64 (k : Int), .int .i64 (m : Int)] w fun e w' => ∃ v, e = .returned (.tuple #[v, .int .i64 0]) ∧ Ans w w' v m k (par11 f k) := by
  have c1 := check11_yes f k m w hf h1 h2 h3
  rcases hf with rfl | rfl
  · have c2 := lagrange11 k m w h1 h2 h3
    have e0 : par11 0 k = lgr k := if_neg (by decide)
    rw [e0]
    clear h1 h2 h3 e0
    go_enter Tryz.func30, Tryz.ntmps30
    go_wp2_with (first | (go_at_call 50; (with_reducible refine c1.mono ?_); rintro e w9 ⟨rfl, hw9⟩; have hw9 := hw9.symm; subst hw9; clear c1) | (go_at_call 52; (with_reducible refine c2.mono ?_); rintro e w1 ⟨v, rfl, hA⟩; clear c2; have HA : Hid _ := hA; clear hA))
    go_ret2
    exact ⟨_, rfl, HA.out⟩
  · have c2 := cauchy10_yes m k w h2 h1 (by omega)
    have e0 : par11 1 k = cau k := if_pos rfl
    rw [e0]
    clear h1 h2 h3 e0
    go_enter Tryz.func30, Tryz.ntmps30
    go_wp2_with (first | (go_at_call 50; (with_reducible refine c1.mono ?_); rintro e w9 ⟨rfl, hw9⟩; have hw9 := hw9.symm; subst hw9; clear c1) | (go_at_call 51; (with_reducible refine c2.mono ?_); rintro e w1 ⟨v, rfl, hA⟩; clear c2; have HA : Hid _ := hA; clear hA))
    go_ret2
    exact ⟨_, rfl, HA.out⟩
structure Gn (w w' : World) (v : Value) (n k : Nat) (S : Nat → Nat → Nat) : Prop where
  lb : Lb w' v n (fun _ => k) S
  bel : Below w.heap.size w w'
set_option maxHeartbeats 2000000 in
set_option maxRecDepth 100000 in
theorem generator11_yes (f : Int) (k m : Nat) (w : World) (hf : f = 0 ∨ f = 1) (h1 : 1 ≤ k) (h2 : 1 ≤ m) (h3 : k + m ≤ 256) :
    Calls Tryz.prog 136 #[.int .i64 f, .int .i64 (k : Int), .int .i64 (m : Int)] w fun e w' => ∃ v, e = .returned (.tuple #[v, .int .i64 0]) ∧ Gn w w' v (k + m) k (gen11 f k) := by
  have c1 := parity11_yes f k m w hf h1 h2 h3
  have c2 := fun x => ident11 k x h1 (by omega)
  have HG : Hid (∀ w1 v w2, Ans w w1 v m k (par11 f k) → Ans w1 w2 (.slice (some ⟨w1.heap.size, 0, none⟩) k k) k k idm → ∃ v' w', (Builtin.append_ #[33, 33] 33 #[.slice (some ⟨w1.heap.size, 0, none⟩) k k, v]).run Tryz.prog w2 = .ok v' w' ∧ Gn w w' v' (k + m) k (gen11 f k)) := fun w1 v w2 hA hI => by
    obtain ⟨v', w', a1, a2, a3⟩ := app_lists hI.lb (hA.lb.below hI.2) (by omega) (by omega) (by omega)
    have hb2 := hA.2.trans (hI.2.mono hA.2.size)
    exact ⟨v', w', a1, a2, hb2.trans (a3.mono hb2.size)⟩
  clear hf h1 h2 h3
  go_enter Tryz.func136, Tryz.ntmps136
  go_wp2_with (first
    | (go_at_call 30; (with_reducible refine c1.mono ?_); rintro e w1 ⟨v, rfl, hA⟩; clear c1)
    | (go_at_call 146; (with_reducible refine (c2 _).mono ?_); rintro e w2 ⟨rfl, hI⟩; obtain ⟨v5, w5, hrun, hG⟩ := HG.out w1 v w2 hA hI; clear c2 hA hI; have HF : Hid _ := hG; clear hG)
    | (at_builtin; refine Lib.wpList_append_run _ rfl _ _ _ _ rfl _ _ rfl rfl _ _ hrun ?_))
  go_ret2
  exact ⟨_, rfl, HF.out⟩
set_option maxHeartbeats 2000000 in
set_option maxRecDepth 100000 in
theorem rising11_yes (u : Value) (n L : Nat) (R : Nat → Nat) (w : World) (h : Qi w u L (fun i => (R i : Int))) (hL : L ≤ 1000) (hn : n ≤ 1000) (hR : ∀ i, i < L → R i < n) (up : ∀ i j, i < j → j < L → R i < R j) :
    Calls Tryz.prog 121 #[u, .int .i64 (n : Int)] w fun e w' => e = .returned (.bool true) ∧ w' = w := by
  obtain ⟨-, -, a, cap, rfl, -, -, h4⟩ := h
  go_enter Tryz.func121, Tryz.ntmps121
  go_wp2
  go_loopw [5, 10] (fun l i wr => ∃ x c : Nat, c ≤ L ∧ l = .int .i64 x ∧ i = .int .i64 c ∧ (∀ j, c ≤ j → j < L → x ≤ R j) ∧ wr = w) (fun _ i _ => L - (intOf i).toNat)
  case atStart => exact ⟨0, 0, Nat.zero_le _, rfl, rfl, fun _ _ _ => Nat.zero_le _, rfl⟩
  case round =>
    obtain ⟨x, c, hc, rfl, rfl, hx, hw⟩ := hrel
    have hw := hw.symm
    subst hw
    by_cases hct : c < L
    · obtain ⟨b, o, rfl, -, z1⟩ := h4 (by omega)
      have q1 := z1 c hct
      have ib : ((c : Nat) : Int) < (L : Int) := Int.ofNat_lt.2 hct
      have W1 := wrap_lt8 hct hL
      have W2 := wrap_lt8 (hR c hct) hn
      have k1 : ¬ R c < x := Nat.not_lt.2 (hx c (Nat.le_refl _) hct)
      have k2 : ¬ n ≤ R c := Nat.not_le.2 (hR c hct)
      have HD : Hid (c < L ∧ ∀ j, c + 1 ≤ j → j < L → R c + 1 ≤ R j) := ⟨hct, fun j h1 h2 => up c j (by omega) h2⟩
      generalize R c = rc at q1 k1 k2 W2 HD
      clear z1 hct hx hc hR up h4 hL hn
      go_wp2
      go_roundw
      case rel => exact ⟨rc + 1, c + 1, HD.out.1, by first | rfl | (rw [W2]; rfl), by first | rfl | (rw [W1]; rfl), HD.out.2, by first | trivial | rfl⟩
      case measure => first | exact meas_lt8 HD.out.1 | (rw [W1]; exact meas_lt8 HD.out.1)
    · have hcn : c = L := by omega
      subst hcn
      clear h4 hR up hx hc hct hL hn
      go_wp2
      go_ret
      exact ⟨rfl, by first | trivial | rfl⟩
end Go.Proofs.YtefolifecbhgoaaGreat
namespace Go.Proofs.YtefolifecbhgoaaGreat
open Go.RowKit Gf2
set_option linter.unusedVariables false

theorem Qi.take {w : World} {a : Option Addr} {n cap k : Nat} {F : Nat → Int} (h : Qi w (.slice a n cap) n F) (hk : k ≤ n) : Qi w (.slice a k cap) k F := by
  obtain ⟨h1, -, a', cap', e, h5, h6, h4⟩ := h
  cases e
  refine ⟨by omega, trivial, _, _, rfl, by omega, h6, fun h0 => ?_⟩
  obtain ⟨b, o, e, hl, hc⟩ := h4 (by omega)
  exact ⟨b, o, e, hl, fun i hi => hc i (by omega)⟩
theorem Gn.congr {w w' : World} {v : Value} {n k : Nat} {S T : Nat → Nat → Nat} (h : Gn w w' v n k S) (e : ∀ i, i < n → ∀ j, j < k → S i j = T i j) : Gn w w' v n k T := ⟨h.lb.congr e, h.bel⟩
structure Dn (w w' : World) (v : Value) (n k : Nat) (X : Nat → Nat → Nat) : Prop where
  lb : Lb w' v n (fun _ => k) X
  bel : Below w.heap.size w w'
  an : ∃ B, Cs w.heap.size w'.heap.size w' v n (fun _ => k) (fun _ => k) B X
  ls : ∃ g F, v = .slice (some ⟨g, 0, none⟩) n n ∧ w'.rowIs g 27 n F
theorem decoder11_chain (f : Int) (k m L N : Nat) (R Q : Nat → Nat) (T : Nat → Nat → Nat) (hT : ∀ i, i < k + m → ∀ j, j < k → gen11 f k i j = T i j) (u v : Value) (w : World) (hf : f = 0 ∨ f = 1) (h1 : 1 ≤ k) (h2 : 1 ≤ m) (h3 : k + m ≤ 256)
    (pa : Option Addr) (pc : Nat) (hu : u = .slice pa L pc) (h : Qi w u L (fun i => (R i : Int))) (hv : Qi w v N (fun i => (Q i : Int))) (hL : k ≤ L) (hL2 : L ≤ 1000) (hN : 1 ≤ N) (hN2 : N ≤ 256)
    (hR : ∀ i, i < L → R i < k + m) (up : ∀ i j, i < j → j < L → R i < R j) (hQ : ∀ i, i < N → Q i < k + m) (upQ : ∀ i j, i < j → j < N → Q i < Q j)
    (hlt : ∀ i j, T i j < 256) (ht : (elm k (fun i j => T (R i) j) k).t = k) :
    Calls Tryz.prog 136 #[.int .i64 f, .int .i64 (k : Int), .int .i64 (m : Int)] w fun e w1 => ∃ g, e = .returned (.tuple #[g, .int .i64 0]) ∧
    Calls Tryz.prog 121 #[u, .int .i64 ((k + m : Nat) : Int)] w1 fun e w2 => e = .returned (.bool true) ∧ Calls Tryz.prog 121 #[v, .int .i64 ((k + m : Nat) : Int)] w2 fun e w3 => e = .returned (.bool true) ∧
    Calls Tryz.prog 137 #[g, .slice pa k pc] w3 fun e w4 => ∃ x, e = .returned (.tuple #[x, .int .i64 0]) ∧ Calls Tryz.prog 138 #[x] w4 fun e w5 => ∃ y, e = .returned (.tuple #[y, .int .i64 0]) ∧
    Calls Tryz.prog 137 #[g, v] w5 fun e w6 => ∃ z, e = .returned (.tuple #[z, .int .i64 0]) ∧ Calls Tryz.prog 139 #[z, y] w6 fun e w7 => ∃ d, e = .returned (.tuple #[d, .int .i64 0]) ∧
    Dn w w7 d N k (mm k (fun i j => T (Q i) j) (sol k (fun i j => T (R i) j) idm)) := by
  refine (generator11_yes f k m w hf h1 h2 h3).mono ?_
  rintro e w1 ⟨g, rfl, hG0⟩
  have hG := hG0.congr hT
  clear hG0
  refine ⟨g, rfl, (rising11_yes u (k + m) L R w1 (h.below hG.bel) hL2 (by omega) hR up).mono ?_⟩
  rintro e w2 ⟨rfl, hw⟩
  subst hw
  refine ⟨rfl, (rising11_yes v (k + m) N Q w2 (hv.below hG.bel) (by omega) (by omega) hQ upQ).mono ?_⟩
  rintro e w3 ⟨rfl, hw⟩
  subst hw
  subst hu
  refine ⟨rfl, (pick10_yes g _ (k + m) k k _ R w3 hG.lb ((h.below hG.bel).take hL) (by omega) (by omega) h1 (by omega) h1 (by omega) (fun i hi => hR i (by omega))).mono ?_⟩
  rintro e w4 ⟨x, rfl, hA⟩
  refine ⟨x, rfl, (invert10_yes x k _ w4 hA.lb h1 (by omega) (fun i j => hlt _ _) ht).mono ?_⟩
  rintro e w5 ⟨y, rfl, hB⟩
  have b5 := hA.2.trans (hB.2.mono hA.2.size)
  refine ⟨y, rfl, (pick10_yes g v (k + m) k N _ Q w5 (hG.lb.below b5) ((hv.below hG.bel).below b5) (by omega) (by omega) h1 (by omega) hN hN2 hQ).mono ?_⟩
  rintro e w6 ⟨z, rfl, hC⟩
  refine ⟨z, rfl, (mul10_full z y N k k _ _ w6 hC.lb (hB.lb.below hC.2) hN hN2 h1 (by omega) h1 (by omega)).mono ?_⟩
  rintro e w7 ⟨d, rfl, hD, hDl⟩
  have b6 := b5.trans (hC.2.mono b5.size)
  have b7 := b6.trans (hD.2.mono b6.size)
  obtain ⟨BD, hBD⟩ := hD.1
  exact ⟨d, rfl, hD.lb, hG.bel.trans (b7.mono hG.bel.size), ⟨BD, hBD.wide (Nat.le_trans hG.bel.size b6.size) (Nat.le_refl _) (Nat.le_refl _)⟩, hDl⟩
set_option maxHeartbeats 2000000 in
set_option maxRecDepth 100000 in
theorem decoder11_yes (f : Int) (k m L N : Nat) (R Q : Nat → Nat) (T : Nat → Nat → Nat) (hT : ∀ i, i < k + m → ∀ j, j < k → gen11 f k i j = T i j) (u v : Value) (w : World) (hf : f = 0 ∨ f = 1) (h1 : 1 ≤ k) (h2 : 1 ≤ m) (h3 : k + m ≤ 256)
    (h : Qi w u L (fun i => (R i : Int))) (hv : Qi w v N (fun i => (Q i : Int))) (hL : k ≤ L) (hL2 : L ≤ 1000) (hN : 1 ≤ N) (hN2 : N ≤ 256)
    (hR : ∀ i, i < L → R i < k + m) (up : ∀ i j, i < j → j < L → R i < R j) (hQ : ∀ i, i < N → Q i < k + m) (upQ : ∀ i j, i < j → j < N → Q i < Q j)
    (hlt : ∀ i j, T i j < 256) (ht : (elm k (fun i j => T (R i) j) k).t = k) :
    Calls Tryz.prog 123 #[.int .i64 f, .int .i64 (k : Int), .int .i64 (m : Int), u, v] w fun e w' => ∃ d, e = .returned (.tuple #[d, .int .i64 0]) ∧ Dn w w' d N k (mm k (fun i j => T (Q i) j) (sol k (fun i j => T (R i) j) idm)) := by
  obtain ⟨-, -, pa, pc, hu, hle, -, -⟩ := id h
  obtain ⟨-, -, qa, qc, hv2, -, -, -⟩ := id hv
  have c1 := decoder11_chain f k m L N R Q T hT u v w hf h1 h2 h3 pa pc hu h hv hL hL2 hN hN2 hR up hQ upQ hlt ht
  subst hu hv2
  have W0 : wrap64 ((k : Int) + (m : Int)) = ((k + m : Nat) : Int) := add_small (by omega) (by omega)
  have j1 : decide ((L : Int) < (k : Int)) = false := by simp; omega
  have j2 : ((N : Int) == 0) = false := by simp; omega
  have kL : k ≤ L := hL
  have kc : k ≤ pc := by omega
  have HD : Hid (L ≤ pc) := hle
  generalize (mm k (fun i j => T (Q i) j) (sol k (fun i j => T (R i) j) idm)) = X at c1 ⊢
  generalize k + m = km at c1 W0
  clear h hv hf h1 h2 h3 hL hL2 hN hN2 hR up hQ upQ hlt ht hle hT
  go_enter Tryz.func123, Tryz.ntmps123
  go_wp2_with (first
    | (go_at_call 136; (with_reducible refine c1.mono ?_); rintro e w1 ⟨g, rfl, c2⟩; clear c1)
    | (go_at_call 121; first | ((with_reducible refine c2.mono ?_); rintro e w2 ⟨rfl, c3⟩; clear c2) | ((with_reducible refine c3.mono ?_); rintro e w3 ⟨rfl, c4⟩; clear c3))
    | (go_at_call 137; first | ((with_reducible refine c4.mono ?_); rintro e w4 ⟨x, rfl, c5⟩; clear c4) | ((with_reducible refine c6.mono ?_); rintro e w6 ⟨z, rfl, c7⟩; clear c6))
    | (go_at_call 138; (with_reducible refine c5.mono ?_); rintro e w5 ⟨y, rfl, c6⟩; clear c5)
    | (go_at_call 139; (with_reducible refine c7.mono ?_); rintro e w7 ⟨d, rfl, hF⟩; clear c7; have HF : Hid _ := hF; clear hF))
  go_ret2
  exact ⟨_, rfl, HF.out⟩
end Go.Proofs.YtefolifecbhgoaaGreat
namespace Go.Proofs.YtefolifecbhgoaaGreat
open Go.RowKit Gf2
set_option linter.unusedVariables false

theorem par11_lt {f : Int} {k : Nat} (hk : k ≤ 256) {i j : Nat} (hi : k + i < 256) (hj : j < 256) : par11 f k i j < 256 := by
  unfold par11
  split
  · exact ti_lt (xor_lt8 hi hj)
  · exact lgr_lt k i j
theorem gen0_eq {k s i : Nat} (hs : s < 256) (hi : i < k) (hk : k ≤ 256) : gen11 0 k s i = fm 285 (qq i k s) (fv (wg k i)) := by
  have wi : wg k i = qq i k i := rfl
  have wl : wg k i < 256 := wg_lt k i
  have w0 : wg k i ≠ 0 := pr_ne k _ (fun t ht => by
    by_cases e : t = i
    · rw [if_pos e]; decide
    · rw [if_neg e]; exact ⟨xor_lt8 (by omega) (by omega), xor_ne (fun x => e x.symm)⟩)
  unfold gen11
  by_cases hsk : s < k
  · rw [if_pos hsk]
    unfold idm
    by_cases e : s = i
    · subst e
      rw [if_pos rfl, ← wi, fm_comm, fv_mul wl w0]
    · rw [if_neg e, show qq i k s = 0 from pr_zero k _ s hsk (by rw [if_neg e, Nat.xor_self]), fld8.zero_fm]
  · rw [if_neg hsk]
    have ks : k + (s - k) = s := by omega
    have e1 : par11 0 k (s - k) i = lgr k (s - k) i := by unfold par11; rw [if_neg (by decide)]
    rw [e1]
    unfold lgr
    rw [ks]
    have x0 : s ^^^ i ≠ 0 := xor_ne (by omega)
    have xl : s ^^^ i < 256 := xor_lt8 hs (by omega)
    have m0 : fm 285 (wg k i) (s ^^^ i) ≠ 0 := fld8.fm_ne wl xl w0 x0
    have ml : fm 285 (wg k i) (s ^^^ i) < 256 := fld8.fm_lt _ _
    have ws : wg k s = fm 285 (qq i k s) (s ^^^ i) := by
      unfold wg
      rw [pr_congr k (g := fun t => s ^^^ t) (fun t ht => if_neg (by omega)), pr_pull k _ i hi]
      rfl
    unfold td
    rw [if_neg m0, ws]
    have il := fld8.fi_lt ml m0
    have im := fld8.fi_mul ml m0
    have fvl := fv_lt wl
    have fvm := fv_mul wl w0
    -- both sides are alike times the product
    have key : fm 285 (s ^^^ i) (fi 285 (fm 285 (wg k i) (s ^^^ i))) = fv (wg k i) := by
      have a : fm 285 (fv (wg k i)) (fm 285 (fm 285 (wg k i) (s ^^^ i)) (fi 285 (fm 285 (wg k i) (s ^^^ i)))) = fv (wg k i) := by rw [im, fld8.fm_one fvl]
      rw [← fld8.fm_assoc, ← fld8.fm_assoc, fvm, fld8.one_fm xl] at a
      exact a
    rw [fld8.fm_assoc, key]
theorem gen1_eq {k s i : Nat} (hs : s < 256) (hi : i < k) (hk : k ≤ 256) : fm 285 (wg k s) (gen11 1 k s i) = qq i k s := by
  unfold gen11
  by_cases hsk : s < k
  · rw [if_pos hsk]
    unfold idm
    by_cases e : s = i
    · subst e
      rw [if_pos rfl, fld8.fm_one (wg_lt _ _)]
      rfl
    · rw [if_neg e, fld8.fm_zero]
      exact (pr_zero k _ s hsk (by rw [if_neg e, Nat.xor_self])).symm
  · rw [if_neg hsk]
    have ks : k + (s - k) = s := by omega
    have e1 : par11 1 k (s - k) i = cau k (s - k) i := by unfold par11; rw [if_pos rfl]
    rw [e1]
    unfold cau
    rw [ks]
    have x0 : s ^^^ i ≠ 0 := xor_ne (by omega)
    have xl : s ^^^ i < 256 := xor_lt8 hs (by omega)
    have ws : wg k s = fm 285 (qq i k s) (s ^^^ i) := by
      unfold wg
      rw [pr_congr k (g := fun t => s ^^^ t) (fun t ht => if_neg (by omega)), pr_pull k _ i hi]
      rfl
    unfold ti
    rw [if_neg x0, ws, fld8.fm_assoc, fld8.fi_mul xl x0]
    exact fld8.fm_one (pr_lt _ _)
theorem any_rows {f : Int} {k n : Nat} {R : Nat → Nat} {T : Nat → Nat → Nat} (hT : ∀ i, i < n → ∀ j, j < k → gen11 f k i j = T i j) (hf : f = 0 ∨ f = 1) (hk : k ≤ 256) (hn : n ≤ 256) (hR : ∀ i, i < k → R i < n) (inj : ∀ i j, j < i → i < k → R i ≠ R j) (hlt : ∀ i j, T (R i) j < 256) :
    (elm k (fun i j => T (R i) j) k).t = k := by
  have r := red_elm (m := k) (M := fun i j => T (R i) j) hlt k
  apply Nat.le_antisymm r.tm
  apply Nat.le_of_not_lt
  intro hlt2
  obtain ⟨c, hc, hfree⟩ := r.free hlt2
  have nl := fun i hi => r.null0 hc hfree (i := i) hi
  have yl := nvs_lt (P := (elm k (fun i j => T (R i) j) k).P) r.lt c (elm k (fun i j => T (R i) j) k).t
  have y1 : nvs (elm k (fun i j => T (R i) j) k).P (elm k (fun i j => T (R i) j) k).M c (elm k (fun i j => T (R i) j) k).t c = 1 := by rw [nvs_else _ hfree, if_pos rfl]
  generalize nvs (elm k (fun i j => T (R i) j) k).P (elm k (fun i j => T (R i) j) k).M c (elm k (fun i j => T (R i) j) k).t = y at nl yl y1
  have hR2 : ∀ i, i < k → R i < 256 := fun i hi => Nat.lt_of_lt_of_le (hR i hi) hn
  rcases hf with rfl | rfl
  · have z := lag_kernel (y := fun i => fm 285 (fv (wg k i)) (y i)) hk hR2 inj (fun i => fld8.fm_lt _ _) (fun s hs => by
      refine Eq.trans (sx_congr (fun i hi => ?_)) (nl s hs)
      show fm 285 (qq i k (R s)) (fm 285 (fv (wg k i)) (y i)) = fm 285 (T (R s) i) (y i)
      rw [← hT _ (hR s hs) i hi, gen0_eq (hR2 s hs) hi hk, fld8.fm_assoc]) c hc
    have w0 : wg k c ≠ 0 := pr_ne k _ (fun t ht => by
      by_cases e : t = c
      · rw [if_pos e]; decide
      · rw [if_neg e]; exact ⟨xor_lt8 (by omega) (by omega), xor_ne (fun x => e x.symm)⟩)
    have z2 : fm 285 (fv (wg k c)) (y c) = 0 := z
    rw [y1, fld8.fm_one (fv_lt (wg_lt k c))] at z2
    have := fv_mul (wg_lt k c) w0
    rw [z2, fld8.zero_fm] at this
    exact absurd this (by decide)
  · have z := lag_kernel (y := y) hk hR2 inj yl (fun s hs => by
      have e : sx k (fun i => fm 285 (qq i k (R s)) (y i)) = fm 285 (wg k (R s)) (sx k (fun i => fm 285 (T (R s) i) (y i))) := by
        rw [fld8.fm_sx]
        exact sx_congr (fun i hi => by rw [← hT _ (hR s hs) i hi, ← gen1_eq (hR2 s hs) hi hk, fld8.fm_assoc])
      rw [e, show sx k (fun i => fm 285 (T (R s) i) (y i)) = 0 from nl s hs, fld8.fm_zero]) c hc
    rw [y1] at z
    exact absurd z (by decide)
end Go.Proofs.YtefolifecbhgoaaGreat
