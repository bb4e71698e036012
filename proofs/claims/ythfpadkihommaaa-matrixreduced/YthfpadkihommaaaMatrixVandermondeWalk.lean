import Derived.Test.YthfpadkihommaaaMyd
import Derived.Test.YthfpadkihommaaaMxn
import Derived.Test.YthfpadkihommaaaEbo
namespace Go.Proofs.Ythfpadkihommaaa
open Go.RowKit Gf2
set_option linter.unusedVariables false

theorem make_ints (n : Nat) (hn : 8 * n ≤ 140737488355328) (w : World) : (Instr.makeSlice 36 (.int .i64 (n : Int)) (.int .i64 (n : Int))).run Try.prog w = .ok (.slice (some ⟨w.heap.size, 0, none⟩) n n) (w.alloc (.cells (madeCells #[.int .i64 0] n) 3)) :=
  run_make_row' (P := Try.prog) 36 3 (.int .i64 0) 8 Try.underlying36 info_int rfl .i64 .i64 n (by omega) (by omega) w
theorem dt_D {n : Nat} {S : Nat → Nat → Nat} (hS : ∀ i j, S i j < 256) : dt n S = D n S := (D_dt hS).symm
theorem gmul_q (a b : Nat) (w : World) (ha : a < 256) (hb : b < 256) : Calls Try.prog 25 #[.int .u8 (a : Int), .int .u8 (b : Int)] w fun e w' => e = .returned (.int .u8 (fm 285 a b : Nat)) ∧ ∃ m, w' = w.drewN m :=
  (gmul_nat a b w ha hb).mono fun e w' ⟨h1, h2⟩ => ⟨h1, 0, h2⟩
set_option maxHeartbeats 2000000 in
set_option maxRecDepth 100000 in
theorem vander10_law (u : Value) (k : Nat) (X : Nat → Nat) (w : World) (h : Rb w u k X) (hX : ∀ i, X i < 256) (h1 : 1 ≤ k) (h2 : k ≤ 32) :
    Calls Try.prog 6 #[u] w fun e w' => e = .returned (.bool true) ∧ Below w.heap.size w w' := by
  have c0 := awake10 w
  have hmk := make_ints k (by omega)
  obtain ⟨g1, g2, a, cap, rfl, -, -, g4⟩ := h
  obtain ⟨b, o, rfl, hl, hc⟩ := g4 (by omega)
  clear g4 g2 g1
  have k1 : decide ((k : Int) < 1) = false := by simp; omega
  have k2 : decide (32 < (k : Int)) = false := by simp; omega
  have HC : Hid (∀ y, Below w.heap.size w y → ∀ i, i < k → y.cell? ⟨b, o + i, none⟩ = some (.int .u8 (X i : Nat))) := fun y hy i hi => (hy.cell (p := ⟨b, o + i, none⟩) hl).trans (hc i hi)
  have HX : Hid (∀ i, X i < 256) := hX
  have HN : Hid (1 ≤ k ∧ k ≤ 32) := ⟨h1, h2⟩
  clear hc hX h1 h2
  go_enter Try.func6, Try.ntmps6
  go_wp2_with (go_at_call 26; (with_reducible refine c0.mono ?_); rintro e w1 ⟨rfl, hb1⟩; clear c0)
  clear hmk k1 k2
  have HB : Hid (Below w.heap.size w w1) := hb1
  clear hb1
  go_loopw [5, 6] (fun p i wr => ∃ r : Nat, r ≤ k ∧ i = .int .i64 r ∧ p = .int .u8 (pp r (fun i j => X i ^^^ X j) : Nat) ∧ wr.rowIs w1.heap.size 3 k (fun j => .int .i64 (if j < r then (X j : Int) else 0)) ∧ Below w1.heap.size w1 wr) (fun _ i _ => k - (intOf i).toNat)
  case atStart => exact ⟨0, Nat.zero_le _, rfl, rfl, (World.rowIs_made w1 (.int .i64 0) k 3).congr (fun i _ => by rw [if_neg (Nat.not_lt_zero _)]), (Below.refl _ _).alloc (Nat.le_refl _) _⟩
  case round =>
    obtain ⟨r, hr, rfl, rfl, hL, hb⟩ := hrel
    by_cases hlt : r < k
    · have hbw : Below w.heap.size w wr := HB.out.trans (hb.mono HB.out.size)
      have q1 := HC.out wr hbw r hlt
      have q2 := hL.cell hlt
      have q3 := hL.frozen r
      have ib : ((r : Nat) : Int) < (k : Int) := Int.ofNat_lt.2 hlt
      have W1 := wrap_lt8 (j := r) (b := k) hlt (by have := HN.out; omega)
      have hL2 : Hid ((wr.setCell ⟨w1.heap.size, r, none⟩ (.int .i64 (X r : Nat))).rowIs w1.heap.size 3 k (fun j => .int .i64 (if j < r + 1 then (X j : Int) else 0)) ∧ Below w1.heap.size w1 (wr.setCell ⟨w1.heap.size, r, none⟩ (.int .i64 (X r : Nat)))) := ⟨(hL.set r _).congr (fun j _ => by
        by_cases e : j = r
        · rw [if_pos e, if_pos (by omega), e]
        · rw [if_neg e]
          by_cases e2 : j < r
          · rw [if_pos e2, if_pos (by omega)]
          · rw [if_neg e2, if_neg (by omega)]), hb.setCell (Nat.le_refl _) _⟩
      have WX : IntKind.i64.wrap (X r : Int) = (X r : Int) := by have := HX.out r; unfold IntKind.wrap; simp [IntKind.bits, IntKind.signed]; omega
      have HL : Hid (r < k) := hlt
      clear hL hb hbw hr
      obtain ⟨P0, hP0⟩ : ∃ P0, Hid (pp r (fun i j => X i ^^^ X j) = P0) := ⟨_, rfl⟩
      rw [hP0.out]
      go_wp2
      clear q1 q2 q3 WX
      obtain ⟨wv, hwv⟩ : ∃ wv, Hid (wr.setCell ⟨w1.heap.size, r, none⟩ (.int .i64 (X r : Nat)) = wv) := ⟨_, rfl⟩
      rw [hwv.out] at hL2
      go_loopw [5, 7] (fun p j w2 => ∃ c q : Nat, c ≤ r ∧ j = .int .i64 c ∧ p = .int .u8 (fm 285 P0 (pr c (fun t => X r ^^^ X t)) : Nat) ∧ Hid (w2 = wv.drewN q)) (fun _ j _ => r - (intOf j).toNat)
      case atStart => exact ⟨0, 0, Nat.zero_le _, rfl, by rw [show pr 0 (fun t => X r ^^^ X t) = 1 from rfl, fld8.fm_one (by rw [← hP0.out]; exact pp_lt _ _)], hwv.out⟩
      case round =>
        obtain ⟨c, q, hc, rfl, rfl, hw2⟩ := hrel
        clear hwv
        by_cases hct : c < r
        · have hbw : Below w.heap.size w wr := by
            rw [hw2.out]
            exact below_drewN (HB.out.trans (hL2.out.2.mono HB.out.size)) q
          have q1 := HC.out wr hbw r HL.out
          have q2 := HC.out wr hbw c (by have := HL.out; omega)
          have jb : ((c : Nat) : Int) < (r : Int) := Int.ofNat_lt.2 hct
          have ck : ((c : Nat) : Int) < (k : Int) := by have := HL.out; omega
          have W2 := wrap_lt8 (j := c) (b := r) hct (by have := HN.out; have := HL.out; omega)
          have XX := u8_xor_nat (X r) (X c) (HX.out r) (HX.out c)
          have c5 := fun y => gmul_nat (fm 285 P0 (pr c (fun t => X r ^^^ X t))) (X r ^^^ X c) y (fm8_lt _ _) (xor_lt8 (HX.out r) (HX.out c))
          have e5 : fm 285 (fm 285 P0 (pr c (fun t => X r ^^^ X t))) (X r ^^^ X c) = fm 285 P0 (pr (c + 1) (fun t => X r ^^^ X t)) := fld8.fm_assoc _ _ _
          rw [e5] at c5
          obtain ⟨P2, hP2⟩ : ∃ P2, Hid (fm 285 P0 (pr (c + 1) (fun t => X r ^^^ X t)) = P2) := ⟨_, rfl⟩
          rw [hP2.out] at c5
          have HP : Hid (c < r) := hct
          clear hbw hct hc e5
          obtain ⟨P1, hP1⟩ : ∃ P1, Hid (fm 285 P0 (pr c (fun t => X r ^^^ X t)) = P1) := ⟨_, rfl⟩
          rw [hP1.out] at c5 ⊢
          obtain ⟨M, hM⟩ : ∃ M, Hid (X r ^^^ X c = M) := ⟨_, rfl⟩
          rw [hM.out] at c5 XX
          obtain ⟨A1, hA1⟩ : ∃ M, Hid (X r = M) := ⟨_, rfl⟩
          obtain ⟨A2, hA2⟩ : ∃ M, Hid (X c = M) := ⟨_, rfl⟩
          rw [hA1.out] at q1 XX
          rw [hA2.out] at q2 XX
          go_wp2
          go_quiet ((go_at_call 25; with_reducible exact Calls.quiet_of_same (c5 _)))
          go_wp2
          go_roundw
          case rel => exact ⟨c + 1, q + nq, HP.out, by first | rfl | (rw [W2]; rfl), by rw [hP2.out], by show _ = _; rw [hw2.out, World.drewN_drewN]⟩
          case measure => first | exact meas_lt8 HP.out | (rw [W2]; exact meas_lt8 HP.out)
        · have hcr : c = r := by omega
          subst hcr
          have HE : Hid (fm 285 P0 (pr c (fun t => X c ^^^ X t)) = pp (c + 1) (fun i j => X i ^^^ X j)) := by
            show _ = _
            rw [← hP0.out]
            rfl
          rw [HE.out]
          obtain ⟨P3, hP3⟩ : ∃ P3, Hid (pp (c + 1) (fun i j => X i ^^^ X j) = P3) := ⟨_, rfl⟩
          rw [hP3.out]
          clear hc hct HE
          go_wp2
          go_roundw
          case rel => exact ⟨c + 1, HL.out, by first | rfl | (rw [W1]; rfl), by rw [hP3.out], by rw [hw2.out]; exact hL2.out.1, by rw [hw2.out]; exact below_drewN hL2.out.2 q⟩
          case measure => first | exact meas_lt8 HL.out | (rw [W1]; exact meas_lt8 HL.out)
    · have hrk : r = k := Nat.le_antisymm hr (Nat.le_of_not_lt hlt)
      subst hrk
      have hbw : Below w.heap.size w wr := HB.out.trans (hb.mono HB.out.size)
      have hV : Calls Try.prog 27 #[.int .i64 256, .int .i64 (r : Int)] wr fun e w' => ∃ v, e = .returned (.tuple #[v, .int .i64 0]) ∧ Ans wr w' v 256 r vdm := vander10_yes 256 r wr (by decide) (by decide) HN.out.1 (by have := HN.out; omega)
      have hQ : Qi wr (.slice (some ⟨w1.heap.size, 0, none⟩) r r) r (fun i => (X i : Int)) := ⟨by unfold big; have := HN.out; omega, trivial, _, _, rfl, Nat.le_refl _, by unfold big; have := HN.out; omega, fun _ => ⟨_, _, rfl, hL.lt, fun i hi => by rw [Nat.zero_add, hL.cell hi, if_pos hi]⟩⟩
      have HP : Hid (∀ w2 v, Ans wr w2 v 256 r vdm → Calls Try.prog 28 #[v, .slice (some ⟨w1.heap.size, 0, none⟩) r r] w2 fun e w3 => ∃ x, e = .returned (.tuple #[x, .int .i64 0]) ∧ Calls Try.prog 12 #[x] w3 fun e w4 => e = .returned (.tuple #[.int .u8 (pp r (fun i j => X i ^^^ X j) : Nat), .int .i64 0]) ∧ Below w.heap.size w w4) := fun w2 v hv => by
        refine (pick10_yes v _ 256 r r vdm X w2 hv.lb (hQ.below hv.2) (by decide) (by decide) HN.out.1 (by have := HN.out; omega) HN.out.1 (by have := HN.out; omega) (fun i _ => HX.out i)).mono ?_
        rintro e w3 ⟨x, rfl, hx⟩
        refine ⟨x, rfl, ?_⟩
        refine (det10_yes x r (van X) w3 hx.lb HN.out.1 (by have := HN.out; omega) (van_lt X)).mono ?_
        rintro e w4 ⟨rfl, hb4⟩
        have hb3 : Below w.heap.size w w3 := (hbw.trans (hv.2.mono hbw.size)).trans (hx.2.mono (hbw.trans (hv.2.mono hbw.size)).size)
        refine ⟨?_, hb3.trans (hb4.mono hb3.size)⟩
        rw [dt_D (van_lt X), D_van r X HX.out]
      clear hb hL hbw hQ hlt hr
      generalize pp r (fun i j => X i ^^^ X j) = P0 at HP ⊢
      go_wp2_with (first
        | (go_at_call 27; (with_reducible refine hV.mono ?_); rintro e w2 ⟨v, rfl, hA⟩; clear hV; have c1 := HP.out w2 v hA; clear hA)
        | (go_at_call 28; (with_reducible refine c1.mono ?_); rintro e w3 ⟨x, rfl, c2⟩; clear c1)
        | (go_at_call 12; (with_reducible refine c2.mono ?_); rintro e w4 ⟨rfl, hb4⟩; clear c2; have HB4 : Hid _ := hb4; clear hb4))
      go_ret
      exact ⟨rfl, HB4.out⟩
set_option maxHeartbeats 2000000 in
set_option maxRecDepth 100000 in
theorem vander10_out (a : Option Addr) (k cap : Nat) (w : World) (h1 : k < 1 ∨ 32 < k) :
    Calls Try.prog 6 #[.slice a k cap] w fun e w' => e = .returned (.bool true) ∧ Below w.heap.size w w' := by
  have c0 := awake10 w
  rcases h1 with h1 | h1
  · obtain rfl : k = 0 := by omega
    go_enter Try.func6, Try.ntmps6
    go_wp2_with (go_at_call 26; (with_reducible refine c0.mono ?_); rintro e w1 ⟨rfl, hb1⟩; clear c0; have HB : Hid _ := hb1; clear hb1)
    go_ret
    exact ⟨rfl, HB.out⟩
  · have k1 : decide ((k : Int) < 1) = false := by simp; omega
    have k2 : decide (32 < (k : Int)) = true := by simp; omega
    clear h1
    go_enter Try.func6, Try.ntmps6
    go_wp2_with (go_at_call 26; (with_reducible refine c0.mono ?_); rintro e w1 ⟨rfl, hb1⟩; clear c0; have HB : Hid _ := hb1; clear hb1)
    go_ret
    exact ⟨rfl, HB.out⟩
theorem vander10_any (a : Option Addr) (k cap : Nat) {w : World} (h : Rbm w a k cap) :
    Calls Try.prog 6 #[.slice a k cap] w fun e w' => e = .returned (.bool true) ∧ Below w.heap.size w w' := by
  obtain ⟨-, F, hF⟩ := h
  by_cases hk : 1 ≤ k ∧ k ≤ 32
  · refine vander10_law _ k (fun i => if i < k then F i else 0) w (hF.congr (fun i hi => (if_pos hi).symm)) (fun i => ?_) hk.1 hk.2
    split
    · exact hF.2.1 i (by assumption)
    · decide
  · exact vander10_out a k cap w (by omega)
end Go.Proofs.Ythfpadkihommaaa
