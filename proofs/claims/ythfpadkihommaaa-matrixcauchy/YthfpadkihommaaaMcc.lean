import Derived.Test.YthfpadkihommaaaMcb
import Derived.Test.YthfpadkihommaaaKofa
namespace Go.Proofs.Ythfpadkihommaaa
open Go.RowKit Gf2
set_option linter.unusedVariables false

set_option maxHeartbeats 4000000 in
set_option maxRecDepth 100000 in
theorem cau_bad (u v : Value) (M K k x0 : Nat) (R C : Nat → Int) (w : World) (h : Qi w u k R) (h' : Qi w v k C) (h1 : 1 ≤ k) (h2 : k ≤ 16) (h3 : 1 ≤ M) (h4 : 1 ≤ K) (h5 : M + K ≤ 256) (hx0 : x0 < k) (hin : ∀ i, i < x0 → 0 ≤ R i ∧ R i < M ∧ 0 ≤ C i ∧ C i < K) (hbad : ¬ (0 ≤ R x0 ∧ R x0 < M ∧ 0 ≤ C x0 ∧ C x0 < K)) :
    Calls Try.prog 7 #[.agg #[.int .i64 (M : Int), .int .i64 (K : Int), u, v]] w fun e w' => e = .returned (.bool true) ∧ Below w.heap.size w w' := by
  have hmk := make_rows k (by omega)
  obtain ⟨g1, -, a, cap, rfl, -, -, g4⟩ := h
  obtain ⟨b, o, rfl, hl, hc⟩ := g4 (by omega)
  obtain ⟨-, -, a', cap', rfl, -, -, g4'⟩ := h'
  obtain ⟨b', o', rfl, hl', hc'⟩ := g4' (by omega)
  clear g4 g4' g1
  have c0 : Calls Try.prog 26 #[] (w.alloc (.cells #[.int .i64 (M : Int), .int .i64 (K : Int), .slice (some ⟨b, o, none⟩) k cap, .slice (some ⟨b', o', none⟩) k cap'] 50)) fun e w1 => e = .returned (.bool true) ∧ Below w.heap.size w w1 ∧ (w1.cell? ⟨w.heap.size, 0, none⟩ = some (.int .i64 (M : Int)) ∧ w1.cell? ⟨w.heap.size, 1, none⟩ = some (.int .i64 (K : Int)) ∧ w1.cell? ⟨w.heap.size, 2, none⟩ = some (.slice (some ⟨b, o, none⟩) k cap) ∧ w1.cell? ⟨w.heap.size, 3, none⟩ = some (.slice (some ⟨b', o', none⟩) k cap')) ∧
      ∀ q, Calls Try.prog 29 #[.int .i64 (M : Int), .int .i64 (K : Int)] (w1.drewN q) fun e w' => ∃ g cm, e = .returned (.tuple #[.slice (some ⟨g, 0, none⟩) M cm, .int .i64 0]) ∧ Below w.heap.size w w' ∧ Lb w' (.slice (some ⟨g, 0, none⟩) M cm) M (fun _ => K) (cau K) := by
    have hb0 : Below w.heap.size w (w.alloc (.cells #[.int .i64 (M : Int), .int .i64 (K : Int), .slice (some ⟨b, o, none⟩) k cap, .slice (some ⟨b', o', none⟩) k cap'] 50)) := (Below.refl _ _).alloc (Nat.le_refl _) _
    refine (awake10 _).mono ?_
    rintro e w1 ⟨rfl, hb1⟩
    have hb2 := hb0.trans (hb1.mono hb0.size)
    have hc : ∀ i, w1.cell? ⟨w.heap.size, i, none⟩ = _ := fun i => (hb1.cell (p := ⟨w.heap.size, i, none⟩) (by simp)).trans (cell_of_row _ _ i _ _ _ (heap_alloc_new _ _))
    refine ⟨rfl, hb2, ⟨hc 0, hc 1, hc 2, hc 3⟩, fun q => (cauchy10_yes M K (w1.drewN q) h3 h4 h5).mono ?_⟩
    have hb2 := below_drewN hb2 q
    rintro e w' ⟨x, a1, a2⟩
    have hb3 := hb2.trans (a2.2.mono hb2.size)
    have hlb := a2.lb
    obtain ⟨⟨B, hC⟩, hb⟩ := a2
    obtain ⟨g, cm, e', _⟩ := hC.block h3
    subst e'
    exact ⟨g, cm, a1, hb3, hlb⟩
  have k1 : decide ((M : Int) < 1) = false := by simp; omega
  have k2 : decide ((K : Int) < 1) = false := by simp; omega
  have k3 : decide (256 < (M : Int)) = false := by simp; omega
  have k4 : decide (256 < (K : Int)) = false := by simp; omega
  have W0 : wrap64 ((M : Int) + (K : Int)) = (M : Int) + (K : Int) := by unfold wrap64; omega
  have k5 : decide (256 < (M : Int) + (K : Int)) = false := by simp; omega
  have k6 : decide ((k : Int) < 1) = false := by simp; omega
  have k7 : decide (16 < (k : Int)) = false := by simp; omega
  have HC : Hid (∀ y, Below w.heap.size w y → ∀ i, i < k → y.cell? ⟨b, o + i, none⟩ = some (.int .i64 (R i)) ∧ y.cell? ⟨b', o' + i, none⟩ = some (.int .i64 (C i))) := fun y hy i hi => ⟨(hy.cell (p := ⟨b, o + i, none⟩) hl).trans (hc i hi), (hy.cell (p := ⟨b', o' + i, none⟩) hl').trans (hc' i hi)⟩
  have HN : Hid (1 ≤ k ∧ k ≤ 16 ∧ 1 ≤ M ∧ 1 ≤ K ∧ M + K ≤ 256 ∧ x0 < k) := ⟨h1, h2, h3, h4, h5, hx0⟩
  have HI : Hid _ := hin
  have HBad : Hid _ := hbad
  clear hc hc' h1 h2 h3 h4 h5 hl hl' hin hbad hx0
  go_enter Try.func7, Try.ntmps7
  go_wp2_with (go_at_call 26; (with_reducible refine c0.mono ?_); rintro e w1 ⟨rfl, hb1, ⟨z0, z1, z2, z3⟩, c1⟩; clear c0 hb1)
  go_quiet (fail)
  clear z0 z1 z2 z3
  go_wp2_with (go_at_call 29; (with_reducible refine (c1 _).mono ?_); rintro e w2 ⟨gm, cm, rfl, hb2, hA⟩; clear c1; have HB : Hid _ := hb2; clear hb2 hA)
  clear k1 k2 k3 k4 k5 k6 k7 W0 hmk
  obtain ⟨wz, hwz⟩ : ∃ wz, Hid (w2.alloc (.cells (madeCells #[.slice none 0 0] k) 26) = wz) := ⟨_, rfl⟩
  have HZ : Hid (Below w.heap.size w wz) := by rw [← hwz.out]; exact HB.out.alloc HB.out.size _
  go_loopw [12] (fun i wr => ∃ x : Nat, x ≤ x0 ∧ i = .int .i64 x ∧ wr = wz) (fun i _ => k - (intOf i).toNat)
  case atStart => exact ⟨0, Nat.zero_le _, rfl, hwz.out⟩
  case round =>
    obtain ⟨x, hx, rfl, hw⟩ := hrel
    subst hw
    have hlt : x < k := by have := HN.out; omega
    obtain ⟨q1, q2⟩ := HC.out wr HZ.out x hlt
    have ib : ((x : Nat) : Int) < (k : Int) := Int.ofNat_lt.2 hlt
    have W1 := wrap_lt8 (j := x) (b := k) hlt (by have := HN.out; omega)
    by_cases hxx : x < x0
    · obtain ⟨r1, r2, r3, r4⟩ := HI.out x hxx
      have r1' : ¬ R x < 0 := by omega
      have r2' : ¬ (M : Int) ≤ R x := by omega
      have r3' : ¬ C x < 0 := by omega
      have r4' : ¬ (K : Int) ≤ C x := by omega
      have HX : Hid (x < x0 ∧ x < k) := ⟨hxx, hlt⟩
      generalize R x = A1 at q1 r1 r2 r1' r2'
      generalize C x = A2 at q2 r3 r4 r3' r4'
      clear hlt hx hxx
      go_wp2
      go_roundw
      case rel => exact ⟨x + 1, HX.out.1, by first | rfl | (rw [W1]; rfl), by trivial⟩
      case measure => first | exact meas_lt8 HX.out.2 | (rw [W1]; exact meas_lt8 HX.out.2)
    · have hx' : x = x0 := by omega
      subst hx'
      have hbad := HBad.out
      clear hx hxx HBad HI HC hlt
      generalize R x = A1 at q1 hbad
      generalize C x = A2 at q2 hbad
      by_cases r1 : A1 < 0
      · clear hbad
        go_wp2
        go_ret
        exact ⟨rfl, HZ.out⟩
      · by_cases r2 : (M : Int) ≤ A1
        · clear hbad
          go_wp2
          go_ret
          exact ⟨rfl, HZ.out⟩
        · have r2' : A1 < (M : Int) := by omega
          by_cases r3 : A2 < 0
          · clear hbad
            go_wp2
            go_ret
            exact ⟨rfl, HZ.out⟩
          · have r4 : (K : Int) ≤ A2 := Int.not_lt.1 (fun r5 => hbad ⟨by omega, r2', by omega, r5⟩)
            clear hbad
            go_wp2
            go_ret
            exact ⟨rfl, HZ.out⟩
/-- the first that is not so. -/
theorem first_not {p : Nat → Prop} (k : Nat) : (∀ i, i < k → p i) ∨ ∃ x, x < k ∧ (∀ i, i < x → p i) ∧ ¬ p x := by
  induction k with
  | zero => exact .inl (fun i hi => absurd hi (Nat.not_lt_zero _))
  | succ k ih =>
    rcases ih with h | ⟨x, h1, h2, h3⟩
    · by_cases hp : p k
      · refine .inl (fun i hi => ?_)
        by_cases e : i = k
        · rw [e]; exact hp
        · exact h i (by omega)
      · exact .inr ⟨k, by omega, h, hp⟩
    · exact .inr ⟨x, by omega, h2, h3⟩
theorem cauchy10_any (Mi Ki : Int) (a1 a2 : Option Addr) (k1 c1 k2 c2 : Nat) {w : World} (h : ∃ F, Qi w (.slice a1 k1 c1) k1 F) (h' : ∃ F, Qi w (.slice a2 k2 c2) k2 F) :
    Calls Try.prog 7 #[.agg #[.int .i64 Mi, .int .i64 Ki, .slice a1 k1 c1, .slice a2 k2 c2]] w fun e w' => e = .returned (.bool true) ∧ Below w.heap.size w w' := by
  obtain ⟨R, h⟩ := h
  obtain ⟨C, h'⟩ := h'
  by_cases e0 : Mi < 1
  · exact cau_out0 Mi Ki a1 a2 k1 c1 k2 c2 w e0
  by_cases e1 : Ki < 1
  · exact cau_out1 Mi Ki a1 a2 k1 c1 k2 c2 w e0 e1
  by_cases e2 : 256 < Mi
  · exact cau_out2 Mi Ki a1 a2 k1 c1 k2 c2 w e0 e1 e2
  by_cases e3 : 256 < Ki
  · exact cau_out3 Mi Ki a1 a2 k1 c1 k2 c2 w e0 e1 e2 e3
  by_cases e4 : 256 < Mi + Ki
  · exact cau_out4 Mi Ki a1 a2 k1 c1 k2 c2 w e0 e1 e2 e3 e4
  by_cases e5 : k1 ≠ k2
  · exact cau_out5 Mi Ki a1 a2 k1 c1 k2 c2 w e0 e1 e2 e3 e4 e5
  by_cases e6 : (k1 : Int) < 1
  · exact cau_out6 Mi Ki a1 a2 k1 c1 k2 c2 w e0 e1 e2 e3 e4 e5 e6
  by_cases e7 : 16 < (k1 : Int)
  · exact cau_out7 Mi Ki a1 a2 k1 c1 k2 c2 w e0 e1 e2 e3 e4 e5 e6 e7
  obtain ⟨M, rfl⟩ : ∃ M : Nat, Mi = M := ⟨Mi.toNat, by omega⟩
  obtain ⟨K, rfl⟩ : ∃ K : Nat, Ki = K := ⟨Ki.toNat, by omega⟩
  obtain rfl : k1 = k2 := by omega
  rcases first_not (p := fun i => 0 ≤ R i ∧ R i < M ∧ 0 ≤ C i ∧ C i < K) k1 with hg | ⟨x, hx, hin, hbad⟩
  · refine cauchy10_law _ _ M K k1 (fun i => if i < k1 then (R i).toNat else 0) (fun i => if i < k1 then (C i).toNat else 0) w (h.congr (fun i hi => ?_)) (h'.congr (fun i hi => ?_)) (by omega) (by omega) (by omega) (by omega) (by omega) (fun i => ?_) (fun i => ?_)
    · have := hg i hi
      rw [if_pos hi]; omega
    · have := hg i hi
      rw [if_pos hi]; omega
    · split
      · have := hg i (by assumption); omega
      · omega
    · split
      · have := hg i (by assumption); omega
      · omega
  · exact cau_bad _ _ M K k1 x R C w h h' (by omega) (by omega) (by omega) (by omega) (by omega) hx hin hbad
end Go.Proofs.Ythfpadkihommaaa
